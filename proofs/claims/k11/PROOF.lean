import PyProof.Rows.All
import Wide.All
import OpenK.AllK
import Wide.FinOn
import HandS.ForMost
import HandS.AnyAll
import HandS.IsInst
import HandS.EndTab
import HandS.Head0
import HandS.Head1
import HandS.Head2
import HandS.HeadEnd
import HandS.HeadHook4
import HandS.HeadWalk
import HandS.Defaults
import HandS.Deep
import HandS.WordsExc
import HandS.HotCalls
import HandS.ExcIs
import HandS.More
import HandS.WordsDict
import HandS.RaiseMore
import HandS.TupLe
import PySem.Challenge.RW_faultsheaves_k11_kinds
set_option Elab.async false
set_option linter.all false
set_option maxRecDepth 100000
set_option maxHeartbeats 16000000
/-! The text by places; what is kept of a heap; the pot and its digits. -/
namespace Fs
open PySem L2
def top (i : Nat) : Stmt := PySem.Challenge.pw_faultsheaves_k11_kinds.main.body.getD i (.Pass ⟨0, 0, 0, 0⟩)

/-! ### heaps -/
/-- all that was tracked stands, but at the places of ex -/
def Keep (ex : List Addr) (H H' : Hp) : Prop := ∀ b o, b ∉ ex → H b = some o → H' b = some o
theorem Keep.refl (ex : List Addr) (H : Hp) : Keep ex H H := fun _ _ _ h => h
theorem Keep.trans {ex : List Addr} {H H1 H2 : Hp} (a : Keep ex H H1) (b : Keep ex H1 H2) : Keep ex H H2 := fun c o n h => b c o n (a c o n h)
theorem Keep.more {ex ex' : List Addr} {H H' : Hp} (a : Keep ex H H') (h : ∀ b, b ∈ ex → b ∈ ex') : Keep ex' H H' := fun c o n q => a c o (fun z => n (h c z)) q
theorem Keep.at {ex : List Addr} {H H' : Hp} (a : Keep ex H H') {b : Addr} {o : HO} (h : H b = some o) (n : b ∉ ex) : H' b = some o := a b o n h
theorem Keep.new {ex : List Addr} {H : Hp} {p : Addr} {o : HO} (h : H p = none) : Keep ex H (upd H p o) := fun b u _ q => by
  rw [upd_ne (ne_of_none q h)]
  exact q
theorem Keep.own {ex : List Addr} {H : Hp} {p : Addr} {o : HO} (h : p ∈ ex) : Keep ex H (upd H p o) := fun b u n q => by
  rw [upd_ne (fun z => n (by rw [z]; exact h))]
  exact q
theorem Keep.newTo {ex : List Addr} {H H1 : Hp} {p : Addr} {o : HO} (a : Keep ex H H1) (h : H1 p = none) : Keep ex H (upd H1 p o) := a.trans (.new h)
theorem Keep.ownTo {ex : List Addr} {H H1 : Hp} {p : Addr} {o : HO} (a : Keep ex H H1) (h : p ∈ ex) : Keep ex H (upd H1 p o) := a.trans (.own h)
theorem Keep.ne {ex : List Addr} {H H' : Hp} (a : Keep ex H H') {b p : Addr} {o : HO} (h : H b = some o) (n : b ∉ ex) (hp : H' p = none) : b ≠ p := ne_of_none (a.at h n) hp
theorem Keep.free {ex : List Addr} {H H' : Hp} (a : Keep ex H H') {p : Addr} (hp : H' p = none) (n : p ∉ ex) : H p = none := by
  cases q : H p with
  | none => rfl
  | some o =>
    rw [a p o n q] at hp
    cases hp
theorem Keep.seq {K : PySem.W.Frag} {ex : List Addr} {H H' : Hp} {a : Addr} {xs : List V} (e : Keep ex H H') (n : a ∉ ex) (h : SqL K H a xs) : SqL K H' a xs := by
  rcases h with (h | ⟨o, h⟩) | h
  · exact .inl (.inl (e _ _ n h))
  · exact .inl (.inr ⟨o, e _ _ n h⟩)
  · exact .inr h
theorem Keep.same {H H' : Hp} (a : Keep [] H H') : Same H H' := fun b o h => a b o (fun z => nomatch z) h
theorem nin1 {a b : Addr} (h : a ≠ b) : a ∉ [b] := fun z => h (List.mem_singleton.mp z)
theorem nin0 {a : Addr} : a ∉ ([] : List Addr) := fun z => nomatch z
theorem in1 {a : Addr} : a ∈ [a] := List.mem_singleton.mpr rfl

/-! ### the pot -/
/-- a list of three whole numbers, none below nought, the second one small, the third one at most n -/
def PotAt (H : Hp) (p : Addr) (n : Nat) : Prop := ∃ a b c : Int, H p = some (.lst [.int a, .int b, .int c]) ∧ 0 ≤ a ∧ 0 ≤ b ∧ b < 2147483647 ∧ 0 ≤ c ∧ c ≤ (n : Int)
theorem PotAt.le {H : Hp} {p : Addr} {n m : Nat} (h : PotAt H p n) (l : n ≤ m) : PotAt H p m := by
  obtain ⟨a, b, c, h1, h2, h3, h4, h5, h6⟩ := h
  exact ⟨a, b, c, h1, h2, h3, h4, h5, by omega⟩
theorem PotAt.some {H : Hp} {p : Addr} {n : Nat} (h : PotAt H p n) : ∃ xs, H p = some (.lst xs) := by
  obtain ⟨a, b, c, h1, _⟩ := h
  exact ⟨_, h1⟩
theorem PotAt.keep {H H' : Hp} {ex : List Addr} {p : Addr} {n : Nat} (h : PotAt H p n) (k : Keep ex H H') (m : p ∉ ex) : PotAt H' p n := by
  obtain ⟨a, b, c, h1, h2⟩ := h
  exact ⟨a, b, c, k.at h1 m, h2⟩

abbrev sPot : Stmt := top 17
abbrev sDigit : Stmt := top 18
abbrev nPot : List Str := ["_law_script", "_law_k", "_law_cell", "_law_seed"]
abbrev nDigit : List Str := ["_law_pot_here", "_law_many", "_law_digit_here", "_law_mixed"]
theorem scPot : FnScope nPot ["_law_script", "_law_k"] (defScope sPot) := ⟨rfl, rfl, rfl, by decide +kernel, rfl, by decide +kernel, by decide +kernel⟩
theorem scDigit : FnScope nDigit ["_law_pot_here", "_law_many"] (defScope sDigit) := ⟨rfl, rfl, rfl, by decide +kernel, rfl, by decide +kernel, by decide +kernel⟩
/-- the script stands to be read; a new pot -/
def spPot (K : PySem.W.Frag) : Sp := fun vs H Q _ => ∃ (a : Addr) (ns : List Int) (k : Nat), vs = [.ref a, .int (k : Int)] ∧ SqL K H a (ns.map V.int) ∧ k < 1000 ∧
  ∀ (p : Addr) (H' : Hp), H p = none → Keep [] H H' → PotAt H' p 0 → Q (.ref p) H'
/-- a digit below many; the pot has one step more at the most -/
def spDigit : Sp := fun vs H Q _ => ∃ (p : Addr) (n : Nat) (m : Int), vs = [.ref p, .int m] ∧ PotAt H p n ∧ n < 2 ^ 40 ∧ 0 < m ∧ m < 1073741824 ∧
  ∀ (d : Int) (H' : Hp), 0 ≤ d → d < m → (∀ b, b ≠ p → H' b = H b) → PotAt H' p (n + 1) → Q (.int d) H'
section
variable {P : Program} {w : World} {K : PySem.W.Frag} {mg : Str → Option Value} {base : Heap}
theorem at3 {K : PySem.W.Frag} {H : Hp} {p : Addr} {a b c : V} (h : H p = some (.lst [a, b, c])) : SqL K H p [a, b, c] := SqL.of h
theorem ok_digit {f : Addr} {fd : FuncData} (F : Fun K "_law_digit" "_law_digit" sDigit f fd) : FnOk P w K mg base CX0 1 f fd ["_law_pot_here", "_law_many"] spDigit := by
  refine F.ok scDigit (fun vs H Q E h => ?_) (fun cdv A outer s H vs Q E hr h => ?_)
  · obtain ⟨p, n, m, rfl, _⟩ := h
    rfl
  · obtain ⟨p, n, m, rfl, ⟨a, b, c, hp, ha, hb, hb2, hc, hc2⟩, hn, hm, hm2, k⟩ := h
    refine ⟨_, pss_cons (ps_if (pt_cmpR op_gt (pe_ix ix_list (pv 0) pe_int (fun _ _ => rfl)) pe_int (nomark _))
        (pss_cons (ps_set (i := 2) scDigit.nd rfl (Or.inl rfl) (pe_op op_mod (pe_ix ix_list (pv 0) pe_int (fun _ _ => rfl)) (pv 1)))
          (pss_cons (ps_asg (pe_op op_fdiv (pe_ix ix_list (pv 0) pe_int (fun _ _ => rfl)) (pv 1)) (pg_sub (pv 0) pe_int set_list))
          (pss_one (ps_ret (pv 2))))) pss_nil)
      (pss_cons (ps_asg (pe_op op_add (pe_ix ix_list (pv 0) pe_int (fun _ _ => rfl)) pe_int) (pg_sub (pv 0) pe_int set_list))
      (pss_cons (ps_asg (pe_op op_mod (pe_op op_add (pe_op op_add (pe_op op_mul (pe_ix ix_list (pv 0) pe_int (fun _ _ => rfl)) pe_int)
          (pe_op op_mul (pe_op op_mul (pe_ix ix_list (pv 0) pe_int (fun _ _ => rfl)) (pe_ix ix_list (pv 0) pe_int (fun _ _ => rfl))) pe_int)) pe_int) pe_int) (pg_sub (pv 0) pe_int set_list))
      (pss_cons (ps_set (i := 3) scDigit.nd rfl (Or.inl rfl) (pe_op op_mod (pe_op op_mul (pe_ix ix_list (pv 0) pe_int (fun _ _ => rfl)) (pe_ix ix_list (pv 0) pe_int (fun _ _ => rfl))) pe_int))
      (pss_one (ps_ret (pe_op op_mod (pe_op op_fdiv (pe_op op_mod (pe_op op_mul (pv 3) (pe_op op_add (pe_op op_mod (pv 3) pe_int) pe_int)) pe_int) pe_int) (pv 1))))))), ?_⟩
    have h3 := at3 (K := K) hp
    refine ⟨_, rfl, p, _, _, _, rfl, rfl, h3, rfl, _, _, rfl, rfl, _, rfl, ?_⟩
    refine ite2 (fun hd => ?_) (fun hd => ?_)
    · refine ⟨_, rfl, p, _, _, _, rfl, rfl, h3, rfl, _, rfl, a, m, rfl, rfl, hm, ?_⟩
      refine ⟨_, rfl, p, _, _, _, rfl, rfl, h3, rfl, _, rfl, a, m, rfl, rfl, ⟨hm, hm2⟩, ?_⟩
      refine ⟨_, rfl, p, _, _, 0, rfl, rfl, hp, rfl, ?_⟩
      refine ⟨_, rfl, ?_⟩
      refine k (a % m) _ (Int.emod_nonneg a (by omega)) (Int.emod_lt_of_pos a hm) (fun b hb => upd_ne hb) ⟨a / m, b, c, upd_same, Int.ediv_nonneg ha (by omega), hb, hb2, hc, by omega⟩
    · refine ⟨_, rfl, p, _, _, _, rfl, rfl, h3, rfl, _, _, rfl, rfl, ?_⟩
      refine ⟨_, rfl, p, _, _, 2, rfl, rfl, hp, rfl, ?_⟩
      have e1 : upd H p (.lst [.int a, .int b, .int (c + 1)]) p = some (.lst [.int a, .int b, .int (c + 1)]) := upd_same
      have h4 := at3 (K := K) e1
      have hcM : -(2 ^ 64) < c + 1 ∧ c + 1 < 2 ^ 64 := by omega
      refine ⟨_, rfl, p, _, _, _, rfl, rfl, h4, rfl, _, _, rfl, rfl, .inl (by omega), ?_⟩
      refine ⟨_, rfl, p, _, _, _, rfl, rfl, h4, rfl, _, rfl, p, _, _, _, rfl, rfl, h4, rfl, _, _, rfl, rfl, .inl hcM, ?_⟩
      refine ⟨_, _, rfl, rfl, .inr (by decide), _, _, rfl, rfl, _, _, rfl, rfl, _, _, rfl, rfl, (by show (0 : Int) < 2147483647; decide), ?_⟩
      refine ⟨_, rfl, p, _, _, 1, rfl, rfl, e1, rfl, ?_⟩
      have f1 := Int.emod_nonneg (b * 39373 + (c + 1) * (c + 1) * 104729 + 7) (by decide : (2147483647 : Int) ≠ 0)
      have f2 := Int.emod_lt_of_pos (b * 39373 + (c + 1) * (c + 1) * 104729 + 7) (by decide : (0 : Int) < 2147483647)
      have e2 : upd (upd H p (.lst [.int a, .int b, .int (c + 1)])) p (.lst [.int a, .int ((b * 39373 + (c + 1) * (c + 1) * 104729 + 7) % 2147483647), .int (c + 1)]) p = some (.lst [.int a, .int ((b * 39373 + (c + 1) * (c + 1) * 104729 + 7) % 2147483647), .int (c + 1)]) := upd_same
      have h5 := at3 (K := K) e2
      refine ⟨_, rfl, p, _, _, _, rfl, rfl, h5, rfl, _, rfl, p, _, _, _, rfl, rfl, h5, rfl, _, _, rfl, rfl, .inl ⟨Int.lt_of_lt_of_le (by decide) f1, Int.lt_trans f2 (by decide)⟩, _, _, rfl, rfl, (by show (0 : Int) < 2147483629; decide), ?_⟩
      have mb : ∀ z : Int, -(2 ^ 64) < z % 2147483629 ∧ z % 2147483629 < 2 ^ 64 := fun z => by
        have g1 := Int.emod_nonneg z (by decide : (2147483629 : Int) ≠ 0)
        have g2 := Int.emod_lt_of_pos z (by decide : (0 : Int) < 2147483629)
        omega
      refine ⟨_, rfl, _, rfl, _, _, rfl, rfl, (by show (0 : Int) < 65521; decide), _, _, rfl, rfl, ?_⟩
      refine ⟨_, _, rfl, rfl, .inl (mb _), _, _, rfl, rfl, (by show (0 : Int) < 2147483587; decide), _, _, rfl, rfl, ⟨by decide, by decide⟩, _, rfl, _, _, rfl, rfl, hm, ?_⟩
      refine k _ _ (Int.emod_nonneg _ (by omega)) (Int.emod_lt_of_pos _ hm) (fun z hz => by rw [upd_ne hz, upd_ne hz]) ⟨a, _, c + 1, upd_same, ha, f1, f2, by omega, by omega⟩
theorem ok_pot {f : Addr} {fd : FuncData} (F : Fun K "_law_pot" "_law_pot" sPot f fd) (mL : mg "len" = none) (mM : mg "max" = none) : FnOk P w K mg base CX0 1 f fd ["_law_script", "_law_k"] (spPot K) := by
  refine F.ok scPot (fun vs H Q E h => ?_) (fun cdv A outer s H vs Q E hr h => ?_)
  · obtain ⟨a, ns, k, rfl, _⟩ := h
    rfl
  · obtain ⟨a, ns, k, rfl, hS, hk, kk⟩ := h
    refine ⟨_, pss_cons (ps_set (i := 2) scPot.nd rfl (Or.inl rfl) pe_int)
      (pss_cons (ps_if (pt_cmpR op_lt (pv 1) (pe_callB call_len_seq (by rfl) mL PySem.boot_len (pa_cons (pv 0) pa_nil)) (nomark _))
        (pss_one (ps_set (i := 2) scPot.nd rfl (Or.inl rfl) (pe_ix ix_list (pv 0) (pv 1) (fun _ _ => rfl)))) pss_nil)
      (pss_cons (ps_set (i := 3) scPot.nd rfl (Or.inl rfl) (pe_op op_mod (pe_op op_add (pe_op op_add (pe_op op_mul (pe_op op_mod (pv 2) pe_int) pe_int) (pe_op op_mul (pe_op op_mul pe_int (pv 1)) (pv 1))) pe_int) pe_int))
      (pss_one (ps_ret (pe_lst (pa_cons (pe_callB (call_max2 rfl) (by rfl) mM (by decide +kernel) (pa_cons pe_int (pa_cons (pe_op op_sub (pv 2) (pe_op op_pow pe_int pe_int)) pa_nil))) (pa_cons (pv 3) (pa_cons pe_int pa_nil)))))))), ?_⟩
    have fin : ∀ c : Int, tSeq (tAsg (tOp (rI (fun _ j => 0 < j) fun i j => .int (i % j)) (tOp (rI0 fun i j => .int (i + j)) (tOp (rI0 fun i j => .int (i + j)) (tOp (rI CMul fun i j => .int (i * j)) (tOp (rI (fun _ j => 0 < j) fun i j => .int (i % j)) (tVar 2) (tC (.int 2147483629))) (tC (.int 48271))) (tOp (rI CMul fun i j => .int (i * j)) (tOp (rI CMul fun i j => .int (i * j)) (tC (.int 7919)) (tVar 1)) (tVar 1))) (tC (.int 13))) (tC (.int 2147483647))) (gName 3))
        (tRet (tLst (tCons (tCB (fun xs H Q => ∃ i j, xs = [.int i, .int j] ∧ Q (.int (if j > i then j else i)) H) (tCons (tC (.int 0)) (tCons (tOp (rI0 fun i j => .int (i - j)) (tVar 2) (tOp (rI CPow fun i j => .int (i ^ j.toNat)) (tC (.int 10)) (tC (.int 18)))) tNil))) (tCons (tVar 3) (tCons (tC (.int 0)) tNil))))) { nx := fun _ H' => Q .non H', rt := Q } [some (.ref a), some (.int (k : Int)), some (.int c), none] H := by
      intro c
      refine ⟨_, rfl, _, _, rfl, rfl, (by show (0 : Int) < 2147483629; decide), _, _, rfl, rfl, .inr (by decide), _, rfl, _, _, rfl, rfl, .inl (by decide), ?_⟩
      refine ⟨_, rfl, _, _, rfl, rfl, .inr (by omega), _, _, rfl, rfl, _, _, rfl, rfl, _, _, rfl, rfl, (by show (0 : Int) < 2147483647; decide), ?_⟩
      refine ⟨_, rfl, _, _, rfl, rfl, ⟨by decide, by decide, by decide⟩, _, _, rfl, rfl, _, _, rfl, ?_⟩
      refine ⟨_, rfl, (by show 3 ≤ sizeLine; decide), fun p hp => ?_⟩
      refine kk p _ hp (Keep.new hp) ⟨_, _, _, upd_same, ?_, Int.emod_nonneg _ (by decide), Int.emod_lt_of_pos _ (by decide), Int.le_refl _, Int.le_refl _⟩
      split <;> omega
    refine ⟨_, rfl, _, rfl, a, _, rfl, .inl hS, _, _, rfl, rfl, _, rfl, ?_⟩
    refine ite2 (fun hd => ?_) (fun hd => ?_)
    · have hd2 : k < ns.length := by
        have z := of_decide_eq_true hd
        rw [List.length_map] at z
        omega
      refine ⟨_, rfl, _, rfl, a, _, _, (V.int ns[k]), rfl, rfl, hS, atI_nat (by rw [List.getElem?_map, List.getElem?_eq_getElem hd2]; rfl), ?_⟩
      exact fin _
    · exact fin 0
end
end Fs
/-! The head: what the top has written, by names; the end. -/
namespace Fs
open PySem L2 TL
def d_is_text : He.DefD := ⟨("is_text", none), "is_text", "is_text", defArgs (top 1), defBody (top 1), defScope (top 1), [], []⟩
def d_is_name : He.DefD := ⟨("is_name", none), "is_name", "is_name", defArgs (top 2), defBody (top 2), defScope (top 2), [], []⟩
def d__law_pot : He.DefD := ⟨("_law_pot", none), "_law_pot", "_law_pot", defArgs (top 17), defBody (top 17), defScope (top 17), [], []⟩
def d__law_digit : He.DefD := ⟨("_law_digit", none), "_law_digit", "_law_digit", defArgs (top 18), defBody (top 18), defScope (top 18), [], []⟩
def d__law_name : He.DefD := ⟨("_law_name", none), "_law_name", "_law_name", defArgs (top 20), defBody (top 20), defScope (top 20), [], []⟩
def d__law_fresh : He.DefD := ⟨("_law_fresh", none), "_law_fresh", "_law_fresh", defArgs (top 21), defBody (top 21), defScope (top 21), [], []⟩
def d__law_pairs : He.DefD := ⟨("_law_pairs", none), "_law_pairs", "_law_pairs", defArgs (top 22), defBody (top 22), defScope (top 22), [], []⟩
def d__law_stands : He.DefD := ⟨("_law_stands", none), "_law_stands", "_law_stands", defArgs (top 23), defBody (top 23), defScope (top 23), [], []⟩
def d__law_is_no_kind : He.DefD := ⟨("_law_is_no_kind", none), "_law_is_no_kind", "_law_is_no_kind", defArgs (top 24), defBody (top 24), defScope (top 24), [], []⟩
def d__law_made : He.DefD := ⟨("_law_made", none), "_law_made", "_law_made", defArgs (top 25), defBody (top 25), defScope (top 25), [], []⟩
def d__law_above : He.DefD := ⟨("_law_above", none), "_law_above", "_law_above", defArgs (top 26), defBody (top 26), defScope (top 26), [], []⟩
def d__law_under : He.DefD := ⟨("_law_under", none), "_law_under", "_law_under", defArgs (top 27), defBody (top 27), defScope (top 27), [], []⟩
def d__law_odd : He.DefD := ⟨("_law_odd", none), "_law_odd", "_law_odd", defArgs (top 28), defBody (top 28), defScope (top 28), [], []⟩
def d__law_spoilt : He.DefD := ⟨("_law_spoilt", none), "_law_spoilt", "_law_spoilt", defArgs (top 29), defBody (top 29), defScope (top 29), [], []⟩
def d__law_right : He.DefD := ⟨("_law_right", none), "_law_right", "_law_right", defArgs (top 30), defBody (top 30), defScope (top 30), [], []⟩
def d_law : He.DefD := ⟨("law", none), "law", "law", defArgs (top 31), defBody (top 31), defScope (top 31), [], []⟩
def dK_xinitx : He.DefD := ⟨("Kinds", some "__init__"), "__init__", "Kinds.__init__", defArgs (inClass (top 15) 0), defBody (inClass (top 15) 0), defScope (inClass (top 15) 0), [], []⟩
def dK_is_kind : He.DefD := ⟨("Kinds", some "is_kind"), "is_kind", "Kinds.is_kind", defArgs (inClass (top 15) 2), defBody (inClass (top 15) 2), defScope (inClass (top 15) 2), [], []⟩
def dK__check_new : He.DefD := ⟨("Kinds", some "_check_new"), "_check_new", "Kinds._check_new", defArgs (inClass (top 15) 6), defBody (inClass (top 15) 6), defScope (inClass (top 15) 6), [], []⟩
def dK_names : He.DefD := ⟨("Kinds", some "names"), "names", "Kinds.names", defArgs (inClass (top 15) 1), defBody (inClass (top 15) 1), defScope (inClass (top 15) 1), [], []⟩
def dK_above : He.DefD := ⟨("Kinds", some "above"), "above", "Kinds.above", defArgs (inClass (top 15) 3), defBody (inClass (top 15) 3), defScope (inClass (top 15) 3), [], []⟩
def dK_stands_under : He.DefD := ⟨("Kinds", some "stands_under"), "stands_under", "Kinds.stands_under", defArgs (inClass (top 15) 4), defBody (inClass (top 15) 4), defScope (inClass (top 15) 4), [], []⟩
def dK__check : He.DefD := ⟨("Kinds", some "_check"), "_check", "Kinds._check", defArgs (inClass (top 15) 5), defBody (inClass (top 15) 5), defScope (inClass (top 15) 5), [], []⟩
def fn : List He.DefD := [d_is_text, d_is_name, d__law_pot, d__law_digit, d__law_name, d__law_fresh, d__law_pairs, d__law_stands, d__law_is_no_kind, d__law_made, d__law_above, d__law_under, d__law_odd, d__law_spoilt, d__law_right, d_law, dK_xinitx, dK_is_kind, dK__check_new, dK_names, dK_above, dK_stands_under, dK__check]
def fa : List He.Fa := [.glo "is_text", .glo "is_name", .glo "_law_pot", .glo "_law_digit", .glo "_law_name", .glo "_law_fresh", .glo "_law_pairs", .glo "_law_stands", .glo "_law_is_no_kind", .glo "_law_made", .glo "_law_above", .glo "_law_under", .glo "_law_odd", .glo "_law_spoilt", .glo "_law_right", .glo "law", .glo "Kinds", .free "isinstance", .free "int", .free "str", .free "len", .free "all", .free "max", .free "min", .free "range", .free "list", .free "dict", .free "repr", .free "ValueError", .cls "Kinds", .mkr "Kinds", .noat "Kinds" "_above", .meth "Kinds" "is_kind", .meth "Kinds" "_check_new", .meth "Kinds" "names", .meth "Kinds" "above", .meth "Kinds" "stands_under", .meth "Kinds" "_check", .glo "NoKind", .glo "FaultError", .glo "Empty", .glo "NoBody", .glo "NoFault", .glo "NoProgram", .glo "NoRow", .glo "NoTest", .glo "NoText", .glo "NoWay", .exc "NoKind", .exm "NoKind" "FaultError" true]
def exB (K : PySem.W.Frag) : Bool := decide (PySem.W.findIn K (.ref (He.ga K "NoKind")) "__getattribute__" = some (some (.builtin "BaseException.__getattribute__"))) && (decide (PySem.W.findIn K (.ref (He.ga K "NoKind")) "__getattr__" = some none) && (decide (PySem.W.subIn K (.ref (He.ga K "NoKind")) (.type "BaseException") = some true) && (PySem.W.hasDictIn K (He.ga K "NoKind") && (decide (PySem.W.findIn K (.ref (He.ga K "NoKind")) "__class__" = some (some (.builtin "object.__class__"))) && (decide (PySem.W.specialIn K (.builtin "object.__class__") "__get__" = some (some (.builtin "getset_descriptor.__get__"))) && (decide (PySem.W.takesIn K (.builtin "object.__class__") = some true) && (decide (PySem.W.mroIn K (He.ga K "NoKind") (.type "object") = some true) && (decide (PySem.W.kitAny K (.ref (He.ga K "NoKind")) [.ref (He.ga K "Empty"), .ref (He.ga K "NoBody"), .ref (He.ga K "NoFault"), .ref (He.ga K "NoProgram"), .ref (He.ga K "NoRow"), .ref (He.ga K "NoTest"), .ref (He.ga K "NoText"), .ref (He.ga K "NoWay")] = some false) && (decide (PySem.W.kitOne K (.ref (He.ga K "NoKind")) (.ref (He.ga K "NoKind")) = some true) && (decide (PySem.W.kitOne K (.ref (He.ga K "NoKind")) (.type "ValueError") = some true)))))))))))
def tf : List He.Defn := [("is_name", none)]
abbrev R : PySem.W.OpenRow := PySem.W.OpenLaw.row PySem.Challenge.rw_faultsheaves_k11_kinds
abbrev hk : PySem.W.Hook := He.hookX 6 fa fn [] tf exB
def ob (s : PySem.W.SharedT) : He.AlX := He.obsX 6 fa fn [] tf exB (HandSHeadRun.getT s)
theorem ob_eq (s : PySem.W.SharedT) : ob s = hk.obs s.abs := He.obsX_eq (HandSHeadRun.getT_eq s)
def loose : List Str := ["__name__", "is_text", "is_name", "FaultError", "NoKind", "NoText", "NoFault", "Empty", "NoWay", "NoTest", "NoProgram", "NoBody", "NoRow", "Kinds", "_law_pot", "_law_digit", "_law_text", "_law_name", "_law_fresh", "_law_pairs", "_law_stands", "_law_is_no_kind", "_law_made", "_law_above", "_law_under", "_law_odd", "_law_spoilt", "_law_right"]
theorem run (w : World) : HandSHeadRun.RunEq R (PySem.W.view R.prog [31]) hk ob 6000 loose w := by
  intro os
  kernel_rfl
end Fs
/-! Names and texts by digits. -/
namespace Fs
open PySem L2 TL
abbrev sText : Stmt := top 19
abbrev sName : Stmt := top 20
abbrev nText : List Str := ["_law_pot_here", "_law_signs", "_law_size", "_law_k"]
abbrev nName : List Str := ["_law_pot_here", "_law_k"]
theorem scText : FnScope nText ["_law_pot_here"] (defScope sText) := ⟨rfl, rfl, rfl, by decide +kernel, rfl, by decide +kernel, by decide +kernel⟩
theorem scName : FnScope nName ["_law_pot_here"] (defScope sName) := ⟨rfl, rfl, rfl, by decide +kernel, rfl, by decide +kernel, by decide +kernel⟩
/-- a sign of a to z -/
def small (c : Nat) : Bool := decide (97 ≤ c) && decide (c ≤ 122)
/-- a text of one to eight small letters -/
def IsNm (z : Str) : Prop := 1 ≤ z.cps.toList.length ∧ z.cps.toList.length ≤ 8 ∧ ∀ c ∈ z.cps.toList, small c = true
/-- a text of at most forty signs, none of them beyond the first hundred and twenty-eight -/
def IsTx (z : Str) : Prop := z.cps.toList.length ≤ 40 ∧ ∀ c ∈ z.cps.toList, c < 128
/-- the pot alone is another -/
def spName : Sp := fun vs H Q _ => ∃ (p : Addr) (n : Nat), vs = [.ref p] ∧ PotAt H p n ∧ n < 2 ^ 39 ∧
  ∀ (z : Str) (H' : Hp), IsNm z → Keep [p] H H' → PotAt H' p (n + 9) → Q (.str z) H'
def spText : Sp := fun vs H Q _ => ∃ (p : Addr) (n : Nat), vs = [.ref p] ∧ PotAt H p n ∧ n < 2 ^ 39 ∧
  ∀ (z : Str) (H' : Hp), IsTx z → Keep [p] H H' → PotAt H' p (n + 43) → Q (.str z) H'
abbrev one (c : Nat) : Str := ⟨#[c]⟩
theorem tyes {σ : L2.St} {H : Hp} {A B : Hp → Prop} (h : A H) : tYes σ H fun b H3 => if b = true then A H3 else B H3 := by
  show if true = true then A H else B H
  exact iteT h
theorem joinL_ones : ∀ cs : List Nat, joinL [] (cs.map fun c => [c]) = cs
  | [] => rfl
  | [c] => rfl
  | c :: d :: r => by
    have ih := joinL_ones (d :: r)
    show [c] ++ ([] ++ joinL [] ((d :: r).map fun c => [c])) = c :: d :: r
    rw [ih]
    rfl
theorem tl_empty : tl (Str.ofString "") = [] := by decide +kernel
theorem join_ones (cs : List Nat) : (Txt.join (Str.ofString "") (cs.map one)).cps.toList = cs := by
  have h := tl_join (Str.ofString "") (cs.map one)
  rw [tl_empty, List.map_map] at h
  have e : (cs.map (tl ∘ one)) = cs.map fun c => [c] := List.map_congr_left fun c _ => rfl
  rw [e, joinL_ones] at h
  rw [join_eq]
  exact h
theorem sum_ones (cs : List Nat) : ((cs.map one).map (·.length)).sum = cs.length := by
  induction cs with
  | nil => rfl
  | cons c r ih =>
    rw [List.map_cons, List.map_cons, List.sum_cons, ih, List.length_cons]
    show 1 + r.length = r.length + 1
    omega
theorem one_map (cs : List Nat) : (cs.map one).map V.str = cs.map fun c => V.str (one c) := List.map_map ..
theorem digit_at {l : List Nat} {d : Int} (h0 : 0 ≤ d) (h1 : d < (l.length : Int)) : ∃ c, c ∈ l ∧ atI l d = some c := by
  have h2 : d.toNat < l.length := by omega
  refine ⟨l[d.toNat], List.getElem_mem h2, ?_⟩
  have e : ((d.toNat : Nat) : Int) = d := Int.toNat_of_nonneg h0
  have h3 := atI_nat (List.getElem?_eq_getElem h2)
  rw [e] at h3
  exact h3
theorem signs_turn {tz : TE} {σ2 : St} {H : Hp} {p D : Addr} {n : Nat} {z : Str} {m : Int} {acc : List V} {R : Hp → Prop} (hσ : σ2[0]? = some (some (.ref p))) (hz : ∀ (H : Hp) (Q : VK), Q (.str z) H → tz σ2 H Q)
    (hp : PotAt H p n) (hn : n < 2 ^ 40) (hm : m = (z.cps.toList.length : Int)) (hm0 : 0 < m) (hm1 : m < 1000) (hD : H D = some (.lst acc)) (ha : acc.length < sizeLine) (np : D ≠ p)
    (go : ∀ (c : Nat) (H' : Hp), c ∈ z.cps.toList → (∀ b, b ≠ p → H' b = H b) → PotAt H' p (n + 1) → R (upd H' D (.lst (acc ++ [.str (one c)])))) :
    tOp rIxS tz (tCall spDigit [] E0 (tCons (tVar 0) (tCons (tC (.int m)) tNil))) σ2 H fun y H4 => ∃ acc, H4 D = some (.lst acc) ∧ acc.length < sizeLine ∧ R (upd H4 D (.lst (acc ++ [y]))) := by
  refine hz H _ ⟨_, hσ, p, n, m, rfl, hp, hn, hm0, by omega, fun d H' d0 d1 hk hp' => ?_⟩
  obtain ⟨c, hc, he⟩ := digit_at (l := z.cps.toList) d0 (by omega)
  have hzl : z.length = z.cps.toList.length := by simp [Str.length]
  refine ⟨z, d, c, rfl, rfl, ?_, he, acc, by rw [hk D np]; exact hD, ha, go c H' hc hk hp'⟩
  exact Nat.le_of_lt (Nat.lt_of_lt_of_le (by omega : z.length < 1000) (by decide))
/-- the whole list of signs: an invariant for lc_range -/
def SgAt (H0 : Hp) (p D : Addr) (n : Nat) (g : Nat → Prop) (i : Nat) (H : Hp) : Prop :=
  ∃ cs : List Nat, cs.length = i ∧ (∀ c ∈ cs, g c) ∧ H D = some (.lst (cs.map fun c => V.str (one c))) ∧ PotAt H p (n + i) ∧ Keep [p] H0 H
theorem SgAt.start {H0 : Hp} {p D : Addr} {n : Nat} {g : Nat → Prop} (hp : PotAt H0 p n) (hD : H0 D = none) : SgAt H0 p D n g 0 (upd H0 D (.lst [])) := by
  obtain ⟨xs, e⟩ := hp.some
  have np : p ≠ D := ne_of_none e hD
  exact ⟨[], rfl, fun _ h => absurd h List.not_mem_nil, upd_same, hp.keep (ex := []) (Keep.new hD) (fun z => nomatch z), Keep.new hD⟩
theorem SgAt.next {H0 H H' : Hp} {p D : Addr} {n : Nat} {g : Nat → Prop} {i : Nat} {c : Nat} {cs : List Nat} (hD : H0 D = none) (np : D ≠ p) (hl : cs.length = i) (hg : ∀ c ∈ cs, g c) (k : Keep [p] H0 H) (hc : g c) (hk : ∀ b, b ≠ p → H' b = H b) (hp : PotAt H' p (n + i + 1)) :
    SgAt H0 p D n g (i + 1) (upd H' D (.lst ((cs.map fun c => V.str (one c)) ++ [.str (one c)]))) := by
  refine ⟨cs ++ [c], by rw [List.length_append, hl]; rfl, fun x hx => ?_, by rw [upd_same, List.map_append]; rfl, ?_, ?_⟩
  · rcases List.mem_append.mp hx with h | h
    · exact hg x h
    · rw [List.mem_singleton.mp h]
      exact hc
  · obtain ⟨a, b, c, h1, h2⟩ := hp
    exact ⟨a, b, c, by rw [upd_ne (Ne.symm np)]; exact h1, h2⟩
  · intro b o hb e
    have nb : b ≠ p := fun z => hb (by rw [z]; exact in1)
    rw [upd_ne (ne_of_none e hD), hk b nb]
    exact k b o hb e
section
variable {P : Program} {w : World} {K : PySem.W.Frag} {mg : Str → Option Value} {base : Heap}
theorem letters_small : ∀ c ∈ (Str.ofString "abcdefghijklmnopqrstuvwxyz").cps.toList, small c = true := by decide +kernel
theorem letters_len : (Str.ofString "abcdefghijklmnopqrstuvwxyz").cps.toList.length = 26 := by decide +kernel
theorem ok_name {f fD : Addr} {fd fdD : FuncData} (F : Fun K "_law_name" "_law_name" sName f fd) (FD : FnOk P w K mg base CX0 1 fD fdD ["_law_pot_here", "_law_many"] spDigit) (mD : mg "_law_digit" = some (.ref fD)) (kD : PySem.W.keepIn K (.ref fD) = true) (bD : Binds K fdD ["_law_pot_here", "_law_many"] []) (mR : mg "range" = none) :
    FnOk P w K mg base CX0 2 f fd ["_law_pot_here"] spName := by
  refine F.ok scName (fun vs H Q E h => ?_) (fun cdv A outer s H vs Q E hr h => ?_)
  · obtain ⟨p, n, rfl, _⟩ := h
    rfl
  · obtain ⟨p, n, rfl, hp, hn, kk⟩ := h
    refine ⟨_, pss_one (ps_ret (pe_join pe_str (pe_lc (own := [("_law_k", 1)]) (g := gName 1) (tt := tYes) rfl scName.nd
      (pi_range1 rfl mR (pa_cons (pe_op op_add pe_int (pe_call FD hr rfl mD kD bD .nil pass0 (pa_cons (pv 0) (pa_cons pe_int pa_nil)))) pa_nil))
      (blkOk_by (N := nName) (sc := defScope sName) (by decide +kernel)) (fun _ _ _ _ _ => pg_name (i := 1) scName.nd rfl (Or.inl rfl)) (fun _ _ _ _ _ => pts_nil)
      (fun _ _ _ _ _ => pe_ix ix_str pe_str (pe_call FD hr rfl mD kD bD .nil pass0 (pa_cons (pv 0) (pa_cons pe_int pa_nil))) (fun _ _ => rfl))))), ?_⟩
    refine ⟨⟨_, rfl⟩, _, rfl, p, n, 8, rfl, hp, by omega, by decide, by decide, fun d H1 d0 d1 hk hp1 => ?_⟩
    refine ⟨_, _, rfl, rfl, _, rfl, by omega, by omega, fun D hD => ?_⟩
    obtain ⟨xs, ep⟩ := hp1.some
    have np : D ≠ p := Ne.symm (ne_of_none ep hD)
    obtain ⟨m, hm⟩ : ∃ m : Nat, (1 + d : Int) = (m : Int) := ⟨(1 + d).toNat, by omega⟩
    have em : (1 + d : Int).toNat = m := by omega
    rw [em]
    refine lc_range (lo := 0) (n := m) (SgAt H1 p D (n + 1) fun c => small c = true) (SgAt.start hp1 hD) (fun i H2 hi hI => ?_) (fun H2 hI => ?_)
    · obtain ⟨cs, hl, hg, eD, hp2, k2⟩ := hI
      refine ⟨rfl, tyes ?_⟩
      refine signs_turn (z := Str.ofString "abcdefghijklmnopqrstuvwxyz") (n := n + 1 + i) rfl (fun _ _ q => q) hp2 (by omega) (by rw [letters_len]; rfl) (by decide) (by decide) eD ?_ np fun c H' hc hk' hp' => ?_
      · rw [List.length_map, hl]
        exact Nat.lt_of_lt_of_le (by omega : i < 1000) (by decide)
      · exact SgAt.next hD np hl hg k2 (letters_small c hc) hk' hp'
    · obtain ⟨cs, hl, hg, eD, hp2, k2⟩ := hI
      refine ⟨Str.ofString "", D, cs.map one, rfl, rfl, .inl (SqL.of (by rw [one_map]; exact eD)), ?_, ?_⟩
      · rw [sum_ones, List.length_map, show (Str.ofString "").length = 0 by decide +kernel]
        omega
      · refine kk _ _ ⟨?_, ?_, ?_⟩ (Keep.trans (fun b o hb e => by rw [hk b (fun z => hb (by rw [z]; exact in1))]; exact e) k2) (hp2.le (by omega))
        · rw [join_ones, hl]; omega
        · rw [join_ones, hl]; omega
        · rw [join_ones]; exact hg
theorem signs_ascii : ∀ c ∈ (Str.ofString " !\"#$&'()*+,-./0123456789:;<=>?@ABCDEFGHIJKLMNOPQRSTUVWXYZ[\\]^_`abcdefghijklmnopqrstuvwxyz{|}~").cps.toList, c < 128 := by decide +kernel
theorem signs_len : (Str.ofString " !\"#$&'()*+,-./0123456789:;<=>?@ABCDEFGHIJKLMNOPQRSTUVWXYZ[\\]^_`abcdefghijklmnopqrstuvwxyz{|}~").cps.toList.length = 94 := by decide +kernel
theorem ok_text {f fD : Addr} {fd fdD : FuncData} (F : Fun K "_law_text" "_law_text" sText f fd) (FD : FnOk P w K mg base CX0 1 fD fdD ["_law_pot_here", "_law_many"] spDigit) (mD : mg "_law_digit" = some (.ref fD)) (kD : PySem.W.keepIn K (.ref fD) = true) (bD : Binds K fdD ["_law_pot_here", "_law_many"] []) (mR : mg "range" = none) (mI : mg "int" = none) :
    FnOk P w K mg base CX0 2 f fd ["_law_pot_here"] spText := by
  refine F.ok scText (fun vs H Q E h => ?_) (fun cdv A outer s H vs Q E hr h => ?_)
  · obtain ⟨p, n, rfl, _⟩ := h
    rfl
  · obtain ⟨p, n, rfl, hp, hn, kk⟩ := h
    refine ⟨_, pss_cons (ps_set (i := 1) scText.nd rfl (Or.inr rfl) pe_str)
      (pss_cons (ps_set (i := 2) scText.nd rfl (Or.inl rfl) (pe_ix ix_list (pe_lst (pa_cons (pe_call FD hr rfl mD kD bD .nil pass0 (pa_cons (pv 0) (pa_cons pe_int pa_nil))) (pa_cons (pe_call FD hr rfl mD kD bD .nil pass0 (pa_cons (pv 0) (pa_cons pe_int pa_nil))) pa_nil)))
        (pe_callTy call_int1 (by rfl) mI (by decide +kernel) (pa_cons (pe_cmpR op_eq (pe_call FD hr rfl mD kD bD .nil pass0 (pa_cons (pv 0) (pa_cons pe_int pa_nil))) pe_int (nomark _)) pa_nil)) (fun _ _ => rfl)))
      (pss_one (ps_ret (pe_join pe_str (pe_lc (own := [("_law_k", 3)]) (g := gName 3) (tt := tYes) rfl scText.nd
      (pi_range1 rfl mR (pa_cons (pv 2) pa_nil))
      (blkOk_by (N := nText) (sc := defScope sText) (by decide +kernel)) (fun _ _ _ _ _ => pg_name (i := 3) scText.nd rfl (Or.inl rfl)) (fun _ _ _ _ _ => pts_nil)
      (fun _ _ _ _ _ => pe_ix ix_str (pv 1) (pe_call FD hr rfl mD kD bD .nil pass0 (pa_cons (pv 0) (pa_cons pe_int pa_nil))) (fun _ _ => rfl))))))), ?_⟩
    refine ⟨_, rfl, p, n, 4, rfl, hp, by omega, by decide, by decide, fun d1 H1 a0 a1 hk1 hp1 => ?_⟩
    refine ⟨_, rfl, p, n + 1, 41, rfl, hp1, by omega, by decide, by decide, fun d2 H2 b0 b1 hk2 hp2 => ?_⟩
    refine ⟨(by show 2 ≤ sizeLine; decide), fun L hL => ?_⟩
    obtain ⟨xs2, ep2⟩ := hp2.some
    have npL : p ≠ L := ne_of_none ep2 hL
    refine ⟨_, rfl, p, n + 2, 5, rfl, hp2.keep (ex := []) (Keep.new hL) nin0, by omega, by decide, by decide, fun d3 H3 c0 c1 hk3 hp3 => ?_⟩
    have eL : H3 L = some (.lst [.int d1, .int d2]) := by rw [hk3 L npL.symm, upd_same]
    have k3 : Keep [p] H H3 := fun b o hb e => by
      have nb : b ≠ p := fun z => hb (by rw [z]; exact in1)
      have e1 : H1 b = some o := by rw [hk1 b nb]; exact e
      have e2 : H2 b = some o := by rw [hk2 b nb]; exact e1
      rw [hk3 b nb, upd_ne (ne_of_none e2 hL)]
      exact e2
    refine ⟨rfl, ?_⟩
    have fin : ∀ d : Int, 0 ≤ d → d ≤ 40 → tRet (tM1 (fun x xs H Q => ∃ a p, ∃ ys : List Str, x = .str a ∧ xs = [.ref p] ∧ (SqL K H p (ys.map V.str) ∨ SqT K H p (ys.map V.str)) ∧ (ys.map (·.length)).sum + ys.length * a.length ≤ 16777216 ∧ Q (.str (Txt.join a ys)) H) (tC (.str (Str.ofString "")))
        (tLc (iRng1 (tCons (tVar 2) tNil)) (gName 3) tYes (tOp rIxS (tVar 1) (tCall spDigit [] E0 (tCons (tVar 0) (tCons (tC (.int 94)) tNil)))) [3])) { nx := fun _ H' => Q .non H', rt := Q } [some (.ref p), some (.str (Str.ofString " !\"#$&'()*+,-./0123456789:;<=>?@ABCDEFGHIJKLMNOPQRSTUVWXYZ[\\]^_`abcdefghijklmnopqrstuvwxyz{|}~")), some (.int d), none] H3 := by
      intro d e0 e1
      refine ⟨⟨_, rfl⟩, _, rfl, _, rfl, by omega, by omega, fun D hD => ?_⟩
      obtain ⟨xs, ep⟩ := hp3.some
      have np : D ≠ p := Ne.symm (ne_of_none ep hD)
      obtain ⟨m, rfl⟩ : ∃ m : Nat, d = (m : Int) := ⟨d.toNat, by omega⟩
      rw [Int.toNat_natCast]
      refine lc_range (lo := 0) (n := m) (SgAt H3 p D (n + 3) fun c => c < 128) (SgAt.start hp3 hD) (fun i H4 hi hI => ?_) (fun H4 hI => ?_)
      · obtain ⟨cs, hl, hg, eD, hp4, k4⟩ := hI
        refine ⟨rfl, tyes ?_⟩
        refine signs_turn (z := Str.ofString " !\"#$&'()*+,-./0123456789:;<=>?@ABCDEFGHIJKLMNOPQRSTUVWXYZ[\\]^_`abcdefghijklmnopqrstuvwxyz{|}~") (n := n + 3 + i) rfl (fun _ _ q => ⟨_, rfl, q⟩) hp4 (by omega) (by rw [signs_len]; rfl) (by decide) (by decide) eD ?_ np fun c H' hc hk' hp' => ?_
        · rw [List.length_map, hl]
          exact Nat.lt_of_lt_of_le (by omega : i < 1000) (by decide)
        · exact SgAt.next hD np hl hg k4 (signs_ascii c hc) hk' hp'
      · obtain ⟨cs, hl, hg, eD, hp4, k4⟩ := hI
        refine ⟨Str.ofString "", D, cs.map one, rfl, rfl, .inl (SqL.of (by rw [one_map]; exact eD)), ?_, ?_⟩
        · rw [sum_ones, List.length_map, show (Str.ofString "").length = 0 by decide +kernel]
          omega
        · refine kk _ _ ⟨?_, ?_⟩ (k3.trans k4) (hp4.le (by omega))
          · rw [join_ones, hl]; omega
          · rw [join_ones]; exact hg
    by_cases hz : V.int d3 = V.int 0
    · refine .inr ⟨_, rfl, ?_⟩
      rw [decide_eq_true hz]
      exact ⟨L, _, _, _, rfl, rfl, SqL.of eL, rfl, fin d2 b0 (by omega)⟩
    · refine .inr ⟨_, rfl, ?_⟩
      rw [decide_eq_false hz]
      exact ⟨L, _, _, _, rfl, rfl, SqL.of eL, rfl, fin d1 a0 (by omega)⟩
end
end Fs
/-! A name that isn't taken. -/
namespace Fs
open PySem L2 TL
abbrev sFresh : Stmt := top 21
abbrev nFresh : List Str := ["_law_pot_here", "_law_taken", "_law_name_here", "_law_letters", "_law_k"]
theorem scFresh : FnScope nFresh ["_law_pot_here", "_law_taken"] (defScope sFresh) := ⟨rfl, rfl, rfl, by decide +kernel, rfl, by decide +kernel, by decide +kernel⟩
def cand (j : Nat) : Str := ⟨#[122, 97 + j / 26, 97 + j % 26]⟩
theorem cand_nm {j : Nat} (h : j < 260) : IsNm (cand j) := by
  refine ⟨by show 1 ≤ 3; decide, by show 3 ≤ 8; decide, fun c hc => ?_⟩
  have h1 : c = 122 ∨ c = 97 + j / 26 ∨ c = 97 + j % 26 := by
    have z : c ∈ [122, 97 + j / 26, 97 + j % 26] := hc
    simpa using z
  unfold small
  simp only [Bool.and_eq_true, decide_eq_true_eq]
  omega
theorem cand_inj {i j : Nat} (e : cand i = cand j) : i = j := by
  have h : [122, 97 + i / 26, 97 + i % 26] = [122, 97 + j / 26, 97 + j % 26] := congrArg (fun s : Str => s.cps.toList) e
  simp at h
  omega
theorem len_le_of_sub {α : Type} [DecidableEq α] : ∀ {l ts : List α}, l.Nodup → (∀ x ∈ l, x ∈ ts) → l.length ≤ ts.length
  | [], _, _, _ => Nat.zero_le _
  | x :: l, ts, nd, h => by
    have hx := h x List.mem_cons_self
    obtain ⟨h1, h2⟩ := List.nodup_cons.mp nd
    have ih := len_le_of_sub (ts := ts.erase x) h2 fun y hy => by
      have ne : y ≠ x := fun z => h1 (by rw [← z]; exact hy)
      exact (List.mem_erase_of_ne ne).mpr (h y (List.mem_cons_of_mem _ hy))
    rw [List.length_erase_of_mem hx] at ih
    have hp : 0 < ts.length := List.length_pos_iff.mpr (fun z => by rw [z] at hx; cases hx)
    show l.length + 1 ≤ ts.length
    omega
theorem cand_left {ts : List Str} (h : ts.length ≤ 100) : ¬ ∀ j, j < 260 → cand j ∈ ts := fun q => by
  have nd : ((List.range 260).map cand).Nodup := by
    refine List.Pairwise.map (R := fun a b => a ≠ b) cand (fun a b hab e => hab (cand_inj e)) List.nodup_range
  have z := len_le_of_sub nd (ts := ts) fun x hx => by
    obtain ⟨j, hj, e⟩ := List.mem_map.mp hx
    rw [← e]
    exact q j (List.mem_range.mp hj)
  rw [List.length_map, List.length_range] at z
  omega
theorem eqV_str (a b : Str) : eqV (.str a) (.str b) = decide (a = b) := by
  by_cases h : a = b
  · rw [decide_eq_true h, h]; simp [eqV]
  · rw [decide_eq_false h]; simp [eqV, h]
theorem inV_strs (z : Str) (ts : List Str) : inV (.str z) (ts.map V.str) = decide (z ∈ ts) := by
  unfold inV
  induction ts with
  | nil => simp
  | cons t r ih =>
    rw [List.map_cons, List.any_cons, ih, eqV_str]
    by_cases h1 : t = z
    · simp [h1]
    · have h2 : ¬ z = t := fun e => h1 e.symm
      simp [h1, h2]
theorem flat_strs (ts : List Str) : (ts.map V.str).all flatV = true := by
  rw [List.all_eq_true]
  intro x hx
  obtain ⟨t, _, e⟩ := List.mem_map.mp hx
  rw [← e]
  rfl
/-- the pot and a list of texts: a name that is none of them -/
def spFresh (K : PySem.W.Frag) : Sp := fun vs H Q _ => ∃ (p t : Addr) (n : Nat) (ts : List Str), vs = [.ref p, .ref t] ∧ PotAt H p n ∧ n < 2 ^ 38 ∧ H t = some (.lst (ts.map V.str)) ∧ t ≠ p ∧ ts.length ≤ 100 ∧
  ∀ (z : Str) (H' : Hp), IsNm z → z ∉ ts → Keep [p] H H' → PotAt H' p (n + 9) → Q (.str z) H'
theorem letter_at {i : Nat} (h : i < 26) : (Str.ofString "abcdefghijklmnopqrstuvwxyz").cps.toList[i]? = some (97 + i) := by
  have q : ∀ i, i < 26 → (Str.ofString "abcdefghijklmnopqrstuvwxyz").cps.toList[i]? = some (97 + i) := by decide +kernel
  exact q i h
theorem cand_eq (j : Nat) : ((Str.ofString "z" ++ one (97 + j / 26)) ++ one (97 + j % 26) : Str) = cand j := by
  have h : (Str.ofString "z") = ⟨#[122]⟩ := by decide +kernel
  rw [h]
  rfl
section
variable {P : Program} {w : World} {K : PySem.W.Frag} {mg : Str → Option Value} {base : Heap}
theorem ok_fresh {f fN : Addr} {fd fdN : FuncData} (F : Fun K "_law_fresh" "_law_fresh" sFresh f fd) (FN : FnOk P w K mg base CX0 2 fN fdN ["_law_pot_here"] spName) (mN : mg "_law_name" = some (.ref fN)) (kN : PySem.W.keepIn K (.ref fN) = true) (bN : Binds K fdN ["_law_pot_here"] []) (mR : mg "range" = none) :
    FnOk P w K mg base CX0 3 f fd ["_law_pot_here", "_law_taken"] (spFresh K) := by
  refine F.ok scFresh (fun vs H Q E h => ?_) (fun cdv A outer s H vs Q E hr h => ?_)
  · obtain ⟨p, t, n, ts, rfl, _⟩ := h
    rfl
  · obtain ⟨p, t, n, ts, rfl, hp, hn, ht, ntp, hl, kk⟩ := h
    refine ⟨_, pss_cons (ps_set (i := 2) scFresh.nd rfl (Or.inl rfl) (pe_call FN hr rfl mN kN bN .nil pass0 (pa_cons (pv 0) pa_nil)))
      (pss_cons (ps_set (i := 3) scFresh.nd rfl (Or.inl rfl) pe_str)
      (pss_cons (ps_for PassesOwn.never rfl (pi_range1 rfl mR (pa_cons pe_int pa_nil)) (pg_name (i := 4) scFresh.nd rfl (Or.inl rfl))
        (pss_one (ps_if (pt_cmpR op_in_seq (pv 2) (pv 1) rfl) (pss_one (ps_set (i := 2) scFresh.nd rfl (Or.inl rfl) (pe_op op_add_str (pe_op op_add_str pe_str (pe_ix ix_str (pv 3) (pe_op op_fdiv (pv 4) pe_int) (fun _ _ => rfl))) (pe_ix ix_str (pv 3) (pe_op op_mod (pv 4) pe_int) (fun _ _ => rfl))))) pss_nil)))
      (pss_one (ps_ret (pv 2))))), ?_⟩
    refine ⟨_, rfl, p, n, rfl, hp, by omega, fun z0 H1 hz0 k1 hp1 => ?_⟩
    have ht1 : H1 t = some (.lst (ts.map V.str)) := k1.at ht (nin1 ntp)
    refine ⟨260, rfl, by decide, by decide, for_range (lo := 0) (n := 260) (fun i σ H' => H' = H1 ∧ ∃ (z : Str) (kv : Option V), σ = [some (.ref p), some (.ref t), some (.str z), some (.str (Str.ofString "abcdefghijklmnopqrstuvwxyz")), kv] ∧ IsNm z ∧ (z ∉ ts ∨ ∀ j, j < i → cand j ∈ ts)) ⟨rfl, z0, none, rfl, hz0, .inr fun j hj => absurd hj (Nat.not_lt_zero j)⟩ ?_ ?_⟩
    · rintro i σ H' hi ⟨rfl, z, kv, rfl, hz, hc⟩
      refine ⟨_, rfl, _, rfl, t, _, rfl, .inl (SqL.of ht1), rfl, flat_strs ts, _, rfl, ?_⟩
      rw [inV_strs]
      refine ite2 (fun hd => ?_) (fun hd => ?_)
      · have hin : z ∈ ts := of_decide_eq_true hd
        have hall : ∀ j, j < i → cand j ∈ ts := hc.resolve_left (fun q => q hin)
        have e0 : (0 + (i : Int)) = (i : Int) := Int.zero_add _
        have q1 : ((i : Int) / 26) = ((i / 26 : Nat) : Int) := rfl
        have q2 : ((i : Int) % 26) = ((i % 26 : Nat) : Int) := rfl
        have zl : (Str.ofString "abcdefghijklmnopqrstuvwxyz").length ≤ sizeLine := by decide +kernel
        refine ⟨_, rfl, _, rfl, _, _, rfl, rfl, ⟨by decide, by decide⟩, Str.ofString "abcdefghijklmnopqrstuvwxyz", _, 97 + i / 26, rfl, rfl, zl, ?_, _, _, rfl, rfl, ?_, ?_⟩
        · rw [e0, q1]
          exact atI_nat (letter_at (by omega))
        · show 1 + 1 ≤ sizeLine
          decide
        refine ⟨_, rfl, _, rfl, _, _, rfl, rfl, (by show (0 : Int) < 26; decide), Str.ofString "abcdefghijklmnopqrstuvwxyz", _, 97 + i % 26, rfl, rfl, zl, ?_, _, _, rfl, rfl, ?_, ?_⟩
        · rw [e0, q2]
          exact atI_nat (letter_at (by omega))
        · show 2 + 1 ≤ sizeLine
          decide
        refine ⟨rfl, cand i, some (.int (0 + (i : Int))), ?_, cand_nm hi, ?_⟩
        · rw [cand_eq]
          rfl
        · by_cases hci : cand i ∈ ts
          · refine .inr fun j hj => ?_
            by_cases hji : j = i
            · rw [hji]; exact hci
            · exact hall j (by omega)
          · exact .inl hci
      · have hin : z ∉ ts := fun q => hd (decide_eq_true q)
        exact ⟨rfl, z, _, rfl, hz, .inl hin⟩
    · rintro σ H' ⟨rfl, z, kv, rfl, hz, hc⟩
      exact ⟨_, rfl, kk z _ hz (hc.resolve_right (cand_left hl)) k1 hp1⟩
end
end Fs
/-! The pairs of kinds. -/
namespace Fs
open PySem L2 TL
abbrev sPairs : Stmt := top 22
abbrev nPairs : List Str := ["_law_pot_here", "_law_pairs_here", "_law_k", "_law_aboves", "_law_name_here", "_law_above_here"]
theorem scPairs : FnScope nPairs ["_law_pot_here"] (defScope sPairs) := ⟨rfl, rfl, rfl, by decide +kernel, rfl, by decide +kernel, by decide +kernel⟩
abbrev sF : Str := Str.ofString "fault"
abbrev sS : Str := Str.ofString "sheaf"
/-- kinds as they are told, one behind another -/
inductive Wf : List (Str × Str) → Prop where
  | nil : Wf []
  | snoc {ps : List (Str × Str)} {z y : Str} : Wf ps → IsNm z → z ∉ sS :: sF :: ps.map Prod.fst → y ∈ sF :: ps.map Prod.fst → Wf (ps ++ [(z, y)])
/-- a tuple a pair -/
def TupsAt (H : Hp) : List Addr → List (Str × Str) → Prop
  | [], [] => True
  | a :: as, q :: ps => H a = some (.tup [.str q.1, .str q.2]) ∧ TupsAt H as ps
  | _, _ => False
theorem TupsAt.len {H : Hp} : ∀ {as : List Addr} {ps : List (Str × Str)}, TupsAt H as ps → as.length = ps.length
  | [], [], _ => rfl
  | _ :: as, _ :: ps, h => by rw [List.length_cons, List.length_cons, TupsAt.len h.2]
  | [], _ :: _, h => h.elim
  | _ :: _, [], h => h.elim
theorem TupsAt.map {H H' : Hp} (k : ∀ a xs, H a = some (.tup xs) → H' a = some (.tup xs)) : ∀ {as : List Addr} {ps : List (Str × Str)}, TupsAt H as ps → TupsAt H' as ps
  | [], [], _ => True.intro
  | _ :: as, _ :: ps, h => ⟨k _ _ h.1, TupsAt.map k h.2⟩
  | [], _ :: _, h => h.elim
  | _ :: _, [], h => h.elim
theorem TupsAt.snoc {H : Hp} {b : Addr} {q : Str × Str} (hb : H b = some (.tup [.str q.1, .str q.2])) : ∀ {as : List Addr} {ps : List (Str × Str)}, TupsAt H as ps → TupsAt H (as ++ [b]) (ps ++ [q])
  | [], [], _ => ⟨hb, True.intro⟩
  | _ :: as, _ :: ps, h => ⟨h.1, TupsAt.snoc hb h.2⟩
  | [], _ :: _, h => h.elim
  | _ :: _, [], h => h.elim
theorem TupsAt.at {H : Hp} : ∀ {as : List Addr} {ps : List (Str × Str)} {i : Nat} {a : Addr}, TupsAt H as ps → as[i]? = some a → ∃ q, ps[i]? = some q ∧ H a = some (.tup [.str q.1, .str q.2])
  | [], _, _, _, _, e => by simp at e
  | _ :: _, [], _, _, h, _ => h.elim
  | b :: as, q :: ps, 0, a, h, e => by
    have e' : b = a := by simpa using e
    subst e'
    exact ⟨q, rfl, h.1⟩
  | b :: as, q :: ps, i + 1, a, h, e => TupsAt.at (i := i) h.2 (by simpa using e)
/-- a list of pairs -/
def PairsAt (H : Hp) (l : Addr) (ps : List (Str × Str)) : Prop := ∃ as : List Addr, H l = some (.lst (as.map V.ref)) ∧ TupsAt H as ps
theorem Keep.tup {ex : List Addr} {H H' : Hp} (k : Keep ex H H') (hx : ∀ b ∈ ex, ∃ o, H b = some o ∧ ∀ xs, o ≠ .tup xs) {a : Addr} {xs : List V} (h : H a = some (.tup xs)) : H' a = some (.tup xs) :=
  k.at h fun z => by
    obtain ⟨o, e, n⟩ := hx a z
    rw [h] at e
    exact n xs (Option.some.inj e).symm
theorem lst_ex {H : Hp} {p : Addr} {xs : List V} (h : H p = some (.lst xs)) : ∀ b ∈ [p], ∃ o, H b = some o ∧ ∀ xs, o ≠ .tup xs := fun b hb => by
  rw [List.mem_singleton.mp hb]
  exact ⟨_, h, fun _ z => nomatch z⟩
theorem PairsAt.keep {ex : List Addr} {H H' : Hp} {l : Addr} {ps : List (Str × Str)} (h : PairsAt H l ps) (k : Keep ex H H') (hl : l ∉ ex) (hx : ∀ b ∈ ex, ∃ o, H b = some o ∧ ∀ xs, o ≠ .tup xs) : PairsAt H' l ps := by
  obtain ⟨as, e, t⟩ := h
  exact ⟨as, k.at e hl, t.map fun a xs q => k.tup hx q⟩
theorem PairsAt.some {H : Hp} {l : Addr} {ps : List (Str × Str)} (h : PairsAt H l ps) : ∃ xs, H l = some (.lst xs) := by
  obtain ⟨as, e, _⟩ := h
  exact ⟨_, e⟩
/-- [name for name, above in pairs]: slots i, j -/
theorem names_run {K : PySem.W.Frag} {l D : Addr} {ps : List (Str × Str)} {i j : Nat} {σ : L2.St} {H1 : Hp} {Qd : Hp → Prop} (h : PairsAt H1 l ps) (hD : H1 D = none) (hlen : ps.length ≤ 1000)
    (hw : ∀ v u, wipe (((wipe σ [i, j]).set i (some v)).set j (some u)) [i, j] = wipe σ [i, j]) (hv : ∀ v u, (((wipe σ [i, j]).set i (some v)).set j (some u))[i]? = some (some v))
    (hq : ∀ H, H D = some (.lst ((ps.map Prod.fst).map V.str)) → Keep [] H1 H → Qd H) :
    ∃ W : Nat → Nat → Hp → Prop, (∃ m, W 0 m (upd H1 D (.lst []))) ∧ ∀ k m H, W k m H →
      ((Itl K l).stop k H ∧ Qd H) ∨ ((Itl K l).go k H ∧ ∃ Nx : Hp → Prop, (∀ H', Nx H' → ∃ m', m' < m ∧ W (k + 1) m' H') ∧ ∀ x H', (Itl K l).yld k H x H' → gTup K 2 (gCons (gName i) (gCons (gName j) gNil)) x (wipe σ [i, j]) H' fun σ2 H2 => wipe σ2 [i, j] = wipe σ [i, j] ∧ tYes σ2 H2 fun b H3 =>
        if b = true then tVar i σ2 H3 fun y H4 => ∃ acc, H4 D = some (.lst acc) ∧ acc.length < sizeLine ∧ Nx (upd H4 D (.lst (acc ++ [y]))) else Nx H3) := by
  obtain ⟨as, e, t⟩ := h
  have hl := t.len
  refine lc_list (K := K) (a := l) (xs := as.map V.ref) (fun k H => H D = some (.lst (((ps.take k).map Prod.fst).map V.str)) ∧ Keep [] H1 H) ⟨upd_same, Keep.new hD⟩ (fun k H _ hI => SqL.of (hI.2.at e nin0)) (fun k x H hx hI => ?_) (fun H hI => ?_)
  · obtain ⟨a, ha, rfl⟩ : ∃ a, as[k]? = some a ∧ x = V.ref a := by
      rw [List.getElem?_map] at hx
      cases q : as[k]? with
      | none => rw [q] at hx; cases hx
      | some a => rw [q] at hx; exact ⟨a, rfl, (Option.some.inj hx).symm⟩
    obtain ⟨q, hq2, hta⟩ := t.at ha
    have hk : k < ps.length := (List.getElem?_eq_some_iff.mp hq2).1
    refine ⟨a, _, rfl, SqT.of (hI.2.at hta nin0), rfl, _, _, rfl, _, _, rfl, rfl, hw _ _, tyes ?_⟩
    refine ⟨_, hv _ _, _, hI.1, ?_, ?_, fun b o hb ho => ?_⟩
    · rw [List.length_map, List.length_map, List.length_take]
      exact Nat.lt_of_le_of_lt (by omega : min k ps.length ≤ 1000) (by decide)
    · rw [upd_same, List.take_add_one, hq2, List.map_append, List.map_append]
      rfl
    · rw [upd_ne (ne_of_none ho hD)]
      exact hI.2 b o hb ho
  · rw [List.length_map, hl, List.take_length] at hI
    exact hq H hI.1 hI.2
theorem Keep.freshTo {ex : List Addr} {H H1 : Hp} {p : Addr} {o : HO} (a : Keep ex H H1) (h : H p = none) : Keep ex H (upd H1 p o) := fun b u n q => by
  rw [upd_ne (ne_of_none q h)]
  exact a b u n q
def spPairs : Sp := fun vs H Q _ => ∃ (p : Addr) (n : Nat), vs = [.ref p] ∧ PotAt H p n ∧ n < 2 ^ 30 ∧
  ∀ (l : Addr) (ps : List (Str × Str)) (H' : Hp), H l = none → Wf ps → ps.length ≤ 28 → PairsAt H' l ps → Keep [p] H H' → PotAt H' p (n + 400) → Q (.ref l) H'
/-- one of the kinds, not sheaf -/
theorem digit_in {α : Type} {l : List α} {d : Int} (h0 : 0 ≤ d) (h1 : d < (l.length : Int)) : ∃ c, c ∈ l ∧ l[d.toNat]? = some c ∧ ((d.toNat : Nat) : Int) = d := by
  have h2 : d.toNat < l.length := by omega
  exact ⟨l[d.toNat], List.getElem_mem h2, List.getElem?_eq_getElem h2, Int.toNat_of_nonneg h0⟩
theorem keep_of_dig {p : Addr} {H H' : Hp} (h : ∀ b, b ≠ p → H' b = H b) : Keep [p] H H' := fun b o hb e => by
  rw [h b (fun z => hb (by rw [z]; exact in1))]
  exact e
section
variable {P : Program} {w : World} {K : PySem.W.Frag} {mg : Str → Option Value} {base : Heap}
theorem ok_pairs {f fD fR : Addr} {fd fdD fdR : FuncData} (F : Fun K "_law_pairs" "_law_pairs" sPairs f fd) (FD : FnOk P w K mg base CX0 1 fD fdD ["_law_pot_here", "_law_many"] spDigit) (mD : mg "_law_digit" = some (.ref fD)) (kD : PySem.W.keepIn K (.ref fD) = true) (bD : Binds K fdD ["_law_pot_here", "_law_many"] [])
    (FR : FnOk P w K mg base CX0 3 fR fdR ["_law_pot_here", "_law_taken"] (spFresh K)) (mF : mg "_law_fresh" = some (.ref fR)) (kF : PySem.W.keepIn K (.ref fR) = true) (bF : Binds K fdR ["_law_pot_here", "_law_taken"] []) (mL : mg "len" = none) (mR : mg "range" = none) (mI : mg "int" = none) :
    FnOk P w K mg base CX0 4 f fd ["_law_pot_here"] spPairs := by
  refine F.ok scPairs (fun vs H Q E h => ?_) (fun cdv A outer s H vs Q E hr h => ?_)
  · obtain ⟨p, n, rfl, _⟩ := h
    rfl
  · obtain ⟨p, n, rfl, hp, hn, kk⟩ := h
    have hr1 : Room 1 _ := hr.mono (by decide)
    refine ⟨_, pss_cons (ps_set (i := 1) scPairs.nd rfl (Or.inl rfl) (pe_lst pa_nil))
      (pss_cons (ps_for PassesOwn.never rfl (pi_range1 rfl mR (pa_cons (pe_op op_add (pe_call FD hr1 rfl mD kD bD .nil pass0 (pa_cons (pv 0) (pa_cons pe_int pa_nil))) (pe_op op_mul pe_int (pe_callTy call_int1 (by rfl) mI (by decide +kernel) (pa_cons (pe_cmpR op_eq (pe_call FD hr1 rfl mD kD bD .nil pass0 (pa_cons (pv 0) (pa_cons pe_int pa_nil))) pe_int (nomark _)) pa_nil)))) pa_nil)) (pg_name (i := 2) scPairs.nd rfl (Or.inl rfl))
        (pss_cons (ps_set (i := 3) scPairs.nd rfl (Or.inl rfl) (pe_op op_cat (pe_lst (pa_cons pe_str pa_nil)) (pe_lc (own := [("_law_name_here", 4), ("_law_above_here", 5)]) (g := gTup K 2 (gCons (gName 4) (gCons (gName 5) gNil))) (tt := tYes) rfl scPairs.nd (pi_list (pv 1))
          (blkOk_by (N := nPairs) (sc := defScope sPairs) (by decide +kernel)) (fun _ _ _ _ _ => by exact (pg_tup rfl (pgs_cons (pg_name (i := 4) scPairs.nd rfl (Or.inl rfl)) (pgs_cons (pg_name (i := 5) scPairs.nd rfl (Or.inl rfl)) pgs_nil)))) (fun _ _ _ _ _ => pts_nil) (fun _ _ _ _ _ => pv 4))))
        (pss_cons (ps_set (i := 4) scPairs.nd rfl (Or.inl rfl) (pe_call FR hr rfl mF kF bF .nil pass0 (pa_cons (pv 0) (pa_cons (pe_op op_cat (pe_lst (pa_cons pe_str pa_nil)) (pv 3)) pa_nil))))
        (pss_one (ps_expr (pe_bm PySem.F.plainAttrs_list PySem.F.slot_list_append PySem.F.type_list_append mt_append (pv 1) (pa_cons (pe_tup (pa_cons (pv 4) (pa_cons (pe_ix ix_list (pv 3) (pe_call FD hr1 rfl mD kD bD .nil pass0 (pa_cons (pv 0) (pa_cons (pe_callB call_len_seq (by rfl) mL PySem.boot_len (pa_cons (pv 3) pa_nil)) pa_nil))) (fun _ _ => rfl)) pa_nil))) pa_nil)))))))
      (pss_one (ps_ret (pv 1)))), ?_⟩
    refine ⟨Nat.zero_le _, fun l hl => ?_⟩
    have hp0 : PotAt (upd H l (.lst [])) p n := hp.keep (ex := []) (Keep.new hl) nin0
    obtain ⟨x0, ep0⟩ := hp.some
    have nlp : l ≠ p := Ne.symm (ne_of_none ep0 hl)
    refine ⟨_, rfl, p, n, 9, rfl, hp0, by omega, by decide, by decide, fun d H0 d0 d1 hk0 hp0 => ?_⟩
    refine ⟨_, rfl, p, n + 1, 8, rfl, hp0, by omega, by decide, by decide, fun d' H1 d0' d1' hk1 hp1 => ?_⟩
    have hl1 : H1 l = some (.lst []) := by rw [hk1 l nlp, hk0 l nlp, upd_same]
    have k1 : Keep [p] H H1 := ((Keep.new hl).trans (keep_of_dig hk0)).trans (keep_of_dig hk1)
    refine ⟨rfl, .inr ⟨_, rfl, 20, _, rfl, rfl, by unfold CMul; omega, d, _, rfl, rfl, ?_⟩⟩
    obtain ⟨m, hm, hm28⟩ : ∃ m : Nat, d + 20 * (if decide (V.int d' = V.int 7) = true then (1 : Int) else 0) = (m : Int) ∧ m ≤ 28 := by
      split
      · exact ⟨(d + 20).toNat, by omega, by omega⟩
      · exact ⟨d.toNat, by omega, by omega⟩
    refine ⟨(m : Int), by exact congrArg (fun z => [V.int z]) hm, by omega, by omega, ?_⟩
    rw [Int.toNat_natCast]
    refine for_range (lo := 0) (n := m) (fun i σ H' => ∃ (ps : List (Str × Str)) (v2 v3 v4 v5 : Option V), σ = [some (.ref p), some (.ref l), v2, v3, v4, v5] ∧ Wf ps ∧ ps.length = i ∧ PairsAt H' l ps ∧ PotAt H' p (n + 2 + 10 * i) ∧ Keep [p] H H')
      ⟨[], none, none, none, none, rfl, .nil, rfl, ⟨[], hl1, True.intro⟩, hp1, k1⟩ ?_ ?_
    · rintro i σ H2 hi ⟨ps, v2, v3, v4, v5, rfl, hw, hlen, hP, hp2, k2⟩
      -- aboves
      refine ⟨(by show 1 ≤ sizeLine; decide), fun a ha => ?_⟩
      have h1 : PairsAt (upd H2 a (.lst [.str sF])) l ps := hP.keep (ex := []) (Keep.new ha) nin0 (fun _ z => absurd z nin0)
      obtain ⟨xs, el⟩ := h1.some
      refine ⟨_, rfl, l, rfl, ⟨_, SqL.of el⟩, fun D hD => ?_⟩
      refine names_run (K := K) (i := 4) (j := 5) h1 hD (by omega) (fun _ _ => rfl) (fun _ _ => rfl) fun H3 e3 k3 => ?_
      have ea : H3 a = some (.lst [.str sF]) := k3.at upd_same nin0
      refine ⟨a, D, _, _, rfl, rfl, ea, e3, ?_, fun b hb => ?_⟩
      · show ([V.str sF] : List V).length + _ ≤ sizeLine
        rw [List.length_map, List.length_map]
        exact Nat.le_trans (by show 1 + ps.length ≤ 1000; omega) (by decide)
      have k4 : Keep [] H2 (upd H3 b (.lst ([V.str sF] ++ (ps.map Prod.fst).map V.str))) := ((Keep.new ha).trans k3).newTo hb
      generalize hH4 : upd H3 b (.lst ([V.str sF] ++ (ps.map Prod.fst).map V.str)) = H4 at k4
      have eb4 : H4 b = some (.lst ((sF :: ps.map Prod.fst).map V.str)) := by rw [← hH4, upd_same]; rfl
      -- name
      refine ⟨_, rfl, ?_⟩
      refine ⟨(by show 1 ≤ sizeLine; decide), fun c hc => ?_⟩
      have nbc : b ≠ c := ne_of_none eb4 hc
      refine ⟨_, rfl, c, b, _, _, rfl, rfl, upd_same, by rw [upd_ne nbc]; exact eb4, ?_, fun t ht => ?_⟩
      · show ([V.str sS] : List V).length + _ ≤ sizeLine
        have e9 : ([V.str sS] : List V).length + ((sF :: ps.map Prod.fst).map V.str).length = ps.length + 2 := by simp; omega
        exact Nat.le_trans (Nat.le_of_eq e9) (Nat.le_trans (by omega : ps.length + 2 ≤ 1000) (by decide))
      have k5 : Keep [] H2 (upd (upd H4 c (.lst [.str sS])) t (.lst ([V.str sS] ++ (sF :: ps.map Prod.fst).map V.str))) := (k4.newTo hc).newTo ht
      have eb5 : upd (upd H4 c (.lst [.str sS])) t (.lst ([V.str sS] ++ (sF :: ps.map Prod.fst).map V.str)) b = some (.lst ((sF :: ps.map Prod.fst).map V.str)) := by
        have nbt : b ≠ t := ne_of_none (show upd H4 c (.lst [.str sS]) b = _ by rw [upd_ne nbc]; exact eb4) ht
        rw [upd_ne nbt, upd_ne nbc]
        exact eb4
      have hp5 := hp2.keep k5 nin0
      obtain ⟨x2, ep2⟩ := hp2.some
      have ntp : t ≠ p := Ne.symm (Keep.ne (k4.newTo hc) ep2 nin0 ht)
      have nbp : b ≠ p := fun z => by
        rw [z] at hb
        exact absurd rfl (Keep.ne ((Keep.new ha).trans k3) ep2 nin0 hb)
      refine ⟨p, t, n + 2 + 10 * i, sS :: sF :: ps.map Prod.fst, rfl, hp5, by omega, upd_same, ntp, by rw [List.length_cons, List.length_cons, List.length_map]; omega, fun z H6 hz hz2 k6 hp6 => ?_⟩
      have eb6 := k6.at eb5 (nin1 nbp)
      have hl6 : PairsAt H6 l ps := (hP.keep k5 nin0 (fun _ z => absurd z nin0)).keep k6 (nin1 nlp) (lst_ex (k5.at ep2 nin0))
      obtain ⟨as, el6, tl6⟩ := hl6
      -- append
      refine ⟨_, rfl, .inl ⟨rfl, _, SqL.of el6⟩, _, rfl, _, rfl, _, rfl, _, rfl, b, _, rfl, .inl (SqL.of eb6), p, n + 2 + 10 * i + 9, _, rfl, hp6, by omega, ?_, ?_, fun e H7 e0 e1 hk7 hp7 => ?_⟩
      · rw [List.length_map, List.length_cons]; omega
      · rw [List.length_map, List.length_cons, List.length_map]; omega
      · rw [List.length_map] at e1
        obtain ⟨y, hy, hy2, hy3⟩ := digit_in (l := sF :: ps.map Prod.fst) e0 e1
        have k7 : Keep [p] H6 H7 := keep_of_dig hk7
        refine ⟨b, _, e, .str y, rfl, rfl, SqL.of (k7.at eb6 (nin1 nbp)), ?_, (by show 2 ≤ sizeLine; decide), fun g hg => ?_⟩
        · rw [← hy3]
          exact atI_nat (by rw [List.getElem?_map, hy2]; rfl)
        have el7 : H7 l = some (.lst (as.map V.ref)) := k7.at el6 (nin1 nlp)
        have nlg : l ≠ g := ne_of_none el7 hg
        refine ⟨l, _, _, rfl, rfl, by rw [upd_ne nlg]; exact el7, ?_, ?_⟩
        · rw [List.length_map, tl6.len]
          exact Nat.lt_of_le_of_lt (by omega : ps.length ≤ 1000) (by decide)
        obtain ⟨x6, ep6⟩ := hp6.some
        have tl7 : TupsAt H7 as ps := tl6.map fun a xs q => k7.tup (lst_ex ep6) q
        have tl8 : TupsAt (upd (upd H7 g (.tup [.str z, .str y])) l (.lst (as.map V.ref ++ [V.ref g]))) (as ++ [g]) (ps ++ [(z, y)]) := by
          refine TupsAt.snoc (by rw [upd_ne nlg.symm, upd_same]) (tl7.map fun a xs q => ?_)
          rw [upd_ne (ne_of q el7 (fun z => nomatch z)), upd_ne (ne_of_none q hg)]
          exact q
        refine ⟨ps ++ [(z, y)], _, _, _, _, rfl, .snoc hw hz hz2 hy, by rw [List.length_append, hlen]; rfl, ⟨as ++ [g], by rw [upd_same, List.map_append]; rfl, tl8⟩, ?_, ?_⟩
        · obtain ⟨x7, ep7⟩ := hp7.some
          have hp8 : PotAt (upd (upd H7 g (.tup [.str z, .str y])) l (.lst (as.map V.ref ++ [V.ref g]))) p (n + 2 + 10 * i + 9 + 1) :=
            (hp7.keep (ex := []) (Keep.new hg) nin0).keep (ex := [l]) (Keep.own in1) (nin1 nlp.symm)
          exact hp8.le (by omega)
        · exact (((((k2.trans (k5.more fun _ q => absurd q nin0)).trans k6).trans k7).newTo hg).freshTo hl)
    · rintro σ H2 ⟨ps, v2, v3, v4, v5, rfl, hw, hlen, hP, hp2, k2⟩
      exact ⟨_, rfl, kk l ps H2 hl hw (by omega) hP k2 (hp2.le (by omega))⟩
end
end Fs
/-! What is a whole number, a text, a name; the kinds. -/
namespace Fs
open PySem L2 TL
abbrev sIsText : Stmt := top 1
abbrev sIsName : Stmt := top 2
theorem scIsText : FnScope ["thing"] ["thing"] (defScope sIsText) := ⟨rfl, rfl, rfl, by decide +kernel, rfl, by decide +kernel, by decide +kernel⟩
theorem scIsName : FnScope ["thing"] ["thing"] (defScope sIsName) := ⟨rfl, rfl, rfl, by decide +kernel, rfl, by decide +kernel, by decide +kernel⟩
def spWhole : Sp := fun vs H Q _ => ∃ i : Int, vs = [.int i] ∧ Q (.bl true) H
def spIsText : Sp := fun vs H Q _ => ∃ z : Str, vs = [.str z] ∧ Q (.bl true) H
def spIsName (Pt : Addr) : Sp := fun vs H Q _ => ∃ z : Str, vs = [.str z] ∧ IsNm z ∧ GxR.TabG H Pt ∧ ∀ H2, GxR.Tabbed Pt H H2 → Q (.bl true) H2
/-- 'a' <= sign <= 'z' -/
def pbN (c : Nat) : Bool := (!decide ([c] < (Str.ofString "a").cps.toList)) && (!decide ((Str.ofString "z").cps.toList < [c]))
theorem one_lt {a b : Nat} : ([a] < [b]) ↔ a < b := by
  constructor
  · intro h
    cases h with
    | rel h => exact h
    | cons h => cases h
  · intro h
    exact List.Lex.rel h
theorem pbN_small {c : Nat} (h : small c = true) : pbN c = true := by
  unfold small at h
  simp only [Bool.and_eq_true, decide_eq_true_eq] at h
  have ea : (Str.ofString "a").cps.toList = [97] := by decide +kernel
  have ez : (Str.ofString "z").cps.toList = [122] := by decide +kernel
  have h1 : ¬ ([c] < [97]) := fun q => by have := one_lt.mp q; omega
  have h2 : ¬ ([122] < [c]) := fun q => by have := one_lt.mp q; omega
  unfold pbN
  rw [ea, ez, decide_eq_false h1, decide_eq_false h2]
  rfl
theorem elt_name {prog : Program} {w : World} {scope : Scope} {x : Str} {j1 j2 : Nat} {p1 p2 p3 p4 : Pos} (hk : scope.kind = .function) (hl : scope.names.lookup x = some .local) (hd : (x == ("__debug__" : Str)) = false := by decide) :
    GxR.EltP prog w scope x (.Compare (.Constant (.str "a") j1 p1) [.LtE, .LtE] [.Name x p2, .Constant (.str "z") j2 p3] p4) pbN := by
  intro cenv A' E' c t s₂ m₂ hs hn hm
  have name : ∀ (s : Shared) (Q : Value → Shared → Prop), s.heap.Ns cenv.locals m₂ → Q (.str ⟨#[c]⟩ t) s → wpAny (model prog w) A' (eval (.Name x p2) cenv) Q E' s := fun s Q hn' h =>
    wpAny_Name (wpAny_loadName_local (by rw [hs]; exact hk) (show cenv.scope.names.lookup x = some .local by rw [hs]; exact hl) hn' hm h) hd
  refine PyProof.Rows.Compare_chain (PySem.Calls.Constant_str (PyProof.Rows.chain_link (name _ _ hn (PySem.P.le_str ?_)))) (by with_unfolding_all rfl)
  refine wpAny_truthy_bool ?_
  by_cases h : [c] < (Str.ofString "a").cps.toList
  · have e : pbN c = false := by unfold pbN; rw [decide_eq_true h]; rfl
    have e2 : (!decide ((Str.mk #[c]).cps.toList < (Str.ofString "a").cps.toList)) = false := by
      show (!decide ([c] < _)) = false
      rw [decide_eq_true h]; rfl
    rw [e2]
    exact PyProof.Rows.ite_ff ⟨by rw [e], GxR.keeps_tok _ _⟩
  · have e2 : (!decide ((Str.mk #[c]).cps.toList < (Str.ofString "a").cps.toList)) = true := by
      show (!decide ([c] < _)) = true
      rw [decide_eq_false h]; rfl
    rw [e2]
    refine PyProof.Rows.ite_tt (PyProof.Rows.chain_last (PySem.Calls.Constant_str (PySem.P.le_str ⟨?_, GxR.keeps_tok _ _⟩)))
    · have e : pbN c = (!decide ((Str.ofString "z").cps.toList < [c])) := by unfold pbN; rw [decide_eq_false h]; rfl
      rw [e]
section
variable {P : Program} {w : World} {K : PySem.W.Frag} {mg : Str → Option Value} {base : Heap}
theorem ok_isText {f : Addr} {fd : FuncData} (F : Fun K "is_text" "is_text" sIsText f fd) (mI : mg "isinstance" = none) (mS : mg "str" = none) : FnOk P w K mg base CX0 1 f fd ["thing"] spIsText := by
  refine F.ok scIsText (fun vs H Q E h => ?_) (fun cdv A outer s H vs Q E hr h => ?_)
  · obtain ⟨i, rfl, _⟩ := h
    rfl
  · obtain ⟨i, rfl, kk⟩ := h
    refine ⟨_, pss_one (ps_ret (pe_callB call_isi (by rfl) mI (by decide +kernel) (pa_cons (pv 0) (pa_cons (pe_bltn (v := .ty "str") (u := .type "str") (by rfl) mS (by decide +kernel) rfl) pa_nil)))), ?_⟩
    exact ⟨_, rfl, _, _, _, _, _, rfl, .ty "str", .base (.str i), kit_ty (r := true) (by decide +kernel), kk⟩
theorem ok_isName {f fT c Pt : Addr} {fdT : FuncData} {oc dV kV doc pm ct : Value} {an od : Option Addr} {osl : Array (Option Value)} (lk : K.lookup f = some ⟨oc, od, .func (PySem.W.fnOf "is_name" "is_name" (defArgs sIsName) (defBody sIsName) (defScope sIsName) dV kV doc pm an (.ref c) ct), osl⟩) (hcd : PySem.W.codeIn K (.ref c) "is_name" = true)
    (TB : GxR.TabB base mg c Pt) (FT : FnOk P w K mg base CX0 1 fT fdT ["thing"] spIsText) (mT : mg "is_text" = some (.ref fT)) (kT : PySem.W.keepIn K (.ref fT) = true) (bT : Binds K fdT ["thing"] []) (mL : mg "len" = none) (mA : mg "all" = none) :
    FnOk P w K mg base CX0 2 f (PySem.W.fnOf "is_name" "is_name" (defArgs sIsName) (defBody sIsName) (defScope sIsName) dV kV doc pm an (.ref c) ct) ["thing"] (spIsName Pt) := by
  refine fn_of (CX := CX0) lk hcd scIsName (fun vs H Q E h => ?_) (fun A outer s H vs Q E hr h => ?_)
  · obtain ⟨z, rfl, _⟩ := h
    rfl
  · obtain ⟨z, rfl, ⟨h1, h2, h3⟩, hT, kk⟩ := h
    refine ⟨_, PSs.nox (pss_one (ps_ret (pe_and (pe_call FT hr rfl mT kT bT .nil pass0 (pa_cons (pv 0) pa_nil)) (pe_and (pe_chain op_le op_le pe_int (pe_callB call_len_str (by rfl) mL PySem.boot_len (pa_cons (pv 0) pa_nil)) pe_int)
      (pe_one (GxR.pe_allS hr (by rfl) mA (by decide +kernel) TB rfl ⟨rfl, rfl, by decide +kernel, rfl, rfl, fun y hy e => ?_⟩ (pv 0) (elt_name rfl rfl) (fun v => rfl))))))), ?_⟩
    · have q : ∀ y ∈ ([((".0" : Str), NameKind.local), (("sign" : Str), NameKind.local)] : List (Str × NameKind)), y.2 = NameKind.free → False := by decide
      exact (q y hy e).elim
    have hzl : z.length = z.cps.toList.length := by simp [Str.length]
    refine ⟨_, rfl, z, rfl, true, rfl, iteT ?_⟩
    refine ⟨_, rfl, z, rfl, Nat.le_of_lt (Nat.lt_of_lt_of_le (by omega : z.length < 1000) (by decide)), _, _, rfl, rfl, _, rfl, ?_⟩
    rw [decide_eq_true (show (1 : Int) ≤ (z.length : Int) by omega)]
    refine iteT ⟨_, _, rfl, rfl, _, rfl, ?_⟩
    rw [decide_eq_true (show (z.length : Int) ≤ (8 : Int) by omega)]
    refine iteT ⟨_, rfl, z, rfl, hT, fun H2 hH => ?_⟩
    have ea : z.cps.toList.all pbN = true := List.all_eq_true.mpr fun c hc => pbN_small (h3 c hc)
    rw [ea]
    exact kk H2 hH
end
end Fs
/-! The class of kinds. -/
namespace Fs
open PySem L2 TL
abbrev sKInit : Stmt := inClass (top 15) 0
abbrev sIsKind : Stmt := inClass (top 15) 2
abbrev sChkNew : Stmt := inClass (top 15) 6
theorem scKInit : FnScope ["self", "pairs", "name", "above"] ["self", "pairs"] (defScope sKInit) := ⟨rfl, rfl, rfl, by decide +kernel, rfl, by decide +kernel, by decide +kernel⟩
theorem scIsKind : FnScope ["self", "thing"] ["self", "thing"] (defScope sIsKind) := ⟨rfl, rfl, rfl, by decide +kernel, rfl, by decide +kernel, by decide +kernel⟩
theorem scChkNew : FnScope ["self", "name", "above"] ["self", "name", "above"] (defScope sChkNew) := ⟨rfl, rfl, rfl, by decide +kernel, rfl, by decide +kernel, by decide +kernel⟩
/-- what a kinds' dict holds -/
def kvsOf (ps : List (Str × Str)) : List (Key × V) := [(.inr sF, .non), (.inr sS, .str sF)] ++ ps.map fun q => (.inr q.1, .str q.2)
theorem sFS : ¬ sF = sS := by decide +kernel
theorem kvs_some (z : Str) : ∀ ps : List (Str × Str), (valV (ps.map fun q => ((.inr q.1 : Key), V.str q.2)) (.inr z)).isSome = decide (z ∈ ps.map Prod.fst)
  | [] => rfl
  | q :: r => by
    rw [List.map_cons, List.map_cons]
    by_cases h : q.1 = z
    · rw [valV_pos (by rw [h]), decide_eq_true (by rw [h]; exact List.mem_cons_self)]
      rfl
    · rw [valV_neg (fun e => h (Sum.inr.inj e)), kvs_some z r]
      have h2 : ¬ z = q.1 := fun e => h e.symm
      simp only [List.mem_cons, h2, false_or]
theorem kvs_is (z : Str) (ps : List (Str × Str)) : (valV (kvsOf ps) (.inr z)).isSome = decide (z ∈ sF :: sS :: ps.map Prod.fst) := by
  show (valV ((.inr sF, V.non) :: (.inr sS, V.str sF) :: ps.map fun q => ((.inr q.1 : Key), V.str q.2)) (.inr z)).isSome = _
  by_cases h : sF = z
  · rw [valV_pos (by rw [h]), decide_eq_true (by rw [h]; exact List.mem_cons_self)]
    rfl
  · rw [valV_neg (fun e => h (Sum.inr.inj e))]
    have h' : ¬ z = sF := fun e => h e.symm
    by_cases h2 : sS = z
    · rw [valV_pos (by rw [h2]), decide_eq_true (by rw [h2]; exact List.mem_cons_of_mem _ List.mem_cons_self)]
      rfl
    · have h2' : ¬ z = sS := fun e => h2 e.symm
      rw [valV_neg (fun e => h2 (Sum.inr.inj e)), kvs_some]
      simp only [List.mem_cons, h', h2', false_or]
theorem kvs_put {z y : Str} {ps : List (Str × Str)} (h : z ∉ sF :: sS :: ps.map Prod.fst) : putK (kvsOf ps) (.inr z) (.str y) = kvsOf (ps ++ [(z, y)]) := by
  have hn : ((kvsOf ps).any fun kv => decide (kv.1 = (.inr z : Key))) = false := by
    rw [List.any_eq_false]
    intro kv hkv e
    have e' := of_decide_eq_true e
    rcases List.mem_append.mp hkv with m | m
    · rcases List.mem_cons.mp m with m | m
      · rw [m] at e'
        exact h (by rw [← Sum.inr.inj e']; exact List.mem_cons_self)
      · rw [List.mem_singleton.mp m] at e'
        exact h (by rw [← Sum.inr.inj e']; exact List.mem_cons_of_mem _ List.mem_cons_self)
    · obtain ⟨q, hq, rfl⟩ := List.mem_map.mp m
      exact h (by rw [← Sum.inr.inj e']; exact List.mem_cons_of_mem _ (List.mem_cons_of_mem _ (List.mem_map.mpr ⟨q, hq, rfl⟩)))
  unfold putK
  rw [hn, if_neg Bool.false_ne_true]
  unfold kvsOf
  rw [List.map_append, ← List.append_assoc]
  rfl
theorem kvs_len (ps : List (Str × Str)) : (kvsOf ps).length = ps.length + 2 := by
  unfold kvsOf
  rw [List.length_append, List.length_map]
  show 2 + ps.length = _
  omega
/-- kinds of these pairs at kd, its dict at d -/
def KindsAt (C : Addr) (H : Hp) (kd : Addr) (ps : List (Str × Str)) : Prop := ∃ dx d, H kd = some (.ins C dx [("_above", .ref d)]) ∧ H d = some (.dK (kvsOf ps))
theorem ab_look (v : V) : ([(("_above" : Str), v)] : List (Str × V)).lookup ("_above" : Str) = some v := by simp [List.lookup]
theorem ab_no (v : V) {m : Str} (h : ¬ m = "_above") : ([(("_above" : Str), v)] : List (Str × V)).lookup m = none := by
  have e : (m == ("_above" : Str)) = false := by simpa using h
  simp [List.lookup, e]
theorem KindsAt.keep {C : Addr} {ex : List Addr} {H H' : Hp} {kd : Addr} {ps : List (Str × Str)} (h : KindsAt C H kd ps) (k : Keep ex H H') (hx : ∀ b ∈ ex, ∃ o, H b = some o ∧ (∀ C dx fs, o ≠ .ins C dx fs) ∧ ∀ kvs, o ≠ .dK kvs) : KindsAt C H' kd ps := by
  obtain ⟨dx, d, e1, e2⟩ := h
  refine ⟨dx, d, k.at e1 fun z => ?_, k.at e2 fun z => ?_⟩
  · obtain ⟨o, e, n, _⟩ := hx _ z
    rw [e1] at e
    exact n _ _ _ (Option.some.inj e).symm
  · obtain ⟨o, e, _, n⟩ := hx _ z
    rw [e2] at e
    exact n _ (Option.some.inj e).symm
/-- the class's own text -/
structure KTxt (K : PySem.W.Frag) (mg : Str → Option Value) (C fI fK fN : Addr) : Prop where
  cl : Cls K C
  nA : NoAttr K C "_above"
  mK : Meth K C "is_kind" fK
  mN : Meth K C "_check_new" fN
/-- a new object is told the pairs -/
def spKInit (C Pt : Addr) : Sp := fun vs H Q _ => ∃ (p l dx : Addr) (ps : List (Str × Str)), vs = [.ref p, .ref l] ∧ H p = some (.ins C dx []) ∧ PairsAt H l ps ∧ Wf ps ∧ ps.length ≤ 30 ∧ GxR.TabG H Pt ∧
  ∀ H' : Hp, Keep [p, Pt] H H' → KindsAt C H' p ps → GxR.TabG H' Pt → Q .non H'
theorem Wf.not_sheaf {ps : List (Str × Str)} (h : Wf ps) : ∀ y ∈ sF :: ps.map Prod.fst, ¬ y = sS := by
  induction h with
  | nil =>
    intro y hy e
    rw [List.mem_singleton.mp hy] at e
    exact sFS e
  | @snoc ps z y hw hz hn hy ih =>
    intro x hx e
    rw [List.map_append] at hx
    rcases List.mem_cons.mp hx with q | q
    · exact ih x (by rw [q]; exact List.mem_cons_self) e
    · rcases List.mem_append.mp q with q | q
      · exact ih x (List.mem_cons_of_mem _ q) e
      · have e2 : x = z := by simpa using q
        exact hn (by rw [← e2, e]; exact List.mem_cons_self)
/-- the first pairs, and the next one -/
theorem Wf.step {ps : List (Str × Str)} (h : Wf ps) : ∀ {i : Nat} {q : Str × Str}, ps[i]? = some q → IsNm q.1 ∧ q.1 ∉ sF :: sS :: (ps.take i).map Prod.fst ∧ q.2 ∈ sF :: (ps.take i).map Prod.fst := by
  induction h with
  | nil => intro i q e; simp at e
  | @snoc ps z y hw hz hn hy ih =>
    intro i q e
    by_cases hi : i < ps.length
    · rw [List.getElem?_append_left hi] at e
      rw [List.take_append_of_le_length (Nat.le_of_lt hi)]
      exact ih e
    · have hi2 : i = ps.length := by
        have := (List.getElem?_eq_some_iff.mp e).1
        rw [List.length_append, List.length_singleton] at this
        omega
      subst hi2
      rw [List.getElem?_append_right (Nat.le_refl _), Nat.sub_self] at e
      have e' : (z, y) = q := by simpa using e
      subst e'
      rw [List.take_left]
      refine ⟨hz, fun m => hn ?_, hy⟩
      rcases List.mem_cons.mp m with m | m
      · exact (show z = sF from m) ▸ List.mem_cons_of_mem _ List.mem_cons_self
      · rcases List.mem_cons.mp m with m | m
        · exact (show z = sS from m) ▸ List.mem_cons_self
        · exact List.mem_cons_of_mem _ (List.mem_cons_of_mem _ m)
def spIsKind (C : Addr) : Sp := fun vs H Q _ => ∃ (kd : Addr) (z : Str) (ps : List (Str × Str)), vs = [.ref kd, .str z] ∧ KindsAt C H kd ps ∧ Q (.bl (decide (z ∈ sF :: sS :: ps.map Prod.fst))) H
def spChkNew (C Pt : Addr) : Sp := fun vs H Q _ => ∃ (kd : Addr) (z y : Str) (ps : List (Str × Str)), vs = [.ref kd, .str z, .str y] ∧ KindsAt C H kd ps ∧ IsNm z ∧ z ∉ sF :: sS :: ps.map Prod.fst ∧ y ∈ sF :: ps.map Prod.fst ∧ ¬ y = sS ∧ GxR.TabG H Pt ∧ ∀ H2, GxR.Tabbed Pt H H2 → Q .non H2
theorem tab_keep {Pt : Addr} {H H' : Hp} (h : GxR.Tabbed Pt H H') : Keep [Pt] H H' := fun b o hb e => by
  rw [h.2 b (fun z => hb (by rw [z]; exact in1))]
  exact e
theorem tab_ex {H : Hp} {Pt : Addr} (h : GxR.TabG H Pt) : ∀ b ∈ [Pt], ∃ o, H b = some o ∧ (∀ C dx fs, o ≠ .ins C dx fs) ∧ ∀ kvs, o ≠ .dK kvs := fun b hb => by
  obtain ⟨ps, e, _⟩ := h
  rw [List.mem_singleton.mp hb]
  exact ⟨_, e, (fun _ _ _ z => by cases z), fun _ z => by cases z⟩
section
variable {P : Program} {w : World} {K : PySem.W.Frag} {mg : Str → Option Value} {base : Heap} {C fI fK fN : Addr}
theorem ok_isKind {fT : Addr} {fd fdT : FuncData} (F : Fun K "is_kind" "Kinds.is_kind" sIsKind fK fd) (T : KTxt K mg C fI fK fN) (FT : FnOk P w K mg base CX0 1 fT fdT ["thing"] spIsText) (mT : mg "is_text" = some (.ref fT)) (kT : PySem.W.keepIn K (.ref fT) = true) (bT : Binds K fdT ["thing"] []) :
    FnOk P w K mg base CX0 2 fK fd ["self", "thing"] (spIsKind C) := by
  refine F.ok scIsKind (fun vs H Q E h => ?_) (fun cdv A outer s H vs Q E hr h => ?_)
  · obtain ⟨kd, z, ps, rfl, _⟩ := h
    rfl
  · obtain ⟨kd, z, ps, rfl, ⟨dx, d, e1, e2⟩, kk⟩ := h
    refine ⟨_, pss_one (ps_ret (pe_and (pe_call FT hr rfl mT kT bT .nil pass0 (pa_cons (pv 1) pa_nil)) (pe_one (pe_cmp (pc_din (hu_of hr) (pv 1) (pe_fld (pv 0) rfl)) rfl)))), ?_⟩
    refine ⟨_, rfl, z, rfl, true, rfl, iteT ⟨_, rfl, _, rfl, kd, C, dx, _, _, rfl, e1, T.cl, T.nA, ab_look _, d, _, rfl, DGet.k (k := Sum.inr z) e2, ?_⟩⟩
    rw [kvs_is]
    exact kk
theorem ok_chkNew {fM : Addr} {fd fdM fdK : FuncData} {Pt : Addr} (F : Fun K "_check_new" "Kinds._check_new" sChkNew fN fd) (T : KTxt K mg C fI fK fN) (FM : FnOk P w K mg base CX0 2 fM fdM ["thing"] (spIsName Pt)) (mM : mg "is_name" = some (.ref fM)) (kM : PySem.W.keepIn K (.ref fM) = true) (bM : Binds K fdM ["thing"] [])
    (FK : FnOk P w K mg base CX0 2 fK fdK ["self", "thing"] (spIsKind C)) (bK : Binds K fdK ["self", "thing"] []) : FnOk P w K mg base CX0 3 fN fd ["self", "name", "above"] (spChkNew C Pt) := by
  refine F.ok scChkNew (fun vs H Q E h => ?_) (fun cdv A outer s H vs Q E hr h => ?_)
  · obtain ⟨kd, z, y, ps, rfl, _⟩ := h
    rfl
  · obtain ⟨kd, z, y, ps, rfl, hk, hz, hz2, hy, hy2, hT, kk⟩ := h
    refine ⟨_, pss_cons (ps_if (PW.pt (pw_or (pt_not (pt_val (pe_call FM hr rfl mM kM bM .nil pass0 (pa_cons (pv 1) pa_nil)))) (pw_or1 (pt_val (pe_meth (pv 0) T.cl T.mK FK hr bK .nil pass0 (pa_cons (pv 1) pa_nil)))))) (pss_one ps_never) pss_nil)
      (pss_one (ps_if (PW.pt (pw_or (pt_not (pt_val (pe_meth (pv 0) T.cl T.mK FK hr bK .nil pass0 (pa_cons (pv 2) pa_nil)))) (pw_or1 (pt_cmpR op_eq (pv 2) pe_str (nomark _))))) (pss_one ps_never) pss_nil)), ?_⟩
    refine ⟨_, rfl, z, rfl, hz, hT, fun H2 hH => ⟨true, rfl, iteF ?_⟩⟩
    have hk2 := hk.keep (tab_keep hH) (tab_ex hT)
    obtain ⟨dx, d, e1, e2⟩ := id hk2
    have noK : ([(("_above" : Str), V.ref d)] : List (Str × V)).lookup ("is_kind" : Str) = none := ab_no _ (by decide +kernel)
    refine ⟨_, rfl, kd, dx, _, rfl, e1, noK, _, rfl, kd, z, ps, rfl, hk2, _, rfl, ?_⟩
    rw [decide_eq_false hz2]
    refine iteF ?_
    refine ⟨_, rfl, kd, dx, _, rfl, e1, noK, _, rfl, kd, y, ps, rfl, hk2, _, rfl, ?_⟩
    have hy3 : y ∈ sF :: sS :: ps.map Prod.fst := by
      rcases List.mem_cons.mp hy with q | q
      · rw [q]; exact List.mem_cons_self
      · exact List.mem_cons_of_mem _ (List.mem_cons_of_mem _ q)
    rw [decide_eq_true hy3]
    refine iteF ⟨_, rfl, rfl, _, rfl, ?_⟩
    rw [decide_eq_false (fun e => hy2 (V.str.inj e))]
    exact iteF (kk H2 hH)
theorem ok_kInit {fd fdN : FuncData} {Pt : Addr} (F : Fun K "__init__" "Kinds.__init__" sKInit fI fd) (T : KTxt K mg C fI fK fN) (FN : FnOk P w K mg base CX0 3 fN fdN ["self", "name", "above"] (spChkNew C Pt)) (bN : Binds K fdN ["self", "name", "above"] []) :
    FnOk P w K mg base CX0 4 fI fd ["self", "pairs"] (spKInit C Pt) := by
  refine F.ok scKInit (fun vs H Q E h => ?_) (fun cdv A outer s H vs Q E hr h => ?_)
  · obtain ⟨p, l, dx, ps, rfl, _⟩ := h
    rfl
  · obtain ⟨p, l, dx, ps, rfl, hp, hP, hw, hlen, hT, kk⟩ := h
    refine ⟨_, pss_cons (ps_fld (pv 0) (pe_disp (pps_cons pe_str pe_non (pps_cons pe_str pe_str pps_nil)) (by rfl) (by rfl) (fun z => by cases z) (by decide)) rfl)
      (pss_one (ps_for PassesOwn.never rfl (pi_list (pv 1)) (pg_tup rfl (pgs_cons (pg_name (i := 2) scKInit.nd rfl (Or.inl rfl)) (pgs_cons (pg_name (i := 3) scKInit.nd rfl (Or.inl rfl)) pgs_nil)))
        (pss_cons (ps_expr (pe_meth (pv 0) T.cl T.mN FN hr bN .nil pass0 (pa_cons (pv 2) (pa_cons (pv 3) pa_nil)))) (pss_one (ps_dput (hu_of hr) (pe_fld (pv 0) rfl) (pv 2) (pv 3) rfl))))), ?_⟩
    intro d hd
    refine ⟨upd_same, kvsOf [], rfl, by decide, ?_⟩
    have npd : p ≠ d := ne_of_none hp hd
    have eK : mergeK [] (kvsOf []) = kvsOf [] := by decide +kernel
    rw [eK, upd_upd]
    refine ⟨_, rfl, p, C, dx, [], rfl, by rw [upd_ne npd]; exact hp, T.cl, T.nA, by decide, ?_⟩
    have k0 : Keep [p, Pt] H (upd (upd H d (.dK (kvsOf []))) p (.ins C dx [("_above", .ref d)])) := (Keep.new hd).ownTo List.mem_cons_self
    obtain ⟨as, el, tl⟩ := hP
    obtain ⟨tb, et, ht⟩ := hT
    have nlp : l ≠ p := ne_of el hp (fun z => nomatch z)
    have nlT : l ≠ Pt := ne_of el et (fun z => nomatch z)
    have nld : l ≠ d := ne_of_none el hd
    have npT : p ≠ Pt := ne_of hp et (fun z => nomatch z)
    have ndT : d ≠ Pt := fun z => by rw [z, et] at hd; cases hd
    have nlx : l ∉ [p, Pt] := fun z => by
      rcases List.mem_cons.mp z with z | z
      · exact nlp z
      · exact nlT (List.mem_singleton.mp z)
    have tx : ∀ a xs, H a = some (.tup xs) → a ∉ [p, Pt] := fun a xs q z => by
      rcases List.mem_cons.mp z with z | z
      · rw [z, hp] at q; cases q
      · rw [List.mem_singleton.mp z, et] at q; cases q
    refine ⟨_, rfl, l, rfl, ⟨_, SqL.of (k0.at el nlx)⟩, for_list (K := K) (a := l) (xs := as.map V.ref) (fun i σ H' => ∃ v2 v3 : Option V, σ = [some (.ref p), some (.ref l), v2, v3] ∧ Keep [p, Pt] H H' ∧ H' p = some (.ins C dx [("_above", .ref d)]) ∧ H' d = some (.dK (kvsOf (ps.take i))) ∧ GxR.TabG H' Pt)
      ⟨none, none, rfl, k0, upd_same, by rw [upd_ne npd.symm, upd_same]; rfl, ⟨tb, by rw [upd_ne npT.symm, upd_ne ndT.symm]; exact et, ht⟩⟩
      (fun i σ H' _ ⟨_, _, _, k, _⟩ => SqL.of (k.at el nlx)) ?_ ?_⟩
    · rintro i x σ H1 hx ⟨v2, v3, rfl, k1, e1, e2, hT1⟩
      obtain ⟨a, ha, rfl⟩ : ∃ a, as[i]? = some a ∧ x = V.ref a := by
        rw [List.getElem?_map] at hx
        cases q : as[i]? with
        | none => rw [q] at hx; cases hx
        | some a => rw [q] at hx; exact ⟨a, rfl, (Option.some.inj hx).symm⟩
      obtain ⟨q, hq2, hta⟩ := tl.at ha
      obtain ⟨w1, w2, w3⟩ := hw.step hq2
      have hns := hw.not_sheaf
      have hta1 : H1 a = some (.tup [.str q.1, .str q.2]) := k1.at hta (tx a _ hta)
      refine ⟨a, _, rfl, SqT.of hta1, rfl, _, _, rfl, _, _, rfl, rfl, ?_⟩
      have noN : ([(("_above" : Str), V.ref d)] : List (Str × V)).lookup ("_check_new" : Str) = none := ab_no _ (by decide +kernel)
      have hy : ¬ q.2 = sS := by
        refine hns q.2 ?_
        rcases List.mem_cons.mp w3 with m | m
        · rw [m]; exact List.mem_cons_self
        · obtain ⟨u, hu, eu⟩ := List.mem_map.mp m
          exact List.mem_cons_of_mem _ (List.mem_map.mpr ⟨u, List.mem_of_mem_take hu, eu⟩)
      refine ⟨_, rfl, p, dx, _, rfl, e1, noN, _, rfl, _, rfl, p, q.1, q.2, ps.take i, rfl, ⟨dx, d, e1, e2⟩, w1, w2, w3, hy, hT1, fun H2 hH => ?_⟩
      have k2 := tab_keep hH
      have e12 : H2 p = some (.ins C dx [("_above", .ref d)]) := k2.at e1 (nin1 npT)
      have e22 : H2 d = some (.dK (kvsOf (ps.take i))) := k2.at e2 (nin1 ndT)
      have hil : i < ps.length := (List.getElem?_eq_some_iff.mp hq2).1
      refine ⟨_, rfl, _, rfl, p, C, dx, _, _, rfl, e12, T.cl, T.nA, ab_look _, ?_⟩
      have hlk : (kvsOf (ps.take i)).length < sizeLine := by
        rw [kvs_len, List.length_take]
        exact Nat.lt_of_lt_of_le (by omega : min i ps.length + 2 < 1000) (by decide)
      refine ⟨_, rfl, d, _, rfl, DPut.k (k := Sum.inr q.1) e22 hlk, ?_⟩
      have eT : ps.take (i + 1) = ps.take i ++ [(q.1, q.2)] := by rw [List.take_add_one, hq2]; rfl
      rw [kvs_put w2, ← eT]
      refine ⟨_, _, rfl, ((k1.trans (k2.more fun b hb => List.mem_cons_of_mem _ hb)).freshTo hd), by rw [upd_ne npd]; exact e12, upd_same, ?_⟩
      obtain ⟨tb2, et2, ht2⟩ := hH.1
      exact ⟨tb2, by rw [upd_ne ndT.symm]; exact et2, ht2⟩
    · rintro σ H1 ⟨v2, v3, rfl, k1, e1, e2, hT1⟩
      rw [List.length_map, tl.len, List.take_length] at e2
      exact kk H1 k1 ⟨dx, d, e1, e2⟩ hT1
end
end Fs
/-! The ledger: what it holds. -/
namespace Fs
open PySem L2 TL
/-- a fault -/
structure Ent where
  kind : Str
  text : Str
  mem : List Nat
  notes : List Str
  cause : Option Nat
  atw : Option Nat
def optV : Option Nat → V
  | none => .non
  | some k => .int (k : Int)
/-- where a ledger's own lists stand -/
structure LA where
  dx : Addr
  kd : Addr
  l1 : Addr
  l2 : Addr
  l3 : Addr
  l4 : Addr
  l5 : Addr
  l6 : Addr
def LA.ls (A : LA) : List Addr := [A.l1, A.l2, A.l3, A.l4, A.l5, A.l6]
def fldsL (A : LA) : List (Str × V) := [("_kinds", .ref A.kd), ("_kind_of", .ref A.l1), ("_text_of", .ref A.l2), ("_members_of", .ref A.l3), ("_notes_of", .ref A.l4), ("_cause_of", .ref A.l5), ("_at_work_of", .ref A.l6)]
theorem fl0 (A : LA) : (fldsL A).lookup ("_kinds" : Str) = some (.ref A.kd) := rfl
theorem fl1 (A : LA) : (fldsL A).lookup ("_kind_of" : Str) = some (.ref A.l1) := rfl
theorem fl2 (A : LA) : (fldsL A).lookup ("_text_of" : Str) = some (.ref A.l2) := rfl
theorem fl3 (A : LA) : (fldsL A).lookup ("_members_of" : Str) = some (.ref A.l3) := rfl
theorem fl4 (A : LA) : (fldsL A).lookup ("_notes_of" : Str) = some (.ref A.l4) := rfl
theorem fl5 (A : LA) : (fldsL A).lookup ("_cause_of" : Str) = some (.ref A.l5) := rfl
theorem fl6 (A : LA) : (fldsL A).lookup ("_at_work_of" : Str) = some (.ref A.l6) := rfl
theorem flno (A : LA) : (fldsL A).lookup ("_check_fault" : Str) = none := rfl
/-- a list of tuples of whole numbers, as the faults have them -/
def MemsAt (H : Hp) : List Addr → List Ent → Prop
  | [], [] => True
  | a :: as, e :: es => H a = some (.tup (e.mem.map fun k : Nat => V.int (k : Int))) ∧ MemsAt H as es
  | _, _ => False
def NotesAt (H : Hp) : List Addr → List Ent → Prop
  | [], [] => True
  | a :: as, e :: es => H a = some (.lst (e.notes.map V.str)) ∧ NotesAt H as es
  | _, _ => False
theorem MemsAt.map {H H' : Hp} (k : ∀ a xs, H a = some (.tup xs) → H' a = some (.tup xs)) : ∀ {as : List Addr} {es : List Ent}, MemsAt H as es → MemsAt H' as es
  | [], [], _ => True.intro
  | _ :: as, _ :: es, h => ⟨k _ _ h.1, MemsAt.map k h.2⟩
  | [], _ :: _, h => h.elim
  | _ :: _, [], h => h.elim
theorem MemsAt.len {H : Hp} : ∀ {as : List Addr} {es : List Ent}, MemsAt H as es → as.length = es.length
  | [], [], _ => rfl
  | _ :: as, _ :: es, h => by rw [List.length_cons, List.length_cons, MemsAt.len h.2]
  | [], _ :: _, h => h.elim
  | _ :: _, [], h => h.elim
theorem MemsAt.snoc {H : Hp} {b : Addr} {e : Ent} (hb : H b = some (.tup (e.mem.map fun k : Nat => V.int (k : Int)))) : ∀ {as : List Addr} {es : List Ent}, MemsAt H as es → MemsAt H (as ++ [b]) (es ++ [e])
  | [], [], _ => ⟨hb, True.intro⟩
  | _ :: as, _ :: es, h => ⟨h.1, MemsAt.snoc hb h.2⟩
  | [], _ :: _, h => h.elim
  | _ :: _, [], h => h.elim
theorem MemsAt.at {H : Hp} : ∀ {as : List Addr} {es : List Ent} {i : Nat} {e : Ent}, MemsAt H as es → es[i]? = some e → ∃ a, as[i]? = some a ∧ H a = some (.tup (e.mem.map fun k : Nat => V.int (k : Int)))
  | _, [], _, _, _, q => by simp at q
  | [], _ :: _, _, _, h, _ => h.elim
  | b :: as, f :: es, 0, e, h, q => by
    have e' : f = e := by simpa using q
    subst e'
    exact ⟨b, rfl, h.1⟩
  | b :: as, f :: es, i + 1, e, h, q => MemsAt.at (i := i) h.2 (by simpa using q)
theorem NotesAt.map {H H' : Hp} : ∀ {as : List Addr} {es : List Ent}, (∀ a ∈ as, ∀ xs, H a = some (.lst xs) → H' a = some (.lst xs)) → NotesAt H as es → NotesAt H' as es
  | [], [], _, _ => True.intro
  | _ :: as, _ :: es, k, h => ⟨k _ List.mem_cons_self _ h.1, NotesAt.map (fun a ha => k a (List.mem_cons_of_mem _ ha)) h.2⟩
  | [], _ :: _, _, h => h.elim
  | _ :: _, [], _, h => h.elim
theorem NotesAt.len {H : Hp} : ∀ {as : List Addr} {es : List Ent}, NotesAt H as es → as.length = es.length
  | [], [], _ => rfl
  | _ :: as, _ :: es, h => by rw [List.length_cons, List.length_cons, NotesAt.len h.2]
  | [], _ :: _, h => h.elim
  | _ :: _, [], h => h.elim
theorem NotesAt.snoc {H : Hp} {b : Addr} {e : Ent} (hb : H b = some (.lst (e.notes.map V.str))) : ∀ {as : List Addr} {es : List Ent}, NotesAt H as es → NotesAt H (as ++ [b]) (es ++ [e])
  | [], [], _ => ⟨hb, True.intro⟩
  | _ :: as, _ :: es, h => ⟨h.1, NotesAt.snoc hb h.2⟩
  | [], _ :: _, h => h.elim
  | _ :: _, [], h => h.elim
theorem NotesAt.at {H : Hp} : ∀ {as : List Addr} {es : List Ent} {i : Nat} {e : Ent}, NotesAt H as es → es[i]? = some e → ∃ a, as[i]? = some a ∧ H a = some (.lst (e.notes.map V.str))
  | _, [], _, _, _, q => by simp at q
  | [], _ :: _, _, _, h, _ => h.elim
  | b :: as, f :: es, 0, e, h, q => by
    have e' : f = e := by simpa using q
    subst e'
    exact ⟨b, rfl, h.1⟩
  | b :: as, f :: es, i + 1, e, h, q => NotesAt.at (i := i) h.2 (by simpa using q)
theorem NotesAt.is {H : Hp} : ∀ {as : List Addr} {es : List Ent}, NotesAt H as es → ∀ a ∈ as, ∃ xs, H a = some (.lst xs)
  | [], [], _, _, h => absurd h List.not_mem_nil
  | _ :: as, _ :: es, h, a, m => by
    rcases List.mem_cons.mp m with m | m
    · rw [m]; exact ⟨_, h.1⟩
    · exact NotesAt.is h.2 a m
  | [], _ :: _, h, _, _ => h.elim
  | _ :: _, [], h, _, _ => h.elim
/-- a ledger at p with these faults -/
structure LedAt (C : Addr) (H : Hp) (p : Addr) (A : LA) (ms ns : List Addr) (es : List Ent) : Prop where
  ins : H p = some (.ins C A.dx (fldsL A))
  h1 : H A.l1 = some (.lst (es.map fun e => V.str e.kind))
  h2 : H A.l2 = some (.lst (es.map fun e => V.str e.text))
  h3 : H A.l3 = some (.lst (ms.map V.ref))
  h4 : H A.l4 = some (.lst (ns.map V.ref))
  h5 : H A.l5 = some (.lst (es.map fun e => optV e.cause))
  h6 : H A.l6 = some (.lst (es.map fun e => optV e.atw))
  mems : MemsAt H ms es
  notes : NotesAt H ns es
  nd : (A.ls ++ ns).Nodup
theorem LedAt.isl {C : Addr} {H : Hp} {p : Addr} {A : LA} {ms ns : List Addr} {es : List Ent} (h : LedAt C H p A ms ns es) : ∀ a ∈ A.ls, ∃ xs, H a = some (.lst xs) := by
  intro a ha
  have q : a = A.l1 ∨ a = A.l2 ∨ a = A.l3 ∨ a = A.l4 ∨ a = A.l5 ∨ a = A.l6 := by simpa [LA.ls] using ha
  rcases q with q | q | q | q | q | q <;> rw [q]
  · exact ⟨_, h.h1⟩
  · exact ⟨_, h.h2⟩
  · exact ⟨_, h.h3⟩
  · exact ⟨_, h.h4⟩
  · exact ⟨_, h.h5⟩
  · exact ⟨_, h.h6⟩
/-- what does not touch its lists leaves a ledger as it is -/
theorem LedAt.keep {C : Addr} {H H' : Hp} {p : Addr} {A : LA} {ms ns : List Addr} {es : List Ent} {ex : List Addr} (h : LedAt C H p A ms ns es) (k : Keep ex H H') (hl : ∀ b ∈ ex, b ∉ A.ls ++ ns) (hx : ∀ b ∈ ex, ∃ xs, H b = some (.lst xs)) : LedAt C H' p A ms ns es := by
  have nl : ∀ a ∈ A.ls ++ ns, a ∉ ex := fun a ha z => hl a z ha
  have ni : ∀ o, (∀ xs, o ≠ .lst xs) → ∀ b, H b = some o → b ∉ ex := fun o ho b e z => by
    obtain ⟨xs, q⟩ := hx b z
    rw [e] at q
    exact ho xs (Option.some.inj q)
  have m : ∀ a, a ∈ A.ls → a ∉ ex := fun a ha => nl a (List.mem_append_left _ ha)
  exact ⟨k.at h.ins (ni _ (fun _ z => by cases z) _ h.ins), k.at h.h1 (m _ (by simp [LA.ls])), k.at h.h2 (m _ (by simp [LA.ls])), k.at h.h3 (m _ (by simp [LA.ls])), k.at h.h4 (m _ (by simp [LA.ls])), k.at h.h5 (m _ (by simp [LA.ls])), k.at h.h6 (m _ (by simp [LA.ls])),
    h.mems.map fun a xs q => k.at q (ni _ (fun _ z => by cases z) _ q), h.notes.map fun a ha xs q => k.at q (nl a (List.mem_append_right _ ha)), h.nd⟩
end Fs
/-! The kinds, and what stands under what. -/
namespace Fs
open PySem L2 TL
def upV : Option Str → V
  | none => .non
  | some y => .str y
def dueL (ps : List (Str × Str)) : List (Str × Option Str) := (sF, none) :: (sS, some sF) :: ps.map fun q => (q.1, some q.2)
theorem valV_app {κ : Type} [DecidableEq κ] {l m : List (κ × V)} {k : κ} (h : valV l k = none) : valV (l ++ m) k = valV m k := by
  unfold valV at h ⊢
  rw [List.find?_append]
  have : l.find? (fun kv => decide (kv.1 = k)) = none := by
    cases q : l.find? (fun kv => decide (kv.1 = k)) with
    | none => rfl
    | some v => rw [q] at h; cases h
  rw [this]; rfl
theorem valV_app1 {κ : Type} [DecidableEq κ] {l m : List (κ × V)} {k : κ} {v : V} (h : valV l k = some v) : valV (l ++ m) k = some v := by
  unfold valV at h ⊢
  rw [List.find?_append]
  cases q : l.find? (fun kv => decide (kv.1 = k)) with
  | none => rw [q] at h; cases h
  | some v => rw [q] at h; exact h
theorem kvs_at {ps : List (Str × Str)} (h : Wf ps) : ∀ q ∈ ps, valV (kvsOf ps) (.inr q.1) = some (.str q.2) := by
  induction h with
  | nil => exact fun q h => absurd h List.not_mem_nil
  | @snoc ps z y hw hz hn hy ih =>
    intro q hq
    have e : kvsOf (ps ++ [(z, y)]) = kvsOf ps ++ [(.inr z, .str y)] := by
      unfold kvsOf
      rw [List.map_append, ← List.append_assoc]; rfl
    rw [e]
    rcases List.mem_append.mp hq with w | w
    · exact valV_app1 (ih q w)
    · rw [List.mem_singleton.mp w]
      have no : valV (kvsOf ps) (.inr z) = none := by
        have := kvs_is z ps
        rw [decide_eq_false (fun m => hn (by
          rcases List.mem_cons.mp m with a | a
          · rw [a]; exact List.mem_cons_of_mem _ List.mem_cons_self
          · rcases List.mem_cons.mp a with b | b
            · rw [b]; exact List.mem_cons_self
            · exact List.mem_cons_of_mem _ (List.mem_cons_of_mem _ b)))] at this
        cases r : valV (kvsOf ps) (.inr z) with
        | none => rfl
        | some v => rw [r] at this; cases this
      rw [valV_app no]
      exact valV_pos rfl
theorem due_at {ps : List (Str × Str)} (h : Wf ps) : ∀ q ∈ dueL ps, valV (kvsOf ps) (.inr q.1) = some (upV q.2) := fun q hq => by
  unfold dueL at hq
  rcases List.mem_cons.mp hq with z | z
  · rw [z]; exact valV_pos rfl
  · rcases List.mem_cons.mp z with z | z
    · rw [z]
      show valV ((.inr sF, V.non) :: (.inr sS, V.str sF) :: ps.map fun q => ((.inr q.1 : Key), V.str q.2)) (.inr sS) = _
      rw [valV_neg (fun e => sFS (Sum.inr.inj e))]
      exact valV_pos rfl
    · obtain ⟨r, hr, e⟩ := List.mem_map.mp z
      rw [← e]
      exact kvs_at h r hr

theorem Wf.not_keys {ps : List (Str × Str)} (h : Wf ps) : ∀ x ∈ ps.map Prod.fst, x ≠ sF ∧ x ≠ sS := by
  induction h with
  | nil => exact fun x h => absurd h List.not_mem_nil
  | @snoc ps z y hw hz hn hy ih =>
    intro x hx
    rw [List.map_append] at hx
    rcases List.mem_append.mp hx with v | v
    · exact ih x v
    · have e : x = z := by simpa using v
      rw [e]
      exact ⟨fun q => hn (by rw [q]; exact List.mem_cons_of_mem _ List.mem_cons_self), fun q => hn (by rw [q]; exact List.mem_cons_self)⟩
abbrev allK (ps : List (Str × Str)) : List Str := sF :: sS :: ps.map Prod.fst
def upOf (ps : List (Str × Str)) (x : Str) : Option Str := match valV (kvsOf ps) (.inr x) with
  | some (.str y) => some y
  | _ => none
theorem due_all (ps : List (Str × Str)) : (dueL ps).map Prod.fst = allK ps := by
  unfold dueL allK
  rw [List.map_cons, List.map_cons, List.map_map]
  rfl
theorem up_at {ps : List (Str × Str)} (hw : Wf ps) {x : Str} (hx : x ∈ allK ps) : valV (kvsOf ps) (.inr x) = some (upV (upOf ps x)) := by
  rw [← due_all] at hx
  obtain ⟨q, hq, rfl⟩ := List.mem_map.mp hx
  have h := due_at hw q hq
  unfold upOf
  rw [h]
  cases q.2 <;> rfl
theorem up_mem {ps : List (Str × Str)} (hw : Wf ps) {q : Str × Option Str} (hq : q ∈ dueL ps) : upOf ps q.1 = q.2 := by
  have h := due_at hw q hq
  unfold upOf
  rw [h]
  cases q.2 <;> rfl
theorem up_F {ps : List (Str × Str)} (hw : Wf ps) : upOf ps sF = none := up_mem hw (q := (sF, none)) List.mem_cons_self
theorem up_S {ps : List (Str × Str)} (hw : Wf ps) : upOf ps sS = some sF := up_mem hw (q := (sS, some sF)) (List.mem_cons_of_mem _ List.mem_cons_self)
theorem up_pair {ps : List (Str × Str)} (hw : Wf ps) {q : Str × Str} (hq : q ∈ ps) : upOf ps q.1 = some q.2 := up_mem hw (q := (q.1, some q.2)) (List.mem_cons_of_mem _ (List.mem_cons_of_mem _ (List.mem_map.mpr ⟨q, hq, rfl⟩)))
theorem up_none {ps : List (Str × Str)} (hw : Wf ps) {x : Str} (hx : x ∈ allK ps) (h : upOf ps x = none) : x = sF := by
  rcases List.mem_cons.mp hx with z | z
  · exact z
  · rcases List.mem_cons.mp z with z | z
    · rw [z, up_S hw] at h; cases h
    · obtain ⟨q, hq, rfl⟩ := List.mem_map.mp z
      rw [up_pair hw hq] at h; cases h
theorem Wf.pair_up {ps : List (Str × Str)} (hw : Wf ps) : ∀ q ∈ ps, q.2 ∈ sF :: ps.map Prod.fst := by
  induction hw with
  | nil => exact fun q h => absurd h List.not_mem_nil
  | @snoc ps z y hw hz hn hy ih =>
    intro q hq
    rw [List.map_append]
    have lift : ∀ u, u ∈ sF :: ps.map Prod.fst → u ∈ sF :: (ps.map Prod.fst ++ [(z, y)].map Prod.fst) := fun u hu => by
      rcases List.mem_cons.mp hu with a | a
      · rw [a]; exact List.mem_cons_self
      · exact List.mem_cons_of_mem _ (List.mem_append_left _ a)
    rcases List.mem_append.mp hq with v | v
    · exact lift _ (ih q v)
    · rw [List.mem_singleton.mp v]; exact lift y hy
theorem up_in {ps : List (Str × Str)} (hw : Wf ps) {x y : Str} (hx : x ∈ allK ps) (h : upOf ps x = some y) : y ∈ sF :: ps.map Prod.fst := by
  rcases List.mem_cons.mp hx with z | z
  · rw [z, up_F hw] at h; cases h
  · rcases List.mem_cons.mp z with z | z
    · rw [z, up_S hw] at h
      rw [← Option.some.inj h]; exact List.mem_cons_self
    · obtain ⟨q, hq, rfl⟩ := List.mem_map.mp z
      rw [up_pair hw hq] at h
      rw [← Option.some.inj h]; exact hw.pair_up q hq
theorem kept_all {ps : List (Str × Str)} {y : Str} (h : y ∈ sF :: ps.map Prod.fst) : y ∈ allK ps := by
  rcases List.mem_cons.mp h with z | z
  · rw [z]; exact List.mem_cons_self
  · exact List.mem_cons_of_mem _ (List.mem_cons_of_mem _ z)
/-- the way up ends -/
theorem Wf.rank {ps : List (Str × Str)} (hw : Wf ps) : ∃ r : Str → Nat, r sF = 0 ∧ r sS = 1 ∧ (∀ q ∈ ps, r q.2 < r q.1) ∧ ∀ x ∈ allK ps, r x ≤ ps.length + 1 := by
  induction hw with
  | nil =>
    refine ⟨fun x => if x = sF then 0 else 1, if_pos rfl, if_neg fun e => sFS e.symm, fun q h => absurd h List.not_mem_nil, fun x _ => ?_⟩
    show (if x = sF then 0 else 1) ≤ 1
    split <;> omega
  | @snoc ps z y hw hz hn hy ih =>
    obtain ⟨r, r1, r2, r3, r4⟩ := ih
    have nF : ¬ sF = z := fun e => hn (by rw [← e]; exact List.mem_cons_of_mem _ List.mem_cons_self)
    have nS : ¬ sS = z := fun e => hn (by rw [← e]; exact List.mem_cons_self)
    have nP : ∀ q ∈ ps, ¬ q.1 = z := fun q hq e => hn (List.mem_cons_of_mem _ (List.mem_cons_of_mem _ (List.mem_map.mpr ⟨q, hq, e⟩)))
    have nY : ∀ u, u ∈ sF :: ps.map Prod.fst → ¬ u = z := fun u hu e => by
      rcases List.mem_cons.mp hu with a | a
      · exact nF (a.symm.trans e)
      · obtain ⟨q, hq, h⟩ := List.mem_map.mp a
        exact nP q hq (h.trans e)
    refine ⟨fun x => if x = z then ps.length + 2 else r x, by show (if sF = z then _ else r sF) = 0; rw [if_neg nF]; exact r1, by show (if sS = z then _ else r sS) = 1; rw [if_neg nS]; exact r2, fun q hq => ?_, fun x hx => ?_⟩
    · rcases List.mem_append.mp hq with v | v
      · simp only [if_neg (nP q v), if_neg (nY _ (hw.pair_up q v))]
        exact r3 q v
      · rw [List.mem_singleton.mp v]
        simp only [if_neg (nY y hy), if_true]
        have := r4 y (kept_all hy)
        omega
    · rw [List.length_append]
      show (if x = z then ps.length + 2 else r x) ≤ ps.length + 1 + 1
      split
      · exact Nat.le_refl _
      · rename_i h
        have hx' : x ∈ allK ps := by
          rcases List.mem_cons.mp hx with a | a
          · rw [a]; exact List.mem_cons_self
          · rcases List.mem_cons.mp a with a | a
            · rw [a]; exact List.mem_cons_of_mem _ List.mem_cons_self
            · rw [List.map_append] at a
              rcases List.mem_append.mp a with a | a
              · exact List.mem_cons_of_mem _ (List.mem_cons_of_mem _ a)
              · exact absurd (by simpa using a) h
        exact Nat.le_succ_of_le (r4 x hx')
/-- one step up; fault stays -/
def nx (ps : List (Str × Str)) (x : Str) : Str := (upOf ps x).getD sF
def nxN (ps : List (Str × Str)) : Nat → Str → Str
  | 0, x => x
  | n + 1, x => nx ps (nxN ps n x)
theorem nx_in {ps : List (Str × Str)} (hw : Wf ps) {x : Str} (hx : x ∈ allK ps) : nx ps x ∈ allK ps := by
  unfold nx
  cases h : upOf ps x with
  | none => exact List.mem_cons_self
  | some y => exact kept_all (up_in hw hx h)
theorem nxN_in {ps : List (Str × Str)} (hw : Wf ps) {x : Str} (hx : x ∈ allK ps) : ∀ n, nxN ps n x ∈ allK ps
  | 0 => hx
  | n + 1 => nx_in hw (nxN_in hw hx n)
def under (ps : List (Str × Str)) (a b : Str) : Bool := (List.range (ps.length + 2)).any fun i => decide (nxN ps i a = b)
theorem under_t {ps : List (Str × Str)} {a b : Str} {i : Nat} (hi : i < ps.length + 2) (h : nxN ps i a = b) : under ps a b = true := by
  unfold under
  rw [List.any_eq_true]
  exact ⟨i, List.mem_range.mpr hi, decide_eq_true h⟩
theorem under_f {ps : List (Str × Str)} {a b : Str} (h : ∀ i, i < ps.length + 2 → nxN ps i a ≠ b) : under ps a b = false := by
  unfold under
  rw [List.any_eq_false]
  intro i hi
  rw [decide_eq_false (h i (List.mem_range.mp hi))]
  exact Bool.false_ne_true
theorem nx_rank {ps : List (Str × Str)} (hw : Wf ps) {r : Str → Nat} (r1 : r sF = 0) (r2 : r sS = 1) (r3 : ∀ q ∈ ps, r q.2 < r q.1) {x y : Str} (hx : x ∈ allK ps) (h : upOf ps x = some y) : r y < r x := by
  rcases List.mem_cons.mp hx with z | z
  · rw [z, up_F hw] at h; cases h
  · rcases List.mem_cons.mp z with z | z
    · rw [z, up_S hw] at h
      rw [← Option.some.inj h, z, r1, r2]; decide
    · obtain ⟨q, hq, rfl⟩ := List.mem_map.mp z
      rw [up_pair hw hq] at h
      rw [← Option.some.inj h]; exact r3 q hq
/-- from fault on it stays -/
theorem nxN_F {ps : List (Str × Str)} (hw : Wf ps) {a : Str} {i : Nat} (h : nxN ps i a = sF) : ∀ j, nxN ps (i + j) a = sF
  | 0 => h
  | j + 1 => by
    show nx ps (nxN ps (i + j) a) = sF
    rw [nxN_F hw h j]
    unfold nx
    rw [up_F hw]; rfl
def pr (q : Str × Str) : Key × V := (.inr q.1, .str q.2)
theorem merge_wf {ps : List (Str × Str)} (hw : Wf ps) : mergeK [] (ps.map pr) = ps.map pr := by
  induction hw with
  | nil => rfl
  | @snoc ps z y hw hz hn hy ih =>
    unfold mergeK at ih ⊢
    rw [List.map_append, List.foldl_append, ih]
    show putK (ps.map pr) (.inr z) (.str y) = _
    have no : ((ps.map pr).any fun kv => decide (kv.1 = (.inr z : Key))) = false := by
      rw [List.any_eq_false]
      intro kv hkv e
      obtain ⟨q, hq, rfl⟩ := List.mem_map.mp hkv
      exact hn (by rw [← Sum.inr.inj (of_decide_eq_true e)]; exact List.mem_cons_of_mem _ (List.mem_cons_of_mem _ (List.mem_map.mpr ⟨q, hq, rfl⟩)))
    unfold putK
    rw [no, if_neg Bool.false_ne_true]
    rfl
theorem law_up {ps : List (Str × Str)} (hw : Wf ps) {x : Str} (hx : x ∈ allK ps) : (valV (ps.map pr) (.inr x)).getD (.str sF) = .str (nx ps x) := by
  have nP : x ∉ ps.map Prod.fst → valV (ps.map pr) (.inr x) = none := fun h => by
    unfold valV
    rw [List.find?_eq_none.mpr fun kv hkv e => ?_]; rfl
    obtain ⟨q, hq, rfl⟩ := List.mem_map.mp hkv
    exact h (List.mem_map.mpr ⟨q, hq, Sum.inr.inj (of_decide_eq_true e)⟩)
  by_cases h : x ∈ ps.map Prod.fst
  · obtain ⟨q, hq, rfl⟩ := List.mem_map.mp h
    have e1 := kvs_at hw q hq
    have e2 : valV (kvsOf ps) (.inr q.1) = valV (ps.map pr) (.inr q.1) := by
      have n1 : ¬ sF = q.1 := fun e => (hw.not_keys q.1 h).1 e.symm
      have n2 : ¬ sS = q.1 := fun e => (hw.not_keys q.1 h).2 e.symm
      show valV ((.inr sF, V.non) :: (.inr sS, V.str sF) :: ps.map fun q => ((.inr q.1 : Key), V.str q.2)) (.inr q.1) = _
      rw [valV_neg (fun e => n1 (Sum.inr.inj e)), valV_neg (fun e => n2 (Sum.inr.inj e))]
      rfl
    rw [← e2, e1]
    unfold nx
    rw [up_pair hw hq]; rfl
  · rw [nP h]
    rcases List.mem_cons.mp hx with z | z
    · unfold nx; rw [z, up_F hw]; rfl
    · rcases List.mem_cons.mp z with z | z
      · unfold nx; rw [z, up_S hw]; rfl
      · exact absurd z h
end Fs
/-! Odd things, as trees. -/
namespace Fs
open PySem L2 TL
inductive Th where
  | flat (v : V)
  | lis (z : Str)
  | box
  | tup (l : List Th)
def Flt : V → Prop
  | .non => True
  | .bl _ => True
  | .int _ => True
  | .str z => IsTx z
  | _ => False
mutual
def ThAt (p : List Addr) (H : Hp) : Th → V → Prop
  | .flat u, v => v = u ∧ Flt u
  | .lis z, v => ∃ a, v = .ref a ∧ a ∉ p ∧ H a = some (.lst [.str z]) ∧ IsTx z
  | .box, v => ∃ a, v = .ref a ∧ a ∉ p ∧ ((∃ ys, H a = some (.lst ys)) ∨ ∃ kvs, H a = some (.dK kvs))
  | .tup l, v => ∃ a ys, v = .ref a ∧ H a = some (.tup ys) ∧ ThsAt p H l ys
def ThsAt (p : List Addr) (H : Hp) : List Th → List V → Prop
  | [], [] => True
  | x :: l, y :: ys => ThAt p H x y ∧ ThsAt p H l ys
  | [], _ :: _ => False
  | _ :: _, [] => False
end
mutual
def Th.sz : Th → Nat
  | .tup l => Th.szs l + 1
  | _ => 1
def Th.szs : List Th → Nat
  | [] => 0
  | x :: l => x.sz + Th.szs l
end
mutual
def Th.dp : Th → Nat
  | .tup l => Th.dps l + 1
  | _ => 0
def Th.dps : List Th → Nat
  | [] => 0
  | x :: l => max x.dp (Th.dps l)
end
def isS : Th → Bool
  | .flat (.str _) => true
  | _ => false
mutual
theorem ThAt.map {p : List Addr} {H H' : Hp} (k1 : ∀ a xs, H a = some (.tup xs) → H' a = some (.tup xs)) (k2 : ∀ a xs, a ∉ p → H a = some (.lst xs) → H' a = some (.lst xs)) (k3 : ∀ a xs, H a = some (.dK xs) → H' a = some (.dK xs)) : ∀ {t : Th} {v : V}, ThAt p H t v → ThAt p H' t v
  | .flat u, v, h => by
    simp only [ThAt] at h ⊢
    exact h
  | .lis z, v, h => by
    simp only [ThAt] at h ⊢
    obtain ⟨a, e, n, g, t⟩ := h
    exact ⟨a, e, n, k2 _ _ n g, t⟩
  | .box, v, h => by
    simp only [ThAt] at h ⊢
    obtain ⟨a, e, n, g⟩ := h
    refine ⟨a, e, n, ?_⟩
    rcases g with ⟨ys, g⟩ | ⟨ys, g⟩
    · exact .inl ⟨ys, k2 _ _ n g⟩
    · exact .inr ⟨ys, k3 _ _ g⟩
  | .tup l, v, h => by
    simp only [ThAt] at h ⊢
    obtain ⟨a, ys, e, g, t⟩ := h
    exact ⟨a, ys, e, k1 _ _ g, ThsAt.map k1 k2 k3 t⟩
theorem ThsAt.map {p : List Addr} {H H' : Hp} (k1 : ∀ a xs, H a = some (.tup xs) → H' a = some (.tup xs)) (k2 : ∀ a xs, a ∉ p → H a = some (.lst xs) → H' a = some (.lst xs)) (k3 : ∀ a xs, H a = some (.dK xs) → H' a = some (.dK xs)) : ∀ {l : List Th} {ys : List V}, ThsAt p H l ys → ThsAt p H' l ys
  | [], [], _ => by simp only [ThsAt]
  | x :: l, y :: ys, h => by
    simp only [ThsAt] at h ⊢
    exact ⟨ThAt.map k1 k2 k3 h.1, ThsAt.map k1 k2 k3 h.2⟩
  | [], _ :: _, h => by simp only [ThsAt] at h
  | _ :: _, [], h => by simp only [ThsAt] at h
end
theorem ThAt.keep0 {p : List Addr} {H H' : Hp} {t : Th} {v : V} (h : ThAt p H t v) (k : Keep [] H H') : ThAt p H' t v := h.map (fun a xs e => k.at e nin0) (fun a xs _ e => k.at e nin0) (fun a xs e => k.at e nin0)
theorem ThsAt.keep0 {p : List Addr} {H H' : Hp} {t : List Th} {v : List V} (h : ThsAt p H t v) (k : Keep [] H H') : ThsAt p H' t v := h.map (fun a xs e => k.at e nin0) (fun a xs _ e => k.at e nin0) (fun a xs e => k.at e nin0)
theorem ThAt.keepP {p : List Addr} {c : Addr} {H H' : Hp} {t : Th} {v : V} (h : ThAt p H t v) (hc : c ∈ p) (k : Keep [c] H H') (hp : ∃ xs, H c = some (.lst xs)) : ThAt p H' t v := by
  obtain ⟨xs, ep⟩ := hp
  exact h.map (fun a ys e => k.at e (nin1 (ne_of e ep (fun z => by cases z)))) (fun a ys n e => k.at e (nin1 fun z => n (by rw [z]; exact hc))) (fun a ys e => k.at e (nin1 (ne_of e ep (fun z => by cases z))))
theorem ThsAt.keepP {p : List Addr} {c : Addr} {H H' : Hp} {t : List Th} {v : List V} (h : ThsAt p H t v) (hc : c ∈ p) (k : Keep [c] H H') (hp : ∃ xs, H c = some (.lst xs)) : ThsAt p H' t v := by
  obtain ⟨xs, ep⟩ := hp
  exact h.map (fun a ys e => k.at e (nin1 (ne_of e ep (fun z => by cases z)))) (fun a ys n e => k.at e (nin1 fun z => n (by rw [z]; exact hc))) (fun a ys e => k.at e (nin1 (ne_of e ep (fun z => by cases z))))
theorem ThsAt.len {p : List Addr} {H : Hp} : ∀ {l : List Th} {ys : List V}, ThsAt p H l ys → ys.length = l.length
  | [], [], _ => rfl
  | x :: l, y :: ys, h => by
    simp only [ThsAt] at h
    rw [List.length_cons, List.length_cons, ThsAt.len h.2]
  | [], _ :: _, h => by simp only [ThsAt] at h
  | _ :: _, [], h => by simp only [ThsAt] at h
theorem Th.pos (t : Th) : 1 ≤ t.sz := by
  cases t <;> simp [Th.sz]
def isTu : Th → Bool
  | .tup _ => true
  | _ => false
theorem isi_th {K : PySem.W.Frag} {p : List Addr} {H : Hp} {t : Th} {v : V} (h : ThAt p H t v) : ∃ ty, TyX K H v (.type ty) ∧ kitB ty "tuple" = some (isTu t) ∧ kitB ty "str" = some (isS t) := by
  have no : ∀ ty : String, (kitB ty "tuple" = some false ∧ kitB ty "str" = some false) → isTu t = false → isS t = false → kitB ty "tuple" = some (isTu t) ∧ kitB ty "str" = some (isS t) := fun ty h a b => by rw [a, b]; exact h
  cases t with
  | flat u =>
    simp only [ThAt] at h
    obtain ⟨rfl, f⟩ := h
    cases v with
    | non => exact ⟨"NoneType", .base .non, no _ (by decide +kernel) rfl rfl⟩
    | bl b => exact ⟨"bool", .base (.bl b), no _ (by decide +kernel) rfl rfl⟩
    | int i => exact ⟨"int", .base (.int i), no _ (by decide +kernel) rfl rfl⟩
    | str z => exact ⟨"str", .base (.str z), show kitB "str" "tuple" = some false ∧ kitB "str" "str" = some true by decide +kernel⟩
    | byt b => exact f.elim
    | flt b => exact f.elim
    | ref a => exact f.elim
    | ty n => exact f.elim
  | lis z =>
    simp only [ThAt] at h
    obtain ⟨a, rfl, n, g, _⟩ := h
    exact ⟨"list", .base (.lst g), no _ (by decide +kernel) rfl rfl⟩
  | box =>
    simp only [ThAt] at h
    obtain ⟨a, rfl, n, g⟩ := h
    rcases g with ⟨ys, g⟩ | ⟨ys, g⟩
    · exact ⟨"list", .base (.lst g), no _ (by decide +kernel) rfl rfl⟩
    · exact ⟨"dict", .base (.dK g), no _ (by decide +kernel) rfl rfl⟩
  | tup l =>
    simp only [ThAt] at h
    obtain ⟨a, ys, rfl, g, _⟩ := h
    exact ⟨"tuple", .base (.tup g), show kitB "tuple" "tuple" = some true ∧ kitB "tuple" "str" = some false by decide +kernel⟩
theorem isS_of {p : List Addr} {H : Hp} {t : Th} {v : V} (h : ThAt p H t v) : isS t = true ↔ ∃ z, v = .str z := by
  cases t with
  | flat u =>
    simp only [ThAt] at h
    obtain ⟨rfl, f⟩ := h
    cases v <;> simp [isS]
  | lis z =>
    simp only [ThAt] at h
    obtain ⟨a, rfl, _⟩ := h
    simp [isS]
  | box =>
    simp only [ThAt] at h
    obtain ⟨a, rfl, _⟩ := h
    simp [isS]
  | tup l =>
    simp only [ThAt] at h
    obtain ⟨a, ys, rfl, _⟩ := h
    simp [isS]
theorem tx_go (z : Str) (h : (decide (z.cps.toList.length ≤ 40) && z.cps.toList.all fun c => decide (c < 128)) = true) : IsTx z := by
  rw [Bool.and_eq_true, List.all_eq_true] at h
  exact ⟨of_decide_eq_true h.1, fun c hc => of_decide_eq_true (h.2 c hc)⟩
end Fs
/-! is_text and is_kind, of anything. -/
namespace Fs
open PySem L2 TL
def isK (ps : List (Str × Str)) : Th → Bool
  | .flat (.str z) => decide (z ∈ allK ps)
  | _ => false
theorem isK_no {ps : List (Str × Str)} {t : Th} (h : isS t = false) : isK ps t = false := by
  cases t with
  | flat v => cases v <;> first | rfl | (simp [isS] at h)
  | lis z => rfl
  | box => rfl
  | tup l => rfl
def spTxT : Sp := fun vs H Q _ => ∃ (p : List Addr) (t : Th) (v : V), vs = [v] ∧ ThAt p H t v ∧ Q (.bl (isS t)) H
def spKdT (C : Addr) : Sp := fun vs H Q _ => ∃ (p : List Addr) (kd : Addr) (t : Th) (v : V) (ps : List (Str × Str)), vs = [.ref kd, v] ∧ KindsAt C H kd ps ∧ ThAt p H t v ∧ Q (.bl (isK ps t)) H
section
variable {P : Program} {w : World} {K : PySem.W.Frag} {mg : Str → Option Value} {base : Heap} {CK fI fK fN fT fS dT : Addr}
theorem ok_txT {f : Addr} {fd : FuncData} (F : Fun K "is_text" "is_text" sIsText f fd) (mI : mg "isinstance" = none) (mS : mg "str" = none) : FnOk P w K mg base CX0 1 f fd ["thing"] spTxT := by
  refine F.ok scIsText (fun vs H Q E h => ?_) (fun cdv A outer s H vs Q E hr h => ?_)
  · obtain ⟨p, t, v, rfl, _⟩ := h
    rfl
  · obtain ⟨p, t, v, rfl, th, kk⟩ := h
    refine ⟨_, pss_one (ps_ret (pe_callB call_isi (by rfl) mI (by decide +kernel) (pa_cons (pv 0) (pa_cons (pe_bltn (v := .ty "str") (u := .type "str") (by rfl) mS (by decide +kernel) rfl) pa_nil)))), ?_⟩
    obtain ⟨ty, h1, h2, h3⟩ := isi_th (K := K) th
    exact ⟨_, rfl, _, _, _, _, _, rfl, .ty "str", h1, kit_ty h3, kk⟩
theorem ok_kdT {fd fdT : FuncData} (F : Fun K "is_kind" "Kinds.is_kind" sIsKind fK fd) (T : KTxt K mg CK fI fK fN) (FT : FnOk P w K mg base CX0 1 fT fdT ["thing"] spTxT) (mT : mg "is_text" = some (.ref fT)) (kT : PySem.W.keepIn K (.ref fT) = true) (bT : Binds K fdT ["thing"] []) : FnOk P w K mg base CX0 2 fK fd ["self", "thing"] (spKdT CK) := by
  refine F.ok scIsKind (fun vs H Q E h => ?_) (fun cdv A outer s H vs Q E hr h => ?_)
  · obtain ⟨p, kd, t, v, ps, rfl, _⟩ := h
    rfl
  · obtain ⟨p, kd, t, v, ps, rfl, ⟨dx, d, e1, e2⟩, th, kk⟩ := h
    refine ⟨_, pss_one (ps_ret (pe_and (pe_call FT hr rfl mT kT bT .nil pass0 (pa_cons (pv 1) pa_nil)) (pe_one (pe_cmp (pc_din (hu_of hr) (pv 1) (pe_fld (pv 0) rfl)) rfl)))), ?_⟩
    refine ⟨_, rfl, p, t, v, rfl, th, _, rfl, ?_⟩
    cases hs : isS t with
    | false =>
      refine iteF ?_
      have e : isK ps t = false := isK_no hs
      rw [e] at kk
      exact kk
    | true =>
      obtain ⟨z, rfl⟩ := (isS_of th).mp hs
      have et : t = .flat (.str z) := by
        cases t with
        | flat u => simp only [ThAt] at th; rw [th.1]
        | lis y => simp only [ThAt] at th; obtain ⟨a, e, _⟩ := th; cases e
        | box => simp only [ThAt] at th; obtain ⟨a, e, _⟩ := th; cases e
        | tup l => simp only [ThAt] at th; obtain ⟨a, ys, e, _⟩ := th; cases e
      subst et
      refine iteT ⟨_, rfl, _, rfl, kd, CK, dx, _, _, rfl, e1, T.cl, T.nA, ab_look _, d, _, rfl, DGet.k (k := Sum.inr z) e2, ?_⟩
      rw [kvs_is]
      exact kk
end
end Fs
/-! The program's kinds, of anything: names, refusals. -/
namespace Fs
open PySem L2 TL
structure NKx (K : PySem.W.Frag) (mg : Str → Option Value) (CN : Addr) : Prop where
  gN : mg "NoKind" = some (.ref CN)
  xN : PySem.W.excIn K CN [.type "ValueError", .type "Exception", .type "BaseException", .type "object"] "ValueError.__new__" = true
  kN : PySem.W.keepIn K (.ref CN) = true
  bN : PySem.W.subIn K (.ref CN) (.type "BaseException") = some true
  tN : PySem.W.typeIn K (.ref CN) = some (.type "type")
def nmB : Th → Bool
  | .flat (.str z) => decide ((1 : Int) ≤ (z.length : Int)) && (decide ((z.length : Int) ≤ 8) && z.cps.toList.all pbN)
  | _ => false
theorem nmB_no {t : Th} (h : isS t = false) : nmB t = false := by
  cases t with
  | flat v => cases v <;> first | rfl | (simp [isS] at h)
  | _ => rfl
def spNmT (Pt : Addr) : Sp := fun vs H Q _ => ∃ (p : List Addr) (t : Th) (v : V), vs = [v] ∧ ThAt p H t v ∧ GxR.TabG H Pt ∧ ∀ H2, H2 = H ∨ GxR.Tabbed Pt H H2 → Q (.bl (nmB t)) H2
section
variable {P : Program} {w : World} {K : PySem.W.Frag} {mg : Str → Option Value} {base : Heap}
theorem ok_nmT {f fT c Pt : Addr} {fdT : FuncData} {oc dV kV doc pm ct : Value} {an od : Option Addr} {osl : Array (Option Value)} (lk : K.lookup f = some ⟨oc, od, .func (PySem.W.fnOf "is_name" "is_name" (defArgs sIsName) (defBody sIsName) (defScope sIsName) dV kV doc pm an (.ref c) ct), osl⟩) (hcd : PySem.W.codeIn K (.ref c) "is_name" = true)
    (TB : GxR.TabB base mg c Pt) (FT : FnOk P w K mg base CX0 1 fT fdT ["thing"] spTxT) (mT : mg "is_text" = some (.ref fT)) (kT : PySem.W.keepIn K (.ref fT) = true) (bT : Binds K fdT ["thing"] []) (mL : mg "len" = none) (mA : mg "all" = none) :
    FnOk P w K mg base CX0 2 f (PySem.W.fnOf "is_name" "is_name" (defArgs sIsName) (defBody sIsName) (defScope sIsName) dV kV doc pm an (.ref c) ct) ["thing"] (spNmT Pt) := by
  refine fn_of (CX := CX0) lk hcd scIsName (fun vs H Q E h => ?_) (fun A outer s H vs Q E hr h => ?_)
  · obtain ⟨p, t, v, rfl, _⟩ := h
    rfl
  · obtain ⟨p, t, v, rfl, th, hT, kk⟩ := h
    refine ⟨_, PSs.nox (pss_one (ps_ret (pe_and (pe_call FT hr rfl mT kT bT .nil pass0 (pa_cons (pv 0) pa_nil)) (pe_and (pe_chain op_le op_le pe_int (pe_callB call_len_str (by rfl) mL PySem.boot_len (pa_cons (pv 0) pa_nil)) pe_int)
      (pe_one (GxR.pe_allS hr (by rfl) mA (by decide +kernel) TB rfl ⟨rfl, rfl, by decide +kernel, rfl, rfl, fun y hy e => ?_⟩ (pv 0) (elt_name rfl rfl) (fun v => rfl))))))), ?_⟩
    · have q : ∀ y ∈ ([((".0" : Str), NameKind.local), (("sign" : Str), NameKind.local)] : List (Str × NameKind)), y.2 = NameKind.free → False := by decide
      exact (q y hy e).elim
    refine ⟨_, rfl, p, t, v, rfl, th, _, rfl, ?_⟩
    cases hs : isS t with
    | false =>
      have := kk H (.inl rfl)
      rw [nmB_no hs] at this
      exact iteF this
    | true =>
    obtain ⟨z, rfl⟩ := (isS_of th).mp hs
    have et : t = .flat (.str z) := by
      cases t with
      | flat u => simp only [ThAt] at th; rw [th.1]
      | lis y => simp only [ThAt] at th; obtain ⟨a, e, _⟩ := th; cases e
      | box => simp only [ThAt] at th; obtain ⟨a, e, _⟩ := th; cases e
      | tup l => simp only [ThAt] at th; obtain ⟨a, ys, e, _⟩ := th; cases e
    subst et
    have tz : IsTx z := by simp only [ThAt] at th; exact th.2
    have hzl : z.length = z.cps.toList.length := by simp [Str.length]
    have hz40 := tz.1
    refine iteT ?_
    refine ⟨_, rfl, z, rfl, Nat.le_of_lt (Nat.lt_of_lt_of_le (by omega : z.length < 1000) (by decide)), _, _, rfl, rfl, _, rfl, ?_⟩
    have e0 : nmB (.flat (.str z)) = (decide ((1 : Int) ≤ (z.length : Int)) && (decide ((z.length : Int) ≤ 8) && z.cps.toList.all pbN)) := rfl
    cases c1 : decide ((1 : Int) ≤ (z.length : Int)) with
    | false =>
      have := kk H (.inl rfl)
      rw [e0, c1] at this
      exact iteF ⟨_, rfl, iteF this⟩
    | true =>
    refine iteT ⟨_, _, rfl, rfl, _, rfl, ?_⟩
    cases c2 : decide ((z.length : Int) ≤ 8) with
    | false =>
      have := kk H (.inl rfl)
      rw [e0, c1, c2] at this
      exact iteF this
    | true =>
    refine iteT ⟨_, rfl, z, rfl, hT, fun H2 hH => ?_⟩
    have := kk H2 (.inr hH)
    rw [e0, c1, c2] at this
    exact this
end
end Fs
/-! A def that an except suite hands its caught error. -/
namespace Fs
open PySem L2 TL PySem.Spec PyProof.Rows
/-- told: where the error stands, its class, its dict -/
abbrev SpE := Addr → Value → Option Addr → Sp
structure FnE (P : Program) (w : World) (K : PySem.W.Frag) (mg : Str → Option Value) (base : Heap) (k : Nat) (f : Addr) (fd : FuncData) (ps : List Str) (sp : SpE) : Prop where
  many : ∀ a cls d vs H Q E, sp a cls d vs H Q E → vs.length = ps.length
  go : ∀ (A : Around) (outer : List Env) (s : Shared) (H : Hp) (us : List Value) (vs : List V) (Q : VK) (E : XK) (a : Addr) (oe : Obj) (cls : Value) (d : Option Addr), L2H.RoomH k A → Zc cls d oe → (∃ xs, oe.data = .fields xs) → L2H.PinOk outer H s (a, oe) → Env0 P w K mg base A outer s H →
    BindsTo s fd ⟨us, []⟩ (ps.zip us) → Vals vs us → sp a cls d vs H Q E → codeAny (model P w) A (.call (.ref f) ⟨us, []⟩) (CR CX0 outer P w H s Q E) s
section
variable {P : Program} {w : World} {K : PySem.W.Frag} {mg : Str → Option Value} {base : Heap}
theorem okE {x q : Str} {st : Stmt} {f : Addr} {fd : FuncData} {N ps : List Str} {k : Nat} {sp : SpE} (F : Fun K x q st f fd) (S : FnScope N ps (defScope st)) (len : ∀ a cls d vs H Q E, sp a cls d vs H Q E → vs.length = ps.length)
    (body : ∀ (cdv : Value) (A : Around) (outer : List Env) (s : Shared) (H : Hp) (vs : List V) (Q : VK) (E : XK) (a : Addr) (oe : Obj) (cls : Value) (d : Option Addr), L2H.RoomH k (A.deeper (PyProof.Rows.envOfC q (defScope st) s.heap.objs.size f cdv)) → Zc cls d oe → (∃ xs, oe.data = .fields xs) → sp a cls d vs H Q E →
      ∃ t, PSs (L2H.cxH CX0 P w K mg base N q (defScope st) f cdv A outer s H E (a, oe)).nox (defBody st) t ∧ t { nx := fun _ H' => Q .non H', rt := Q } (L2.start N vs) H) : FnE P w K mg base (k + 1) f fd ps sp := by
  obtain ⟨oc, od, kV, doc, pm, an, cdv, ct, osl, rfl, lk, hcd⟩ := F.ex
  refine ⟨len, fun A outer s H us vs Q E a oe cls d hr hz hf hp e0 bd rv hsp => ?_⟩
  have now : K.In s.heap := e0.mod.kin.keeps fun b o e => (e0.bs b o e).1
  have hl := len _ _ _ _ _ _ _ hsp
  refine codeAny_call_function hr.depth (now f _ lk) rfl S.co S.gen rfl (PySem.W.codeRec_of now hcd) (bd _ _ _ _ (wpAny_newFunctionEnv_cells S.kind (fun z hz => ?_) fun env he s1 entered => ?_))
  · obtain ⟨n, v⟩ := z
    exact (S.par n (List.of_mem_zip hz).1).imp id fun c => ⟨c, PySem.W.cellsFrom_some _ _ _ (.inl c)⟩
  · cases he
    have free : s1.heap.NoLimit := (e0.mod.nolimit.keeps fun b o e => (e0.bs b o e).1).keeps entered.toInCall.keep
    obtain ⟨t, ht, hq⟩ := body cdv A outer s H vs Q E a oe cls d (hr.deeper _) hz hf hsp
    have at1 := L2H.inv_startH (CX := CX0) (E := E) (ps := ps) (us := us) (vs := vs) S hp e0 hl rv entered
    refine ⟨free, codeAny_func (wpAny_mono (ht.nox.run [] s1 _ H _ at1 hq) (fun fl s' end_ => ?_) fun e s' bad => ?_)⟩
    · cases fl with
      | ret u' =>
        obtain ⟨v', _, H', J, rv', q'⟩ := end_
        exact ⟨v', H', J.os, J.bare, J.base, J.hok, rv', q'⟩
      | next =>
        obtain ⟨_, H', J, q'⟩ := end_
        exact ⟨.non, H', J.os, J.bare, J.base, J.hok, rfl, q'⟩
      | brk => obtain ⟨_, _, _, no⟩ := end_; exact no.elim
      | cont => obtain ⟨_, _, _, no⟩ := end_; exact no.elim
    · exact wpAny_mono bad (fun _ _ no => False.elim no) fun _ _ no => False.elim no
end
section
variable {X : Cx} {k : Nat} {f : Addr} {fd : FuncData} {ps : List Str} {sp : SpE} {x : Str} {p pos : Pos} {e : Expr} {es : List Expr} {t : TA}
theorem pe_callE {a : Addr} {oe : Obj} {cls : Value} {d : Option Addr} {pn : List (Addr × Obj)} (F : FnE X.prog X.w X.K X.mg X.base k f fd ps sp) (hz : Zc cls d oe) (hf : ∃ vs, oe.data = .fields vs) (hr : Room k X.A) (gl : Gl (X.suite a ((a, oe) :: pn)) x) (hm : X.mg x = some (.ref f)) (hk : PySem.W.keepIn X.K (.ref f) = true) (hb : Binds X.K fd ps [])
    (ha : PA (X.suite a ((a, oe) :: pn)) (e :: es) t) (hdb : (x == ("__debug__" : Str)) = false := by decide) (he : starEach (e :: es) X.env = (false, eval e X.env) :: starEach es X.env := by rfl) (hpl : (backTo pos (starEach es X.env)).any (·.1) = false := by rfl) :
    PE (X.suite a ((a, oe) :: pn)) (.Call (.Name x p) (e :: es) [] pos) (fun σ H Q => t σ H fun vs H1 => sp a cls d vs H1 Q E0) := by
  refine ⟨fun pins s σ H Q I h => wpAny_Call_Name_kw (ld_glob I gl hm ?_ hdb)⟩
  refine PySem.W.callWith_K (h₀ := X.base) I.ok.mod.kin hk (thn (ha.run pos pins s σ H _ I h) fun us s1 ⟨vs, H1, I1, r, q⟩ => ⟨I1.kIn, ?_⟩) he hpl
  have hl : us.length = ps.length := by rw [← r.length]; exact F.many _ _ _ _ _ _ _ q
  have b1 := hb s1 us I1.kIn (by rw [List.append_nil]; exact hl)
  rw [List.append_nil] at b1
  obtain ⟨g1, g2, g3, g4, g5⟩ := I1.pin (a, oe) (List.mem_append.mpr (.inl List.mem_cons_self))
  have hpin : L2H.PinOk X.stack H1 s1 (a, oe) := ⟨g1, g2, fun hm => (List.mem_cons.mp (I1.stkSub a hm)).elim g3 g4, g5⟩
  refine wpAny_call (codeAny_mono (F.go (X.A.mark (some (.ref a))) X.stack s1 H1 us vs Q E0 a oe cls d ⟨hr.dp, hr.un⟩ hz hf hpin I1.env0 b1 r q) fun r s' hq => ?_)
  cases r with
  | error e => exact False.elim hq
  | ok fl =>
    cases fl with
    | ret u => exact I1.after hq
    | next => exact False.elim hq
    | brk => exact False.elim hq
    | cont => exact False.elim hq
/-- isinstance of an error that is pinned: one class -/
theorem inst_pin {a D : Addr} {oe : Obj} {h : Heap} (hz : Zc (.ref D) none oe) (hf : ∃ vs, oe.data = .fields vs) (hget : h.get? a = some oe) : PySem.W.InstAt h a oe D none := by
  obtain ⟨vs, hv⟩ := hf
  obtain ⟨oc, od, oda, osl⟩ := oe
  obtain ⟨h1, h2⟩ := hz
  dsimp only at h1 h2 hv
  subst h1 h2 hv
  exact ⟨hget, rfl, rfl, trivial⟩
def rIsP (K : PySem.W.Frag) (cls : Value) (d : Option Addr) (a : Addr) : List V → Hp → VK → Prop := fun xs H Q => ∃ D, cls = .ref D ∧ d = none ∧ ExcC K D ∧
  ((∃ (c : V) (cv : Value) (b : Bool), xs = [.ref a, c] ∧ (∀ u, RelV c u → u = cv) ∧ PySem.W.kitOne K (.ref D) cv = some b ∧ Q (.bl b) H) ∨
   (∃ (tp : Addr) (cs : List V) (us : List Value) (b : Bool), xs = [.ref a, .ref tp] ∧ H tp = some (.tup cs) ∧ Paired ClsV cs us ∧ PySem.W.kitAny K (.ref D) us = some b ∧ Q (.bl b) H))
theorem call_isP {a : Addr} {cls : Value} {d : Option Addr} {oe : Obj} (hp : (a, oe) ∈ X.pn) (hz : Zc cls d oe) (hf : ∃ vs, oe.data = .fields vs) : CallR X (.builtin "isinstance") (rIsP X.K cls d a) := by
  intro pins s σ H xs us Q I r h
  obtain ⟨D, rfl, rfl, C, h⟩ := h
  have J := inst_pin hz hf (I.pin (a, oe) (List.mem_append.mpr (.inl hp))).1
  have KX := PySem.W.handS_kitx_exc C.hg C.hk C.hs C.hd C.ha C.hn C.ht C.hm (x := a) (ox := oe)
  rcases h with ⟨c, cv, b, rfl, hcv, e, q⟩ | ⟨tp, cs, ws, b, rfl, hT, k, e, q⟩
  · obtain ⟨u1, u2, rfl, r1, r2⟩ := vals2 r
    cases (show u1 = Value.ref a from r1)
    have ec := hcv _ r2
    subst ec
    exact PySem.W.kia_one KX I.kIn J e (fun z => nomatch z) fun tk => ⟨.bl b, H, I.kept (t' := tk) fun _ _ z => z, rfl, q⟩
  · obtain ⟨u1, u2, rfl, r1, r2⟩ := vals2 r
    cases (show u2 = Value.ref tp from r2)
    cases (show u1 = Value.ref a from r1)
    obtain ⟨_, its, rv, o, h1, h2, n, h3⟩ := (show ObjOk X.prog X.w H s.heap tp (.tup cs) from I.hok tp _ hT)
    have e3 := ClsV.all k rv
    subst e3
    obtain ⟨oc, od, dt, sl⟩ := o
    simp only at h2 h3
    subst h2 h3
    exact PySem.W.kia_tup KX I.kIn J h1 e (fun z => nomatch z) fun tk => ⟨.bl b, H, I.kept (t' := tk) fun _ _ z => z, rfl, q⟩
/-- a method that may raise; what leaves is wished for where the slots stand -/
def tMethE (C : Addr) (m : Str) (sp : Sp) (E : L2.St → XK) (ta : TE) (t : TA) : TE := fun σ H Q => ta σ H fun y G => ∃ q dx gs, y = .ref q ∧ G q = some (.ins C dx gs) ∧ gs.lookup m = none ∧ t σ G fun ws G2 => sp (y :: ws) G2 Q (E σ)
theorem pe_methE {X : Cx} {CX : CXT} {k : Nat} {g C : Addr} {gd : FuncData} {ns : List Str} {sp : Sp} {E : L2.St → XK} {m : Str} {pos apos : Pos} {e o : Expr} {es : List Expr} {ta : TE} {t : TA} {pl : Sem Bool} (ho : PE X o ta) (cl : Cls X.K C) (mm : Meth X.K C m g)
    (G : FnOk X.prog X.w X.K X.mg X.base CX k g gd ns sp) (room : Room k X.A) (bi : Binds X.K gd ns []) (out : ∀ σ, PassesAt CX X σ (E σ)) (args : PA X (e :: es) t)
    (h1 : starEach (e :: es) X.env = (false, eval e X.env) :: starEach es X.env := by rfl) (h2 : (backTo pos (starEach es X.env)).any (·.1) = false := by rfl)
    (h3 : eval (.Call (.Attribute o m apos) (e :: es) [] pos) X.env = (do
      let obj ← eval o X.env
      standAt apos.atName
      let (fn, fst) ← holding [obj] (getMethod obj m pl)
      callWith pos fn fst (backTo pos (starEach (e :: es) X.env)) (backToKw pos (keywordEach [] X.env))) := by rfl) :
    PE X (.Call (.Attribute o m apos) (e :: es) [] pos) (tMethE C m sp E ta t) := ⟨fun pins s σ H Q I h => by
  refine PySem.W.methodCall_KW (pl := pl) (thn (ho.run pins s σ H _ I h) fun u s1 ⟨y, H1, I1, ry, q, dx, gs, ey, eq, l, z⟩ => ?_) h3
  subst ey
  cases (show u = Value.ref q from ry)
  refine getmeth_ok I1 eq cl mm l (PySem.W.callWith_K (first := [.ref q]) (h₀ := X.base) I.ok.mod.kin mm.kp (thn (args.run pos pins s1 σ H1 _ I1 z) fun us s2 ⟨ws, H2, I2, r, z2⟩ => ⟨I2.kIn, ?_⟩) h1 h2)
  exact run_fnS (us := .ref q :: us) (vs := .ref q :: ws) G room bi (out σ) I2 (.cons rfl r) z2⟩
/-- an object made, whose start may raise -/
def tMakeE (C : Addr) (sp : Sp) (E : L2.St → XK) (t : TA) : TE := fun σ H Q => t σ H fun ws G => ∀ y dx, G y = none → G dx = none → dx ≠ y → sp (.ref y :: ws) (upd (upd G dx (.own y)) y (.ins C dx [])) (fun v G2 => v = .non ∧ Q (.ref y) G2) (E σ)
theorem pe_makeE {X : Cx} {CX : CXT} {k : Nat} {g C : Addr} {gd : FuncData} {ns : List Str} {sp : Sp} {E : L2.St → XK} {x : Str} {p pos : Pos} {e : Expr} {es : List Expr} {t : TA} (M : Mk X.K C g) (G : FnOk X.prog X.w X.K X.mg X.base CX k g gd ns sp) (room : Room (k + 1) X.A) (gl : Gl X x) (hm : X.mg x = some (.ref C)) (bi : Binds X.K gd ns [])
    (out : ∀ σ, PassesAt CX X σ (E σ)) (args : PA X (e :: es) t) (hdb : (x == ("__debug__" : Str)) = false := by decide) (h1 : starEach (e :: es) X.env = (false, eval e X.env) :: starEach es X.env := by rfl) (h2 : (backTo pos (starEach es X.env)).any (·.1) = false := by rfl) :
    PE X (.Call (.Name x p) (e :: es) [] pos) (tMakeE C sp E t) := ⟨fun pins s0 σ H Q I h => by
  refine wpAny_Call_Name_kw (ld_glob I gl hm ?_ hdb)
  refine PySem.W.callWith_K (h₀ := X.base) I.ok.mod.kin M.kp (thn (args.run pos pins s0 σ H _ I h) fun us s ⟨ws, G0, I1, r, z⟩ => ⟨I1.kIn, ?_⟩) h1 h2
  let n := s.heap.objs.size
  have wish := z (n + 1) n (I1.hok.fresh (Nat.le_succ _)) (I1.hok.fresh (Nat.le_refl _)) (Nat.ne_of_lt (Nat.lt_succ_self _))
  have J := Inv.made (C := C) I1
  have rr : Vals (V.ref (n + 1) :: ws) (Value.ref (n + 1) :: us) := .cons rfl r
  have hl : (Value.ref (n + 1) :: us).length = ns.length := by rw [← rr.length]; exact G.len _ _ _ _ wish
  have b := bi _ (Value.ref (n + 1) :: us) J.kIn (by rw [List.append_nil]; exact hl)
  rw [List.append_nil] at b
  refine wpAny_call (make_map (f := g) I1.kIn M.makes M.init (beq_iff_eq.mp M.fn) (codeAny_mono (G.run _ X.stack _ _ ⟨Value.ref (n + 1) :: us, []⟩ (Value.ref (n + 1) :: us) _ _ (E σ) (room.make C us []) (J.env0.make C us []) b rr wish) fun res s' q => ?_))
  cases res with
  | error e => exact out σ pins _ _ e s' J q
  | ok fl =>
    cases fl with
    | ret u =>
      obtain ⟨v, H', I3, rv, ev, q3⟩ := J.after q
      cases ev
      exact ⟨rv, ⟨V.ref (n + 1), H', I3, rfl, q3⟩⟩
    | next => exact q.elim
    | brk => exact q.elim
    | cont => exact q.elim⟩
end
end Fs
/-! The program's kinds: what is refused. -/
namespace Fs
open PySem L2 TL
theorem FnOk.orX {P : Program} {w : World} {K : PySem.W.Frag} {mg : Str → Option Value} {base : Heap} {k : Nat} {f : Addr} {fd : FuncData} {ps : List Str} {sp sp' : Sp} (F : FnOk P w K mg base CX0 k f fd ps sp) (G : FnOk P w K mg base (L2.CX P w) k f fd ps sp') :
    FnOk P w K mg base (L2.CX P w) k f fd ps (fun vs H Q E => sp vs H Q E ∨ sp' vs H Q E) := by
  refine ⟨fun vs H Q E h => h.elim (F.len vs H Q E) (G.len vs H Q E), fun A outer s H args us vs Q E hr e0 hb r h => ?_⟩
  rcases h with h | h
  · refine codeAny_mono (F.run A outer s H args us vs Q E hr e0 hb r h) fun res s' q => ?_
    cases res with
    | error e => exact False.elim q
    | ok fl =>
      cases fl with
      | ret u => exact q
      | next => exact False.elim q
      | brk => exact False.elim q
      | cont => exact False.elim q
  · exact G.run A outer s H args us vs Q E hr e0 hb r h
def isSf : Th → Bool
  | .flat (.str z) => decide (z = sS)
  | _ => false
def okNew (ps : List (Str × Str)) (t r : Th) : Bool := (nmB t && !isK ps t) && (isK ps r && !isSf r)
theorem nmB_of {z : Str} (h : IsNm z) : nmB (.flat (.str z)) = true := by
  obtain ⟨h1, h2, h3⟩ := h
  have hzl : z.length = z.cps.toList.length := by simp [Str.length]
  show (decide ((1 : Int) ≤ (z.length : Int)) && (decide ((z.length : Int) ≤ 8) && z.cps.toList.all pbN)) = true
  rw [decide_eq_true (show (1 : Int) ≤ (z.length : Int) by omega), decide_eq_true (show (z.length : Int) ≤ (8 : Int) by omega), List.all_eq_true.mpr fun c hc => pbN_small (h3 c hc)]
  rfl
theorem ThAt.tab {p : List Addr} {Pt : Addr} {H H' : Hp} {t : Th} {v : V} (h : ThAt p H t v) (hT : GxR.TabG H Pt) (k : H' = H ∨ GxR.Tabbed Pt H H') : ThAt p H' t v := by
  rcases k with rfl | k
  · exact h
  · obtain ⟨tb, et, _⟩ := hT
    have k := tab_keep k
    exact h.map (fun a ys e => k.at e (nin1 (ne_of e et (fun z => by cases z)))) (fun a ys n e => k.at e (nin1 (ne_of e et (fun z => by cases z)))) (fun a ys e => k.at e (nin1 (ne_of e et (fun z => by cases z))))
theorem KindsAt.tab {C : Addr} {Pt : Addr} {H H' : Hp} {kd : Addr} {ps : List (Str × Str)} (h : KindsAt C H kd ps) (hT : GxR.TabG H Pt) (k : H' = H ∨ GxR.Tabbed Pt H H') : KindsAt C H' kd ps := by
  rcases k with rfl | k
  · exact h
  · exact h.keep (tab_keep k) (tab_ex hT)
theorem TabG.tab {Pt : Addr} {H H' : Hp} (hT : GxR.TabG H Pt) (k : H' = H ∨ GxR.Tabbed Pt H H') : GxR.TabG H' Pt := by
  rcases k with rfl | k
  · exact hT
  · exact k.1
abbrev sKCk : Stmt := inClass (top 15) 5
theorem scKCk : FnScope ["self", "name"] ["self", "name"] (defScope sKCk) := ⟨rfl, rfl, rfl, by decide +kernel, rfl, by decide +kernel, by decide +kernel⟩
def spKCkT (C CN : Addr) : Sp := fun vs H Q E => ∃ (p : List Addr) (kd : Addr) (t : Th) (v : V) (ps : List (Str × Str)), vs = [.ref kd, v] ∧ KindsAt C H kd ps ∧ ThAt p H t v ∧ (isK ps t = true → Q .non H) ∧ (isK ps t = false → E (.ref CN) none H)
def spChkNewT (C CN Pt : Addr) : Sp := fun vs H Q E => ∃ (p q : List Addr) (kd : Addr) (t r : Th) (v u : V) (ps : List (Str × Str)), vs = [.ref kd, v, u] ∧ KindsAt C H kd ps ∧ ThAt p H t v ∧ ThAt q H r u ∧ GxR.TabG H Pt ∧
  ∀ H2, (H2 = H ∨ GxR.Tabbed Pt H H2) → (okNew ps t r = true → Q .non H2) ∧ (okNew ps t r = false → E (.ref CN) none H2)
section
variable {P : Program} {w : World} {K : PySem.W.Frag} {mg : Str → Option Value} {base : Heap} {C CN fI fK fN : Addr}
theorem ok_kCkT {f : Addr} {fd dK : FuncData} (F : Fun K "_check" "Kinds._check" sKCk f fd) (T : KTxt K mg C fI fK fN) (N : NKx K mg CN) (FK : FnOk P w K mg base CX0 2 fK dK ["self", "thing"] (spKdT C)) (bK : Binds K dK ["self", "thing"] []) : FnOk P w K mg base (L2.CX P w) 3 f fd ["self", "name"] (spKCkT C CN) := by
  refine F.okX scKCk (fun vs H Q E h => ?_) (fun cdv A outer s H vs Q E hr h => ?_)
  · obtain ⟨p, kd, t, v, ps, rfl, _⟩ := h
    rfl
  · obtain ⟨p, kd, t, v, ps, rfl, hK, th, kk, ke⟩ := h
    obtain ⟨dk, dd, g1, g2⟩ := id hK
    refine ⟨_, pss_one (ps_if (pt_not (pt_val (pe_meth (pv 0) T.cl T.mK FK hr bK .nil pass0 (pa_cons (pv 1) pa_nil)))) (pss_one (ps_raise rfl (takes_of rfl rfl rfl rfl) (pmk_own PySem.F.excBase_ValueError N.xN N.gN N.kN (raises_own N.bN N.tN) (by exact rfl)))) pss_nil), ?_⟩
    refine ⟨_, rfl, kd, dk, _, rfl, g1, ab_no _ (by decide +kernel), _, rfl, p, kd, t, v, ps, rfl, hK, th, isK ps t, rfl, ?_⟩
    cases h : isK ps t with
    | true => exact iteF (kk h)
    | false => exact iteT (ke h)
theorem ok_chkNewT {fM Pt : Addr} {fd fdM fdK : FuncData} (F : Fun K "_check_new" "Kinds._check_new" sChkNew fN fd) (T : KTxt K mg C fI fK fN) (N : NKx K mg CN) (FM : FnOk P w K mg base CX0 2 fM fdM ["thing"] (spNmT Pt)) (mM : mg "is_name" = some (.ref fM)) (kM : PySem.W.keepIn K (.ref fM) = true) (bM : Binds K fdM ["thing"] [])
    (FK : FnOk P w K mg base CX0 2 fK fdK ["self", "thing"] (spKdT C)) (bK : Binds K fdK ["self", "thing"] []) : FnOk P w K mg base (L2.CX P w) 3 fN fd ["self", "name", "above"] (spChkNewT C CN Pt) := by
  refine F.okX scChkNew (fun vs H Q E h => ?_) (fun cdv A outer s H vs Q E hr h => ?_)
  · obtain ⟨p, q, kd, t, r, v, u, ps, rfl, _⟩ := h
    rfl
  · obtain ⟨p, q, kd, t, r, v, u, ps, rfl, hK, th, rh, hT, kk⟩ := h
    refine ⟨_, pss_cons (ps_if (PW.pt (pw_or (pt_not (pt_val (pe_call FM hr rfl mM kM bM .nil pass0 (pa_cons (pv 1) pa_nil)))) (pw_or1 (pt_val (pe_meth (pv 0) T.cl T.mK FK hr bK .nil pass0 (pa_cons (pv 1) pa_nil)))))) (pss_one (ps_raise rfl (takes_of rfl rfl rfl rfl) (pmk_own PySem.F.excBase_ValueError N.xN N.gN N.kN (raises_own N.bN N.tN) (by exact rfl)))) pss_nil)
      (pss_one (ps_if (PW.pt (pw_or (pt_not (pt_val (pe_meth (pv 0) T.cl T.mK FK hr bK .nil pass0 (pa_cons (pv 2) pa_nil)))) (pw_or1 (pt_cmpR op_eq (pv 2) pe_str (nomark _))))) (pss_one (ps_raise rfl (takes_of rfl rfl rfl rfl) (pmk_own PySem.F.excBase_ValueError N.xN N.gN N.kN (raises_own N.bN N.tN) (by exact rfl)))) pss_nil)), ?_⟩
    refine ⟨_, rfl, p, t, v, rfl, th, hT, fun H2 hH => ⟨nmB t, rfl, ?_⟩⟩
    have hK2 := hK.tab hT hH
    have th2 := th.tab hT hH
    have rh2 := rh.tab hT hH
    obtain ⟨dx, d, e1, e2⟩ := id hK2
    have noK : ([(("_above" : Str), V.ref d)] : List (Str × V)).lookup ("is_kind" : Str) = none := ab_no _ (by decide +kernel)
    have kb := (kk H2 hH).2
    unfold okNew at kb
    cases h1 : nmB t with
    | false =>
      rw [h1] at kb
      exact iteT (kb rfl)
    | true =>
    refine iteF ?_
    refine ⟨_, rfl, kd, dx, _, rfl, e1, noK, _, rfl, p, kd, t, v, ps, rfl, hK2, th2, isK ps t, rfl, ?_⟩
    cases h2 : isK ps t with
    | true =>
      rw [h1, h2] at kb
      exact iteT (kb rfl)
    | false =>
    refine iteF ?_
    refine ⟨_, rfl, kd, dx, _, rfl, e1, noK, _, rfl, q, kd, r, u, ps, rfl, hK2, rh2, isK ps r, rfl, ?_⟩
    cases h3 : isK ps r with
    | false =>
      rw [h1, h2, h3] at kb
      exact iteT (kb rfl)
    | true =>
    obtain ⟨z, rfl⟩ : ∃ z, r = .flat (.str z) := by
      cases r with
      | flat x => cases x <;> first | exact ⟨_, rfl⟩ | (simp [isK] at h3)
      | _ => simp [isK] at h3
    have eu : u = .str z := by simp only [ThAt] at rh; exact rh.1
    subst eu
    refine iteF ⟨_, rfl, rfl, _, rfl, ?_⟩
    by_cases hz : z = sS
    · rw [decide_eq_true (show V.str z = V.str sS by rw [hz])]
      have e4 : isSf (.flat (.str z)) = true := decide_eq_true hz
      rw [h1, h2, h3, e4] at kb
      exact iteT (kb rfl)
    · rw [decide_eq_false (fun e => hz (V.str.inj e))]
      refine iteF ((kk H2 hH).1 ?_)
      have e4 : isSf (.flat (.str z)) = false := decide_eq_false hz
      unfold okNew
      rw [h1, h2, h3, e4]
      rfl
end
end Fs
/-! Kinds made of anything; what is above, what stands under, of anything. -/
namespace Fs
open PySem L2 TL
theorem iteNot {c A B : Prop} [Decidable c] (hc : ¬ c) (h : A) : if (!decide c) = true then A else B := by
  rw [decide_eq_false hc]
  exact iteT h
theorem nm_tx {z : Str} (h : IsNm z) : IsTx z := by
  obtain ⟨_, a, b⟩ := h
  refine ⟨by omega, fun c hc => ?_⟩
  have := b c hc
  unfold small at this
  simp only [Bool.and_eq_true, decide_eq_true_eq] at this
  omega
theorem allK_tx {ps : List (Str × Str)} (h : Wf ps) : ∀ x ∈ allK ps, IsTx x := by
  have base : IsTx sF ∧ IsTx sS := ⟨tx_go _ (by decide +kernel), tx_go _ (by decide +kernel)⟩
  have go : ∀ x ∈ ps.map Prod.fst, IsTx x := by
    induction h with
    | nil => exact fun x hx => absurd hx List.not_mem_nil
    | snoc w n _ _ ih =>
      intro x hx
      rw [List.map_append] at hx
      rcases List.mem_append.mp hx with q | q
      · exact ih x q
      · rw [List.map_singleton] at q
        rw [List.mem_singleton.mp q]
        exact nm_tx n
  intro x hx
  rcases List.mem_cons.mp hx with q | q
  · rw [q]; exact base.1
  · rcases List.mem_cons.mp q with q | q
    · rw [q]; exact base.2
    · exact go x q
abbrev sNms : Stmt := inClass (top 15) 1
abbrev sAbv : Stmt := inClass (top 15) 3
abbrev sStU : Stmt := inClass (top 15) 4
theorem scNms : FnScope ["self"] ["self"] (defScope sNms) := ⟨rfl, rfl, rfl, by decide +kernel, rfl, by decide +kernel, by decide +kernel⟩
theorem scAbv : FnScope ["self", "name"] ["self", "name"] (defScope sAbv) := ⟨rfl, rfl, rfl, by decide +kernel, rfl, by decide +kernel, by decide +kernel⟩
theorem scStU : FnScope ["self", "name", "other"] ["self", "name", "other"] (defScope sStU) := ⟨rfl, rfl, rfl, by decide +kernel, rfl, by decide +kernel, by decide +kernel⟩
theorem kvs_names (ps : List (Str × Str)) : (kvsOf ps).map (fun kv => kV kv.1) = (allK ps).map V.str := by
  unfold kvsOf allK
  rw [List.map_append, List.map_map]
  show V.str sF :: V.str sS :: _ = V.str sF :: V.str sS :: _
  rw [List.map_map]
  rfl
def stP (ps : List (Str × Str)) : Th → Th → Bool
  | .flat (.str a), .flat (.str b) => under ps a b
  | _, _ => false
theorem isK_str {ps : List (Str × Str)} {t : Th} (h : isK ps t = true) : ∃ z, t = .flat (.str z) ∧ z ∈ allK ps := by
  cases t with
  | flat x => cases x <;> first | exact ⟨_, rfl, of_decide_eq_true h⟩ | (simp [isK] at h)
  | _ => simp [isK] at h
def upT (ps : List (Str × Str)) : Th → V
  | .flat (.str z) => upV (upOf ps z)
  | _ => .non
def spNms (C : Addr) : Sp := fun vs H Q _ => ∃ (kd : Addr) (ps : List (Str × Str)), vs = [.ref kd] ∧ KindsAt C H kd ps ∧ ∀ l, H l = none → Q (.ref l) (upd H l (.lst ((allK ps).map V.str)))
def spAbvT (C CN : Addr) : Sp := fun vs H Q E => ∃ (p : List Addr) (kd : Addr) (t : Th) (v : V) (ps : List (Str × Str)), vs = [.ref kd, v] ∧ KindsAt C H kd ps ∧ Wf ps ∧ ThAt p H t v ∧ (isK ps t = true → Q (upT ps t) H) ∧ (isK ps t = false → E (.ref CN) none H)
def spStUT (C CN : Addr) : Sp := fun vs H Q E => ∃ (p q : List Addr) (kd : Addr) (t r : Th) (v u : V) (ps : List (Str × Str)), vs = [.ref kd, v, u] ∧ KindsAt C H kd ps ∧ Wf ps ∧ ThAt p H t v ∧ ThAt q H r u ∧ ((isK ps t && isK ps r) = true → Q (.bl (stP ps t r)) H) ∧ ((isK ps t && isK ps r) = false → E (.ref CN) none H)
def spKInitE (C CN Pt : Addr) : Sp := fun vs H Q E => ∃ (p l dx : Addr) (as : List Addr) (ps : List (Str × Str)) (a : Addr) (v u : V) (t r : Th) (ex ex' : List Addr), vs = [.ref p, .ref l] ∧ H p = some (.ins C dx []) ∧ H l = some (.lst (as.map V.ref)) ∧ TupsAt H (as.take ps.length) ps ∧ as[ps.length]? = some a ∧ H a = some (.tup [v, u]) ∧ ThAt ex H t v ∧ ThAt ex' H r u ∧ p ∉ ex ∧ p ∉ ex' ∧
  Wf ps ∧ ps.length ≤ 30 ∧ okNew ps t r = false ∧ GxR.TabG H Pt ∧ ∀ H' : Hp, Keep [p, Pt] H H' → GxR.TabG H' Pt → E (.ref CN) none H'
section
variable {P : Program} {w : World} {K : PySem.W.Frag} {mg : Str → Option Value} {base : Heap} {C CN fI fK fN : Addr}
theorem ok_nms {f : Addr} {fd : FuncData} (F : Fun K "names" "Kinds.names" sNms f fd) (T : KTxt K mg C fI fK fN) (mL : mg "list" = none) : FnOk P w K mg base CX0 1 f fd ["self"] (spNms C) := by
  refine F.ok scNms (fun vs H Q E h => ?_) (fun cdv A outer s H vs Q E hr h => ?_)
  · obtain ⟨kd, ps, rfl, _⟩ := h
    rfl
  · obtain ⟨kd, ps, rfl, ⟨dx, d, e1, e2⟩, kk⟩ := h
    refine ⟨_, pss_one (ps_ret (pe_callTy (call_listD rfl) (by rfl) mL (by decide +kernel) (pa_cons (pe_fld (pv 0) rfl) pa_nil))), ?_⟩
    refine ⟨_, rfl, kd, C, dx, _, _, rfl, e1, T.cl, T.nA, ab_look _, d, _, rfl, .inl e2, fun l hl => ?_⟩
    rw [kvs_names]
    exact kk l hl
theorem ok_abvT {fC : Addr} {f : Addr} {fd dC : FuncData} (F : Fun K "above" "Kinds.above" sAbv f fd) (T : KTxt K mg C fI fK fN) (mC : Meth K C "_check" fC) (FC : FnOk P w K mg base (L2.CX P w) 3 fC dC ["self", "name"] (spKCkT C CN)) (bC : Binds K dC ["self", "name"] []) : FnOk P w K mg base (L2.CX P w) 4 f fd ["self", "name"] (spAbvT C CN) := by
  refine F.okX scAbv (fun vs H Q E h => ?_) (fun cdv A outer s H vs Q E hr h => ?_)
  · obtain ⟨p, kd, t, v, ps, rfl, _⟩ := h
    rfl
  · obtain ⟨p, kd, t, v, ps, rfl, hK, hw, th, kk, ke⟩ := h
    obtain ⟨dk, dd, g1, g2⟩ := id hK
    refine ⟨_, pss_cons (ps_expr (pe_methE (E := fun _ => E) (pv 0) T.cl mC FC hr bC (fun σ => passAt (takes_of rfl rfl rfl rfl) σ) (pa_cons (pv 1) pa_nil))) (pss_one (ps_ret (pe_dget (hu_of hr) (pe_fld (pv 0) rfl) (pv 1) (fun _ _ => rfl)))), ?_⟩
    refine ⟨_, rfl, kd, dk, _, rfl, g1, ab_no _ (by decide +kernel), _, rfl, p, kd, t, v, ps, rfl, hK, th, fun h => ?_, ke⟩
    obtain ⟨z, rfl, hz⟩ := isK_str h
    have ev : v = .str z := by simp only [ThAt] at th; exact th.1
    subst ev
    refine ⟨_, rfl, kd, C, dk, _, _, rfl, g1, T.cl, T.nA, ab_look _, _, rfl, dd, upV (upOf ps z), rfl, by rw [← up_at hw hz]; exact DGet.k (k := Sum.inr z) g2, kk h⟩
theorem ok_stUT {fC : Addr} {f : Addr} {fd dC : FuncData} (F : Fun K "stands_under" "Kinds.stands_under" sStU f fd) (T : KTxt K mg C fI fK fN) (mC : Meth K C "_check" fC) (FC : FnOk P w K mg base (L2.CX P w) 3 fC dC ["self", "name"] (spKCkT C CN)) (bC : Binds K dC ["self", "name"] []) : FnOk P w K mg base (L2.CX P w) 4 f fd ["self", "name", "other"] (spStUT C CN) := by
  refine F.okX scStU (fun vs H Q E h => ?_) (fun cdv A outer s H vs Q E hr h => ?_)
  · obtain ⟨p, q, kd, t, r, v, u, ps, rfl, _⟩ := h
    rfl
  · obtain ⟨p, q, kd, t, r, v, u, ps, rfl, hK, hw, th, rh, kk, ke⟩ := h
    obtain ⟨dk, dd, g1, g2⟩ := id hK
    refine ⟨_, pss_cons (ps_expr (pe_methE (E := fun _ => E) (pv 0) T.cl mC FC hr bC (fun σ => passAt (takes_of rfl rfl rfl rfl) σ) (pa_cons (pv 1) pa_nil)))
      (pss_cons (ps_expr (pe_methE (E := fun _ => E) (pv 0) T.cl mC FC hr bC (fun σ => passAt (takes_of rfl rfl rfl rfl) σ) (pa_cons (pv 2) pa_nil)))
      (pss_cons (ps_while (passes_of rfl) (PW.pt (pw_and (pt_cmpR op_notN (pv 1) pe_non (nomark _)) (pw_and1 (pt_cmpR op_ne (pv 1) (pv 2) (nomark _)))))
        (pss_one (ps_set (i := 1) scStU.nd rfl (Or.inl rfl) (pe_dget (hu_of hr) (pe_fld (pv 0) rfl) (pv 1) (fun _ _ => rfl)))))
      (pss_one (ps_ret (pe_cmpR op_notN (pv 1) pe_non (nomark _)))))), ?_⟩
    refine ⟨_, rfl, kd, dk, _, rfl, g1, ab_no _ (by decide +kernel), _, rfl, p, kd, t, v, ps, rfl, hK, th, fun h1 => ?_, fun h1 => ke (by rw [h1]; rfl)⟩
    refine ⟨_, rfl, kd, dk, _, rfl, g1, ab_no _ (by decide +kernel), _, rfl, q, kd, r, u, ps, rfl, hK, rh, fun h2 => ?_, fun h2 => ke (by rw [h1, h2]; rfl)⟩
    have kk := kk (by rw [h1, h2]; rfl)
    obtain ⟨a, rfl, ha⟩ := isK_str h1
    obtain ⟨b, rfl, hb⟩ := isK_str h2
    have ev : v = .str a := by simp only [ThAt] at th; exact th.1
    subst ev
    have eu : u = .str b := by simp only [ThAt] at rh; exact rh.1
    subst eu
    obtain ⟨r, r1, r2, r3, r4⟩ := hw.rank
    replace kk : Q (.bl (under ps a b)) H := kk
    refine ⟨fun m σ G => G = H ∧ ((∃ i, σ = [some (.ref kd), some (.str (nxN ps i a)), some (.str b)] ∧ (∀ j, j < i → nxN ps j a ≠ b) ∧ r (nxN ps i a) + i ≤ ps.length + 1 ∧ m = r (nxN ps i a) + 1) ∨ (σ = [some (.ref kd), some .non, some (.str b)] ∧ (∀ j, nxN ps j a ≠ b) ∧ m = 0)), ⟨_, rfl, .inl ⟨0, rfl, (fun j h => absurd h (Nat.not_lt_zero _)), by have := r4 a ha; simpa [nxN] using this, rfl⟩⟩, ?_⟩
    rintro m σ G ⟨rfl, ⟨i, rfl, hno, hrk, rfl⟩ | ⟨rfl, hno, rfl⟩⟩
    · have hx := nxN_in hw ha i
      refine ⟨_, rfl, rfl, _, rfl, iteNot (fun z => by cases z) ⟨_, rfl, _, rfl, rfl, _, rfl, ?_⟩⟩
      by_cases hit : nxN ps i a = b
      · refine iteNS (by rw [hit]) ?_
        refine ⟨_, rfl, rfl, ?_⟩
        show Q (.bl true) _
        rw [← under_t (ps := ps) (a := a) (b := b) (i := i) (by omega) hit]
        exact kk
      · refine iteNot (fun z => hit (V.str.inj z)) ?_
        refine ⟨fun σ' G' => G' = G ∧ σ' = [some (.ref kd), some (upV (upOf ps (nxN ps i a))), some (.str b)], ?_, ?_⟩
        · rintro σ' G' ⟨rfl, rfl⟩
          cases hu : upOf ps (nxN ps i a) with
          | none =>
            refine ⟨0, Nat.succ_pos _, rfl, .inr ⟨rfl, fun j => ?_, rfl⟩⟩
            have hF := up_none hw hx hu
            by_cases hj : j < i
            · exact hno j hj
            · have := nxN_F hw hF (j - i)
              rw [show i + (j - i) = j by omega] at this
              rw [this, ← hF]; exact hit
          | some y =>
            have e : nxN ps (i + 1) a = y := by show nx ps (nxN ps i a) = y; unfold nx; rw [hu]; rfl
            have lt := nx_rank hw r1 r2 r3 hx hu
            refine ⟨r y + 1, by omega, rfl, .inl ⟨i + 1, by rw [e]; rfl, fun j hj => ?_, by rw [e]; omega, by rw [e]⟩⟩
            by_cases hj' : j = i
            · rw [hj']; exact hit
            · exact hno j (by omega)
        · exact ⟨_, rfl, kd, C, dk, _, _, rfl, g1, T.cl, T.nA, ab_look _, _, rfl, dd, _, rfl, by rw [← up_at hw hx]; exact DGet.k (k := Sum.inr (nxN ps i a)) g2, rfl, rfl⟩
    · refine ⟨_, rfl, rfl, _, rfl, iteNS rfl ?_⟩
      refine ⟨_, rfl, rfl, ?_⟩
      show Q (.bl false) _
      rw [← under_f (ps := ps) (a := a) (b := b) fun i _ => hno i]
      exact kk
theorem ok_kInitE {fd fdN : FuncData} {Pt : Addr} (F : Fun K "__init__" "Kinds.__init__" sKInit fI fd) (T : KTxt K mg C fI fK fN) (FN : FnOk P w K mg base (L2.CX P w) 3 fN fdN ["self", "name", "above"] (spChkNewT C CN Pt)) (bN : Binds K fdN ["self", "name", "above"] []) :
    FnOk P w K mg base (L2.CX P w) 4 fI fd ["self", "pairs"] (spKInitE C CN Pt) := by
  refine F.okX scKInit (fun vs H Q E h => ?_) (fun cdv A outer s H vs Q E hr h => ?_)
  · obtain ⟨p, l, dx, as, ps, a, v, u, t, r, ex, ex', rfl, _⟩ := h
    rfl
  · obtain ⟨p, l, dx, as, ps, b, vb, ub, t, r, ex, ex', rfl, hp, el, tl, hb, ub2, th, rh, nx1, nx2, hw, hlen, hno, hT, ke⟩ := h
    refine ⟨_, pss_cons (ps_fld (pv 0) (pe_disp (pps_cons pe_str pe_non (pps_cons pe_str pe_str pps_nil)) (by rfl) (by rfl) (fun z => by cases z) (by decide)) rfl)
      (pss_one (ps_for (passes_of rfl) rfl (pi_list (pv 1)) (pg_tup rfl (pgs_cons (pg_name (i := 2) scKInit.nd rfl (Or.inl rfl)) (pgs_cons (pg_name (i := 3) scKInit.nd rfl (Or.inl rfl)) pgs_nil)))
        (pss_cons (ps_expr (pe_methE (E := fun _ => E) (pv 0) T.cl T.mN FN hr bN (fun σ => passAt (takes_of rfl rfl rfl rfl) σ) (pa_cons (pv 2) (pa_cons (pv 3) pa_nil)))) (pss_one (ps_dput (hu_of hr) (pe_fld (pv 0) rfl) (pv 2) (pv 3) rfl))))), ?_⟩
    intro d hd
    refine ⟨upd_same, kvsOf [], rfl, by decide, ?_⟩
    have npd : p ≠ d := ne_of_none hp hd
    have eK : mergeK [] (kvsOf []) = kvsOf [] := by decide +kernel
    rw [eK, upd_upd]
    refine ⟨_, rfl, p, C, dx, [], rfl, by rw [upd_ne npd]; exact hp, T.cl, T.nA, by decide, ?_⟩
    have k0 : Keep [p, Pt] H (upd (upd H d (.dK (kvsOf []))) p (.ins C dx [("_above", .ref d)])) := (Keep.new hd).ownTo List.mem_cons_self
    obtain ⟨tb, et, ht⟩ := hT
    have nlp : l ≠ p := ne_of el hp (fun z => nomatch z)
    have nlT : l ≠ Pt := ne_of el et (fun z => nomatch z)
    have nld : l ≠ d := ne_of_none el hd
    have npT : p ≠ Pt := ne_of hp et (fun z => nomatch z)
    have ndT : d ≠ Pt := fun z => by rw [z, et] at hd; cases hd
    have nlx : l ∉ [p, Pt] := fun z => by
      rcases List.mem_cons.mp z with z | z
      · exact nlp z
      · exact nlT (List.mem_singleton.mp z)
    have tx : ∀ a xs, H a = some (.tup xs) → a ∉ [p, Pt] := fun a xs q z => by
      rcases List.mem_cons.mp z with z | z
      · rw [z, hp] at q; cases q
      · rw [List.mem_singleton.mp z, et] at q; cases q
    have hbl := (List.getElem?_eq_some_iff.mp hb).1
    refine ⟨_, rfl, l, rfl, ⟨_, SqL.of (k0.at el nlx)⟩, for_list (K := K) (a := l) (xs := as.map V.ref) (fun i σ H' => i ≤ ps.length ∧ ∃ v2 v3 : Option V, σ = [some (.ref p), some (.ref l), v2, v3] ∧ Keep [p, Pt] H H' ∧ H' p = some (.ins C dx [("_above", .ref d)]) ∧ H' d = some (.dK (kvsOf (ps.take i))) ∧ GxR.TabG H' Pt)
      ⟨Nat.zero_le _, none, none, rfl, k0, upd_same, by rw [upd_ne npd.symm, upd_same]; rfl, ⟨tb, by rw [upd_ne npT.symm, upd_ne ndT.symm]; exact et, ht⟩⟩
      (fun i σ H' _ ⟨_, _, _, _, k, _⟩ => SqL.of (k.at el nlx)) ?_ ?_⟩
    · rintro i x σ H1 hx ⟨hi, v2, v3, rfl, k1, e1, e2, hT1⟩
      have noN : ([(("_above" : Str), V.ref d)] : List (Str × V)).lookup ("_check_new" : Str) = none := ab_no _ (by decide +kernel)
      obtain ⟨a, ha, rfl⟩ : ∃ a, as[i]? = some a ∧ x = V.ref a := by
        rw [List.getElem?_map] at hx
        cases q : as[i]? with
        | none => rw [q] at hx; cases hx
        | some a => rw [q] at hx; exact ⟨a, rfl, (Option.some.inj hx).symm⟩
      by_cases hil : i < ps.length
      · have ha' : (as.take ps.length)[i]? = some a := by rw [List.getElem?_take_of_lt hil]; exact ha
        obtain ⟨q, hq2, hta⟩ := tl.at ha'
        obtain ⟨w1, w2, w3⟩ := hw.step hq2
        have hns := hw.not_sheaf
        have hta1 : H1 a = some (.tup [.str q.1, .str q.2]) := k1.at hta (tx a _ hta)
        refine ⟨a, _, rfl, SqT.of hta1, rfl, _, _, rfl, _, _, rfl, rfl, ?_⟩
        have hin : q.2 ∈ sF :: ps.map Prod.fst := by
          rcases List.mem_cons.mp w3 with m | m
          · rw [m]; exact List.mem_cons_self
          · obtain ⟨u, hu, eu⟩ := List.mem_map.mp m
            exact List.mem_cons_of_mem _ (List.mem_map.mpr ⟨u, List.mem_of_mem_take hu, eu⟩)
        have hy : ¬ q.2 = sS := hns q.2 hin
        have tx2 : IsTx q.2 := allK_tx hw q.2 (kept_all hin)
        have good : okNew (ps.take i) (.flat (.str q.1)) (.flat (.str q.2)) = true := by
          have a1 : isK (ps.take i) (.flat (.str q.1)) = false := decide_eq_false w2
          have a2 : isK (ps.take i) (.flat (.str q.2)) = true := decide_eq_true (kept_all w3)
          have a3 : isSf (.flat (.str q.2)) = false := decide_eq_false hy
          unfold okNew
          rw [nmB_of w1, a1, a2, a3]
          rfl
        refine ⟨_, rfl, p, dx, _, rfl, e1, noN, _, rfl, _, rfl, [], [], p, .flat (.str q.1), .flat (.str q.2), .str q.1, .str q.2, ps.take i, rfl, ⟨dx, d, e1, e2⟩, (by simp only [ThAt]; exact ⟨True.intro, nm_tx w1⟩), (by simp only [ThAt]; exact ⟨True.intro, tx2⟩), hT1, fun H2 hH => ⟨fun _ => ?_, fun z => by rw [good] at z; cases z⟩⟩
        have k2 : Keep [Pt] H1 H2 := by
          rcases hH with rfl | hH
          · exact fun b o _ e => e
          · exact tab_keep hH
        have e12 : H2 p = some (.ins C dx [("_above", .ref d)]) := k2.at e1 (nin1 npT)
        have e22 : H2 d = some (.dK (kvsOf (ps.take i))) := k2.at e2 (nin1 ndT)
        refine ⟨_, rfl, _, rfl, p, C, dx, _, _, rfl, e12, T.cl, T.nA, ab_look _, ?_⟩
        have hlk : (kvsOf (ps.take i)).length < sizeLine := by
          rw [kvs_len, List.length_take]
          exact Nat.lt_of_lt_of_le (by omega : min i ps.length + 2 < 1000) (by decide)
        refine ⟨_, rfl, d, _, rfl, DPut.k (k := Sum.inr q.1) e22 hlk, ?_⟩
        have eT : ps.take (i + 1) = ps.take i ++ [(q.1, q.2)] := by rw [List.take_add_one, hq2]; rfl
        rw [kvs_put w2, ← eT]
        refine ⟨hil, _, _, rfl, ((k1.trans (k2.more fun b hb => List.mem_cons_of_mem _ hb)).freshTo hd), by rw [upd_ne npd]; exact e12, upd_same, ?_⟩
        obtain ⟨tb2, et2, ht2⟩ := TabG.tab hT1 hH
        exact ⟨tb2, by rw [upd_ne ndT.symm]; exact et2, ht2⟩
      · have ei : i = ps.length := by omega
        subst ei
        have eab : b = a := Option.some.inj (hb.symm.trans ha)
        subst eab
        have hta1 : H1 b = some (.tup [vb, ub]) := k1.at ub2 (tx b _ ub2)
        refine ⟨b, _, rfl, SqT.of hta1, rfl, _, _, rfl, _, _, rfl, rfl, ?_⟩
        rw [List.take_length] at e2
        have kx : ∀ {ey : List Addr} {y : Th} {vy : V}, p ∉ ey → ThAt ey H y vy → ThAt ey H1 y vy := fun {ey y vy} np h =>
          h.map (fun c xs e => k1.at e (tx c _ e)) (fun c xs n e => k1.at e fun z => by
            rcases List.mem_cons.mp z with z | z
            · rw [z, hp] at e; cases e
            · rw [List.mem_singleton.mp z, et] at e; cases e) (fun c xs e => k1.at e fun z => by
            rcases List.mem_cons.mp z with z | z
            · rw [z, hp] at e; cases e
            · rw [List.mem_singleton.mp z, et] at e; cases e)
        refine ⟨_, rfl, p, dx, _, rfl, e1, noN, _, rfl, _, rfl, ex, ex', p, t, r, vb, ub, ps, rfl, ⟨dx, d, e1, e2⟩, kx nx1 th, kx nx2 rh, hT1, fun H2 hH => ⟨fun z => (by rw [hno] at z; cases z), fun _ => ?_⟩⟩
        have k2 : Keep [Pt] H1 H2 := by
          rcases hH with rfl | hH
          · exact fun b o _ e => e
          · exact tab_keep hH
        exact ke H2 (k1.trans (k2.more fun b hb => List.mem_cons_of_mem _ hb)) (TabG.tab hT1 hH)
    · rintro σ H1 ⟨hi, _⟩
      rw [List.length_map] at hi
      omega
end
end Fs
/-! The law: what stands under what; what is caught. -/
namespace Fs
open PySem L2 TL
abbrev sStd : Stmt := top 23 --def _law_stands
abbrev nStd : List Str := ["_law_pairs_here", "_law_name_here", "_law_other", "_law_aboves", "_law_here", "_law_turn"]
theorem scStd : FnScope nStd ["_law_pairs_here", "_law_name_here", "_law_other"] (defScope sStd) := ⟨rfl, rfl, rfl, by decide +kernel, rfl, by decide +kernel, by decide +kernel⟩
def spStd : Sp := fun vs H Q _ => ∃ (l : Addr) (a b : Str) (ps : List (Str × Str)), vs = [.ref l, .str a, .str b] ∧ PairsAt H l ps ∧ Wf ps ∧ ps.length ≤ 100 ∧ a ∈ allK ps ∧ b ∈ allK ps ∧ ∀ H', Keep [] H H' → Q (.bl (under ps a b)) H'
theorem TupsAt.paired {K : PySem.W.Frag} {H : Hp} : ∀ {as : List Addr} {ps : List (Str × Str)}, TupsAt H as ps → Paired (fun p kv => SqT K H p [kV kv.1, kv.2]) as (ps.map pr)
  | [], [], _ => .nil
  | _ :: _, _ :: _, h => .cons (SqT.of h.1) (TupsAt.paired h.2)
  | [], _ :: _, h => h.elim
  | _ :: _, [], h => h.elim
/-- the law's dict: the pairs, sheaf under fault -/
def kvsL (ps : List (Str × Str)) : List (Key × V) := ps.map pr ++ [(.inr sS, .str sF)]
theorem kvsL_at {ps : List (Str × Str)} (hw : Wf ps) {x : Str} (hx : x ∈ allK ps) : valV (kvsL ps) (.inr x) = if x = sF then none else some (.str (nx ps x)) := by
  have noP : x ∉ ps.map Prod.fst → valV (ps.map pr) (.inr x) = none := fun h => by
    unfold valV
    rw [List.find?_eq_none.mpr fun kv hkv e => ?_]; rfl
    obtain ⟨q, hq, rfl⟩ := List.mem_map.mp hkv
    exact h (List.mem_map.mpr ⟨q, hq, Sum.inr.inj (of_decide_eq_true e)⟩)
  unfold kvsL
  by_cases h : x ∈ ps.map Prod.fst
  · have ne := hw.not_keys x h
    rw [if_neg ne.1]
    have e := law_up hw hx
    have s := kvs_some x ps
    rw [decide_eq_true h] at s
    obtain ⟨v, hv⟩ := Option.isSome_iff_exists.mp s
    have hv' : valV (ps.map pr) (.inr x) = some v := hv
    rw [hv'] at e
    exact valV_app1 (by rw [hv']; exact congrArg some e)
  · rw [valV_app (noP h)]
    rcases List.mem_cons.mp hx with z | z
    · rw [if_pos z, z]
      exact valV_neg (fun e => sFS (Sum.inr.inj e).symm)
    · rcases List.mem_cons.mp z with z | z
      · rw [if_neg (by rw [z]; exact fun e => sFS e.symm), z, valV_pos rfl]
        unfold nx; rw [up_S hw]; rfl
      · exact absurd z h
theorem kvsL_put {ps : List (Str × Str)} (hw : Wf ps) : putK (ps.map pr) (.inr sS) (.str sF) = kvsL ps := by
  have hn : ((ps.map pr).any fun kv => decide (kv.1 = (.inr sS : Key))) = false := by
    rw [List.any_eq_false]
    intro kv hkv e
    obtain ⟨q, hq, rfl⟩ := List.mem_map.mp hkv
    exact (hw.not_keys q.1 (List.mem_map.mpr ⟨q, hq, rfl⟩)).2 (Sum.inr.inj (of_decide_eq_true e))
  unfold putK
  rw [hn, if_neg Bool.false_ne_true]
  rfl
section
variable {P : Program} {w : World} {K : PySem.W.Frag} {mg : Str → Option Value} {base : Heap} {C CN fI fK fN : Addr}
theorem ok_std {f : Addr} {fd : FuncData} (F : Fun K "_law_stands" "_law_stands" sStd f fd) (mD : mg "dict" = none) (mL : mg "len" = none) (mR : mg "range" = none) : FnOk P w K mg base CX0 1 f fd ["_law_pairs_here", "_law_name_here", "_law_other"] spStd := by
  refine F.ok scStd (fun vs H Q E h => ?_) (fun cdv A outer s H vs Q E hr h => ?_)
  · obtain ⟨l, a, b, ps, rfl, _⟩ := h
    rfl
  · obtain ⟨l, a, b, ps, rfl, hP, hw, hps, ha, hb, kk⟩ := h
    obtain ⟨as, el, tl⟩ := hP
    obtain ⟨r, r1, r2, r3, r4⟩ := hw.rank
    refine ⟨_, pss_cons (ps_set (i := 3) scStd.nd rfl (Or.inl rfl) (pe_callTy (call_dictP rfl) (by rfl) mD (by decide +kernel) (pa_cons (pv 0) pa_nil)))
      (pss_cons (ps_dput (hu_of hr) (pv 3) pe_str pe_str rfl)
      (pss_cons (ps_set (i := 4) scStd.nd rfl (Or.inl rfl) (pv 1))
      (pss_cons (ps_for PassesOwn.never rfl (pi_range1 rfl mR (pa_cons (pe_op op_add (pe_callB call_lenD (by rfl) mL PySem.boot_len (pa_cons (pv 3) pa_nil)) pe_int) pa_nil)) (pg_name (i := 5) scStd.nd rfl (Or.inl rfl))
        (pss_one (ps_if (PW.pt (pw_and (pt_cmpR op_ne (pv 4) (pv 2) (nomark _)) (pw_and1 (pt_cmp (pc_din (hu_of hr) (pv 4) (pv 3)) rfl))))
          (pss_one (ps_set (i := 4) scStd.nd rfl (Or.inl rfl) (pe_dget (hu_of hr) (pv 3) (pv 4) (fun _ _ => rfl)))) pss_nil)))
      (pss_one (ps_ret (pe_cmpR op_eq (pv 4) (pv 2) (nomark _))))))), ?_⟩
    refine ⟨_, rfl, l, as, ps.map pr, rfl, SqL.of el, tl.paired, fun d hd => ?_⟩
    rw [merge_wf hw]
    have nlen : (ps.map pr).length < sizeLine := by
      rw [List.length_map]
      exact Nat.lt_of_lt_of_le (by omega : ps.length < 1000) (by decide)
    refine ⟨_, rfl, d, _, rfl, DPut.k (k := Sum.inr sS) upd_same nlen, ?_⟩
    rw [kvsL_put hw, upd_upd]
    have kd : Keep [] H (upd H d (.dK (kvsL ps))) := Keep.new hd
    have ed : (upd H d (.dK (kvsL ps))) d = some (.dK (kvsL ps)) := upd_same
    generalize (upd H d (.dK (kvsL ps))) = G at kd ed ⊢
    refine ⟨_, rfl, ?_⟩
    have hL : (kvsL ps).length = ps.length + 1 := by unfold kvsL; rw [List.length_append, List.length_map]; rfl
    refine ⟨_, rfl, d, _, rfl, ed, _, _, rfl, rfl, _, rfl, by rw [hL]; omega, by rw [hL]; omega, ?_⟩
    rw [hL, show ((ps.length + 1 : Nat) : Int) + 1 = ((ps.length + 2 : Nat) : Int) by omega, Int.toNat_natCast]
    refine for_range (lo := 0) (n := ps.length + 2) (fun i σ G' => ∃ (j : Nat) (v5 : Option V), σ = [some (.ref l), some (.str a), some (.str b), some (.ref d), some (.str (nxN ps j a)), v5] ∧ G' = G ∧ (∀ j', j' < j → nxN ps j' a ≠ b) ∧ r (nxN ps j a) + j ≤ ps.length + 1 ∧ (nxN ps j a = b ∨ nxN ps j a = sF ∨ j = i))
      ⟨0, none, rfl, rfl, (fun j h => absurd h (Nat.not_lt_zero _)), by have := r4 a ha; simpa [nxN] using this, .inr (.inr rfl)⟩ ?_ ?_
    · rintro i σ G' hi ⟨j, v5, rfl, rfl, hno, hrk, hor⟩
      have hx := nxN_in hw ha j
      refine ⟨_, rfl, _, rfl, rfl, _, rfl, ?_⟩
      by_cases hit : nxN ps j a = b
      · refine iteNS (by rw [hit]) ?_
        exact ⟨j, _, rfl, rfl, hno, hrk, .inl hit⟩
      · refine iteNot (fun z => hit (V.str.inj z)) ?_
        refine ⟨_, rfl, _, rfl, d, _, rfl, DGet.k (k := Sum.inr (nxN ps j a)) ed, ?_⟩
        have ev := kvsL_at hw hx
        by_cases hF : nxN ps j a = sF
        · rw [ev, if_pos hF]
          exact ⟨_, rfl, iteF ⟨j, _, rfl, rfl, hno, hrk, .inr (.inl hF)⟩⟩
        · have e' : valV (kvsL ps) (.inr (nxN ps j a)) = some (.str (nx ps (nxN ps j a))) := by rw [ev, if_neg hF]
          rw [e']
          refine ⟨_, rfl, iteT ?_⟩
          refine ⟨_, rfl, _, rfl, d, .str (nx ps (nxN ps j a)), rfl, by rw [← e']; exact DGet.k (k := Sum.inr (nxN ps j a)) ed, ?_⟩
          have ej : j = i := by
            rcases hor with q | q | q
            · exact absurd q hit
            · exact absurd q hF
            · exact q
          have hu : ∃ y, upOf ps (nxN ps j a) = some y := by
            cases hu : upOf ps (nxN ps j a) with
            | none => exact absurd (up_none hw hx hu) hF
            | some y => exact ⟨y, rfl⟩
          obtain ⟨y, hu⟩ := hu
          have en : nx ps (nxN ps j a) = y := by unfold nx; rw [hu]; rfl
          have lt := nx_rank hw r1 r2 r3 hx hu
          refine ⟨j + 1, _, rfl, rfl, fun j' hj => ?_, ?_, .inr (.inr (by omega))⟩
          · by_cases h : j' = j
            · rw [h]; exact hit
            · exact hno j' (by omega)
          · show r (nx ps (nxN ps j a)) + (j + 1) ≤ _
            rw [en]
            omega
    · rintro σ G' ⟨j, v5, rfl, rfl, hno, hrk, hor⟩
      refine ⟨_, rfl, _, rfl, rfl, ?_⟩
      have := kk G' kd
      by_cases hit : nxN ps j a = b
      · rw [decide_eq_true (show V.str (nxN ps j a) = V.str b by rw [hit])]
        rw [under_t (by omega) hit] at this
        exact this
      · rw [decide_eq_false (fun z => hit (V.str.inj z))]
        have hF : nxN ps j a = sF := by
          rcases hor with q | q | q
          · exact absurd q hit
          · exact q
          · omega
        rw [under_f fun i hi => ?_] at this
        · exact this
        · by_cases hj : i < j
          · exact hno i hj
          · have := nxN_F hw hF (i - j)
            rw [show j + (i - j) = i by omega] at this
            rw [this, ← hF]; exact hit
end
end Fs
/-! The law: what is caught. -/
namespace Fs
open PySem L2 TL
abbrev sNoK : Stmt := top 24 --def _law_is_no_kind
abbrev sMad : Stmt := top 25 --def _law_made
abbrev sLab : Stmt := top 26 --def _law_above
abbrev sLun : Stmt := top 27 --def _law_under
abbrev nNoK : List Str := ["_law_e", "_law_others"]
abbrev nMad : List Str := ["_law_pairs_here", "_law_found", "_law_e"]
abbrev nLab : List Str := ["_law_kinds", "_law_name_here", "_law_found", "_law_e"]
abbrev nLun : List Str := ["_law_kinds", "_law_name_here", "_law_other", "_law_found", "_law_e"]
theorem scNoK : FnScope nNoK ["_law_e"] (defScope sNoK) := ⟨rfl, rfl, rfl, by decide +kernel, rfl, by decide +kernel, by decide +kernel⟩
theorem scMad : FnScope nMad ["_law_pairs_here"] (defScope sMad) := ⟨rfl, rfl, rfl, by decide +kernel, rfl, by decide +kernel, by decide +kernel⟩
theorem scLab : FnScope nLab ["_law_kinds", "_law_name_here"] (defScope sLab) := ⟨rfl, rfl, rfl, by decide +kernel, rfl, by decide +kernel, by decide +kernel⟩
theorem scLun : FnScope nLun ["_law_kinds", "_law_name_here", "_law_other"] (defScope sLun) := ⟨rfl, rfl, rfl, by decide +kernel, rfl, by decide +kernel, by decide +kernel⟩
structure NKE (K : PySem.W.Frag) (mg : Str → Option Value) (CN CF C1 C2 C3 C4 C5 C6 C7 C8 : Addr) : Prop where
  gN : mg "NoKind" = some (.ref CN)
  gF : mg "FaultError" = some (.ref CF)
  g1 : mg "Empty" = some (.ref C1)
  g2 : mg "NoBody" = some (.ref C2)
  g3 : mg "NoFault" = some (.ref C3)
  g4 : mg "NoProgram" = some (.ref C4)
  g5 : mg "NoRow" = some (.ref C5)
  g6 : mg "NoTest" = some (.ref C6)
  g7 : mg "NoText" = some (.ref C7)
  g8 : mg "NoWay" = some (.ref C8)
  eF : PySem.W.exmOne K (.ref CN) (.ref CF) = some true
  exc : ExcC K CN
  no : PySem.W.kitAny K (.ref CN) [.ref C1, .ref C2, .ref C3, .ref C4, .ref C5, .ref C6, .ref C7, .ref C8] = some false
  own : PySem.W.kitOne K (.ref CN) (.ref CN) = some true
  val : PySem.W.kitOne K (.ref CN) (.type "ValueError") = some true
def spNoK (CN : Addr) : SpE := fun a cls d vs H Q _ => vs = [.ref a] ∧ cls = .ref CN ∧ d = none ∧ ∀ H', Keep [] H H' → Q (.bl true) H'
def spLab (C : Addr) : Sp := fun vs H Q _ => ∃ (p : List Addr) (kd : Addr) (t : Th) (v : V) (ps : List (Str × Str)), vs = [.ref kd, v] ∧ KindsAt C H kd ps ∧ Wf ps ∧ ThAt p H t v ∧
  (isK ps t = true → ∀ (q : Addr) (H' : Hp), Keep [] H H' → H q = none → H' q = some (.tup [.str "told", upT ps t]) → Q (.ref q) H') ∧
  (isK ps t = false → ∀ (q : Addr) (H' : Hp), Keep [] H H' → H q = none → H' q = some (.tup [.str "refused", .bl true]) → Q (.ref q) H')
def spLun (C : Addr) : Sp := fun vs H Q _ => ∃ (p p' : List Addr) (kd : Addr) (t r : Th) (v u : V) (ps : List (Str × Str)), vs = [.ref kd, v, u] ∧ KindsAt C H kd ps ∧ Wf ps ∧ ThAt p H t v ∧ ThAt p' H r u ∧
  ((isK ps t && isK ps r) = true → ∀ (q : Addr) (H' : Hp), Keep [] H H' → H q = none → H' q = some (.tup [.str "told", .bl (stP ps t r)]) → Q (.ref q) H') ∧
  ((isK ps t && isK ps r) = false → ∀ (q : Addr) (H' : Hp), Keep [] H H' → H q = none → H' q = some (.tup [.str "refused", .bl true]) → Q (.ref q) H')
def spMad (Pt : Addr) : Sp := fun vs H Q _ => ∃ l : Addr, vs = [.ref l] ∧ GxR.TabG H Pt ∧
  ((∃ ps, PairsAt H l ps ∧ Wf ps ∧ ps.length ≤ 30 ∧ ∀ H', Keep [Pt] H H' → GxR.TabG H' Pt → Q (.str "made") H') ∨
   (∃ (as : List Addr) (ps : List (Str × Str)) (a : Addr) (v u : V) (t r : Th) (ex ex' : List Addr), H l = some (.lst (as.map V.ref)) ∧ TupsAt H (as.take ps.length) ps ∧ as[ps.length]? = some a ∧ H a = some (.tup [v, u]) ∧ ThAt ex H t v ∧ ThAt ex' H r u ∧ (∀ b ∈ ex, H b ≠ none) ∧ (∀ b ∈ ex', H b ≠ none) ∧
     Wf ps ∧ ps.length ≤ 30 ∧ okNew ps t r = false ∧ ∀ H', Keep [Pt] H H' → GxR.TabG H' Pt → Q (.bl true) H'))
section
variable {P : Program} {w : World} {K : PySem.W.Frag} {mg : Str → Option Value} {base : Heap} {C CN CF C1 C2 C3 C4 C5 C6 C7 C8 fI fK fN : Addr}
theorem ok_noK {f : Addr} {fd : FuncData} (F : Fun K "_law_is_no_kind" "_law_is_no_kind" sNoK f fd) (T : NKE K mg CN CF C1 C2 C3 C4 C5 C6 C7 C8) (mI : mg "isinstance" = none) (mV : mg "ValueError" = none) : FnE P w K mg base 1 f fd ["_law_e"] (spNoK CN) := by
  refine okE F scNoK (fun a cls d vs H Q E h => ?_) (fun cdv A outer s H vs Q E a oe cls d hr hz hf h => ?_)
  · obtain ⟨rfl, _⟩ := h
    rfl
  · obtain ⟨rfl, rfl, rfl, kk⟩ := h
    refine ⟨_, pss_cons (ps_set (i := 1) scNoK.nd rfl (Or.inl rfl) (pe_callB (call_isP List.mem_cons_self hz hf) (by rfl) mI (by decide +kernel) (pa_cons (pv 0) (pa_cons (pe_tup (pa_cons (pe_glob (v := .ref C1) rfl T.g1 rfl) (pa_cons (pe_glob (v := .ref C2) rfl T.g2 rfl) (pa_cons (pe_glob (v := .ref C3) rfl T.g3 rfl) (pa_cons (pe_glob (v := .ref C4) rfl T.g4 rfl) (pa_cons (pe_glob (v := .ref C5) rfl T.g5 rfl) (pa_cons (pe_glob (v := .ref C6) rfl T.g6 rfl) (pa_cons (pe_glob (v := .ref C7) rfl T.g7 rfl) (pa_cons (pe_glob (v := .ref C8) rfl T.g8 rfl) pa_nil))))))))) pa_nil))))
      (pss_one (ps_ret (pe_and (pe_callB (call_isP List.mem_cons_self hz hf) (by rfl) mI (by decide +kernel) (pa_cons (pv 0) (pa_cons (pe_glob (v := .ref CN) rfl T.gN rfl) pa_nil))) (pe_and (pe_callB (call_isP List.mem_cons_self hz hf) (by rfl) mI (by decide +kernel) (pa_cons (pv 0) (pa_cons (pe_bltn (v := .ty "ValueError") (u := .type "ValueError") (by rfl) mV (by decide +kernel) rfl) pa_nil))) (pe_one (pe_not (pv 1))))))), ?_⟩
    refine ⟨_, rfl, (by show 8 ≤ sizeLine; decide), fun tp htp => ?_⟩
    refine ⟨CN, rfl, rfl, T.exc, .inr ⟨tp, _, [.ref C1, .ref C2, .ref C3, .ref C4, .ref C5, .ref C6, .ref C7, .ref C8], false, rfl, upd_same, .cons (.own _) (.cons (.own _) (.cons (.own _) (.cons (.own _) (.cons (.own _) (.cons (.own _) (.cons (.own _) (.cons (.own _) .nil))))))), T.no, ?_⟩⟩
    refine ⟨_, rfl, CN, rfl, rfl, T.exc, .inl ⟨.ref CN, .ref CN, true, rfl, (fun u q => q), T.own, true, rfl, iteT ?_⟩⟩
    refine ⟨_, rfl, CN, rfl, rfl, T.exc, .inl ⟨.ty "ValueError", .type "ValueError", true, rfl, (fun u q => q), T.val, true, rfl, iteT ?_⟩⟩
    exact ⟨_, rfl, false, rfl, kk _ (Keep.new htp)⟩
theorem fab (d : Addr) : ([(("_above" : Str), V.ref d)] : List (Str × V)).lookup ("above" : Str) = none := ab_no _ (by decide +kernel)
theorem fsu (d : Addr) : ([(("_above" : Str), V.ref d)] : List (Str × V)).lookup ("stands_under" : Str) = none := ab_no _ (by decide +kernel)
theorem KindsAt.keep0 {C : Addr} {H H' : Hp} {kd : Addr} {ps : List (Str × Str)} (h : KindsAt C H kd ps) (k : Keep [] H H') : KindsAt C H' kd ps := h.keep k fun b z => absurd z nin0
theorem ok_lab {f fV fE : Addr} {fd dV dE : FuncData} (F : Fun K "_law_above" "_law_above" sLab f fd) (T : NKE K mg CN CF C1 C2 C3 C4 C5 C6 C7 C8) (cl : Cls K C) (mV : Meth K C "above" fV) (FV : FnOk P w K mg base (L2.CX P w) 4 fV dV ["self", "name"] (spAbvT C CN)) (bV : Binds K dV ["self", "name"] [])
    (FE : FnE P w K mg base 1 fE dE ["_law_e"] (spNoK CN)) (gE : mg "_law_is_no_kind" = some (.ref fE)) (kE : PySem.W.keepIn K (.ref fE) = true) (bE : Binds K dE ["_law_e"] []) : FnOk P w K mg base CX0 5 f fd ["_law_kinds", "_law_name_here"] (spLab C) := by
  refine F.ok scLab (fun vs H Q E h => ?_) (fun cdv A0 outer s H vs Q Es hr h => ?_)
  · obtain ⟨p, kd, t, v, ps, rfl, _⟩ := h
    rfl
  · obtain ⟨p, kd, t, v, ps, rfl, hK, hw, th, kq, ke⟩ := h
    have hr1 : Room 1 _ := hr.mono (by decide)
    refine ⟨_, pss_cons (ps_set (i := 2) scLab.nd rfl (Or.inl rfl) (pe_tup (pa_cons pe_str (pa_cons pe_bl pa_nil))))
      (pss_cons (ps_try_as (i := 3) (tb := fun W => tAsg (tTup (tCons (tC (.str "told")) (tCons (tMethE C "above" (spAbvT C CN) (WE W) (tVar 0) (tCons (tVar 1) tNil)) tNil))) (gName 2)) (Wout := fun _ _ _ _ => False) rfl rfl scLab.nd rfl rfl ⟨rfl, by decide, Or.inl T.gF⟩ takes0
        (fun W pn xe tk _ => pss_one (ps_set (i := 2) scLab.nd rfl (Or.inl rfl) (pe_tup (pa_cons pe_str (pa_cons (pe_methE (pv 0) cl mV FV hr bV (fun σ => passAt tk σ) (by exact (pa_cons (pv 1) pa_nil))) pa_nil)))))
        (fun a oe cls d pn hz hf => pss_one (ps_set (i := 2) scLab.nd rfl (Or.inl rfl) (pe_tup (pa_cons pe_str (pa_cons (pe_callE FE hz hf hr1 rfl gE kE bE (pa_cons (pv 3) pa_nil)) pa_nil))))))
      (pss_one (ps_ret (pv 2)))), ?_⟩
    refine ⟨(by show 2 ≤ sizeLine; decide), fun t0 ht0 => ?_⟩
    have k1 : Keep [] H (upd H t0 (.tup [.str "refused", .bl false])) := Keep.new ht0
    generalize (upd H t0 (.tup [.str "refused", .bl false])) = H1 at k1 ⊢
    have hK1 := hK.keep0 k1
    obtain ⟨dk, dd, g1, g2⟩ := id hK1
    refine ⟨_, rfl, kd, dk, _, rfl, g1, fab dd, _, rfl, ?_⟩
    dsimp only [tNil]
    refine ⟨p, kd, t, v, ps, rfl, hK1, hw, th.keep0 k1, fun hy => ?_, fun hn => ?_⟩
    · refine ⟨(by show 2 ≤ sizeLine; decide), fun q hq => ?_⟩
      exact ⟨_, rfl, kq hy q _ (k1.newTo hq) (Keep.free k1 hq nin0) upd_same⟩
    · refine ⟨true, T.eF, fun _ b hb => ?_, fun q => nomatch q⟩
      refine ⟨_, rfl, rfl, rfl, rfl, fun H2 k2 => ?_⟩
      refine ⟨(by show 2 ≤ sizeLine; decide), fun q hq => ?_⟩
      exact ⟨_, rfl, ke hn q _ ((k1.trans k2).newTo hq) (Keep.free (k1.trans k2) hq nin0) upd_same⟩
theorem ok_lun {f fV fE : Addr} {fd dV dE : FuncData} (F : Fun K "_law_under" "_law_under" sLun f fd) (T : NKE K mg CN CF C1 C2 C3 C4 C5 C6 C7 C8) (cl : Cls K C) (mV : Meth K C "stands_under" fV) (FV : FnOk P w K mg base (L2.CX P w) 4 fV dV ["self", "name", "other"] (spStUT C CN)) (bV : Binds K dV ["self", "name", "other"] [])
    (FE : FnE P w K mg base 1 fE dE ["_law_e"] (spNoK CN)) (gE : mg "_law_is_no_kind" = some (.ref fE)) (kE : PySem.W.keepIn K (.ref fE) = true) (bE : Binds K dE ["_law_e"] []) : FnOk P w K mg base CX0 5 f fd ["_law_kinds", "_law_name_here", "_law_other"] (spLun C) := by
  refine F.ok scLun (fun vs H Q E h => ?_) (fun cdv A0 outer s H vs Q Es hr h => ?_)
  · obtain ⟨p, p', kd, t, r, v, u, ps, rfl, _⟩ := h
    rfl
  · obtain ⟨p, p', kd, t, r, v, u, ps, rfl, hK, hw, th, rh, kq, ke⟩ := h
    have hr1 : Room 1 _ := hr.mono (by decide)
    refine ⟨_, pss_cons (ps_set (i := 3) scLun.nd rfl (Or.inl rfl) (pe_tup (pa_cons pe_str (pa_cons pe_bl pa_nil))))
      (pss_cons (ps_try_as (i := 4) (tb := fun W => tAsg (tTup (tCons (tC (.str "told")) (tCons (tMethE C "stands_under" (spStUT C CN) (WE W) (tVar 0) (tCons (tVar 1) (tCons (tVar 2) tNil))) tNil))) (gName 3)) (Wout := fun _ _ _ _ => False) rfl rfl scLun.nd rfl rfl ⟨rfl, by decide, Or.inl T.gF⟩ takes0
        (fun W pn xe tk _ => pss_one (ps_set (i := 3) scLun.nd rfl (Or.inl rfl) (pe_tup (pa_cons pe_str (pa_cons (pe_methE (pv 0) cl mV FV hr bV (fun σ => passAt tk σ) (by exact (pa_cons (pv 1) (pa_cons (pv 2) pa_nil)))) pa_nil)))))
        (fun a oe cls d pn hz hf => pss_one (ps_set (i := 3) scLun.nd rfl (Or.inl rfl) (pe_tup (pa_cons pe_str (pa_cons (pe_callE FE hz hf hr1 rfl gE kE bE (pa_cons (pv 4) pa_nil)) pa_nil))))))
      (pss_one (ps_ret (pv 3)))), ?_⟩
    refine ⟨(by show 2 ≤ sizeLine; decide), fun t0 ht0 => ?_⟩
    have k1 : Keep [] H (upd H t0 (.tup [.str "refused", .bl false])) := Keep.new ht0
    generalize (upd H t0 (.tup [.str "refused", .bl false])) = H1 at k1 ⊢
    have hK1 := hK.keep0 k1
    obtain ⟨dk, dd, g1, g2⟩ := id hK1
    refine ⟨_, rfl, kd, dk, _, rfl, g1, fsu dd, _, rfl, _, rfl, ?_⟩
    dsimp only [tNil]
    refine ⟨p, p', kd, t, r, v, u, ps, rfl, hK1, hw, th.keep0 k1, rh.keep0 k1, fun hy => ?_, fun hn => ?_⟩
    · refine ⟨(by show 2 ≤ sizeLine; decide), fun q hq => ?_⟩
      exact ⟨_, rfl, kq hy q _ (k1.newTo hq) (Keep.free k1 hq nin0) upd_same⟩
    · refine ⟨true, T.eF, fun _ b hb => ?_, fun q => nomatch q⟩
      refine ⟨_, rfl, rfl, rfl, rfl, fun H2 k2 => ?_⟩
      refine ⟨(by show 2 ≤ sizeLine; decide), fun q hq => ?_⟩
      exact ⟨_, rfl, ke hn q _ ((k1.trans k2).newTo hq) (Keep.free (k1.trans k2) hq nin0) upd_same⟩
theorem ok_mad {f fE Pt : Addr} {fd dI dE : FuncData} (F : Fun K "_law_made" "_law_made" sMad f fd) (T : NKE K mg CN CF C1 C2 C3 C4 C5 C6 C7 C8) (mk : Mk K C fI) (gK : mg "Kinds" = some (.ref C)) (FI : FnOk P w K mg base (L2.CX P w) 4 fI dI ["self", "pairs"] (fun vs H Q E => spKInit C Pt vs H Q E ∨ spKInitE C CN Pt vs H Q E)) (bI : Binds K dI ["self", "pairs"] [])
    (FE : FnE P w K mg base 1 fE dE ["_law_e"] (spNoK CN)) (gE : mg "_law_is_no_kind" = some (.ref fE)) (kE : PySem.W.keepIn K (.ref fE) = true) (bE : Binds K dE ["_law_e"] []) : FnOk P w K mg base CX0 6 f fd ["_law_pairs_here"] (spMad Pt) := by
  refine F.ok scMad (fun vs H Q E h => ?_) (fun cdv A0 outer s H vs Q Es hr h => ?_)
  · obtain ⟨l, rfl, _⟩ := h
    rfl
  · obtain ⟨l, rfl, hT, hor⟩ := h
    have hr1 : Room 1 _ := hr.mono (by decide)
    refine ⟨_, pss_cons (ps_set (i := 1) scMad.nd rfl (Or.inl rfl) pe_str)
      (pss_cons (ps_try_as (i := 2) (tb := fun W => tDrop (tMakeE C (fun vs H Q E => spKInit C Pt vs H Q E ∨ spKInitE C CN Pt vs H Q E) (WE W) (tCons (tVar 0) tNil))) (Wout := fun _ _ _ _ => False) rfl rfl scMad.nd rfl rfl ⟨rfl, by decide, Or.inl T.gF⟩ takes0
        (fun W pn xe tk _ => pss_one (ps_expr (pe_makeE mk FI hr rfl gK bI (fun σ => passAt tk σ) (by exact (pa_cons (pv 0) pa_nil)))))
        (fun a oe cls d pn hz hf => pss_one (ps_set (i := 1) scMad.nd rfl (Or.inl rfl) (pe_callE FE hz hf hr1 rfl gE kE bE (pa_cons (pv 2) pa_nil)))))
      (pss_one (ps_ret (pv 1)))), ?_⟩
    refine ⟨_, rfl, fun y dx hy hdx ndy => ?_⟩
    obtain ⟨tb, et, ht⟩ := id hT
    have k1 : Keep [] H (upd (upd H dx (.own y)) y (.ins C dx [])) := (Keep.new hdx).newTo (by first | (rw [upd_ne ndy]; exact hy) | (rw [upd_ne ndy.symm]; exact hy))
    have ey : (upd (upd H dx (.own y)) y (.ins C dx [])) y = some (.ins C dx []) := upd_same
    generalize (upd (upd H dx (.own y)) y (.ins C dx [])) = H1 at k1 ey ⊢
    have hT1 : GxR.TabG H1 Pt := ⟨tb, k1.at et nin0, ht⟩
    have back : ∀ {H2 : Hp}, Keep [y, Pt] H1 H2 → Keep [Pt] H H2 := fun {H2} k b o nb e => k b o (fun z => by
      rcases List.mem_cons.mp z with z | z
      · rw [z, hy] at e; cases e
      · exact nb z) (k1.at e nin0)
    rcases hor with ⟨ps, hP, hw, hlen, kk⟩ | ⟨as, ps, a, v, u, t, r, ex, ex', el, tl, ha, ea, th, rh, nx, nx', hw, hlen, hno, kk⟩
    · refine .inl ⟨y, l, dx, ps, rfl, ey, hP.keep k1 nin0 (fun b z => absurd z nin0), hw, hlen, hT1, fun H2 k2 _ hT2 => ⟨rfl, ?_⟩⟩
      exact ⟨_, rfl, kk H2 (back k2) hT2⟩
    · refine .inr ⟨y, l, dx, as, ps, a, v, u, t, r, ex, ex', rfl, ey, k1.at el nin0, tl.map (fun b xs e => k1.at e nin0), ha, k1.at ea nin0, th.keep0 k1, rh.keep0 k1, (fun z => nx y z hy), (fun z => nx' y z hy), hw, hlen, hno, hT1, fun H2 k2 hT2 => ?_⟩
      refine ⟨true, T.eF, fun _ b hb => ?_, fun q => nomatch q⟩
      refine ⟨_, rfl, rfl, rfl, rfl, fun H3 k3 => ?_⟩
      obtain ⟨tb2, et2, ht2⟩ := hT2
      exact ⟨_, rfl, kk H3 ((back k2).trans (k3.more fun b z => absurd z nin0)) ⟨tb2, k3.at et2 nin0, ht2⟩⟩
end
end Fs
/-! A text is no dict. -/
namespace Fs
open PySem PySem.Spec PyProof.Rows PySem.SeqAt
open MeetsSeq MeetsSeq2 MeetsSeq3 SeqRoads2
theorem subt_dict_str : isSubtype (.type "dict") (.type "str") = pure false := by
  rw [isSubtype_type]
  kernel_rfl
theorem str_no_dict (z : Str) (u : Tok) (a : Addr) (es : Array DictEntry) (k : Nat) (dd : Option Addr) (sl : Array (Option Value)) :
    Meets (Builtin.«str.__eq__» ⟨[.str z u, .ref a], []⟩) (fun _ R s => s.heap.get? a = some { cls := .type "dict", dict := dd, data := .dict es k, slots := sl } ∧ R (.ok (.ret .notImplemented)) s) :=
  .of_wp fun prog w A R s h => by
    obtain ⟨hp, g, d, tk, os⟩ := s
    obtain ⟨ha, h⟩ := h
    wp_walk using wpAny_loadPart' ha, wpAny_load ha
    exact ⟨_, rfl, h⟩
theorem dict_no_str (a : Addr) (es : Array DictEntry) (k : Nat) (dd : Option Addr) (sl : Array (Option Value)) (z : Str) (u : Tok) :
    Meets (Builtin.«dict.__eq__» ⟨[.ref a, .str z u], []⟩) (fun _ R s => s.heap.get? a = some { cls := .type "dict", dict := dd, data := .dict es k, slots := sl } ∧ R (.ok (.ret .notImplemented)) s) :=
  .of_wp fun prog w A R s h => by
    obtain ⟨hp, g, d, tk, os⟩ := s
    obtain ⟨ha, h⟩ := h
    have f1 := F.sub_str_dict
    wp_walk using wpAny_loadPart' ha
    exact ⟨_, rfl, h⟩
theorem eqAt_str_dict {A : Around} {s : Shared} {a : Addr} {o : Obj} {es : Array DictEntry} {k : Nat} (z : Str) (u : Tok) (ho : s.heap.get? a = some o) (hc : o.cls = .type "dict") (hd : o.data = .dict es k) (hu : A.units < cLine) : EqAt A s (.str z u) (.ref a) false := fun prog w E Q h => by
  obtain ⟨cls, dd, data, sl⟩ := o
  simp only at hc hd
  subst hc hd
  unfold eqBool
  refine wpAny_holding (wpAny_ite_split (fun hab => absurd (eq_of_beq hab) nofun) fun _ => wpAny_bind ?_)
  exact rc_eq_decline_or (k := false) (typeIs_str s z u) ⟨_, ho, rfl⟩ (by decide) subt_dict_str F.slot_str_eq F.slot_dict_eq_refl
    (fun _ hq => call_meets F.slot_str_eq (typeIs_str s z u) F.entry_str_eq (F.args_str_eq_2 _ _) (str_no_dict z u a es k dd sl) ⟨ho, hq⟩)
    (fun _ hq => call_meets F.slot_dict_eq_refl ⟨_, ho, rfl⟩ F.entry_dict_eq (F.args_dict_eq_2 _ _) (dict_no_str a es k dd sl z u) ⟨ho, hq⟩)
    (fun _ hq => wpAny_of_eq (rfl : isSame (.str z u) (.ref a) = pure false) hq) (.inr hu) (wpAny_truthy_bool h)
end Fs
/-! What is shown of things; things looked for in names. -/
namespace Fs
open PySem L2 TL
/-- repr(x), x a list or tuple of data at any depth: where nothing else is being shown -/
theorem call_reprD {X : Cx} (hg : X.A.guards = some []) (hu : X.A.units + 64 < cLine) : CallR X (.builtin "repr") (fun xs H Q => ∃ (a : Addr) (d : PyData), xs = [.ref a] ∧ Dp X.K H (.ref a) d ∧ d.showable = true ∧ d.hasDict = false ∧ d.depth ≤ 60 ∧ d.shown.length ≤ sizeLine ∧ Q (.str d.shown) H) := by
  intro pins s σ H xs us Q I r h
  obtain ⟨a, d, rfl, hd, h1, h2, h3, h4, q⟩ := h
  obtain ⟨u, rfl, ru⟩ := vals1 r
  have eu : u = Value.ref a := ru
  subst eu
  obtain ⟨as, rd⟩ := Dp.reads I d _ _ hd rfl
  exact repr_of_reads' rd h1 (PyData.noDict_hsm h2) hg (by omega) (fun _ _ e => e) (fun h' u tk hk => ⟨.str _, H, I.kept hk, ⟨_, rfl⟩, q⟩) h4
theorem textFrom_le : ∀ (ts : List Str) (k : Nat) (acc : Str), (textFrom k acc ts).length ≤ acc.length + piled ts
  | [], k, acc => Nat.le_add_right _ _
  | t :: r, k, acc => by
    have ih := textFrom_le r (k + 1) (acc ++ (if k > 0 then ", " else "" : String) ++ t)
    have e : (acc ++ (if k > 0 then ", " else "" : String) ++ t).length ≤ acc.length + 2 + t.length := by
      rw [strLen_append, strLen_append]
      have e1 : (((if k > 0 then ", " else "" : String) : Str)).length ≤ 2 := by split <;> decide +kernel
      omega
    rw [piled_cons]
    show (textFrom (k + 1) (acc ++ (if k > 0 then ", " else "" : String) ++ t) r).length ≤ _
    omega
theorem listText_le (ts : List Str) : (listText ts).length ≤ piled ts + 2 := by
  have e1 : (("[" : String) : Str).length = 1 := by decide +kernel
  have e2 : (("]" : String) : Str).length = 1 := by decide +kernel
  have h := textFrom_le ts 0 "["
  unfold listText
  rw [strLen_append, e2]
  omega
theorem piled_le {ts : List Str} {n : Nat} : (∀ t ∈ ts, t.length ≤ n) → piled ts ≤ ts.length * (n + 2) := by
  induction ts with
  | nil => intro _; exact Nat.zero_le _
  | cons t r ih =>
    intro h
    have h1 := h t List.mem_cons_self
    have h2 := ih fun u hu => h u (List.mem_cons_of_mem _ hu)
    rw [piled_cons, List.length_cons, Nat.succ_mul]
    omega
theorem shownAll_map {α : Type} (f : α → PyData) : ∀ l : List α, PyData.shownAll (l.map f) = l.map fun x => (f x).shown
  | [] => by simp only [List.map_nil, PyData.shownAll]
  | x :: r => by simp only [List.map_cons, PyData.shownAll, shownAll_map f r]
theorem str_short {z : Str} {n : Nat} (h : z.cps.toList.length ≤ n) (hc : ∀ c ∈ z.cps.toList, c < 128) : (PyData.str z).shown.length ≤ 10 * n + 2 := by
  have h1 := StrLaws.reprText_len z fun c hc' => Nat.lt_of_lt_of_le (hc c hc') (by decide)
  have e : z.length = z.cps.toList.length := by simp [Str.length]
  simp only [PyData.shown]
  omega
theorem strs_shown {l : List Str} (h : l.length ≤ 30) (hz : ∀ z ∈ l, IsTx z) : (PyData.list (l.map PyData.str)).shown.length ≤ 13000 := by
  simp only [PyData.shown]
  have h1 := listText_le (PyData.shownAll (l.map PyData.str))
  rw [shownAll_map] at h1 ⊢
  have h2 := piled_le (ts := l.map fun z => (PyData.str z).shown) (n := 402) fun t ht => by
    obtain ⟨z, hz', e⟩ := List.mem_map.mp ht
    rw [← e]
    exact str_short (n := 40) (hz z hz').1 (hz z hz').2
  rw [List.length_map] at h2
  have h3 : l.length * (402 + 2) ≤ 30 * 404 := Nat.mul_le_mul_right 404 h
  omega
theorem strs_ok (l : List Str) : PyData.showableAll (l.map PyData.str) = true ∧ PyData.hasDictAll (l.map PyData.str) = false ∧ PyData.depthAll (l.map PyData.str) ≤ 1 := by
  induction l with
  | nil => simp only [List.map_nil, PyData.showableAll, PyData.hasDictAll, PyData.depthAll]; decide
  | cons z r ih =>
    obtain ⟨i1, i2, i3⟩ := ih
    rw [List.map_cons]
    simp only [PyData.showableAll, PyData.showable, PyData.hasDictAll, PyData.hasDict, PyData.depthAll, PyData.depth, i1, i2, Bool.and_self, Bool.or_self, true_and]
    omega
def dF : V → PyData
  | .bl b => .bool b
  | .int i => .int i
  | .str z => .str z
  | _ => .none
mutual
def thD : Th → PyData
  | .flat v => dF v
  | .lis z => .list [.str z]
  | .box => .none
  | .tup l => .tuple (thDs l)
def thDs : List Th → List PyData
  | [] => []
  | x :: r => thD x :: thDs r
end
mutual
def pl : Th → Bool
  | .box => false
  | .tup l => pls l
  | _ => true
def pls : List Th → Bool
  | [] => true
  | x :: r => pl x && pls r
end
mutual
def gd : Th → Bool
  | .tup l => gdl l
  | _ => true
def gdl : List Th → Bool
  | [] => true
  | x :: r => pl x && gds r
def gds : List Th → Bool
  | [] => true
  | x :: r => gd x && gds r
end
theorem txOk {z : Str} (h : IsTx z) : PyData.strOk z = true := by
  unfold PyData.strOk
  rw [← Array.all_toList, List.all_eq_true]
  intro c hc
  have := h.2 c hc
  exact decide_eq_true (by omega)
mutual
theorem dp_th {K : PySem.W.Frag} {p : List Addr} {H : Hp} : ∀ {t : Th} {v : V}, pl t = true → ThAt p H t v → Dp K H v (thD t) ∧ (thD t).canLay0 = true ∧ (thD t).depth ≤ t.dp + 1
  | .flat u, v, h, ta => by
    simp only [ThAt] at ta
    obtain ⟨rfl, f⟩ := ta
    cases v with
    | non => exact ⟨.non, rfl, Nat.zero_le _⟩
    | bl b => exact ⟨.bl b, rfl, Nat.zero_le _⟩
    | int i => exact ⟨.int i, rfl, Nat.zero_le _⟩
    | str z => exact ⟨.str z, txOk f, Nat.zero_le _⟩
    | _ => exact f.elim
  | .lis z, v, h, ta => by
    simp only [ThAt] at ta
    obtain ⟨a, rfl, _, e, t⟩ := ta
    refine ⟨.lst (SqL.of e) (.cons (.str z) .nil), ?_, ?_⟩
    · show (PyData.strOk z && true) = true
      rw [txOk t]; rfl
    · show max 0 0 + 1 ≤ 0 + 1
      exact Nat.le_refl _
  | .box, v, h, ta => by simp [pl] at h
  | .tup l, v, h, ta => by
    simp only [ThAt] at ta
    obtain ⟨a, ys, rfl, e, t⟩ := ta
    simp only [pl] at h
    obtain ⟨x, y, z⟩ := dp_ths h t
    simp only [thD, Th.dp]
    exact ⟨.tup (SqT.of e) x, y, by show PyData.depthAll _ + 1 ≤ _; omega⟩
theorem dp_ths {K : PySem.W.Frag} {p : List Addr} {H : Hp} : ∀ {t : List Th} {v : List V}, pls t = true → ThsAt p H t v → DpAll K H v (thDs t) ∧ PyData.canLayAll0 (thDs t) = true ∧ PyData.depthAll (thDs t) ≤ Th.dps t + 1
  | [], [], _, _ => by simp only [thDs]; exact ⟨.nil, rfl, Nat.zero_le _⟩
  | x :: r, y :: ys, h, ta => by
    simp only [ThsAt] at ta
    simp only [pls, Bool.and_eq_true] at h
    obtain ⟨a, b, c⟩ := dp_th h.1 ta.1
    obtain ⟨a', b', c'⟩ := dp_ths h.2 ta.2
    simp only [thDs, Th.dps]
    refine ⟨.cons a a', ?_, ?_⟩
    · show (PyData.canLay0 _ && PyData.canLayAll0 _) = true
      rw [b, b']; rfl
    · show max (PyData.depth _) (PyData.depthAll _) ≤ _
      omega
  | [], _ :: _, _, h => by simp only [ThsAt] at h
  | _ :: _, [], _, h => by simp only [ThsAt] at h
end
theorem eqS (a b : Str) : PyData.eqv (.str a) (.str b) = decide (a = b) := by
  show (a == b) = _
  rw [Bool.eq_iff_iff, beq_iff_eq, decide_eq_true_eq]
theorem call_reprB {X : Cx} : CallR X (.builtin "repr") (fun xs H Q => ∃ b : Bool, xs = [.bl b] ∧ Q (.str (if b then "True" else "False")) H) := by
  intro pins s σ H xs us Q I r h
  obtain ⟨b, rfl, q⟩ := h
  obtain ⟨u, rfl, ru⟩ := vals1 r
  obtain rfl : u = Value.bool b := ru
  exact PySem.P.repr_of_bool ⟨.str _, H, I.tok _, ⟨_, rfl⟩, q⟩
/-- a thing of the law: a tree; of those that aren't read as data, {} alone -/
def TgAt (p : List Addr) (H : Hp) (t : Th) (v : V) : Prop := ThAt p H t v ∧ t.dp ≤ 1 ∧ ((t = .box ∧ ∃ a, v = .ref a ∧ H a = some (.dK [])) ∨ pl t = true)
theorem TgAt.keep0 {p : List Addr} {H H' : Hp} {t : Th} {v : V} (h : TgAt p H t v) (k : Keep [] H H') : TgAt p H' t v := ⟨h.1.keep0 k, h.2.1, h.2.2.imp (fun ⟨e, a, ev, ea⟩ => ⟨e, a, ev, k.at ea nin0⟩) id⟩
theorem TgAt.keepP {p : List Addr} {c : Addr} {H H' : Hp} {t : Th} {v : V} (h : TgAt p H t v) (hc : c ∈ p) (k : Keep [c] H H') (hp : ∃ xs, H c = some (.lst xs)) : TgAt p H' t v := ⟨h.1.keepP hc k hp, h.2.1, h.2.2.imp (fun ⟨e, a, ev, ea⟩ => ⟨e, a, ev, by
  obtain ⟨xs, ec⟩ := hp
  exact k.at ea (nin1 (ne_of ea ec (fun z => by cases z)))⟩) id⟩
def inT (zs : List Str) : Th → Bool
  | .flat (.str z) => decide (z ∈ zs)
  | _ => false
theorem any_eq (zs : List Str) (z : Str) : ((zs.map PyData.str).any fun y => PyData.eqv y (.str z)) = decide (z ∈ zs) := by
  induction zs with
  | nil => rfl
  | cons y r ih =>
    rw [List.map_cons, List.any_cons, ih, eqS]
    by_cases h : y = z
    · rw [decide_eq_true h, decide_eq_true (show z ∈ y :: r by rw [h]; exact List.mem_cons_self)]; rfl
    · rw [decide_eq_false h, Bool.false_or]
      exact decide_eq_decide.mpr ⟨List.mem_cons_of_mem _, fun q => (List.mem_cons.mp q).elim (fun e => absurd e.symm h) id⟩
theorem any_no (zs : List Str) {d : PyData} (h : ∀ z, PyData.eqv (.str z) d = false) : ((zs.map PyData.str).any fun y => PyData.eqv y d) = false := by
  rw [List.any_eq_false]
  intro y hy
  obtain ⟨z, _, rfl⟩ := List.mem_map.mp hy
  rw [h z]
  exact Bool.false_ne_true
theorem any_th {p : List Addr} {H : Hp} {t : Th} {v : V} (h : ThAt p H t v) (hp : pl t = true) (zs : List Str) : ((zs.map PyData.str).any fun y => PyData.eqv y (thD t)) = inT zs t := by
  cases t with
  | flat u =>
    simp only [ThAt] at h
    obtain ⟨rfl, f⟩ := h
    cases v with
    | str z => exact any_eq zs z
    | non => exact any_no zs fun z => rfl
    | bl b => exact any_no zs fun z => rfl
    | int i => exact any_no zs fun z => rfl
    | _ => exact f.elim
  | lis z => exact any_no zs fun z => rfl
  | box => simp [pl] at hp
  | tup l => exact any_no zs fun z => rfl
theorem dp_strs {K : PySem.W.Frag} {H : Hp} : ∀ zs : List Str, DpAll K H (zs.map V.str) (zs.map PyData.str)
  | [] => .nil
  | z :: r => .cons (.str z) (dp_strs r)
theorem lay_strs : ∀ zs : List Str, (∀ z ∈ zs, IsTx z) → PyData.canLayAll0 (zs.map PyData.str) = true ∧ PyData.depthAll (zs.map PyData.str) ≤ 1
  | [], _ => ⟨rfl, Nat.zero_le _⟩
  | z :: r, h => by
    obtain ⟨a, b⟩ := lay_strs r fun y hy => h y (List.mem_cons_of_mem _ hy)
    rw [List.map_cons]
    refine ⟨?_, ?_⟩
    · show (PyData.canLay0 _ && PyData.canLayAll0 _) = true
      rw [a, show PyData.canLay0 (.str z) = true from txOk (h z List.mem_cons_self)]; rfl
    · show max (PyData.depth _) (PyData.depthAll _) ≤ 1
      have : PyData.depth (.str z) = 0 := rfl
      omega
theorem sh_strs {zs : List Str} (h : ∀ z ∈ zs, IsTx z) : SeqAt.shaped (.list (zs.map PyData.str)) = true := by
  obtain ⟨a, b⟩ := lay_strs zs h
  unfold SeqAt.shaped
  rw [show PyData.canLay0 (.list (zs.map PyData.str)) = true from a, Bool.true_and]
  refine decide_eq_true ?_
  show PyData.depthAll _ + 1 ≤ 64
  omega
def rInT : R2 := fun x y H Q => ∃ (p : List Addr) (t : Th) (l : Addr) (zs : List Str), TgAt p H t x ∧ y = .ref l ∧ H l = some (.lst (zs.map V.str)) ∧ (∀ z ∈ zs, IsTx z) ∧ Q (.bl (inT zs t)) H
theorem op_inT {X : Cx} (hu : X.A.units + 65 < cLine) : OpR X (compareOp .In) rInT := by
  intro pins s σ H x y v u Q I rx ry h
  obtain ⟨p, t, l, zs, ⟨th, hd, hor⟩, rfl, el, tx, q⟩ := h
  rcases hor with ⟨rfl, a, rfl, ea⟩ | hp
  · cases rx
    cases ry
    obtain ⟨_, _, kvs, _, o, es, k, ho, hx, hdt, _⟩ := (show ObjOk X.prog X.w H s.heap a (.dK []) from I.hok a _ ea)
    obtain ⟨its, rv, hl, _⟩ := I.list (SqL.of el)
    have hu1 : X.A.in1.units < cLine := by show X.A.units + 1 < cLine; omega
    have areS : ∀ (zs : List Str) (us : List Value), Vals (zs.map V.str) us → ∀ y ∈ us, ∃ z t, y = Value.str z t := by
      intro zs
      induction zs with
      | nil => intro us r y hy; cases r; cases hy
      | cons z r ih =>
        intro us rr y hy
        cases rr with
        | cons r1 r2 =>
          rcases List.mem_cons.mp hy with q | q
          · obtain ⟨t, e⟩ := r1
            exact ⟨z, t, by rw [q, e]⟩
          · exact ih _ r2 y q
    refine SeqAt.in_listAt (fun _ => false) hl.isList (fun y hy => ?_) ⟨.bl _, H, I, rfl, ?_⟩
    · obtain ⟨z, t, rfl⟩ := areS zs its rv y (by simpa using hy)
      exact eqAt_str_dict z t ho hx.1 hdt hu1
    · rw [show its.toArray.any (fun _ => false) = false by simp]
      exact q
  · obtain ⟨d1, d2, d3⟩ := dp_th (K := X.K) hp th
    refine op_inD hu pins s σ H _ _ v u Q I rx ry ⟨thD t, zs.map PyData.str, d1, .lst (SqL.of el) (dp_strs zs), ?_, sh_strs tx, ?_⟩
    · unfold SeqAt.shaped
      rw [d2, Bool.true_and]
      exact decide_eq_true (by omega)
    · rw [any_th th hp]
      exact q
end Fs
/-! Odd things that the law makes. -/
namespace Fs
open PySem L2 TL
abbrev sOdd : Stmt := top 28 --def _law_odd
abbrev nOdd : List Str := ["_law_pot_here", "_law_some"]
theorem scOdd : FnScope nOdd ["_law_pot_here"] (defScope sOdd) := ⟨rfl, rfl, rfl, by decide +kernel, rfl, by decide +kernel, by decide +kernel⟩
def spOdd : Sp := fun vs H Q _ => ∃ (p : Addr) (n : Nat), vs = [.ref p] ∧ PotAt H p n ∧ n < 2 ^ 38 ∧
  ∀ (t : Th) (v : V) (H' : Hp), (∀ ex : List Addr, (∀ b ∈ ex, H b ≠ none) → TgAt ex H' t v) → nmB t = false → Keep [p] H H' → PotAt H' p (n + 1) → Q v H'
theorem nm_F : IsNm sF := ⟨by decide +kernel, by decide +kernel, by decide +kernel⟩
theorem nm_S : IsNm sS := ⟨by decide +kernel, by decide +kernel, by decide +kernel⟩
theorem allK_nm {ps : List (Str × Str)} (h : Wf ps) : ∀ x ∈ allK ps, IsNm x := by
  have go : ∀ x ∈ ps.map Prod.fst, IsNm x := by
    induction h with
    | nil => exact fun x hx => absurd hx List.not_mem_nil
    | snoc w n _ _ ih =>
      intro x hx
      rw [List.map_append] at hx
      rcases List.mem_append.mp hx with q | q
      · exact ih x q
      · rw [List.map_singleton] at q
        rw [List.mem_singleton.mp q]
        exact n
  intro x hx
  rcases List.mem_cons.mp hx with q | q
  · rw [q]; exact nm_F
  · rcases List.mem_cons.mp q with q | q
    · rw [q]; exact nm_S
    · exact go x q
theorem isK_odd {ps : List (Str × Str)} (h : Wf ps) {t : Th} (no : nmB t = false) : isK ps t = false := by
  cases e : isK ps t with
  | false => rfl
  | true =>
    obtain ⟨z, rfl, hz⟩ := isK_str e
    rw [nmB_of (allK_nm h z hz)] at no
    cases no
theorem get_at {vs : List V} {d : Int} (d0 : 0 ≤ d) (d1 : d < vs.length) : ∃ v, v ∈ vs ∧ atI vs d = some v := by
  obtain ⟨k, rfl⟩ := Int.eq_ofNat_of_zero_le d0
  have hl : k < vs.length := by omega
  exact ⟨vs[k], List.getElem_mem hl, atI_nat (List.getElem?_eq_getElem hl)⟩
theorem tg_flat {ex : List Addr} {G : Hp} {v : V} (h : Flt v) : TgAt ex G (.flat v) v := ⟨by simp only [ThAt]; exact ⟨True.intro, h⟩, Nat.zero_le _, .inr rfl⟩
section
variable {P : Program} {w : World} {K : PySem.W.Frag} {mg : Str → Option Value} {base : Heap}
theorem ok_odd {f fD : Addr} {fd fdD : FuncData} (F : Fun K "_law_odd" "_law_odd" sOdd f fd) (FD : FnOk P w K mg base CX0 1 fD fdD ["_law_pot_here", "_law_many"] spDigit) (mD : mg "_law_digit" = some (.ref fD)) (kD : PySem.W.keepIn K (.ref fD) = true) (bD : Binds K fdD ["_law_pot_here", "_law_many"] []) (mL : mg "len" = none) :
    FnOk P w K mg base CX0 2 f fd ["_law_pot_here"] spOdd := by
  refine F.ok scOdd (fun vs H Q E h => ?_) (fun cdv A outer s H vs Q E hr h => ?_)
  · obtain ⟨p, n, rfl, _⟩ := h
    rfl
  · obtain ⟨p, n, rfl, hp, hn, kk⟩ := h
    refine ⟨_, pss_cons (ps_set (i := 1) scOdd.nd rfl (Or.inl rfl) (pe_lst (pa_cons pe_non (pa_cons pe_int (pa_cons pe_bl (pa_cons pe_str (pa_cons pe_str (pa_cons pe_str (pa_cons pe_str (pa_cons pe_str (pa_cons (pe_tup (pa_cons pe_str pa_nil)) (pa_cons (pe_lst (pa_cons pe_str pa_nil)) (pa_cons pe_dnewK (pa_cons pe_str (pa_cons pe_str (pa_cons pe_str pa_nil))))))))))))))))
      (pss_one (ps_ret (pe_ix ix_list (pv 1) (pe_call FD hr rfl mD kD bD .nil pass0 (pa_cons (pv 0) (pa_cons (pe_callB call_len_seq (by rfl) mL PySem.boot_len (pa_cons (pv 1) pa_nil)) pa_nil))) (fun _ _ => rfl)))), ?_⟩
    refine ⟨(by show 1 ≤ sizeLine; decide), fun a ha => ?_⟩
    have k1 : Keep [] H (upd H a (.tup [.str "a"])) := Keep.new ha
    have e1 : (upd H a (.tup [.str "a"])) a = some (.tup [.str "a"]) := upd_same
    generalize (upd H a (.tup [.str "a"])) = H1 at k1 e1 ⊢
    refine ⟨(by show 1 ≤ sizeLine; decide), fun b hb => ?_⟩
    have k2 : Keep [] H1 (upd H1 b (.lst [.str "a"])) := Keep.new hb
    have e2 : (upd H1 b (.lst [.str "a"])) b = some (.lst [.str "a"]) := upd_same
    have hb0 : H b = none := Keep.free k1 hb nin0
    generalize (upd H1 b (.lst [.str "a"])) = H2 at k2 e2 ⊢
    intro c hc
    have k3 : Keep [] H2 (upd H2 c (.dK [])) := Keep.new hc
    have e3 : (upd H2 c (.dK [])) c = some (.dK []) := upd_same
    have hc0 : H c = none := Keep.free (k1.trans k2) hc nin0
    generalize (upd H2 c (.dK [])) = H3 at k3 e3 ⊢
    refine ⟨(by show 14 ≤ sizeLine; decide), fun l hl => ?_⟩
    have k4 : Keep [] H (upd H3 l (.lst [.non, .int 7, .bl true, .str "", .str "A", .str "a1", .str "abcdefghi", .str "a b", .ref a, .ref b, .ref c, .str "fault ", .str " sheaf", .str "a_"])) := ((k1.trans k2).trans k3).newTo hl
    have e4 : (upd H3 l (.lst [.non, .int 7, .bl true, .str "", .str "A", .str "a1", .str "abcdefghi", .str "a b", .ref a, .ref b, .ref c, .str "fault ", .str " sheaf", .str "a_"])) l = some (.lst [.non, .int 7, .bl true, .str "", .str "A", .str "a1", .str "abcdefghi", .str "a b", .ref a, .ref b, .ref c, .str "fault ", .str " sheaf", .str "a_"]) := upd_same
    have k34 : Keep [] H3 (upd H3 l (.lst [.non, .int 7, .bl true, .str "", .str "A", .str "a1", .str "abcdefghi", .str "a b", .ref a, .ref b, .ref c, .str "fault ", .str " sheaf", .str "a_"])) := Keep.new hl
    generalize (upd H3 l (.lst [.non, .int 7, .bl true, .str "", .str "A", .str "a1", .str "abcdefghi", .str "a b", .ref a, .ref b, .ref c, .str "fault ", .str " sheaf", .str "a_"])) = H4 at k4 e4 k34 ⊢
    have ea : H4 a = some (.tup [.str "a"]) := k34.at (k3.at (k2.at e1 nin0) nin0) nin0
    have eb : H4 b = some (.lst [.str "a"]) := k34.at (k3.at e2 nin0) nin0
    have ec : H4 c = some (.dK []) := k34.at e3 nin0
    obtain ⟨xs, ep⟩ := hp.some
    have hp4 := hp.keep k4 nin0
    have nap : a ≠ p := fun z => by rw [z, ep] at ha; cases ha
    have nbp : b ≠ p := fun z => by rw [z, ep] at hb0; cases hb0
    have ncp : c ≠ p := fun z => by rw [z, ep] at hc0; cases hc0
    have nlp : l ≠ p := fun z => by rw [z] at e4; obtain ⟨x, y⟩ := hp4; rw [z] at hl; rw [((k1.trans k2).trans k3).at ep nin0] at hl; cases hl
    refine ⟨_, rfl, _, rfl, _, rfl, l, _, rfl, .inl (SqL.of e4), p, n, 14, rfl, hp4, by omega, by decide, by decide, fun d H5 d0 d1 hk5 hp5 => ?_⟩
    have k5 : Keep [p] H4 H5 := keep_of_dig hk5
    have tS : ∀ {ex : List Addr} (z : Str), (decide (z.cps.toList.length ≤ 40) && z.cps.toList.all fun c => decide (c < 128)) = true → TgAt ex H5 (.flat (.str z)) (.str z) := fun z h => tg_flat (show IsTx z from tx_go z h)
    have all : ∀ v ∈ [V.non, .int 7, .bl true, .str "", .str "A", .str "a1", .str "abcdefghi", .str "a b", .ref a, .ref b, .ref c, .str "fault ", .str " sheaf", .str "a_"], ∃ t, (∀ ex : List Addr, (∀ b ∈ ex, H b ≠ none) → TgAt ex H5 t v) ∧ nmB t = false := by
      simp only [List.forall_mem_cons]
      refine ⟨⟨.flat .non, fun ex h => tg_flat True.intro, rfl⟩, ⟨.flat (.int 7), fun ex h => tg_flat True.intro, rfl⟩, ⟨.flat (.bl true), fun ex h => tg_flat True.intro, rfl⟩, ⟨.flat (.str ""), fun ex h => tS _ (by decide +kernel), by decide +kernel⟩, ⟨.flat (.str "A"), fun ex h => tS _ (by decide +kernel), by decide +kernel⟩,
        ⟨.flat (.str "a1"), fun ex h => tS _ (by decide +kernel), by decide +kernel⟩, ⟨.flat (.str "abcdefghi"), fun ex h => tS _ (by decide +kernel), by decide +kernel⟩, ⟨.flat (.str "a b"), fun ex h => tS _ (by decide +kernel), by decide +kernel⟩,
        ⟨.tup [.flat (.str "a")], fun ex h => ⟨?_, by decide, .inr (by decide)⟩, rfl⟩, ⟨.lis "a", fun ex h => ⟨?_, by decide, .inr rfl⟩, rfl⟩, ⟨.box, fun ex h => ⟨?_, by decide, .inl ⟨rfl, c, rfl, k5.at ec (nin1 ncp)⟩⟩, rfl⟩,
        ⟨.flat (.str "fault "), fun ex h => tS _ (by decide +kernel), by decide +kernel⟩, ⟨.flat (.str " sheaf"), fun ex h => tS _ (by decide +kernel), by decide +kernel⟩, ⟨.flat (.str "a_"), fun ex h => tS _ (by decide +kernel), by decide +kernel⟩, fun x hx => absurd hx List.not_mem_nil⟩
      · simp only [ThAt, ThsAt]
        exact ⟨a, _, rfl, k5.at ea (nin1 nap), ⟨⟨rfl, tx_go "a" (by decide +kernel)⟩, True.intro⟩⟩
      · simp only [ThAt]
        exact ⟨b, rfl, fun z => h b z hb0, k5.at eb (nin1 nbp), tx_go "a" (by decide +kernel)⟩
      · simp only [ThAt]
        exact ⟨c, rfl, fun z => h c z hc0, .inr ⟨_, k5.at ec (nin1 ncp)⟩⟩
    obtain ⟨v, hv, ev⟩ := get_at (vs := [V.non, .int 7, .bl true, .str "", .str "A", .str "a1", .str "abcdefghi", .str "a b", .ref a, .ref b, .ref c, .str "fault ", .str " sheaf", .str "a_"]) d0 d1
    obtain ⟨t, ht, hno⟩ := all v hv
    exact ⟨l, _, d, v, rfl, rfl, SqL.of (k5.at e4 (nin1 nlp)), ev, kk t v H5 ht hno ((k4.more fun b z => absurd z nin0).trans k5) hp5⟩
end
end Fs
/-! Spoilt lists of pairs. -/
namespace Fs
open PySem L2 TL
theorem Wf.take {ps : List (Str × Str)} (h : Wf ps) (k : Nat) : Wf (ps.take k) := by
  induction h with
  | nil => rw [List.take_nil]; exact .nil
  | @snoc ps z y w n a b ih =>
    by_cases hk : k ≤ ps.length
    · rw [List.take_append_of_le_length hk]; exact ih
    · rw [List.take_of_length_le (by rw [List.length_append, List.length_singleton]; omega)]
      exact .snoc w n a b
theorem cut_from {xs : List V} {d : Nat} (h : d ≤ xs.length) : cutV xs (some (d : Int)) none = xs.drop d := by
  unfold cutV
  rw [HT.sIx_nat, HT.sIx_none, Nat.min_eq_left h]
  exact List.take_of_length_le (by rw [List.length_drop]; exact Nat.le_refl _)
theorem cut_till {xs : List V} {d : Nat} (h : d ≤ xs.length) : cutV xs none (some (d : Int)) = xs.take d := by
  unfold cutV
  rw [HT.sIx_nat, HT.sIx_none, Nat.min_eq_left h, List.drop_zero, Nat.sub_zero]
abbrev sSpo : Stmt := top 29 --def _law_spoilt
abbrev nSpo : List Str := ["_law_pot_here", "_law_pairs_here", "_law_at", "_law_way", "_law_name_here", "_law_above_here", "_law_fresh_here"]
theorem scSpo : FnScope nSpo ["_law_pot_here", "_law_pairs_here"] (defScope sSpo) := ⟨rfl, rfl, rfl, by decide +kernel, rfl, by decide +kernel, by decide +kernel⟩
/-- a list of pairs, one of them spoilt -/
def SpoAt (H : Hp) (l : Addr) (ps : List (Str × Str)) (k : Nat) : Prop := ∃ (as : List Addr) (a : Addr) (v u : V) (t r : Th), H l = some (.lst (as.map V.ref)) ∧ k ≤ ps.length ∧ TupsAt H (as.take k) (ps.take k) ∧ as[k]? = some a ∧ H a = some (.tup [v, u]) ∧ ThAt [] H t v ∧ ThAt [] H r u ∧ okNew (ps.take k) t r = false
def spSpo : Sp := fun vs H Q _ => ∃ (p l : Addr) (n : Nat) (ps : List (Str × Str)), vs = [.ref p, .ref l] ∧ PotAt H p n ∧ n < 2 ^ 36 ∧ PairsAt H l ps ∧ Wf ps ∧ ps.length ≤ 28 ∧ l ≠ p ∧
  ∀ (m : Addr) (k : Nat) (H' : Hp), SpoAt H' m ps k → Keep [p] H H' → PotAt H' p (n + 20) → Q (.ref m) H'
mutual
theorem ThAt.sub {p q : List Addr} {H : Hp} (s : ∀ b ∈ q, b ∈ p) : ∀ {t : Th} {v : V}, ThAt p H t v → ThAt q H t v
  | .flat u, v, h => by
    simp only [ThAt] at h ⊢
    exact h
  | .lis z, v, h => by
    simp only [ThAt] at h ⊢
    obtain ⟨a, e, n, g, t⟩ := h
    exact ⟨a, e, fun z => n (s a z), g, t⟩
  | .box, v, h => by
    simp only [ThAt] at h ⊢
    obtain ⟨a, e, n, g⟩ := h
    exact ⟨a, e, fun z => n (s a z), g⟩
  | .tup l, v, h => by
    simp only [ThAt] at h ⊢
    obtain ⟨a, ys, e, g, t⟩ := h
    exact ⟨a, ys, e, g, ThsAt.sub s t⟩
theorem ThsAt.sub {p q : List Addr} {H : Hp} (s : ∀ b ∈ q, b ∈ p) : ∀ {l : List Th} {ys : List V}, ThsAt p H l ys → ThsAt q H l ys
  | [], [], _ => by simp only [ThsAt]
  | x :: l, y :: ys, h => by
    simp only [ThsAt] at h ⊢
    exact ⟨ThAt.sub s h.1, ThsAt.sub s h.2⟩
  | [], _ :: _, h => by simp only [ThsAt] at h
  | _ :: _, [], h => by simp only [ThsAt] at h
end
theorem ThAt.keepP0 {p : Addr} {H H' : Hp} {t : Th} {v : V} (h : ThAt [p] H t v) (k : Keep [p] H H') {xs : List V} (hp : H p = some (.lst xs)) : ThAt [p] H' t v := h.keepP List.mem_cons_self k ⟨xs, hp⟩
theorem TupsAt.takeN {H : Hp} : ∀ {as : List Addr} {ps : List (Str × Str)} (k : Nat), TupsAt H as ps → TupsAt H (as.take k) (ps.take k)
  | [], [], k, _ => by rw [List.take_nil, List.take_nil]; exact True.intro
  | a :: as, q :: ps, 0, h => True.intro
  | a :: as, q :: ps, k + 1, h => ⟨h.1, TupsAt.takeN k h.2⟩
  | [], _ :: _, _, h => h.elim
  | _ :: _, [], _, h => h.elim
section
variable {P : Program} {w : World} {K : PySem.W.Frag} {mg : Str → Option Value} {base : Heap}
theorem spo_end {f : Addr} (cdv : Value) (A0 : Around) (outer : List Env) (s : Shared) (Hs : Hp) (Es : XK) :
    ∃ t, PSs (cxOf CX0 P w K mg base nSpo "_law_spoilt" (defScope sSpo) f cdv A0 outer s Hs Es).nox ((defBody sSpo).drop 6) t ∧
      ∀ (De : Ends) (p l : Addr) (k : Nat) (u3 u6 : Option V) (v u : V) (t' r : Th) (ps : List (Str × Str)) (n : Nat) (G : Hp), PairsAt G l ps → k ≤ ps.length → ps.length ≤ 28 → ThAt [] G t' v → ThAt [] G r u → okNew (ps.take k) t' r = false → PotAt G p n →
        (∀ m H', SpoAt H' m ps k → Keep [] G H' → PotAt H' p n → De.rt (.ref m) H') → t De [some (.ref p), some (.ref l), some (.int (k : Int)), u3, some v, some u, u6] G := by
  refine ⟨_, pss_one (ps_ret (pe_op op_cat (pe_op op_cat (pe_slice sl_list (pv 1) po_none (po_some (pv 2))) (pe_lst (pa_cons (pe_tup (pa_cons (pv 4) (pa_cons (pv 5) pa_nil))) pa_nil))) (pe_slice sl_list (pv 1) (po_some (pv 2)) po_none))), ?_⟩
  intro De p l k u3 u6 v u t' r ps n G hP hk hlen th rh hno hp kk
  obtain ⟨as, el, tl⟩ := hP
  have hl := tl.len
  refine ⟨_, rfl, _, rfl, _, rfl, l, _, rfl, SqL.of el, fun b1 hb1 => ?_⟩
  rw [cut_till (by rw [List.length_map, hl]; exact hk), ← List.map_take]
  have k1 : Keep [] G (upd G b1 (.lst ((as.take k).map V.ref))) := Keep.new hb1
  have e1 : (upd G b1 (.lst ((as.take k).map V.ref))) b1 = some (.lst ((as.take k).map V.ref)) := upd_same
  generalize (upd G b1 (.lst ((as.take k).map V.ref))) = G1 at k1 e1 ⊢
  refine ⟨_, rfl, _, rfl, (by show 2 ≤ sizeLine; decide), fun c hc => ?_⟩
  have k2 : Keep [] G1 (upd G1 c (.tup [v, u])) := Keep.new hc
  have e2 : (upd G1 c (.tup [v, u])) c = some (.tup [v, u]) := upd_same
  generalize (upd G1 c (.tup [v, u])) = G2 at k2 e2 ⊢
  refine ⟨(by show 1 ≤ sizeLine; decide), fun b2 hb2 => ?_⟩
  have k3 : Keep [] G2 (upd G2 b2 (.lst [.ref c])) := Keep.new hb2
  have e3 : (upd G2 b2 (.lst [.ref c])) b2 = some (.lst [.ref c]) := upd_same
  generalize (upd G2 b2 (.lst [.ref c])) = G3 at k3 e3 ⊢
  refine ⟨b1, b2, _, _, rfl, rfl, k3.at (k2.at e1 nin0) nin0, e3, ?_, fun b4 hb4 => ?_⟩
  · rw [List.length_map, List.length_take]
    exact Nat.le_trans (by show min k as.length + 1 ≤ 1000; omega) (by decide)
  have k4 : Keep [] G3 (upd G3 b4 (.lst ((as.take k).map V.ref ++ [.ref c]))) := Keep.new hb4
  have e4 : (upd G3 b4 (.lst ((as.take k).map V.ref ++ [.ref c]))) b4 = some (.lst ((as.take k).map V.ref ++ [.ref c])) := upd_same
  generalize (upd G3 b4 (.lst ((as.take k).map V.ref ++ [.ref c]))) = G4 at k4 e4 ⊢
  have kA : Keep [] G G4 := (((k1.trans k2).trans k3).trans k4)
  refine ⟨_, rfl, _, rfl, _, rfl, l, _, rfl, SqL.of (kA.at el nin0), fun b5 hb5 => ?_⟩
  rw [cut_from (by rw [List.length_map, hl]; exact hk), ← List.map_drop]
  have k5 : Keep [] G4 (upd G4 b5 (.lst ((as.drop k).map V.ref))) := Keep.new hb5
  have e5 : (upd G4 b5 (.lst ((as.drop k).map V.ref))) b5 = some (.lst ((as.drop k).map V.ref)) := upd_same
  generalize (upd G4 b5 (.lst ((as.drop k).map V.ref))) = G5 at k5 e5 ⊢
  refine ⟨b4, b5, _, _, rfl, rfl, k5.at e4 nin0, e5, ?_, fun b6 hb6 => ?_⟩
  · rw [List.length_append, List.length_map, List.length_map, List.length_take, List.length_drop]
    exact Nat.le_trans (by show min k as.length + 1 + (as.length - k) ≤ 1000; omega) (by decide)
  have k6 : Keep [] G5 (upd G5 b6 (.lst ((as.take k).map V.ref ++ [.ref c] ++ (as.drop k).map V.ref))) := Keep.new hb6
  have e6 : (upd G5 b6 (.lst ((as.take k).map V.ref ++ [.ref c] ++ (as.drop k).map V.ref))) b6 = some (.lst ((as.take k).map V.ref ++ [.ref c] ++ (as.drop k).map V.ref)) := upd_same
  generalize (upd G5 b6 (.lst ((as.take k).map V.ref ++ [.ref c] ++ (as.drop k).map V.ref))) = G6 at k6 e6 ⊢
  have kB : Keep [] G G6 := (kA.trans k5).trans k6
  have tk : (as.take k).length = k := by rw [List.length_take]; omega
  refine kk b6 G6 ⟨as.take k ++ [c] ++ as.drop k, c, v, u, t', r, ?_, hk, ?_, ?_, ?_, th.keep0 kB, rh.keep0 kB, hno⟩ kB (hp.keep kB nin0)
  · rw [e6, List.map_append, List.map_append]; rfl
  · rw [List.append_assoc, List.take_append_of_le_length (by omega), List.take_of_length_le (by omega)]
    exact (tl.takeN k).map fun a xs e => kB.at e nin0
  · rw [List.append_assoc, List.getElem?_append_right (by omega), tk, Nat.sub_self]; rfl
  · exact k6.at (k5.at (k4.at (k3.at e2 nin0) nin0) nin0) nin0
theorem ok_spo {f fD fR fO : Addr} {fd fdD fdR fdO : FuncData} (F : Fun K "_law_spoilt" "_law_spoilt" sSpo f fd) (FD : FnOk P w K mg base CX0 1 fD fdD ["_law_pot_here", "_law_many"] spDigit) (mD : mg "_law_digit" = some (.ref fD)) (kD : PySem.W.keepIn K (.ref fD) = true) (bD : Binds K fdD ["_law_pot_here", "_law_many"] [])
    (FR : FnOk P w K mg base CX0 3 fR fdR ["_law_pot_here", "_law_taken"] (spFresh K)) (mF : mg "_law_fresh" = some (.ref fR)) (kF : PySem.W.keepIn K (.ref fR) = true) (bF : Binds K fdR ["_law_pot_here", "_law_taken"] [])
    (FO : FnOk P w K mg base CX0 2 fO fdO ["_law_pot_here"] spOdd) (mO : mg "_law_odd" = some (.ref fO)) (kO : PySem.W.keepIn K (.ref fO) = true) (bO : Binds K fdO ["_law_pot_here"] []) (mL : mg "len" = none) :
    FnOk P w K mg base CX0 4 f fd ["_law_pot_here", "_law_pairs_here"] spSpo := by
  refine F.ok scSpo (fun vs H Q E h => ?_) (fun cdv A outer s H vs Q E hr h => ?_)
  · obtain ⟨p, l, n, ps, rfl, _⟩ := h
    rfl
  · obtain ⟨p, l, n, ps, rfl, hp, hn, hP, hw, hlen, nlp, kk⟩ := h
    have hr1 : Room 1 _ := hr.mono (by decide)
    have hr2 : Room 2 _ := hr.mono (by decide)
    obtain ⟨tR, hR, qR⟩ := spo_end (P := P) (w := w) (K := K) (mg := mg) (base := base) (f := f) cdv A outer s H E
    refine ⟨_, pss_cons (ps_set (i := 2) scSpo.nd rfl (Or.inl rfl) (pe_call FD hr1 rfl mD kD bD .nil pass0 (pa_cons (pv 0) (pa_cons (pe_op op_add (pe_callB call_len_seq (by rfl) mL PySem.boot_len (pa_cons (pv 1) pa_nil)) pe_int) pa_nil))))
      (pss_cons (ps_set (i := 3) scSpo.nd rfl (Or.inl rfl) (pe_call FD hr1 rfl mD kD bD .nil pass0 (pa_cons (pv 0) (pa_cons pe_int pa_nil))))
      (pss_cons (ps_set (i := 6) scSpo.nd rfl (Or.inl rfl) (pe_call FR hr rfl mF kF bF .nil pass0 (pa_cons (pv 0) (pa_cons (pe_op op_cat (pe_lst (pa_cons pe_str (pa_cons pe_str pa_nil))) (pe_lc (own := [("_law_name_here", 4), ("_law_above_here", 5)]) (g := gTup K 2 (gCons (gName 4) (gCons (gName 5) gNil))) (tt := tYes) rfl scSpo.nd (pi_list (pv 1))
          (blkOk_by (N := nSpo) (sc := defScope sSpo) (by decide +kernel)) (fun _ _ _ _ _ => by exact (pg_tup rfl (pgs_cons (pg_name (i := 4) scSpo.nd rfl (Or.inl rfl)) (pgs_cons (pg_name (i := 5) scSpo.nd rfl (Or.inl rfl)) pgs_nil)))) (fun _ _ _ _ _ => pts_nil) (fun _ _ _ _ _ => pv 4))) pa_nil))))
      (pss_cons (ps_set (i := 4) scSpo.nd rfl (Or.inl rfl) (pv 6))
      (pss_cons (ps_set (i := 5) scSpo.nd rfl (Or.inl rfl) pe_str)
      (pss_cons (ps_if (pt_cmpR op_lt (pv 3) pe_int (nomark _))
        (pss_one (ps_set (i := 4) scSpo.nd rfl (Or.inl rfl) (pe_ix ix_list (pe_lst (pa_cons (pe_call FO hr2 rfl mO kO bO .nil pass0 (pa_cons (pv 0) pa_nil)) (pa_cons pe_str (pa_cons pe_str (pa_cons (pe_ix ix_tup (pe_ix ix_list (pe_op op_cat (pe_slice sl_list (pv 1) po_none (po_some (pv 2))) (pe_lst (pa_cons (pe_tup (pa_cons pe_str (pa_cons pe_str pa_nil))) pa_nil))) (pe_call FD hr1 rfl mD kD bD .nil pass0 (pa_cons (pv 0) (pa_cons (pe_op op_add (pv 2) pe_int) pa_nil))) (fun _ _ => rfl)) pe_int (fun _ _ => rfl)) pa_nil))))) (pv 3) (fun _ _ => rfl))))
        (pss_one (ps_set (i := 5) scSpo.nd rfl (Or.inl rfl) (pe_ix ix_list (pe_lst (pa_cons (pe_call FO hr2 rfl mO kO bO .nil pass0 (pa_cons (pv 0) pa_nil)) (pa_cons pe_str (pa_cons (pv 6) (pa_cons (pe_ix ix_tup (pe_ix ix_list (pe_op op_cat (pe_slice sl_list (pv 1) (po_some (pv 2)) po_none) (pe_lst (pa_cons (pe_tup (pa_cons (pv 6) (pa_cons pe_str pa_nil))) pa_nil))) pe_int (fun _ _ => rfl)) pe_int (fun _ _ => rfl)) pa_nil))))) (pe_op op_sub (pv 3) pe_int) (fun _ _ => rfl)))))
      hR))))), ?_⟩
    obtain ⟨as, el, tl⟩ := id hP
    have hl := tl.len
    obtain ⟨xp, ep⟩ := hp.some
    refine ⟨_, rfl, _, rfl, l, _, rfl, .inl (SqL.of el), _, _, rfl, rfl, p, n, _, rfl, hp, by omega, by rw [List.length_map]; omega, by rw [List.length_map]; omega, fun d H1 d0 d1 hk1 hp1 => ?_⟩
    rw [List.length_map, hl] at d1
    obtain ⟨k, rfl⟩ : ∃ k : Nat, d = (k : Int) := ⟨d.toNat, by omega⟩
    have hk : k ≤ ps.length := by omega
    have k1 := keep_of_dig hk1
    refine ⟨_, rfl, p, n + 1, 8, rfl, hp1, by omega, by decide, by decide, fun y H2 y0 y1 hk2 hp2 => ?_⟩
    have k2 : Keep [p] H H2 := k1.trans (keep_of_dig hk2)
    have hP2 : PairsAt H2 l ps := hP.keep k2 (nin1 nlp) (lst_ex ep)
    refine ⟨_, rfl, (by show 2 ≤ sizeLine; decide), fun a ha => ?_⟩
    have h1 : PairsAt (upd H2 a (.lst [.str sF, .str sS])) l ps := hP2.keep (ex := []) (Keep.new ha) nin0 (fun _ z => absurd z nin0)
    obtain ⟨xs, el1⟩ := h1.some
    refine ⟨_, rfl, l, rfl, ⟨_, SqL.of el1⟩, fun D hD => ?_⟩
    refine names_run (K := K) (i := 4) (j := 5) h1 hD (by omega) (fun _ _ => rfl) (fun _ _ => rfl) fun H3 e3 k3 => ?_
    have ea : H3 a = some (.lst [.str sF, .str sS]) := k3.at upd_same nin0
    refine ⟨a, D, _, _, rfl, rfl, ea, e3, ?_, fun b hb => ?_⟩
    · show ([V.str sF, V.str sS] : List V).length + _ ≤ sizeLine
      rw [List.length_map, List.length_map]
      exact Nat.le_trans (by show 2 + ps.length ≤ 1000; omega) (by decide)
    have k4 : Keep [] H2 (upd H3 b (.lst ([V.str sF, V.str sS] ++ (ps.map Prod.fst).map V.str))) := ((Keep.new ha).trans k3).newTo hb
    have eb : (upd H3 b (.lst ([V.str sF, V.str sS] ++ (ps.map Prod.fst).map V.str))) b = some (.lst ((allK ps).map V.str)) := by rw [upd_same]; rfl
    generalize (upd H3 b (.lst ([V.str sF, V.str sS] ++ (ps.map Prod.fst).map V.str))) = H4 at k4 eb ⊢
    have hp4 := hp2.keep k4 nin0
    obtain ⟨x4, ep4⟩ := hp4.some
    obtain ⟨x2, ep2⟩ := hp2.some
    have nbp : b ≠ p := fun z => by rw [z] at hb; rw [((Keep.new ha).trans k3).at ep2 nin0] at hb; cases hb
    refine ⟨p, b, n + 2, allK ps, rfl, hp4, by omega, eb, nbp, by show (sF :: sS :: ps.map Prod.fst).length ≤ 100; rw [List.length_cons, List.length_cons, List.length_map]; omega, fun z H5 hz hz2 k5 hp5 => ?_⟩
    have k25 : Keep [p] H2 H5 := (k4.more fun b z => absurd z nin0).trans k5
    have hP5 : PairsAt H5 l ps := hP2.keep k25 (nin1 nlp) (lst_ex ep2)
    have k05 : Keep [p] H H5 := k2.trans k25
    obtain ⟨x5, ep5⟩ := hp5.some
    have wT := hw.take k
    have nF : isK (ps.take k) (.flat (.str sF)) = true := by
      show decide (sF ∈ allK (ps.take k)) = true
      exact decide_eq_true List.mem_cons_self
    have nS : isK (ps.take k) (.flat (.str sS)) = true := by
      show decide (sS ∈ allK (ps.take k)) = true
      exact decide_eq_true (List.mem_cons_of_mem _ List.mem_cons_self)
    have flS : ∀ {G : Hp} {x : Str}, IsTx x → ThAt [] G (.flat (.str x)) (.str x) := fun h => by simp only [ThAt]; exact ⟨True.intro, h⟩
    have txF : IsTx sF := nm_tx nm_F
    have txS : IsTx sS := nm_tx nm_S
    have txz : IsTx z := nm_tx hz
    have badN : ∀ {t r : Th}, (nmB t = false ∨ isK (ps.take k) t = true) → okNew (ps.take k) t r = false := fun {t r} h => by
      unfold okNew
      rcases h with h | h
      · rw [h]; rfl
      · rw [h, Bool.not_true, Bool.and_false]; rfl
    have badA : ∀ {t r : Th}, (isK (ps.take k) r = false ∨ isSf r = true) → okNew (ps.take k) t r = false := fun {t r} h => by
      unfold okNew
      rcases h with h | h
      · rw [h, Bool.false_and, Bool.and_false]
      · rw [h, Bool.not_true, Bool.and_false, Bool.and_false]
    have p0 : (∀ b ∈ [p], H5 b ≠ none) := fun b hb z => by rw [List.mem_singleton.mp hb, ep5] at z; cases z
    refine ⟨_, rfl, ?_⟩
    refine ⟨_, rfl, _, _, rfl, rfl, _, rfl, ?_⟩
    by_cases hy : y < 4
    · rw [decide_eq_true hy]
      refine iteT ?_
      refine ⟨_, rfl, p, n + 11, rfl, hp5, by omega, fun t0 v0 H6 tg hno k6 hp6 => ?_⟩
      have hP6 : PairsAt H6 l ps := hP5.keep k6 (nin1 nlp) (lst_ex ep5)
      have k06 := k05.trans k6
      obtain ⟨as6, el6, tl6⟩ := id hP6
      have hl6 := tl6.len
      refine ⟨_, rfl, _, rfl, _, rfl, l, _, rfl, SqL.of el6, fun b1 hb1 => ?_⟩
      rw [cut_till (by rw [List.length_map, hl6]; exact hk), ← List.map_take]
      have q1 : Keep [] H6 (upd H6 b1 (.lst ((as6.take k).map V.ref))) := Keep.new hb1
      have e1 : (upd H6 b1 (.lst ((as6.take k).map V.ref))) b1 = some (.lst ((as6.take k).map V.ref)) := upd_same
      generalize (upd H6 b1 (.lst ((as6.take k).map V.ref))) = G1 at q1 e1 ⊢
      refine ⟨(by show 2 ≤ sizeLine; decide), fun c hc => ?_⟩
      have q2 : Keep [] G1 (upd G1 c (.tup [.str "fault", .str ""])) := Keep.new hc
      have e2 : (upd G1 c (.tup [.str "fault", .str ""])) c = some (.tup [.str sF, .str ""]) := upd_same
      generalize (upd G1 c (.tup [.str "fault", .str ""])) = G2 at q2 e2 ⊢
      refine ⟨(by show 1 ≤ sizeLine; decide), fun b2 hb2 => ?_⟩
      have q3 : Keep [] G2 (upd G2 b2 (.lst [.ref c])) := Keep.new hb2
      have e3' : (upd G2 b2 (.lst [.ref c])) b2 = some (.lst [.ref c]) := upd_same
      generalize (upd G2 b2 (.lst [.ref c])) = G3 at q3 e3' ⊢
      have tk : (as6.take k).length = k := by rw [List.length_take]; omega
      refine ⟨b1, b2, _, _, rfl, rfl, q3.at (q2.at e1 nin0) nin0, e3', ?_, fun b4 hb4 => ?_⟩
      · rw [List.length_map, tk]
        exact Nat.le_trans (by show k + 1 ≤ 1000; omega) (by decide)
      have q4 : Keep [] G3 (upd G3 b4 (.lst ((as6.take k).map V.ref ++ [.ref c]))) := Keep.new hb4
      have e4 : (upd G3 b4 (.lst ((as6.take k).map V.ref ++ [.ref c]))) b4 = some (.lst ((as6.take k ++ [c]).map V.ref)) := by rw [upd_same, List.map_append]; rfl
      generalize (upd G3 b4 (.lst ((as6.take k).map V.ref ++ [.ref c]))) = G4 at q4 e4 ⊢
      have qA : Keep [] H6 G4 := ((q1.trans q2).trans q3).trans q4
      have hp7 := hp6.keep qA nin0
      obtain ⟨x6, ep6⟩ := hp6.some
      obtain ⟨x7, ep7⟩ := hp7.some
      have nb4 : b4 ≠ p := fun z => by rw [z, ((q1.trans q2).trans q3).at ep6 nin0] at hb4; cases hb4
      have ncp : c ≠ p := fun z => by rw [z, q1.at ep6 nin0] at hc; cases hc
      refine ⟨_, rfl, _, rfl, _, _, rfl, rfl, p, n + 11 + 1, _, rfl, hp7, by omega, by omega, by omega, fun e H7 e0 e1' hk7 hp8 => ?_⟩
      have k7 := keep_of_dig hk7
      -- the place that is chosen
      have hlen4 : (as6.take k ++ [c]).length = k + 1 := by rw [List.length_append, tk]; rfl
      obtain ⟨cc, _, hcc, hce⟩ := digit_in (l := as6.take k ++ [c]) e0 (by rw [hlen4]; omega)
      have hten : ∃ w0 x0, H7 cc = some (.tup [.str w0, x0]) ∧ IsTx w0 ∧ isK (ps.take k) (.flat (.str w0)) = true := by
        by_cases hlt : e.toNat < k
        · rw [List.getElem?_append_left (by rw [tk]; exact hlt)] at hcc
          obtain ⟨q, hq, hqa⟩ := (tl6.takeN k).at hcc
          have hm : q.1 ∈ allK (ps.take k) := List.mem_cons_of_mem _ (List.mem_cons_of_mem _ (List.mem_map.mpr ⟨q, List.mem_of_getElem? hq, rfl⟩))
          have e7 := qA.at hqa nin0
          exact ⟨q.1, _, k7.at e7 (nin1 (ne_of e7 ep7 (fun z => by cases z))), allK_tx wT _ hm, decide_eq_true hm⟩
        · have he : e.toNat = k := by omega
          rw [he, List.getElem?_append_right (by omega), tk, Nat.sub_self] at hcc
          have ecc : c = cc := by simpa using hcc
          subst ecc
          exact ⟨sF, _, k7.at (q4.at (q3.at e2 nin0) nin0) (nin1 ncp), txF, nF⟩
      obtain ⟨w0, x0, ecc, tw, kw⟩ := hten
      refine ⟨b4, _, e, .ref cc, rfl, rfl, SqL.of (k7.at e4 (nin1 nb4)), ?_, ?_⟩
      · rw [← hce]
        exact atI_nat (by rw [List.getElem?_map, hcc]; rfl)
      refine ⟨cc, _, 0, .str w0, rfl, rfl, SqT.of ecc, rfl, ?_⟩
      refine ⟨(by show 4 ≤ sizeLine; decide), fun L hL => ?_⟩
      have q8 : Keep [] H7 (upd H7 L (.lst [v0, .str "fault", .str "sheaf", .str w0])) := Keep.new hL
      have e8 : (upd H7 L (.lst [v0, .str "fault", .str "sheaf", .str w0])) L = some (.lst [v0, .str "fault", .str "sheaf", .str w0]) := upd_same
      generalize (upd H7 L (.lst [v0, .str "fault", .str "sheaf", .str w0])) = H8 at q8 e8 ⊢
      have k68 : Keep [p] H6 H8 := ((qA.more fun b z => absurd z nin0).trans k7).trans (q8.more fun b z => absurd z nin0)
      have all : ∀ v ∈ [v0, V.str "fault", V.str "sheaf", V.str w0], ∃ t, ThAt [] H8 t v ∧ okNew (ps.take k) t (.flat (.str sF)) = false := by
        simp only [List.forall_mem_cons]
        refine ⟨⟨t0, (((tg [p] p0).1.keepP0 k68 ep6).sub fun b hb => absurd hb nin0), badN (.inl hno)⟩, ⟨.flat (.str sF), flS txF, badN (.inr nF)⟩, ⟨.flat (.str sS), flS txS, badN (.inr nS)⟩, ⟨.flat (.str w0), flS tw, badN (.inr kw)⟩, fun x hx => absurd hx List.not_mem_nil⟩
      obtain ⟨v, hv, ev⟩ := get_at (vs := [v0, V.str "fault", V.str "sheaf", V.str w0]) y0 hy
      obtain ⟨t, ht, hbad⟩ := all v hv
      refine ⟨_, rfl, L, _, y, v, rfl, rfl, SqL.of e8, ev, ?_⟩
      exact qR _ p l k _ _ v (.str sF) t (.flat (.str sF)) ps (n + 11 + 1 + 1) H8 (hP6.keep k68 (nin1 nlp) (lst_ex ep6)) hk hlen ht (flS txF) hbad (hp8.keep q8 nin0) fun m H9 sp k9 hp9 =>
        kk m k H9 sp (((k06.trans k68).trans (k9.more fun b z => absurd z nin0))) (hp9.le (by omega))
    · rw [decide_eq_false hy]
      refine iteF ?_
      refine ⟨_, rfl, p, n + 11, rfl, hp5, by omega, fun t0 v0 H6 tg hno k6 hp6 => ?_⟩
      have hP6 : PairsAt H6 l ps := hP5.keep k6 (nin1 nlp) (lst_ex ep5)
      have k06 := k05.trans k6
      obtain ⟨as6, el6, tl6⟩ := id hP6
      have hl6 := tl6.len
      refine ⟨_, rfl, _, rfl, _, rfl, _, rfl, l, _, rfl, SqL.of el6, fun b1 hb1 => ?_⟩
      rw [cut_from (by rw [List.length_map, hl6]; exact hk), ← List.map_drop]
      have q1 : Keep [] H6 (upd H6 b1 (.lst ((as6.drop k).map V.ref))) := Keep.new hb1
      have e1 : (upd H6 b1 (.lst ((as6.drop k).map V.ref))) b1 = some (.lst ((as6.drop k).map V.ref)) := upd_same
      generalize (upd H6 b1 (.lst ((as6.drop k).map V.ref))) = G1 at q1 e1 ⊢
      refine ⟨_, rfl, (by show 2 ≤ sizeLine; decide), fun c hc => ?_⟩
      have q2 : Keep [] G1 (upd G1 c (.tup [.str z, .str ""])) := Keep.new hc
      have e2 : (upd G1 c (.tup [.str z, .str ""])) c = some (.tup [.str z, .str ""]) := upd_same
      generalize (upd G1 c (.tup [.str z, .str ""])) = G2 at q2 e2 ⊢
      refine ⟨(by show 1 ≤ sizeLine; decide), fun b2 hb2 => ?_⟩
      have q3 : Keep [] G2 (upd G2 b2 (.lst [.ref c])) := Keep.new hb2
      have e3' : (upd G2 b2 (.lst [.ref c])) b2 = some (.lst [.ref c]) := upd_same
      generalize (upd G2 b2 (.lst [.ref c])) = G3 at q3 e3' ⊢
      refine ⟨b1, b2, _, _, rfl, rfl, q3.at (q2.at e1 nin0) nin0, e3', ?_, fun b4 hb4 => ?_⟩
      · rw [List.length_map, List.length_drop]
        exact Nat.le_trans (by show as6.length - k + 1 ≤ 1000; omega) (by decide)
      have q4 : Keep [] G3 (upd G3 b4 (.lst ((as6.drop k).map V.ref ++ [.ref c]))) := Keep.new hb4
      have e4 : (upd G3 b4 (.lst ((as6.drop k).map V.ref ++ [.ref c]))) b4 = some (.lst ((as6.drop k ++ [c]).map V.ref)) := by rw [upd_same, List.map_append]; rfl
      generalize (upd G3 b4 (.lst ((as6.drop k).map V.ref ++ [.ref c]))) = G4 at q4 e4 ⊢
      have qA : Keep [] H6 G4 := ((q1.trans q2).trans q3).trans q4
      have hp7 := hp6.keep qA nin0
      obtain ⟨x6, ep6⟩ := hp6.some
      have hten : ∃ cc w0 x0, (as6.drop k ++ [c])[0]? = some cc ∧ G4 cc = some (.tup [.str w0, x0]) ∧ IsTx w0 ∧ isK (ps.take k) (.flat (.str w0)) = false := by
        by_cases hlt : k < as6.length
        · obtain ⟨q, hq, hqa⟩ := tl6.at (List.getElem?_eq_getElem hlt)
          obtain ⟨w1, w2, w3⟩ := hw.step hq
          refine ⟨as6[k], q.1, _, ?_, qA.at hqa nin0, nm_tx w1, decide_eq_false w2⟩
          rw [List.getElem?_append_left (by rw [List.length_drop]; omega), List.getElem?_drop, Nat.add_zero, List.getElem?_eq_getElem hlt]
        · refine ⟨c, z, _, ?_, q4.at (q3.at e2 nin0) nin0, txz, decide_eq_false fun hm => hz2 ?_⟩
          · rw [List.drop_of_length_le (by omega)]; rfl
          · rcases List.mem_cons.mp hm with m | m
            · rw [m]; exact List.mem_cons_self
            · rcases List.mem_cons.mp m with m | m
              · rw [m]; exact List.mem_cons_of_mem _ List.mem_cons_self
              · obtain ⟨q, hq, e⟩ := List.mem_map.mp m
                exact List.mem_cons_of_mem _ (List.mem_cons_of_mem _ (List.mem_map.mpr ⟨q, List.mem_of_mem_take hq, e⟩))
      obtain ⟨cc, w0, x0, hcc, ecc, tw, kw⟩ := hten
      refine ⟨b4, _, 0, .ref cc, rfl, rfl, SqL.of e4, ?_, ?_⟩
      · exact atI_nat (j := 0) (by rw [List.getElem?_map, hcc]; rfl)
      refine ⟨cc, _, 0, .str w0, rfl, rfl, SqT.of ecc, rfl, ?_⟩
      refine ⟨(by show 4 ≤ sizeLine; decide), fun L hL => ?_⟩
      have q8 : Keep [] G4 (upd G4 L (.lst [v0, .str "sheaf", .str z, .str w0])) := Keep.new hL
      have e8 : (upd G4 L (.lst [v0, .str "sheaf", .str z, .str w0])) L = some (.lst [v0, .str "sheaf", .str z, .str w0]) := upd_same
      generalize (upd G4 L (.lst [v0, .str "sheaf", .str z, .str w0])) = H8 at q8 e8 ⊢
      have k68 : Keep [] H6 H8 := qA.trans q8
      have all : ∀ v ∈ [v0, V.str "sheaf", V.str z, V.str w0], ∃ t, ThAt [] H8 t v ∧ okNew (ps.take k) (.flat (.str z)) t = false := by
        simp only [List.forall_mem_cons]
        refine ⟨⟨t0, (((tg [p] p0).1.keep0 k68).sub fun b hb => absurd hb nin0), badA (.inl (isK_odd wT hno))⟩, ⟨.flat (.str sS), flS txS, badA (.inr (by show decide (sS = sS) = true; exact decide_eq_true rfl))⟩, ⟨.flat (.str z), flS txz, badA (.inl (by
          show decide (z ∈ allK (ps.take k)) = false
          refine decide_eq_false fun hm => hz2 ?_
          rcases List.mem_cons.mp hm with m | m
          · rw [m]; exact List.mem_cons_self
          · rcases List.mem_cons.mp m with m | m
            · rw [m]; exact List.mem_cons_of_mem _ List.mem_cons_self
            · obtain ⟨q, hq, e⟩ := List.mem_map.mp m
              exact List.mem_cons_of_mem _ (List.mem_cons_of_mem _ (List.mem_map.mpr ⟨q, List.mem_of_mem_take hq, e⟩))))⟩, ⟨.flat (.str w0), flS tw, badA (.inl kw)⟩, fun x hx => absurd hx List.not_mem_nil⟩
      have y8 : y < 8 := y1
      obtain ⟨v, hv, ev⟩ := get_at (vs := [v0, V.str "sheaf", V.str z, V.str w0]) (d := y - 4) (by omega) (by show y - 4 < 4; omega)
      obtain ⟨t, ht, hbad⟩ := all v hv
      refine ⟨_, rfl, y, 4, rfl, rfl, L, _, y - 4, v, rfl, rfl, SqL.of e8, ev, ?_⟩
      exact qR _ p l k _ _ (.str z) v (.flat (.str z)) t ps (n + 11 + 1) H8 (hP6.keep k68 nin0 (fun b z => absurd z nin0)) hk hlen (flS txz) ht hbad (hp7.keep q8 nin0) fun m H9 sp k9 hp9 =>
        kk m k H9 sp (k06.trans ((k68.trans k9).more fun b z => absurd z nin0)) (hp9.le (by omega))
end
end Fs
/-! A def's promise at places where nothing is being shown. -/
namespace Fs
open PySem L2 TL
structure FnG (P : Program) (w : World) (K : PySem.W.Frag) (mg : Str → Option Value) (base : Heap) (k : Nat) (f : Addr) (fd : FuncData) (ps : List Str) (sp : Sp) : Prop where
  many : ∀ vs H Q E, sp vs H Q E → vs.length = ps.length
  go : ∀ (A : Around) (outer : List Env) (s : Shared) (H : Hp) (us : List Value) (vs : List V) (Q : VK) (E : XK), A.guards = some [] → Room k A → Env0 P w K mg base A outer s H →
    BindsTo s fd ⟨us, []⟩ (ps.zip us) → Vals vs us → sp vs H Q E → codeAny (model P w) A (.call (.ref f) ⟨us, []⟩) (CR CX0 outer P w H s Q E) s
section
variable {P : Program} {w : World} {K : PySem.W.Frag} {mg : Str → Option Value} {base : Heap}
theorem okG {x q : Str} {st : Stmt} {f : Addr} {fd : FuncData} {N ps : List Str} {k : Nat} {sp : Sp} (F : Fun K x q st f fd) (S : FnScope N ps (defScope st)) (len : ∀ vs H Q E, sp vs H Q E → vs.length = ps.length)
    (body : ∀ (cdv : Value) (A : Around) (outer : List Env) (s : Shared) (H : Hp) (vs : List V) (Q : VK) (E : XK), A.guards = some [] → Room k (A.deeper (PyProof.Rows.envOfC q (defScope st) s.heap.objs.size f cdv)) → sp vs H Q E →
      ∃ t, PSs (cxOf CX0 P w K mg base N q (defScope st) f cdv A outer s H E).nox (defBody st) t ∧ t { nx := fun _ H' => Q .non H', rt := Q } (L2.start N vs) H) : FnG P w K mg base (k + 1) f fd ps sp := by
  obtain ⟨oc, od, kV, doc, pm, an, cdv, ct, osl, rfl, lk, hcd⟩ := F.ex
  refine ⟨len, fun A outer s H us vs Q E hg hr e0 bd rv hsp => ?_⟩
  have now : K.In s.heap := e0.mod.kin.keeps fun b o e => (e0.bs b o e).1
  have hl := len _ _ _ _ hsp
  refine codeAny_call_function hr.depth (now f _ lk) rfl S.co S.gen rfl (PySem.W.codeRec_of now hcd) (bd _ _ _ _ (wpAny_newFunctionEnv_cells S.kind (fun z hz => ?_) fun env he s1 entered => ?_))
  · obtain ⟨n, v⟩ := z
    exact (S.par n (List.of_mem_zip hz).1).imp id fun c => ⟨c, PySem.W.cellsFrom_some _ _ _ (.inl c)⟩
  · cases he
    have free : s1.heap.NoLimit := (e0.mod.nolimit.keeps fun b o e => (e0.bs b o e).1).keeps entered.toInCall.keep
    obtain ⟨t, ht, hq⟩ := body cdv A outer s H vs Q E hg (hr.deeper _) hsp
    have at1 := inv_start (CX := CX0) (E := E) (ps := ps) (us := us) (vs := vs) S hr.hd e0 hl rv entered
    refine ⟨free, codeAny_func (wpAny_mono (ht.nox.run [] s1 _ H _ at1 hq) (fun fl s' end_ => ?_) fun e s' bad => ?_)⟩
    · cases fl with
      | ret u' =>
        obtain ⟨v', _, H', J, rv', q'⟩ := end_
        exact ⟨v', H', J.os, J.bare, J.base, J.hok, rv', q'⟩
      | next =>
        obtain ⟨_, H', J, q'⟩ := end_
        exact ⟨.non, H', J.os, J.bare, J.base, J.hok, rfl, q'⟩
      | brk => obtain ⟨_, _, _, no⟩ := end_; exact no.elim
      | cont => obtain ⟨_, _, _, no⟩ := end_; exact no.elim
    · exact wpAny_mono bad (fun _ _ no => False.elim no) fun _ _ no => False.elim no
end
section
variable {X : Cx} {k : Nat} {f : Addr} {fd : FuncData} {ps : List Str} {sp : Sp} {x : Str} {p pos : Pos} {e : Expr} {es : List Expr} {t : TA}
theorem pe_callG (F : FnG X.prog X.w X.K X.mg X.base k f fd ps sp) (hg : X.A.guards = some []) (hr : Room k X.A) (gl : Gl X x) (hm : X.mg x = some (.ref f)) (hk : PySem.W.keepIn X.K (.ref f) = true) (hb : Binds X.K fd ps [])
    (ha : PA X (e :: es) t) (hdb : (x == ("__debug__" : Str)) = false := by decide) (he : starEach (e :: es) X.env = (false, eval e X.env) :: starEach es X.env := by rfl) (hpl : (backTo pos (starEach es X.env)).any (·.1) = false := by rfl) :
    PE X (.Call (.Name x p) (e :: es) [] pos) (tCall sp [] E0 t) := by
  refine ⟨fun pins s σ H Q I h => wpAny_Call_Name_kw (ld_glob I gl hm ?_ hdb)⟩
  refine PySem.W.callWith_K (h₀ := X.base) I.ok.mod.kin hk (thn (ha.run pos pins s σ H _ I h) fun us s1 ⟨vs, H1, I1, r, q⟩ => ⟨I1.kIn, ?_⟩) he hpl
  have q : sp (vs ++ []) H1 Q E0 := q
  rw [List.append_nil] at q
  have hl : us.length = ps.length := by rw [← r.length]; exact F.many _ _ _ _ q
  have b1 := hb s1 us I1.kIn (by rw [List.append_nil]; exact hl)
  rw [List.append_nil] at b1
  refine wpAny_call (codeAny_mono (F.go X.A X.stack s1 H1 us vs Q E0 hg hr I1.env0 b1 r q) fun r s' hq => ?_)
  cases r with
  | error e => exact False.elim hq
  | ok fl =>
    cases fl with
    | ret u => exact I1.after hq
    | next => exact False.elim hq
    | brk => exact False.elim hq
    | cont => exact False.elim hq
end
end Fs
/-! Whether kinds answer rightly. -/
namespace Fs
open PySem L2 TL
theorem inT_isK (ps : List (Str × Str)) (t : Th) : inT (allK ps) t = isK ps t := by
  cases t with
  | flat v => cases v <;> rfl
  | _ => rfl
/-- ("told", x), ("refused", True): as data -/
def tuD (w : Str) (d : PyData) : PyData := .tuple [.str w, d]
def flD : V → PyData
  | .bl b => .bool b
  | .str z => .str z
  | _ => .none
def FlS : V → Prop
  | .non => True
  | .bl _ => True
  | .str z => IsTx z
  | _ => False
theorem tu_dp {K : PySem.W.Frag} {H : Hp} {t : Addr} {w : Str} {v : V} (h : H t = some (.tup [.str w, v])) (f : FlS v) : Dp K H (.ref t) (tuD w (flD v)) := by
  refine .tup (SqT.of h) (.cons (.str _) (.cons ?_ .nil))
  cases v with
  | non => exact .non
  | bl b => exact .bl b
  | str z => exact .str z
  | _ => exact f.elim
theorem tu_ok {w : Str} {v : V} (hw : IsTx w) (f : FlS v) : (tuD w (flD v)).showable = true ∧ (tuD w (flD v)).hasDict = false ∧ (tuD w (flD v)).depth ≤ 60 ∧ (tuD w (flD v)).shown.length ≤ sizeLine := by
  have a0 : (flD v).showable = true ∧ (flD v).hasDict = false ∧ (flD v).depth = 0 ∧ (flD v).shown.length ≤ 402 := by
    cases v with
    | non => exact ⟨rfl, rfl, rfl, by decide +kernel⟩
    | bl b => cases b <;> exact ⟨rfl, rfl, rfl, by decide +kernel⟩
    | str z => exact ⟨rfl, rfl, rfl, str_short (n := 40) f.1 f.2⟩
    | _ => exact f.elim
  obtain ⟨b1, b2, b3, b4⟩ := a0
  have c4 : (PyData.str w).shown.length ≤ 402 := str_short (n := 40) hw.1 hw.2
  refine ⟨?_, ?_, ?_, ?_⟩
  · simp only [tuD, PyData.showable, PyData.showableAll, Bool.and_true, Bool.true_and, b1]
  · simp only [tuD, PyData.hasDict, PyData.hasDictAll, Bool.or_self, b2]
  · simp only [tuD, PyData.depth, PyData.depthAll, b3]
    omega
  · unfold tuD
    simp only [PyData.shown]
    have g := tupleText_len_le (PyData.shownAll [.str w, flD v])
    simp only [PyData.shownAll, List.map_cons, List.map_nil, List.sum_cons, List.sum_nil, List.length_cons, List.length_nil] at g ⊢
    exact Nat.le_trans (by omega : _ ≤ 1000) (by decide)
abbrev rReprD (K : PySem.W.Frag) : List V → Hp → VK → Prop := fun xs H Q => ∃ (a : Addr) (d : PyData), xs = [V.ref a] ∧ Dp K H (.ref a) d ∧ d.showable = true ∧ d.hasDict = false ∧ d.depth ≤ 60 ∧ d.shown.length ≤ sizeLine ∧ Q (.str d.shown) H
theorem mergeK_app (x a b : List (Key × V)) : mergeK x (a ++ b) = mergeK (mergeK x a) b := by
  unfold mergeK
  exact List.foldl_append
theorem merge_kvs {ps : List (Str × Str)} (hw : Wf ps) : mergeK [] (kvsOf ps) = kvsOf ps := by
  have go : ∀ {ps : List (Str × Str)}, Wf ps → mergeK (kvsOf []) (ps.map pr) = kvsOf ps := fun hw => by
    induction hw with
    | nil => rfl
    | @snoc ps z y hw hz hn hy ih =>
      rw [List.map_append, mergeK_app, ih]
      show putK (kvsOf ps) (.inr z) (.str y) = _
      refine kvs_put fun m => hn ?_
      rcases List.mem_cons.mp m with m | m
      · rw [m]; exact List.mem_cons_of_mem _ List.mem_cons_self
      · rcases List.mem_cons.mp m with m | m
        · rw [m]; exact List.mem_cons_self
        · exact List.mem_cons_of_mem _ (List.mem_cons_of_mem _ m)
  have e : kvsOf ps = kvsOf [] ++ ps.map pr := by unfold kvsOf; rw [List.map_nil, List.append_nil]; rfl
  have e0 : mergeK [] (kvsOf []) = kvsOf [] := by decide +kernel
  rw [e, mergeK_app, e0, go hw, e]
theorem upV_flS {ps : List (Str × Str)} (hw : Wf ps) {x : Str} (hx : x ∈ allK ps) : FlS (upV (upOf ps x)) := by
  cases h : upOf ps x with
  | none => exact True.intro
  | some y => exact allK_tx hw y (kept_all (up_in hw hx h))
end Fs
/-! Whether kinds answer rightly: the law. -/
namespace Fs
open PySem L2 TL
abbrev sRgt : Stmt := top 30 --def _law_right
abbrev nRgt : List Str := ["_law_pot_here", "_law_pairs_here", "_law_kinds", "_law_names", "_law_things", "_law_aboves", "_law_thing", "_law_is_one", "_law_due", "_law_turn", "_law_one", "_law_other"]
abbrev aRgt : List Str := ["_law_pot_here", "_law_pairs_here", "_law_kinds", "_law_names"]
theorem scRgt : FnScope nRgt aRgt (defScope sRgt) := ⟨rfl, rfl, rfl, by decide +kernel, rfl, by decide +kernel, by decide +kernel⟩
structure RTx (K : PySem.W.Frag) (mg : Str → Option Value) (C fDg fFr fOd fLa fLu fSt fK : Addr) : Prop where
  gDg : mg "_law_digit" = some (.ref fDg)
  kDg : PySem.W.keepIn K (.ref fDg) = true
  gFr : mg "_law_fresh" = some (.ref fFr)
  kFr : PySem.W.keepIn K (.ref fFr) = true
  gOd : mg "_law_odd" = some (.ref fOd)
  kOd : PySem.W.keepIn K (.ref fOd) = true
  gLa : mg "_law_above" = some (.ref fLa)
  kLa : PySem.W.keepIn K (.ref fLa) = true
  gLu : mg "_law_under" = some (.ref fLu)
  kLu : PySem.W.keepIn K (.ref fLu) = true
  gSt : mg "_law_stands" = some (.ref fSt)
  kSt : PySem.W.keepIn K (.ref fSt) = true
  cl : Cls K C
  mK : Meth K C "is_kind" fK
  repr : mg "repr" = none
  dict : mg "dict" = none
  len : mg "len" = none
  range : mg "range" = none
def spRgt (C : Addr) : Sp := fun vs H Q _ => ∃ (p l kd N : Addr) (n : Nat) (ps : List (Str × Str)), vs = [.ref p, .ref l, .ref kd, .ref N] ∧ PotAt H p n ∧ n < 2 ^ 34 ∧ PairsAt H l ps ∧ Wf ps ∧ ps.length ≤ 28 ∧ KindsAt C H kd ps ∧ H N = some (.lst ((allK ps).map V.str)) ∧ l ≠ p ∧ N ≠ p ∧
  ∀ H', Keep [p] H H' → PotAt H' p (n + 40) → Q (.bl true) H'
theorem noIK (d : Addr) : ([(("_above" : Str), V.ref d)] : List (Str × V)).lookup ("is_kind" : Str) = none := ab_no _ (by decide +kernel)
theorem KindsAt.keepL {C : Addr} {H H' : Hp} {kd p : Addr} {ps : List (Str × Str)} (h : KindsAt C H kd ps) (k : Keep [p] H H') {xs : List V} (hp : H p = some (.lst xs)) : KindsAt C H' kd ps := h.keep k fun b hb => by
  rw [List.mem_singleton.mp hb]
  exact ⟨_, hp, (fun _ _ _ z => by cases z), fun _ z => by cases z⟩
structure RB (C p l kd N T D : Addr) (ps : List (Str × Str)) (vs : List V) (G : Hp) : Prop where
  hP : PairsAt G l ps
  hK : KindsAt C G kd ps
  hN : G N = some (.lst ((allK ps).map V.str))
  hT : G T = some (.lst vs)
  hD : G D = some (.dK (kvsOf ps))
  th : ∀ v ∈ vs, ∃ t, TgAt [p] G t v
  nl : l ≠ p
  nN : N ≠ p
  nT : T ≠ p
theorem RB.keep0 {C p l kd N T D : Addr} {ps : List (Str × Str)} {vs : List V} {G G' : Hp} (B : RB C p l kd N T D ps vs G) (k : Keep [] G G') : RB C p l kd N T D ps vs G' :=
  ⟨B.hP.keep k nin0 (fun b z => absurd z nin0), B.hK.keep0 k, k.at B.hN nin0, k.at B.hT nin0, k.at B.hD nin0, fun v hv => (B.th v hv).imp fun t h => h.keep0 k, B.nl, B.nN, B.nT⟩
theorem RB.keepP {C p l kd N T D : Addr} {ps : List (Str × Str)} {vs : List V} {G G' : Hp} (B : RB C p l kd N T D ps vs G) (k : Keep [p] G G') {xs : List V} (hp : G p = some (.lst xs)) : RB C p l kd N T D ps vs G' :=
  ⟨B.hP.keep k (nin1 B.nl) (lst_ex hp), B.hK.keepL k hp, k.at B.hN (nin1 B.nN), k.at B.hT (nin1 B.nT), k.at B.hD (nin1 (ne_of B.hD hp (fun z => by cases z))), fun v hv => (B.th v hv).imp fun t h => h.keepP List.mem_cons_self k ⟨_, hp⟩, B.nl, B.nN, B.nT⟩
theorem inK_eq {ps : List (Str × Str)} {t : Th} : isK ps t = true → ∃ z, t = .flat (.str z) ∧ z ∈ allK ps := isK_str
section
variable {P : Program} {w : World} {K : PySem.W.Frag} {mg : Str → Option Value} {base : Heap} {C fDg fFr fOd fLa fLu fSt fK : Addr}
theorem ok_rgt {f : Addr} {fd dDg dFr dOd dLa dLu dSt dK : FuncData} (F : Fun K "_law_right" "_law_right" sRgt f fd) (T : RTx K mg C fDg fFr fOd fLa fLu fSt fK)
    (FDg : FnOk P w K mg base CX0 1 fDg dDg ["_law_pot_here", "_law_many"] spDigit) (bDg : Binds K dDg ["_law_pot_here", "_law_many"] []) (FFr : FnOk P w K mg base CX0 3 fFr dFr ["_law_pot_here", "_law_taken"] (spFresh K)) (bFr : Binds K dFr ["_law_pot_here", "_law_taken"] [])
    (FOd : FnOk P w K mg base CX0 2 fOd dOd ["_law_pot_here"] spOdd) (bOd : Binds K dOd ["_law_pot_here"] []) (FLa : FnOk P w K mg base CX0 5 fLa dLa ["_law_kinds", "_law_name_here"] (spLab C)) (bLa : Binds K dLa ["_law_kinds", "_law_name_here"] [])
    (FLu : FnOk P w K mg base CX0 5 fLu dLu ["_law_kinds", "_law_name_here", "_law_other"] (spLun C)) (bLu : Binds K dLu ["_law_kinds", "_law_name_here", "_law_other"] []) (FSt : FnOk P w K mg base CX0 1 fSt dSt ["_law_pairs_here", "_law_name_here", "_law_other"] spStd) (bSt : Binds K dSt ["_law_pairs_here", "_law_name_here", "_law_other"] [])
    (FK : FnOk P w K mg base CX0 2 fK dK ["self", "thing"] (spKdT C)) (bK : Binds K dK ["self", "thing"] []) : FnG P w K mg base 6 f fd aRgt (spRgt C) := by
  refine okG F scRgt (fun vs H Q E h => ?_) (fun cdv A0 outer s H vs Q Es hg hr h => ?_)
  · obtain ⟨p, l, kd, N, n, ps, rfl, _⟩ := h
    rfl
  · obtain ⟨p, l, kd, N, n, ps, rfl, hp, hn, hP, hw, hlen, hK, hN, nlp, nNp, kk⟩ := h
    have hr1 : Room 1 _ := hr.mono (by decide)
    have hr2 : Room 2 _ := hr.mono (by decide)
    have hr3 : Room 3 _ := hr.mono (by decide)
    have hu := hr.units
    have hu1 := hu_of hr
    have hu65 : (A0.deeper (PyProof.Rows.envOfC "_law_right" (defScope sRgt) s.heap.objs.size f cdv)).units + 65 < cLine := by have := hr.un; omega
    have hgX : (cxOf CX0 P w K mg base nRgt "_law_right" (defScope sRgt) f cdv A0 outer s H Es).nox.A.guards = some [] := hg
    refine ⟨_, pss_cons (ps_set (i := 4) scRgt.nd rfl (Or.inl rfl) (pe_op op_cat (pv 3) (pe_lst (pa_cons (pe_call FOd hr2 rfl T.gOd T.kOd bOd .nil pass0 (pa_cons (pv 0) pa_nil)) (pa_cons (pe_call FFr hr3 rfl T.gFr T.kFr bFr .nil pass0 (pa_cons (pv 0) (pa_cons (pv 3) pa_nil))) pa_nil)))))
      (pss_cons (ps_set (i := 5) scRgt.nd rfl (Or.inl rfl) (pe_callTy (call_dictP rfl) (by rfl) T.dict (by decide +kernel) (pa_cons (pe_op op_cat (pe_lst (pa_cons (pe_tup (pa_cons pe_str (pa_cons pe_non pa_nil))) (pa_cons (pe_tup (pa_cons pe_str (pa_cons pe_str pa_nil))) pa_nil))) (pv 1)) pa_nil)))
      (pss_cons (ps_for PassesOwn.never rfl (pi_list (pv 4)) (pg_name (i := 6) scRgt.nd rfl (Or.inl rfl))
        (pss_cons (ps_set (i := 7) scRgt.nd rfl (Or.inl rfl) (pe_cmpR (op_inT hu65) (pv 6) (pv 3) (by rfl)))
        (pss_cons (ps_if (pt_cmpR op_ne (pe_callB call_reprB (by rfl) T.repr (by decide +kernel) (pa_cons (pe_meth (pv 2) T.cl T.mK FK hr2 bK .nil pass0 (pa_cons (pv 6) pa_nil)) pa_nil)) (pe_callB call_reprB (by rfl) T.repr (by decide +kernel) (pa_cons (pv 7) pa_nil)) (nomark _)) (pss_one (ps_ret pe_bl)) pss_nil)
        (pss_cons (ps_set (i := 8) scRgt.nd rfl (Or.inl rfl) (pe_tup (pa_cons pe_str (pa_cons pe_bl pa_nil))))
        (pss_cons (ps_if (pt_val (pv 7)) (pss_one (ps_set (i := 8) scRgt.nd rfl (Or.inl rfl) (pe_tup (pa_cons pe_str (pa_cons (pe_dget hu1 (pv 5) (pv 6) (fun _ _ => rfl)) pa_nil))))) pss_nil)
        (pss_one (ps_if (pt_cmpR op_ne (pe_callB (call_reprD hgX hu) (by rfl) T.repr (by decide +kernel) (pa_cons (pe_call FLa hr rfl T.gLa T.kLa bLa .nil pass0 (pa_cons (pv 2) (pa_cons (pv 6) pa_nil))) pa_nil)) (pe_callB (call_reprD hgX hu) (by rfl) T.repr (by decide +kernel) (pa_cons (pv 8) pa_nil)) (nomark _)) (pss_one (ps_ret pe_bl)) pss_nil)))))))
      (pss_cons (ps_for PassesOwn.never rfl (pi_range1 rfl T.range (pa_cons pe_int pa_nil)) (pg_name (i := 9) scRgt.nd rfl (Or.inl rfl))
        (pss_cons (ps_set (i := 10) scRgt.nd rfl (Or.inl rfl) (pe_ix ix_list (pv 4) (pe_call FDg hr1 rfl T.gDg T.kDg bDg .nil pass0 (pa_cons (pv 0) (pa_cons (pe_callB call_len_seq (by rfl) T.len PySem.boot_len (pa_cons (pv 4) pa_nil)) pa_nil))) (fun _ _ => rfl)))
        (pss_cons (ps_set (i := 11) scRgt.nd rfl (Or.inl rfl) (pe_ix ix_list (pv 4) (pe_call FDg hr1 rfl T.gDg T.kDg bDg .nil pass0 (pa_cons (pv 0) (pa_cons (pe_callB call_len_seq (by rfl) T.len PySem.boot_len (pa_cons (pv 4) pa_nil)) pa_nil))) (fun _ _ => rfl)))
        (pss_cons (ps_set (i := 8) scRgt.nd rfl (Or.inl rfl) (pe_tup (pa_cons pe_str (pa_cons pe_bl pa_nil))))
        (pss_cons (ps_if (PW.pt (pw_and (pt_cmpR (op_inT hu65) (pv 10) (pv 3) (by rfl)) (pw_and1 (pt_cmpR (op_inT hu65) (pv 11) (pv 3) (by rfl))))) (pss_one (ps_set (i := 8) scRgt.nd rfl (Or.inl rfl) (pe_tup (pa_cons pe_str (pa_cons (pe_call FSt hr1 rfl T.gSt T.kSt bSt .nil pass0 (pa_cons (pv 1) (pa_cons (pv 10) (pa_cons (pv 11) pa_nil)))) pa_nil))))) pss_nil)
        (pss_one (ps_if (pt_cmpR op_ne (pe_callB (call_reprD hgX hu) (by rfl) T.repr (by decide +kernel) (pa_cons (pe_call FLu hr rfl T.gLu T.kLu bLu .nil pass0 (pa_cons (pv 2) (pa_cons (pv 10) (pa_cons (pv 11) pa_nil)))) pa_nil)) (pe_callB (call_reprD hgX hu) (by rfl) T.repr (by decide +kernel) (pa_cons (pv 8) pa_nil)) (nomark _)) (pss_one (ps_ret pe_bl)) pss_nil)))))))
      (pss_one (ps_ret pe_bl))))), ?_⟩
    -- the things
    refine ⟨_, rfl, _, rfl, p, n, rfl, hp, by omega, fun t0 v0 H1 tg hno k1 hp1 => ?_⟩
    obtain ⟨xp, ep⟩ := hp.some
    have hN1 := k1.at hN (nin1 nNp)
    refine ⟨_, rfl, _, rfl, p, N, n + 1, allK ps, rfl, hp1, by omega, hN1, nNp, by show (sF :: sS :: ps.map Prod.fst).length ≤ 100; rw [List.length_cons, List.length_cons, List.length_map]; omega, fun z H2 hz hz2 k2 hp2 => ?_⟩
    obtain ⟨xp1, ep1⟩ := hp1.some
    have hN2 := k2.at hN1 (nin1 nNp)
    refine ⟨(by show 2 ≤ sizeLine; decide), fun b hb => ?_⟩
    have k3 : Keep [] H2 (upd H2 b (.lst [v0, .str z])) := Keep.new hb
    have e3 : (upd H2 b (.lst [v0, .str z])) b = some (.lst [v0, .str z]) := upd_same
    generalize (upd H2 b (.lst [v0, .str z])) = H3 at k3 e3 ⊢
    refine ⟨N, b, _, _, rfl, rfl, k3.at hN2 nin0, e3, ?_, fun T0 hT0 => ?_⟩
    · rw [List.length_map]
      exact Nat.le_trans (by show (sF :: sS :: ps.map Prod.fst).length + 2 ≤ 1000; rw [List.length_cons, List.length_cons, List.length_map]; omega) (by decide)
    have k4 : Keep [] H3 (upd H3 T0 (.lst ((allK ps).map V.str ++ [v0, .str z]))) := Keep.new hT0
    have e4 : (upd H3 T0 (.lst ((allK ps).map V.str ++ [v0, .str z]))) T0 = some (.lst ((allK ps).map V.str ++ [v0, .str z])) := upd_same
    generalize (upd H3 T0 (.lst ((allK ps).map V.str ++ [v0, .str z]))) = H4 at k4 e4 ⊢
    have k24 : Keep [] H2 H4 := k3.trans k4
    have k14 : Keep [p] H1 H4 := k2.trans (k24.more fun b z => absurd z nin0)
    have k04 : Keep [p] H H4 := k1.trans k14
    have hp4 := hp2.keep k24 nin0
    have things : ∀ v ∈ ((allK ps).map V.str ++ [v0, V.str z]), ∃ t, TgAt [p] H4 t v := fun v hv => by
      rcases List.mem_append.mp hv with m | m
      · obtain ⟨y, hy, rfl⟩ := List.mem_map.mp m
        exact ⟨_, tg_flat (show Flt (.str y) from allK_tx hw y hy)⟩
      · rcases List.mem_cons.mp m with m | m
        · rw [m]
          exact ⟨t0, (tg [p] fun b hb z => by rw [List.mem_singleton.mp hb, ep] at z; cases z).keepP List.mem_cons_self k14 ⟨_, ep1⟩⟩
        · rw [List.mem_singleton.mp m]
          exact ⟨_, tg_flat (show Flt (.str z) from nm_tx hz)⟩
    -- the dict
    refine ⟨(by show 2 ≤ sizeLine; decide), fun c1 hc1 => ?_⟩
    have j1 : Keep [] H4 (upd H4 c1 (.tup [.str "fault", .non])) := Keep.new hc1
    have f1 : (upd H4 c1 (.tup [.str "fault", .non])) c1 = some (.tup [.str sF, .non]) := upd_same
    generalize (upd H4 c1 (.tup [.str "fault", .non])) = G1 at j1 f1 ⊢
    refine ⟨(by show 2 ≤ sizeLine; decide), fun c2 hc2 => ?_⟩
    have j2 : Keep [] G1 (upd G1 c2 (.tup [.str "sheaf", .str "fault"])) := Keep.new hc2
    have f2 : (upd G1 c2 (.tup [.str "sheaf", .str "fault"])) c2 = some (.tup [.str sS, .str sF]) := upd_same
    generalize (upd G1 c2 (.tup [.str "sheaf", .str "fault"])) = G2 at j2 f2 ⊢
    refine ⟨(by show 2 ≤ sizeLine; decide), fun c3 hc3 => ?_⟩
    have j3 : Keep [] G2 (upd G2 c3 (.lst [.ref c1, .ref c2])) := Keep.new hc3
    have f3 : (upd G2 c3 (.lst [.ref c1, .ref c2])) c3 = some (.lst [.ref c1, .ref c2]) := upd_same
    generalize (upd G2 c3 (.lst [.ref c1, .ref c2])) = G3 at j3 f3 ⊢
    have hP4 : PairsAt H4 l ps := hP.keep k04 (nin1 nlp) (lst_ex ep)
    have hP3 : PairsAt G3 l ps := hP4.keep (ex := []) ((j1.trans j2).trans j3) nin0 (fun b z => absurd z nin0)
    obtain ⟨as, el, tl⟩ := id hP3
    refine ⟨_, rfl, c3, l, _, _, rfl, rfl, f3, el, ?_, fun c4 hc4 => ?_⟩
    · rw [List.length_map, tl.len]
      exact Nat.le_trans (by show 2 + ps.length ≤ 1000; omega) (by decide)
    have j4 : Keep [] G3 (upd G3 c4 (.lst ([.ref c1, .ref c2] ++ as.map V.ref))) := Keep.new hc4
    have f4 : (upd G3 c4 (.lst ([.ref c1, .ref c2] ++ as.map V.ref))) c4 = some (.lst ((c1 :: c2 :: as).map V.ref)) := upd_same
    generalize (upd G3 c4 (.lst ([.ref c1, .ref c2] ++ as.map V.ref))) = G4 at j4 f4 ⊢
    have pd : Paired (fun p kv => SqT K G4 p [kV kv.1, kv.2]) (c1 :: c2 :: as) (kvsOf ps) :=
      .cons (SqT.of (j4.at (j3.at (j2.at f1 nin0) nin0) nin0)) (.cons (SqT.of (j4.at (j3.at f2 nin0) nin0)) ((tl.map fun a xs e => j4.at e nin0).paired))
    refine ⟨c4, c1 :: c2 :: as, kvsOf ps, rfl, SqL.of f4, pd, fun D hD => ?_⟩
    rw [merge_kvs hw]
    have j5 : Keep [] G4 (upd G4 D (.dK (kvsOf ps))) := Keep.new hD
    have f5 : (upd G4 D (.dK (kvsOf ps))) D = some (.dK (kvsOf ps)) := upd_same
    generalize (upd G4 D (.dK (kvsOf ps))) = H5 at j5 f5 ⊢
    have k45 : Keep [] H4 H5 := (((j1.trans j2).trans j3).trans j4).trans j5
    have hp5 := hp4.keep k45 nin0
    have k05 : Keep [p] H H5 := k04.trans (k45.more fun b z => absurd z nin0)
    have nTp : T0 ≠ p := fun z => by
      obtain ⟨x2, e2⟩ := hp2.some
      rw [z, k3.at e2 nin0] at hT0; cases hT0
    have B5 : RB C p l kd N T0 D ps ((allK ps).map V.str ++ [v0, V.str z]) H5 := ⟨hP4.keep (ex := []) k45 nin0 (fun b z => absurd z nin0), (hK.keepL k04 ep).keep0 k45, k45.at (k4.at (k3.at hN2 nin0) nin0) nin0, k45.at e4 nin0, f5, fun v hv => (things v hv).imp fun t h => h.keep0 k45, nlp, nNp, nTp⟩
    generalize hvs : ((allK ps).map V.str ++ [v0, V.str z]) = vsT at B5
    have hlT : vsT.length ≤ 32 := by
      rw [← hvs, List.length_append, List.length_map]
      show (sF :: sS :: ps.map Prod.fst).length + 2 ≤ 32
      rw [List.length_cons, List.length_cons, List.length_map]
      omega
    have hlT0 : 0 < vsT.length := by
      rw [← hvs, List.length_append]
      show 0 < _ + 2
      omega
    have h2 : H2 p ≠ none := fun z => by obtain ⟨x2, e2⟩ := hp2.some; rw [e2] at z; cases z
    refine ⟨_, rfl, T0, rfl, ⟨_, SqL.of B5.hT⟩, ?_⟩
    refine for_list (K := K) (a := T0) (xs := vsT) (fun i σ G => ∃ v6 v7 v8 : Option V, σ = [some (.ref p), some (.ref l), some (.ref kd), some (.ref N), some (.ref T0), some (.ref D), v6, v7, v8, none, none, none] ∧ RB C p l kd N T0 D ps vsT G ∧ PotAt G p (n + 10) ∧ Keep [p] H G)
      ⟨none, none, none, rfl, B5, hp5, k05⟩ (fun i σ G _ ⟨_, _, _, _, B, _⟩ => SqL.of B.hT) ?_ ?_
    · rintro i x σ G hx ⟨v6, v7, v8, rfl, B, hpG, kG⟩
      obtain ⟨t, tg⟩ := B.th x (List.mem_of_getElem? hx)
      obtain ⟨dk, dd, g1, g2⟩ := id B.hK
      refine ⟨_, rfl, _, rfl, [p], t, N, allK ps, tg, rfl, B.hN, allK_tx hw, ?_⟩
      rw [inT_isK]
      refine ⟨_, rfl, kd, dk, _, rfl, g1, noIK dd, _, rfl, [p], kd, t, x, ps, rfl, B.hK, tg.1, _, rfl, _, rfl, _, rfl, rfl, _, rfl, iteNS rfl ?_⟩
      refine ⟨(by show 2 ≤ sizeLine; decide), fun q hq => ?_⟩
      have r1 : Keep [] G (upd G q (.tup [.str "refused", .bl true])) := Keep.new hq
      have e1 : (upd G q (.tup [.str "refused", .bl true])) q = some (.tup [.str "refused", .bl true]) := upd_same
      generalize (upd G q (.tup [.str "refused", .bl true])) = G1 at r1 e1 ⊢
      have B1 := B.keep0 r1
      have tg1 := tg.keep0 r1
      refine ⟨_, rfl, _, rfl, ?_⟩
      cases hk : isK ps t with
      | true =>
        obtain ⟨y, rfl, hy⟩ := isK_str hk
        have ex : x = .str y := by have := tg.1; simp only [ThAt] at this; exact this.1
        subst ex
        refine iteT ?_
        refine ⟨_, rfl, _, rfl, D, upV (upOf ps y), rfl, (by rw [← up_at hw hy]; exact DGet.k (k := Sum.inr y) B1.hD), (by show 2 ≤ sizeLine; decide), fun q2 hq2 => ?_⟩
        have r2 : Keep [] G1 (upd G1 q2 (.tup [.str "told", upV (upOf ps y)])) := Keep.new hq2
        have e2 : (upd G1 q2 (.tup [.str "told", upV (upOf ps y)])) q2 = some (.tup [.str "told", upV (upOf ps y)]) := upd_same
        generalize (upd G1 q2 (.tup [.str "told", upV (upOf ps y)])) = G2 at r2 e2 ⊢
        have B2 := B1.keep0 r2
        have fl := upV_flS hw hy
        obtain ⟨o1, o2, o3, o4⟩ := tu_ok (w := "told") (tx_go _ (by decide +kernel)) fl
        refine ⟨_, rfl, _, rfl, [p], kd, _, _, ps, rfl, B2.hK, hw, (tg1.keep0 r2).1, fun _ q3 G3 k3 hq3 e3 => ?_, fun h => by rw [hk] at h; cases h⟩
        refine ⟨q3, _, rfl, tu_dp e3 fl, o1, o2, o3, o4, ?_⟩
        refine ⟨_, rfl, q2, _, rfl, tu_dp (k3.at e2 nin0) fl, o1, o2, o3, o4, rfl, _, rfl, iteNS rfl ?_⟩
        have kk3 : Keep [] G G3 := (r1.trans r2).trans k3
        exact ⟨_, _, _, rfl, B.keep0 kk3, hpG.keep kk3 nin0, kG.trans (kk3.more fun b z => absurd z nin0)⟩
      | false =>
        refine iteF ?_
        obtain ⟨o1, o2, o3, o4⟩ := tu_ok (w := "refused") (v := .bl true) (tx_go _ (by decide +kernel)) True.intro
        refine ⟨_, rfl, _, rfl, [p], kd, t, x, ps, rfl, B1.hK, hw, tg1.1, (fun h => by rw [hk] at h; cases h), fun _ q3 G3 k3 hq3 e3 => ?_⟩
        refine ⟨q3, _, rfl, tu_dp (v := .bl true) e3 True.intro, o1, o2, o3, o4, ?_⟩
        refine ⟨_, rfl, q, _, rfl, tu_dp (v := .bl true) (k3.at e1 nin0) True.intro, o1, o2, o3, o4, rfl, _, rfl, iteNS rfl ?_⟩
        have kk3 : Keep [] G G3 := r1.trans k3
        exact ⟨_, _, _, rfl, B.keep0 kk3, hpG.keep kk3 nin0, kG.trans (kk3.more fun b z => absurd z nin0)⟩
    · rintro σ G ⟨v6, v7, v8, rfl, B, hpG, kG⟩
      refine ⟨8, rfl, by decide, by decide, ?_⟩
      refine for_range (lo := 0) (n := 8) (fun i σ G => ∃ v6 v7 v8 v9 v10 v11 : Option V, σ = [some (.ref p), some (.ref l), some (.ref kd), some (.ref N), some (.ref T0), some (.ref D), v6, v7, v8, v9, v10, v11] ∧ RB C p l kd N T0 D ps vsT G ∧ PotAt G p (n + 10 + 2 * i) ∧ Keep [p] H G)
        ⟨v6, v7, v8, none, none, none, rfl, B, hpG, kG⟩ ?_ ?_
      · rintro i σ G hi ⟨v6, v7, v8, v9, v10, v11, rfl, B, hpG, kG⟩
        obtain ⟨xg, eg⟩ := hpG.some
        refine ⟨_, rfl, _, rfl, _, rfl, T0, _, rfl, .inl (SqL.of B.hT), p, n + 10 + 2 * i, _, rfl, hpG, by omega, by omega, by omega, fun d G1 d0 d1 hk1 hp1 => ?_⟩
        have k1' := keep_of_dig hk1
        have B1 := B.keepP k1' eg
        obtain ⟨x1, eg1⟩ := hp1.some
        obtain ⟨x, hx, ex⟩ := get_at d0 d1
        refine ⟨T0, _, d, x, rfl, rfl, SqL.of B1.hT, ex, ?_⟩
        refine ⟨_, rfl, _, rfl, _, rfl, T0, _, rfl, .inl (SqL.of B1.hT), p, n + 10 + 2 * i + 1, _, rfl, hp1, by omega, by omega, by omega, fun e G2 e0 e1 hk2 hp2 => ?_⟩
        have k2' := keep_of_dig hk2
        have B2 := B1.keepP k2' eg1
        obtain ⟨y, hy, ey⟩ := get_at e0 e1
        refine ⟨T0, _, e, y, rfl, rfl, SqL.of B2.hT, ey, ?_⟩
        obtain ⟨t, tg⟩ := B2.th x hx
        obtain ⟨r, rg⟩ := B2.th y hy
        have kG2 : Keep [p] H G2 := (kG.trans k1').trans k2'
        refine ⟨(by show 2 ≤ sizeLine; decide), fun q hq => ?_⟩
        have r1 : Keep [] G2 (upd G2 q (.tup [.str "refused", .bl true])) := Keep.new hq
        have eq1 : (upd G2 q (.tup [.str "refused", .bl true])) q = some (.tup [.str "refused", .bl true]) := upd_same
        generalize (upd G2 q (.tup [.str "refused", .bl true])) = G3 at r1 eq1 ⊢
        have B3 := B2.keep0 r1
        have tg3 := tg.keep0 r1
        have rg3 := rg.keep0 r1
        obtain ⟨o1, o2, o3, o4⟩ := tu_ok (w := "refused") (v := .bl true) (tx_go _ (by decide +kernel)) True.intro
        refine ⟨_, rfl, _, rfl, [p], t, N, allK ps, tg3, rfl, B3.hN, allK_tx hw, ?_⟩
        rw [inT_isK]
        refine ⟨_, rfl, ?_⟩
        cases h1 : isK ps t with
        | false =>
          have hf : (isK ps t && isK ps r) = false := by rw [h1]; rfl
          refine iteF ?_
          refine ⟨_, rfl, _, rfl, _, rfl, [p], [p], kd, t, r, x, y, ps, rfl, B3.hK, hw, tg3.1, rg3.1, (fun h => by rw [hf] at h; cases h), fun _ q3 G4 k3 hq3 e3 => ?_⟩
          refine ⟨q3, _, rfl, tu_dp (v := .bl true) e3 True.intro, o1, o2, o3, o4, ?_⟩
          refine ⟨_, rfl, q, _, rfl, tu_dp (v := .bl true) (k3.at eq1 nin0) True.intro, o1, o2, o3, o4, rfl, _, rfl, iteNS rfl ?_⟩
          have kk3 : Keep [] G2 G4 := r1.trans k3
          exact ⟨_, _, _, _, _, _, rfl, B2.keep0 kk3, (hp2.keep kk3 nin0).le (by omega), kG2.trans (kk3.more fun b z => absurd z nin0)⟩
        | true =>
        refine iteT ?_
        refine ⟨_, rfl, _, rfl, [p], r, N, allK ps, rg3, rfl, B3.hN, allK_tx hw, ?_⟩
        rw [inT_isK]
        refine ⟨_, rfl, ?_⟩
        cases h2 : isK ps r with
        | false =>
          have hf : (isK ps t && isK ps r) = false := by rw [h1, h2]; rfl
          refine iteF ?_
          refine ⟨_, rfl, _, rfl, _, rfl, [p], [p], kd, t, r, x, y, ps, rfl, B3.hK, hw, tg3.1, rg3.1, (fun h => by rw [hf] at h; cases h), fun _ q3 G4 k3 hq3 e3 => ?_⟩
          refine ⟨q3, _, rfl, tu_dp (v := .bl true) e3 True.intro, o1, o2, o3, o4, ?_⟩
          refine ⟨_, rfl, q, _, rfl, tu_dp (v := .bl true) (k3.at eq1 nin0) True.intro, o1, o2, o3, o4, rfl, _, rfl, iteNS rfl ?_⟩
          have kk3 : Keep [] G2 G4 := r1.trans k3
          exact ⟨_, _, _, _, _, _, rfl, B2.keep0 kk3, (hp2.keep kk3 nin0).le (by omega), kG2.trans (kk3.more fun b z => absurd z nin0)⟩
        | true =>
        have hf : (isK ps t && isK ps r) = true := by rw [h1, h2]; rfl
        refine iteT ?_
        obtain ⟨a, rfl, ha⟩ := isK_str h1
        obtain ⟨b', rfl, hb'⟩ := isK_str h2
        have ex2 : x = .str a := by have := tg.1; simp only [ThAt] at this; exact this.1
        have ey2 : y = .str b' := by have := rg.1; simp only [ThAt] at this; exact this.1
        subst ex2 ey2
        refine ⟨_, rfl, _, rfl, _, rfl, l, a, b', ps, rfl, B3.hP, hw, by omega, ha, hb', fun G4 r2 => ?_⟩
        refine ⟨(by show 2 ≤ sizeLine; decide), fun q2 hq2 => ?_⟩
        have r3 : Keep [] G4 (upd G4 q2 (.tup [.str "told", .bl (under ps a b')])) := Keep.new hq2
        have eq2 : (upd G4 q2 (.tup [.str "told", .bl (under ps a b')])) q2 = some (.tup [.str "told", .bl (under ps a b')]) := upd_same
        generalize (upd G4 q2 (.tup [.str "told", .bl (under ps a b')])) = G5 at r3 eq2 ⊢
        have k35 : Keep [] G3 G5 := r2.trans r3
        obtain ⟨u1, u2, u3, u4⟩ := tu_ok (w := "told") (v := .bl (under ps a b')) (tx_go _ (by decide +kernel)) True.intro
        refine ⟨_, rfl, _, rfl, _, rfl, [p], [p], kd, _, _, _, _, ps, rfl, (B3.keep0 k35).hK, hw, (tg3.keep0 k35).1, (rg3.keep0 k35).1, fun _ q3 G6 k3 hq3 e3 => ?_, fun h => by rw [hf] at h; cases h⟩
        refine ⟨q3, _, rfl, tu_dp (v := .bl (under ps a b')) e3 True.intro, u1, u2, u3, u4, ?_⟩
        refine ⟨_, rfl, q2, _, rfl, tu_dp (v := .bl (under ps a b')) (k3.at eq2 nin0) True.intro, u1, u2, u3, u4, rfl, _, rfl, iteNS rfl ?_⟩
        have kk3 : Keep [] G2 G6 := (r1.trans k35).trans k3
        exact ⟨_, _, _, _, _, _, rfl, B2.keep0 kk3, (hp2.keep kk3 nin0).le (by omega), kG2.trans (kk3.more fun b z => absurd z nin0)⟩
      · rintro σ G ⟨v6, v7, v8, v9, v10, v11, rfl, B, hpG, kG⟩
        exact kk G kG (hpG.le (by omega))
end
end Fs
/-! The law. -/
namespace Fs
open PySem L2 TL
theorem Keep.lateX {H H1 H2 : Hp} {ex ex2 : List Addr} (k : Keep ex H H1) (k2 : Keep ex2 H1 H2) (hx : ∀ b ∈ ex2, b ∈ ex ∨ H b = none) : Keep ex H H2 := fun b o hb e => k2 b o (fun z => by
  rcases hx b z with q | q
  · exact hb q
  · rw [q] at e; cases e) (k b o hb e)
theorem Keep.was {ex : List Addr} {H G : Hp} {a : Addr} (k : Keep ex H G) (h : G a = none) : a ∈ ex ∨ H a = none := by
  cases q : H a with
  | none => exact .inr rfl
  | some o =>
    by_cases e : a ∈ ex
    · exact .inl e
    · have := k.at q e
      rw [this] at h; cases h
theorem seq_keep {K : PySem.W.Frag} {H H' : Hp} {a Pt : Addr} {xs : List V} {tb : Array Value} (h : SqL K H a xs) (k : Keep [Pt] H H') (hT : H Pt = some (.tbl tb)) : SqL K H' a xs := by
  rcases h with (h | ⟨o, h⟩) | h
  · exact .inl (.inl (k.at h (nin1 (ne_of h hT (fun z => by cases z)))))
  · exact .inl (.inr ⟨o, k.at h (nin1 (ne_of h hT (fun z => by cases z)))⟩)
  · exact .inr h
def pairD (q : Str × Str) : PyData := .tuple [.str q.1, .str q.2]
theorem dp_pairs {K : PySem.W.Frag} {H : Hp} : ∀ {as : List Addr} {ps : List (Str × Str)}, TupsAt H as ps → DpAll K H (as.map V.ref) (ps.map pairD)
  | [], [], _ => .nil
  | _ :: _, _ :: _, h => .cons (.tup (SqT.of h.1) (.cons (.str _) (.cons (.str _) .nil))) (dp_pairs h.2)
  | [], _ :: _, h => h.elim
  | _ :: _, [], h => h.elim
theorem pairs_lay {l : List (Str × Str)} (h : ∀ q ∈ l, IsTx q.1 ∧ IsTx q.2) : PyData.canLayAll0 (l.map pairD) = true ∧ PyData.depthAll (l.map pairD) ≤ 1 := by
  induction l with
  | nil => exact ⟨rfl, Nat.zero_le _⟩
  | cons q r ih =>
    obtain ⟨a, b⟩ := ih fun y hy => h y (List.mem_cons_of_mem _ hy)
    obtain ⟨t1, t2⟩ := h q List.mem_cons_self
    rw [List.map_cons]
    refine ⟨?_, ?_⟩
    · show (PyData.canLay0 (pairD q) && PyData.canLayAll0 _) = true
      rw [a, Bool.and_true]
      show (PyData.strOk q.1 && (PyData.strOk q.2 && true)) = true
      rw [txOk t1, txOk t2]; rfl
    · show max (PyData.depth (pairD q)) (PyData.depthAll _) ≤ 1
      have : PyData.depth (pairD q) = 1 := rfl
      omega
theorem Wf.both {ps : List (Str × Str)} (h : Wf ps) : ∀ q ∈ ps, IsTx q.1 ∧ IsTx q.2 := fun q hq =>
  ⟨allK_tx h _ (List.mem_cons_of_mem _ (List.mem_cons_of_mem _ (List.mem_map.mpr ⟨q, hq, rfl⟩))), allK_tx h _ (kept_all (h.pair_up q hq))⟩
theorem pairs_sh {ps : List (Str × Str)} (h : Wf ps) : SeqAt.shaped (.list (ps.map pairD)) = true ∧ PyData.eqv (.list (ps.map pairD)) (.list (ps.map pairD)) = true := by
  obtain ⟨a, b⟩ := pairs_lay h.both
  have c : PyData.canLay0 (.list (ps.map pairD)) = true := a
  refine ⟨?_, SeqAt.eqv_refl _ c⟩
  unfold SeqAt.shaped
  rw [c, Bool.true_and]
  refine decide_eq_true ?_
  show PyData.depthAll _ + 1 ≤ 64
  omega
theorem names_ok {ps : List (Str × Str)} (hw : Wf ps) (hl : ps.length ≤ 28) : (PyData.list ((allK ps).map PyData.str)).showable = true ∧ (PyData.list ((allK ps).map PyData.str)).hasDict = false ∧ (PyData.list ((allK ps).map PyData.str)).depth ≤ 60 ∧ (PyData.list ((allK ps).map PyData.str)).shown.length ≤ sizeLine := by
  obtain ⟨a, b, c⟩ := strs_ok (allK ps)
  refine ⟨a, b, ?_, Nat.le_trans (strs_shown (l := allK ps) (by show (sF :: sS :: ps.map Prod.fst).length ≤ 30; rw [List.length_cons, List.length_cons, List.length_map]; omega) (allK_tx hw)) (by decide)⟩
  show PyData.depthAll _ + 1 ≤ 60
  omega
theorem names_dp {K : PySem.W.Frag} {H : Hp} {a : Addr} {ps : List (Str × Str)} (h : H a = some (.lst ((allK ps).map V.str))) : Dp K H (.ref a) (.list ((allK ps).map PyData.str)) := .lst (SqL.of h) (dp_strs _)
/-- what stands through a turn -/
structure LB (C p l kd N Pt : Addr) (ps : List (Str × Str)) (m : Nat) (G : Hp) : Prop where
  hP : PairsAt G l ps
  hK : KindsAt C G kd ps
  hN : G N = some (.lst ((allK ps).map V.str))
  pot : PotAt G p m
  tab : GxR.TabG G Pt
  nl : l ≠ p
  nN : N ≠ p
theorem TabG.keep0 {H H' : Hp} {Pt : Addr} (h : GxR.TabG H Pt) (k : Keep [] H H') : GxR.TabG H' Pt := by
  obtain ⟨tb, e, o⟩ := h
  exact ⟨tb, k.at e nin0, o⟩
theorem TabG.keepL {H H' : Hp} {Pt p : Addr} (h : GxR.TabG H Pt) (k : Keep [p] H H') {xs : List V} (hp : H p = some (.lst xs)) : GxR.TabG H' Pt := by
  obtain ⟨tb, e, o⟩ := h
  exact ⟨tb, k.at e (nin1 (ne_of e hp (fun z => by cases z))), o⟩
theorem LB.keep0 {C p l kd N Pt : Addr} {ps : List (Str × Str)} {m : Nat} {G G' : Hp} (B : LB C p l kd N Pt ps m G) (k : Keep [] G G') : LB C p l kd N Pt ps m G' :=
  ⟨B.hP.keep k nin0 (fun b z => absurd z nin0), B.hK.keep0 k, k.at B.hN nin0, B.pot.keep k nin0, TabG.keep0 B.tab k, B.nl, B.nN⟩
theorem LB.keepP {C p l kd N Pt : Addr} {ps : List (Str × Str)} {m m' : Nat} {G G' : Hp} (B : LB C p l kd N Pt ps m G) (k : Keep [p] G G') (pot : PotAt G' p m') : LB C p l kd N Pt ps m' G' := by
  obtain ⟨xs, ep⟩ := B.pot.some
  exact ⟨B.hP.keep k (nin1 B.nl) (lst_ex ep), B.hK.keepL k ep, k.at B.hN (nin1 B.nN), pot, TabG.keepL B.tab k ep, B.nl, B.nN⟩
/-- another list changes -/
theorem LB.keepO {C p l kd N Pt b : Addr} {ps : List (Str × Str)} {m : Nat} {G G' : Hp} (B : LB C p l kd N Pt ps m G) (k : Keep [b] G G') {xs : List V} (hb : G b = some (.lst xs)) (n1 : l ≠ b) (n2 : N ≠ b) (n3 : p ≠ b) : LB C p l kd N Pt ps m G' :=
  ⟨B.hP.keep k (nin1 n1) (lst_ex hb), B.hK.keepL k hb, k.at B.hN (nin1 n2), B.pot.keep k (nin1 n3), TabG.keepL B.tab k hb, B.nl, B.nN⟩
theorem LB.keepT {C p l kd N Pt : Addr} {ps : List (Str × Str)} {m : Nat} {G G' : Hp} (B : LB C p l kd N Pt ps m G) (k : Keep [Pt] G G') (tab : GxR.TabG G' Pt) : LB C p l kd N Pt ps m G' := by
  obtain ⟨tb, et, ot⟩ := B.tab
  obtain ⟨xl, el⟩ := B.hP.some
  obtain ⟨xp, ep⟩ := B.pot.some
  exact ⟨B.hP.keep k (nin1 (ne_of el et (fun z => by cases z))) (fun b hb => by rw [List.mem_singleton.mp hb]; exact ⟨_, et, fun _ z => by cases z⟩), B.hK.keep k (tab_ex ⟨tb, et, ot⟩), k.at B.hN (nin1 (ne_of B.hN et (fun z => by cases z))), B.pot.keep k (nin1 (ne_of ep et (fun z => by cases z))), tab, B.nl, B.nN⟩
abbrev sLaw : Stmt := top 31 --def law
abbrev nLaw : List Str := ["_law_script", "_law_k", "_law_pot_here", "_law_pairs_here", "_law_handed", "_law_kinds", "_law_names", "_law_held", "_law_told", "_law_turn", "_law_name_here", "_law_above_here"]
theorem scLaw : FnScope nLaw ["_law_script"] (defScope sLaw) := ⟨rfl, rfl, rfl, by decide +kernel, rfl, by decide +kernel, by decide +kernel⟩
def spLaw (K : PySem.W.Frag) (Pt : Addr) : Sp := fun vs H Q _ => ∃ (a : Addr) (ns : List Int), vs = [.ref a] ∧ SqL K H a (ns.map V.int) ∧ ns.length ≤ 63 ∧ H Pt = some (.tbl #[]) ∧ ∀ H', Q (.bl true) H'
structure ATxt (K : PySem.W.Frag) (mg : Str → Option Value) (C fPo fPa fSp fMd fRi fI fNm : Addr) : Prop where
  gPo : mg "_law_pot" = some (.ref fPo)
  kPo : PySem.W.keepIn K (.ref fPo) = true
  gPa : mg "_law_pairs" = some (.ref fPa)
  kPa : PySem.W.keepIn K (.ref fPa) = true
  gSp : mg "_law_spoilt" = some (.ref fSp)
  kSp : PySem.W.keepIn K (.ref fSp) = true
  gMd : mg "_law_made" = some (.ref fMd)
  kMd : PySem.W.keepIn K (.ref fMd) = true
  gRi : mg "_law_right" = some (.ref fRi)
  kRi : PySem.W.keepIn K (.ref fRi) = true
  mkK : Mk K C fI
  gC : mg "Kinds" = some (.ref C)
  cl : Cls K C
  mN : Meth K C "names" fNm
  list : mg "list" = none
  repr : mg "repr" = none
  len : mg "len" = none
  max : mg "max" = none
  min : mg "min" = none
  range : mg "range" = none
theorem fnm (d : Addr) : ([(("_above" : Str), V.ref d)] : List (Str × V)).lookup ("names" : Str) = none := ab_no _ (by decide +kernel)
section
variable {P : Program} {w : World} {K : PySem.W.Frag} {mg : Str → Option Value} {base : Heap} {C fPo fPa fSp fMd fRi fI fNm Pt : Addr}
theorem law_body {dPo dPa dSp dMd dRi dI dNm : FuncData} {f : Addr} (T : ATxt K mg C fPo fPa fSp fMd fRi fI fNm) (FPo : FnOk P w K mg base CX0 1 fPo dPo ["_law_script", "_law_k"] (spPot K)) (bPo : Binds K dPo ["_law_script", "_law_k"] [])
    (FPa : FnOk P w K mg base CX0 4 fPa dPa ["_law_pot_here"] spPairs) (bPa : Binds K dPa ["_law_pot_here"] []) (FSp : FnOk P w K mg base CX0 4 fSp dSp ["_law_pot_here", "_law_pairs_here"] spSpo) (bSp : Binds K dSp ["_law_pot_here", "_law_pairs_here"] [])
    (FMd : FnOk P w K mg base CX0 6 fMd dMd ["_law_pairs_here"] (spMad Pt)) (bMd : Binds K dMd ["_law_pairs_here"] []) (FRi : FnG P w K mg base 6 fRi dRi aRgt (spRgt C)) (bRi : Binds K dRi aRgt [])
    (FI : FnOk P w K mg base CX0 4 fI dI ["self", "pairs"] (spKInit C Pt)) (bI : Binds K dI ["self", "pairs"] []) (FN : FnOk P w K mg base CX0 1 fNm dNm ["self"] (spNms C)) (bN : Binds K dNm ["self"] [])
    (cdv : Value) (A0 : Around) (outer : List Env) (s : Shared) (H : Hp) (vs : List V) (Q : VK) (Es : XK) (hg : A0.guards = some []) (hr : Room 6 (A0.deeper (PyProof.Rows.envOfC "law" (defScope sLaw) s.heap.objs.size f cdv))) (h : spLaw K Pt vs H Q Es) :
    ∃ t, PSs (cxOf CX0 P w K mg base nLaw "law" (defScope sLaw) f cdv A0 outer s H Es).nox (defBody sLaw) t ∧ t { nx := fun _ H' => Q .non H', rt := Q } (L2.start nLaw vs) H := by
  obtain ⟨a, ns0, rfl, hS, h63, hT, kk⟩ := h
  have hr1 : Room 1 _ := hr.mono (by decide)
  have hr4 : Room 4 _ := hr.mono (by decide)
  have hr5 : Room 5 _ := hr.mono (by decide)
  have hu := hr.units
  have hgX : (cxOf CX0 P w K mg base nLaw "law" (defScope sLaw) f cdv A0 outer s H Es).nox.A.guards = some [] := hg
  refine ⟨_, pss_cons (ps_for PassesOwn.never rfl (pi_range1 rfl T.range (pa_cons (pe_callB (call_max2 rfl) (by rfl) T.max (by decide +kernel) (pa_cons pe_int (pa_cons (pe_callB (call_min2 rfl) (by rfl) T.min (by decide +kernel) (pa_cons pe_int (pa_cons (pe_callB call_len_seq (by rfl) T.len PySem.boot_len (pa_cons (pv 0) pa_nil)) pa_nil))) pa_nil))) pa_nil)) (pg_name (i := 1) scLaw.nd rfl (Or.inl rfl))
      (pss_cons (ps_set (i := 2) scLaw.nd rfl (Or.inl rfl) (pe_call FPo hr1 rfl T.gPo T.kPo bPo .nil pass0 (pa_cons (pv 0) (pa_cons (pv 1) pa_nil))))
      (pss_cons (ps_set (i := 3) scLaw.nd rfl (Or.inl rfl) (pe_call FPa hr4 rfl T.gPa T.kPa bPa .nil pass0 (pa_cons (pv 2) pa_nil)))
      (pss_cons (ps_set (i := 4) scLaw.nd rfl (Or.inl rfl) (pe_callTy call_list_of (by rfl) T.list (by decide +kernel) (pa_cons (pv 3) pa_nil)))
      (pss_cons (ps_set (i := 5) scLaw.nd rfl (Or.inl rfl) (pe_make T.mkK FI hr5 rfl T.gC bI .nil pass0 (pa_cons (pv 4) pa_nil)))
      (pss_cons (ps_set (i := 6) scLaw.nd rfl (Or.inl rfl) (pe_op op_cat (pe_lst (pa_cons pe_str (pa_cons pe_str pa_nil))) (pe_lc (own := [("_law_name_here", 10), ("_law_above_here", 11)]) (g := gTup K 2 (gCons (gName 10) (gCons (gName 11) gNil))) (tt := tYes) rfl scLaw.nd (pi_list (pv 3))
          (blkOk_by (N := nLaw) (sc := defScope sLaw) (by decide +kernel)) (fun _ _ _ _ _ => by exact (pg_tup rfl (pgs_cons (pg_name (i := 10) scLaw.nd rfl (Or.inl rfl)) (pgs_cons (pg_name (i := 11) scLaw.nd rfl (Or.inl rfl)) pgs_nil)))) (fun _ _ _ _ _ => pts_nil) (fun _ _ _ _ _ => pv 10))))
      (pss_cons (ps_set (i := 7) scLaw.nd rfl (Or.inl rfl) (pe_meth0 (pv 5) T.cl T.mN FN hr1 bN .nil pass0))
      (pss_cons (ps_set (i := 8) scLaw.nd rfl (Or.inl rfl) (pe_meth0 (pv 5) T.cl T.mN FN hr1 bN .nil pass0))
      (pss_cons (ps_if (PW.pt (pw_or (pt_cmpR (op_neD hu) (pv 4) (pv 3) (nomark _)) (pw_or1 (pt_cmpR op_ne (pe_callB (call_reprD hgX hu) (by rfl) T.repr (by decide +kernel) (pa_cons (pv 8) pa_nil)) (pe_callB (call_reprD hgX hu) (by rfl) T.repr (by decide +kernel) (pa_cons (pv 6) pa_nil)) (nomark _))))) (pss_one (ps_ret pe_bl)) pss_nil)
      (pss_cons (ps_expr (pe_bm0 PySem.F.plainAttrs_list PySem.F.slot_list_clear PySem.F.type_list_clear mt_clear (pv 4)))
      (pss_cons (ps_expr (pe_bm PySem.F.plainAttrs_list PySem.F.slot_list_append PySem.F.type_list_append mt_append (pv 8) (pa_cons pe_str pa_nil)))
      (pss_cons (ps_if (PW.pt (pw_or (pt_cmpR op_ne (pe_callB (call_reprD hgX hu) (by rfl) T.repr (by decide +kernel) (pa_cons (pv 7) pa_nil)) (pe_callB (call_reprD hgX hu) (by rfl) T.repr (by decide +kernel) (pa_cons (pv 6) pa_nil)) (nomark _))
          (pw_or (pt_cmpR op_ne (pe_callB (call_reprD hgX hu) (by rfl) T.repr (by decide +kernel) (pa_cons (pe_meth0 (pv 5) T.cl T.mN FN hr1 bN .nil pass0) pa_nil)) (pe_callB (call_reprD hgX hu) (by rfl) T.repr (by decide +kernel) (pa_cons (pv 6) pa_nil)) (nomark _))
          (pw_or1 (pt_not (pt_val (pe_callG FRi hgX hr rfl T.gRi T.kRi bRi (pa_cons (pv 2) (pa_cons (pv 3) (pa_cons (pv 5) (pa_cons (pv 6) pa_nil))))))))))) (pss_one (ps_ret pe_bl)) pss_nil)
      (pss_cons (ps_for PassesOwn.never rfl (pi_range1 rfl T.range (pa_cons pe_int pa_nil)) (pg_name (i := 9) scLaw.nd rfl (Or.inl rfl))
        (pss_one (ps_if (pt_cmpR op_isnot_bl (pe_call FMd hr rfl T.gMd T.kMd bMd .nil pass0 (pa_cons (pe_call FSp hr4 rfl T.gSp T.kSp bSp .nil pass0 (pa_cons (pv 2) (pa_cons (pv 3) pa_nil))) pa_nil)) pe_bl (nomark _)) (pss_one (ps_ret pe_bl)) pss_nil)))
      (pss_one (ps_if (pt_cmpR op_ne (pe_call FMd hr rfl T.gMd T.kMd bMd .nil pass0 (pa_cons (pe_callTy call_list_of (by rfl) T.list (by decide +kernel) (pa_cons (pv 3) pa_nil)) pa_nil)) pe_str (nomark _)) (pss_one (ps_ret pe_bl)) pss_nil)))))))))))))))
    (pss_one (ps_ret pe_bl)), ?_⟩
  refine ⟨_, rfl, a, _, rfl, .inl hS, _, _, rfl, _, _, rfl, ?_⟩
  rw [List.length_map]
  obtain ⟨M, hM, hM5⟩ : ∃ M : Nat, (if (if (ns0.length : Int) < 6 then (ns0.length : Int) else 6) > 1 then (if (ns0.length : Int) < 6 then (ns0.length : Int) else 6) else 1) = (M : Int) ∧ M ≤ 6 := by
    refine ⟨(if (if (ns0.length : Int) < 6 then (ns0.length : Int) else 6) > 1 then (if (ns0.length : Int) < 6 then (ns0.length : Int) else 6) else 1).toNat, ?_, ?_⟩
    · split <;> split <;> omega
    · split <;> split <;> omega
  rw [hM]
  refine ⟨_, rfl, by omega, by omega, ?_⟩
  rw [Int.toNat_natCast]
  refine for_range (lo := 0) (n := M) (fun i σ G => ∃ v1 v2 v3 v4 v5 v6 v7 v8 v9 v10 v11 : Option V, σ = [some (.ref a), v1, v2, v3, v4, v5, v6, v7, v8, v9, v10, v11] ∧ Keep [Pt] H G ∧ GxR.TabG G Pt)
    ⟨none, none, none, none, none, none, none, none, none, none, none, rfl, Keep.refl _ _, ⟨#[], hT, True.intro⟩⟩ ?_ ?_
  · rintro i σ G hi ⟨v1, v2, v3, v4, v5, v6, v7, v8, v9, v10, v11, rfl, kG, tab⟩
    have z0 : (0 : Int) + (i : Int) = (i : Int) := Int.zero_add _
    refine ⟨_, rfl, _, rfl, a, ns0, i, by rw [z0]; rfl, seq_keep hS kG hT, by omega, fun p G1 hp0 k1 pot1 => ?_⟩
    have wp := kG.was hp0
    refine ⟨_, rfl, p, 0, rfl, pot1, by decide, fun l ps G2 hl0 hw hlen hP2 k2 pot2 => ?_⟩
    have kG1 : Keep [Pt] H G1 := kG.trans (k1.more fun b z => absurd z nin0)
    have wl := kG1.was hl0
    have nlp : l ≠ p := fun z => by obtain ⟨x, e⟩ := pot1.some; rw [z, e] at hl0; cases hl0
    have kG2 : Keep [Pt] H G2 := kG1.lateX k2 fun b hb => by rw [List.mem_singleton.mp hb]; exact wp
    have tab1 : GxR.TabG G1 Pt := TabG.keep0 tab k1
    obtain ⟨x1, ep1⟩ := pot1.some
    have tab2 : GxR.TabG G2 Pt := TabG.keepL tab1 k2 ep1
    obtain ⟨as, el, tl⟩ := id hP2
    -- the list handed in
    refine ⟨_, rfl, l, _, rfl, .inl (SqL.of el), fun h hh => ?_⟩
    have k3 : Keep [] G2 (upd G2 h (.lst (as.map V.ref))) := Keep.new hh
    have e3 : (upd G2 h (.lst (as.map V.ref))) h = some (.lst (as.map V.ref)) := upd_same
    generalize (upd G2 h (.lst (as.map V.ref))) = G3 at k3 e3 ⊢
    have kG3 := kG2.trans (k3.more (ex' := [Pt]) fun b z => absurd z nin0)
    have wh := kG2.was hh
    refine ⟨_, rfl, fun kd dx hkd hdx ndx => ?_⟩
    have k4 : Keep [] G3 (upd (upd G3 dx (.own kd)) kd (.ins C dx [])) := (Keep.new hdx).newTo (by first | (rw [upd_ne ndx]; exact hkd) | (rw [upd_ne ndx.symm]; exact hkd))
    have e4 : (upd (upd G3 dx (.own kd)) kd (.ins C dx [])) kd = some (.ins C dx []) := upd_same
    generalize (upd (upd G3 dx (.own kd)) kd (.ins C dx [])) = G4 at k4 e4 ⊢
    have wkd := kG3.was hkd
    have kG4 := kG3.trans (k4.more (ex' := [Pt]) fun b z => absurd z nin0)
    have k24 : Keep [] G2 G4 := k3.trans k4
    have tab4 := TabG.keep0 tab2 k24
    refine ⟨kd, h, dx, ps, rfl, e4, ⟨as, k4.at e3 nin0, tl.map fun b xs e => k24.at e nin0⟩, hw, by omega, tab4, fun G5 k5 hK5 tab5 => ⟨rfl, ?_⟩⟩
    have kG5 : Keep [Pt] H G5 := kG4.lateX k5 fun b hb => by
      rcases List.mem_cons.mp hb with z | z
      · rw [z]; exact wkd
      · exact .inl z
    obtain ⟨x2, ep2⟩ := pot2.some
    obtain ⟨tb4, et4, _⟩ := id tab4
    have isnt : ∀ {b : Addr} {o : HO}, G4 b = some o → (∀ C dx fs, o ≠ .ins C dx fs) → (∀ tb, o ≠ .tbl tb) → b ∉ [kd, Pt] := fun {b o} e n1 n2 z => by
      rcases List.mem_cons.mp z with z | z
      · rw [z, e4] at e; exact n1 _ _ _ (Option.some.inj e).symm
      · rw [List.mem_singleton.mp z, et4] at e; exact n2 _ (Option.some.inj e).symm
    have el4 := k24.at el nin0
    have nlk : l ∉ [kd, Pt] := isnt el4 (fun _ _ _ z => by cases z) (fun _ z => by cases z)
    have hP5 : PairsAt G5 l ps := ⟨as, k5.at el4 nlk, tl.map fun b xs e => by
      have e' := k24.at e nin0
      exact k5.at e' (isnt e' (fun _ _ _ z => by cases z) (fun _ z => by cases z))⟩
    have ep4 := k24.at ep2 nin0
    have pot5 : PotAt G5 p (0 + 400) := (pot2.keep k24 nin0).keep k5 (isnt ep4 (fun _ _ _ z => by cases z) (fun _ z => by cases z))
    have eh5 : G5 h = some (.lst (as.map V.ref)) := k5.at (k4.at e3 nin0) (isnt (k4.at e3 nin0) (fun _ _ _ z => by cases z) (fun _ z => by cases z))
    have nhp : p ≠ h := fun z => by rw [z] at ep2; rw [ep2] at hh; cases hh
    have nhl : l ≠ h := fun z => by rw [z] at el; rw [el] at hh; cases hh
    -- the names
    refine ⟨(by show 2 ≤ sizeLine; decide), fun a1 ha1 => ?_⟩
    have hq1 : PairsAt (upd G5 a1 (.lst [.str sF, .str sS])) l ps := hP5.keep (ex := []) (Keep.new ha1) nin0 (fun _ z => absurd z nin0)
    obtain ⟨xs1, el1⟩ := hq1.some
    refine ⟨_, rfl, l, rfl, ⟨_, SqL.of el1⟩, fun D hD => ?_⟩
    refine names_run (K := K) (i := 10) (j := 11) hq1 hD (by omega) (fun _ _ => rfl) (fun _ _ => rfl) fun Ga ea ka => ?_
    have ea1 : Ga a1 = some (.lst [.str sF, .str sS]) := ka.at upd_same nin0
    refine ⟨a1, D, _, _, rfl, rfl, ea1, ea, ?_, fun N hN => ?_⟩
    · show ([V.str sF, V.str sS] : List V).length + _ ≤ sizeLine
      rw [List.length_map, List.length_map]
      exact Nat.le_trans (by show 2 + ps.length ≤ 1000; omega) (by decide)
    have k6 : Keep [] G5 (upd Ga N (.lst ([V.str sF, V.str sS] ++ (ps.map Prod.fst).map V.str))) := ((Keep.new ha1).trans ka).newTo hN
    have e6 : (upd Ga N (.lst ([V.str sF, V.str sS] ++ (ps.map Prod.fst).map V.str))) N = some (.lst ((allK ps).map V.str)) := by rw [upd_same]; rfl
    have hN5 : G5 N = none := Keep.free ((Keep.new ha1).trans ka) hN nin0
    generalize (upd Ga N (.lst ([V.str sF, V.str sS] ++ (ps.map Prod.fst).map V.str))) = G6 at k6 e6 ⊢
    obtain ⟨x5, ep5⟩ := pot5.some
    have nNp : N ≠ p := fun z => by rw [z, ep5] at hN5; cases hN5
    have nNh : N ≠ h := fun z => by rw [z, eh5] at hN5; cases hN5
    have B6 : LB C p l kd N Pt ps (0 + 400) G6 := ⟨hP5.keep (ex := []) k6 nin0 (fun _ z => absurd z nin0), hK5.keep0 k6, e6, pot5.keep k6 nin0, TabG.keep0 tab5 k6, nlp, nNp⟩
    have eh6 := k6.at eh5 nin0
    have kG6 := kG5.trans (k6.more (ex' := [Pt]) fun b z => absurd z nin0)
    -- names, told twice
    obtain ⟨dk, dd, g1, g2⟩ := id B6.hK
    refine ⟨_, rfl, kd, dk, _, rfl, g1, fnm dd, kd, ps, rfl, B6.hK, fun u1 hu1 => ?_⟩
    have k7 : Keep [] G6 (upd G6 u1 (.lst ((allK ps).map V.str))) := Keep.new hu1
    have e7 : (upd G6 u1 (.lst ((allK ps).map V.str))) u1 = some (.lst ((allK ps).map V.str)) := upd_same
    generalize (upd G6 u1 (.lst ((allK ps).map V.str))) = G7 at k7 e7 ⊢
    have B7 := B6.keep0 k7
    refine ⟨_, rfl, kd, dk, _, rfl, k7.at g1 nin0, fnm dd, kd, ps, rfl, B7.hK, fun u2 hu2 => ?_⟩
    have k8 : Keep [] G7 (upd G7 u2 (.lst ((allK ps).map V.str))) := Keep.new hu2
    have e8 : (upd G7 u2 (.lst ((allK ps).map V.str))) u2 = some (.lst ((allK ps).map V.str)) := upd_same
    generalize (upd G7 u2 (.lst ((allK ps).map V.str))) = G8 at k8 e8 ⊢
    have B8 := B7.keep0 k8
    have k68 := k7.trans k8
    have eh8 := k68.at eh6 nin0
    have kG7 := kG6.trans (k7.more (ex' := [Pt]) fun b z => absurd z nin0)
    have kG8 := kG7.trans (k8.more (ex' := [Pt]) fun b z => absurd z nin0)
    have wu2 := kG7.was hu2
    obtain ⟨s1, s2⟩ := pairs_sh hw
    obtain ⟨o1, o2, o3, o4⟩ := names_ok hw hlen
    obtain ⟨as8, el8, tl8⟩ := id B8.hP
    have eas : as8 = as := by
      have e1 : G8 l = some (.lst (as.map V.ref)) := k68.at (k6.at (k5.at el4 nlk) nin0) nin0
      rw [e1] at el8
      have := HO.lst.inj (Option.some.inj el8)
      exact ((List.map_inj_right fun x y e => V.ref.inj e).mp this).symm
    subst eas
    refine ⟨_, rfl, _, rfl, .list (ps.map pairD), .list (ps.map pairD), .lst (SqL.of eh8) (dp_pairs tl8), .lst (SqL.of el8) (dp_pairs tl8), s1, s1, _, rfl, ?_⟩
    rw [s2]
    refine iteF ?_
    refine ⟨_, rfl, u2, _, rfl, names_dp e8, o1, o2, o3, o4, ?_⟩
    refine ⟨_, rfl, N, _, rfl, names_dp B8.hN, o1, o2, o3, o4, rfl, _, rfl, iteNS rfl ?_⟩
    -- cleared, appended
    refine ⟨_, rfl, .inl ⟨rfl, _, SqL.of eh8⟩, h, _, rfl, rfl, eh8, ?_⟩
    have k9 : Keep [h] G8 (upd G8 h (.lst [])) := Keep.own in1
    have B9 := B8.keepO k9 eh8 nhl nNh nhp
    have n2h : u2 ≠ h := fun z => by rw [z] at hu2; rw [k7.at eh6 nin0] at hu2; cases hu2
    have n1h : u1 ≠ h := fun z => by rw [z] at hu1; rw [eh6] at hu1; cases hu1
    have e92 := k9.at e8 (nin1 n2h)
    have e91 := k9.at (k8.at e7 nin0) (nin1 n1h)
    have kG9 : Keep [Pt] H (upd G8 h (.lst [])) := kG8.lateX k9 fun b hb => by rw [List.mem_singleton.mp hb]; exact wh
    generalize (upd G8 h (.lst [])) = G9 at k9 B9 e92 e91 kG9 ⊢
    refine ⟨_, rfl, .inl ⟨rfl, _, SqL.of e92⟩, u2, _, _, rfl, rfl, e92, ?_, ?_⟩
    · rw [List.length_map]
      exact Nat.lt_of_le_of_lt (by show (sF :: sS :: ps.map Prod.fst).length ≤ 100; rw [List.length_cons, List.length_cons, List.length_map]; omega) (by decide)
    have k10 : Keep [u2] G9 (upd G9 u2 (.lst ((allK ps).map V.str ++ [.str "zz"]))) := Keep.own in1
    have n2l : l ≠ u2 := fun z => by
      obtain ⟨xl, e⟩ := B7.hP.some
      rw [← z, e] at hu2; cases hu2
    have n2N : N ≠ u2 := fun z => by rw [← z, B7.hN] at hu2; cases hu2
    have n2p : p ≠ u2 := fun z => by obtain ⟨x, e⟩ := B7.pot.some; rw [← z, e] at hu2; cases hu2
    have n21 : u1 ≠ u2 := fun z => by rw [← z, e7] at hu2; cases hu2
    have B10 := B9.keepO k10 e92 n2l n2N n2p
    have e10 := k10.at e91 (nin1 n21)
    have kG10 : Keep [Pt] H (upd G9 u2 (.lst ((allK ps).map V.str ++ [.str "zz"]))) := kG9.lateX k10 fun b hb => by rw [List.mem_singleton.mp hb]; exact wu2
    generalize (upd G9 u2 (.lst ((allK ps).map V.str ++ [.str "zz"]))) = G10 at k10 B10 e10 kG10 ⊢
    -- what is held, what is told now
    refine ⟨_, rfl, u1, _, rfl, names_dp e10, o1, o2, o3, o4, ?_⟩
    refine ⟨_, rfl, N, _, rfl, names_dp B10.hN, o1, o2, o3, o4, rfl, _, rfl, iteNS rfl ?_⟩
    obtain ⟨dk2, dd2, g12, g22⟩ := id B10.hK
    refine ⟨_, rfl, kd, dk2, _, rfl, g12, fnm dd2, kd, ps, rfl, B10.hK, fun u3 hu3 => ?_⟩
    have k11 : Keep [] G10 (upd G10 u3 (.lst ((allK ps).map V.str))) := Keep.new hu3
    have e11 : (upd G10 u3 (.lst ((allK ps).map V.str))) u3 = some (.lst ((allK ps).map V.str)) := upd_same
    generalize (upd G10 u3 (.lst ((allK ps).map V.str))) = G11 at k11 e11 ⊢
    have B11 := B10.keep0 k11
    have kG11 := kG10.trans (k11.more (ex' := [Pt]) fun b z => absurd z nin0)
    refine ⟨u3, _, rfl, names_dp e11, o1, o2, o3, o4, ?_⟩
    refine ⟨_, rfl, N, _, rfl, names_dp B11.hN, o1, o2, o3, o4, rfl, _, rfl, iteNS rfl ?_⟩
    refine ⟨_, rfl, _, rfl, _, rfl, _, rfl, p, l, kd, N, 0 + 400, ps, rfl, B11.pot, by decide, B11.hP, hw, hlen, B11.hK, B11.hN, nlp, nNp, fun G12 k12 pot12 => ?_⟩
    have B12 := B11.keepP k12 pot12
    have kG12 : Keep [Pt] H G12 := kG11.lateX k12 fun b hb => by rw [List.mem_singleton.mp hb]; exact wp
    refine ⟨true, rfl, iteF ?_⟩
    -- spoilt four times
    refine ⟨4, rfl, by decide, by decide, ?_⟩
    refine for_range (lo := 0) (n := 4) (fun j σ G => ∃ v9 v10 v11 : Option V, σ = [some (.ref a), some (.int ((0 : Int) + (i : Int))), some (.ref p), some (.ref l), some (.ref h), some (.ref kd), some (.ref N), some (.ref u1), some (.ref u2), v9, v10, v11] ∧ LB C p l kd N Pt ps (440 + 20 * j) G ∧ Keep [Pt] H G)
      ⟨_, _, _, rfl, B12, kG12⟩ ?_ ?_
    · rintro j σ G hj ⟨v9, v10, v11, rfl, B, kG⟩
      refine ⟨_, rfl, _, rfl, p, l, 440 + 20 * j, ps, rfl, B.pot, by omega, B.hP, hw, hlen, nlp, fun m k Ga sp ka pota => ?_⟩
      have Ba := B.keepP ka pota
      have kGa : Keep [Pt] H Ga := kG.lateX ka fun b hb => by rw [List.mem_singleton.mp hb]; exact wp
      obtain ⟨as9, a9, v, u, t, r, q1, q2, q3, q4, q5, q6, q7, q8⟩ := sp
      have lk : (ps.take k).length = k := by rw [List.length_take]; omega
      refine ⟨m, rfl, Ba.tab, .inr ⟨as9, ps.take k, a9, v, u, t, r, [], [], q1, by rw [lk]; exact q3, by rw [lk]; exact q4, q5, q6, q7, (fun b hb => absurd hb nin0), (fun b hb => absurd hb nin0), hw.take k, by rw [lk]; omega, q8, fun Gb kb tabb => ?_⟩⟩
      refine ⟨true, true, rfl, rfl, _, rfl, iteNS rfl ?_⟩
      exact ⟨_, _, _, rfl, Ba.keepT kb tabb, kGa.trans kb⟩
    · rintro σ G ⟨v9, v10, v11, rfl, B, kG⟩
      obtain ⟨as9, el9, tl9⟩ := id B.hP
      refine ⟨_, rfl, l, _, rfl, .inl (SqL.of el9), fun m hm => ?_⟩
      have ka : Keep [] G (upd G m (.lst (as9.map V.ref))) := Keep.new hm
      have ea9 : (upd G m (.lst (as9.map V.ref))) m = some (.lst (as9.map V.ref)) := upd_same
      generalize (upd G m (.lst (as9.map V.ref))) = Ga at ka ea9 ⊢
      have Ba := B.keep0 ka
      refine ⟨m, rfl, Ba.tab, .inl ⟨ps, ⟨as9, ea9, tl9.map fun b xs e => ka.at e nin0⟩, hw, by omega, fun Gb kb tabb => ?_⟩⟩
      refine ⟨rfl, _, rfl, iteNS rfl ?_⟩
      exact ⟨_, _, _, _, _, _, _, _, _, _, _, rfl, (kG.trans (ka.more (ex' := [Pt]) fun b z => absurd z nin0)).trans kb, tabb⟩
  · rintro σ G ⟨v1, v2, v3, v4, v5, v6, v7, v8, v9, v10, v11, rfl, kG, tab⟩
    exact kk G
end
end Fs
/-! The law's call at the one place where it is made: what is being shown there is known (nothing), which a def's promise for every place doesn't say. -/
namespace Fs
open PySem L2 TL
section
variable {P : Program} {w : World} {K : PySem.W.Frag} {mg : Str → Option Value} {base : Heap}
theorem here_run {k : Nat} {f : Addr} {st : Stmt} {x q : Str} {N : List Str} {dV kV doc pm cdv ct oc : Value} {an od : Option Addr} {osl : Array (Option Value)} {A : Around} {s : Shared} {H : Hp} {u : Value} {v : V} {Q : VK}
    (lk : K.lookup f = some ⟨oc, od, .func (PySem.W.fnOf x q (defArgs st) (defBody st) (defScope st) dV kV doc pm an cdv ct), osl⟩) (hcd : PySem.W.codeIn K cdv q = true) {y : Str} (S : FnScope N [y] (defScope st)) (room : Room (k + 1) A) (e0 : Env0 P w K mg base A [] s H) (rv : RelV v u)
    (bd : BindsTo s (PySem.W.fnOf x q (defArgs st) (defBody st) (defScope st) dV kV doc pm an cdv ct) ⟨[u], []⟩ [(y, u)])
    (body : Room k (A.deeper (PyProof.Rows.envOfC q (defScope st) s.heap.objs.size f cdv)) → ∃ t, PSs (cxOf CX0 P w K mg base N q (defScope st) f cdv A [] s H E0) (defBody st) t ∧ t { nx := fun _ H' => Q .non H', rt := Q } (L2.start N [v]) H) :
    codeAny (model P w) A (.call (.ref f) ⟨[u], []⟩) (fun r s' => ∃ (v' : V) (u' : Value) (H' : Hp), r = .ok (.ret u') ∧ s'.os = s.os ∧ PyProof.Rows.AllBare s'.gens ∧ Un [] [] H H' s.heap s'.heap ∧ HOk P w H' s'.heap ∧ RelV v' u' ∧ Q v' H') s := by
  have now : K.In s.heap := e0.mod.kin.keeps fun b o e => (e0.bs b o e).1
  have par := S.par y List.mem_cons_self
  have one : Vals [v] [u] := .cons rv .nil
  refine codeAny_call_function room.depth (now f _ lk) rfl S.co S.gen rfl (PySem.W.codeRec_of now hcd) (bd _ _ _ _ (wpAny_newFunctionEnv_cells S.kind (fun z hz => ?_) fun env he s1 entered => ?_))
  · rw [List.mem_singleton.mp hz]
    exact par.imp id fun c => ⟨c, PySem.W.cellsFrom_some _ _ _ (.inl c)⟩
  · cases he
    have free : s1.heap.NoLimit := (e0.mod.nolimit.keeps fun b o e => (e0.bs b o e).1).keeps entered.toInCall.keep
    obtain ⟨t, ht, hq⟩ := body (room.deeper _)
    have at1 := inv_start (CX := CX0) (E := E0) (ps := [y]) (us := [u]) (vs := [v]) S room.hd e0 rfl one entered
    refine ⟨free, codeAny_func (wpAny_mono (ht.run [] s1 _ H _ at1 hq) (fun fl s' end_ => ?_) fun e s' bad => ?_)⟩
    · cases fl with
      | ret u' =>
        obtain ⟨v', _, H', J, rv', q'⟩ := end_
        exact ⟨v', u', H', rfl, J.os, J.bare, J.base, J.hok, rv', q'⟩
      | next =>
        obtain ⟨_, H', J, q'⟩ := end_
        exact ⟨.non, .none, H', rfl, J.os, J.bare, J.base, J.hok, rfl, q'⟩
      | brk => obtain ⟨_, _, _, no⟩ := end_; exact no.elim
      | cont => obtain ⟨_, _, _, no⟩ := end_; exact no.elim
    · refine wpAny_mono bad (fun _ _ no => no.elim) fun _ _ no => no.elim
/-- what is tracked as the law begins: the table, and the script (where the written part doesn't have it) -/
def First (a Pt : Addr) (sc : Option HO) : Hp := fun b => if b = Pt then some (.tbl #[]) else if b = a then sc else none
theorem first_tab {a Pt : Addr} {sc : Option HO} : First a Pt sc Pt = some (.tbl #[]) := if_pos rfl
theorem first_scr {a Pt : Addr} {sc : Option HO} (n : a ≠ Pt) : First a Pt sc a = sc := by
  unfold First
  rw [if_neg n, if_pos rfl]
theorem first_other {a Pt b : Addr} {sc : Option HO} (n : b ≠ Pt) (m : b ≠ a) : First a Pt sc b = none := by
  unfold First
  rw [if_neg n, if_neg m]
theorem first_some {a Pt b : Addr} {sc : Option HO} {u : HO} (e : First a Pt sc b = some u) : (b = Pt ∧ u = .tbl #[]) ∨ (b = a ∧ sc = some u) := by
  by_cases h : b = Pt
  · rw [h, first_tab] at e
    exact .inl ⟨h, (Option.some.inj e).symm⟩
  · by_cases h2 : b = a
    · rw [h2] at e h
      rw [first_scr h] at e
      exact .inr ⟨h2, e⟩
    · rw [first_other h h2] at e
      cases e
/-- the law at its caller -/
theorem law_here {k : Nat} {fa a c Pt : Addr} {dV kV doc pm cdv ct oc : Value} {an od : Option Addr} {osl : Array (Option Value)} {s₁ : Shared} {mb : Str → Option Value} {vs : List Value} {ns : List Int}
    (lk : K.lookup fa = some ⟨oc, od, .func (PySem.W.fnOf "law" "law" (defArgs sLaw) (defBody sLaw) (defScope sLaw) dV kV doc pm an cdv ct), osl⟩) (hcd : PySem.W.codeIn K cdv "law" = true) (room : Room (k + 1) callerA)
    (bd : ∀ (s : Shared) (u : Value), BindsTo s (PySem.W.fnOf "law" "law" (defArgs sLaw) (defBody sLaw) (defScope sLaw) dV kV doc pm an cdv ct) ⟨[u], []⟩ [("_law_script", u)])
    (inK : K.In s₁.heap) (gl : s₁.heap.Ns mainGlobals mg) (bl : s₁.heap.Ns builtinsNs mb) (bb : ∀ x : Str, x ≠ "__name__" → mb x = bootBuiltins x) (lim : s₁.heap.NoLimit) (gen0 : s₁.gens = #[])
    (hT : s₁.heap.get? Pt = some { cls := .none, data := .fields #[] }) (nT : K.lookup Pt = none) (hh : PySem.W.codeHdIn K c Pt = true)
    (bm : ∃ (m : Addr) (ob : Obj), mg "__builtins__" = some (.ref m) ∧ m ≠ builtinsNs ∧ s₁.heap.get? m = some ob ∧ ob.cls = .type "module" ∧ ob.dict = some builtinsNs ∧ ob.data = .plain)
    (ha : s₁.heap.get? a = some { cls := .type "list", data := .seq vs.toArray }) (hi : PyProof.Rows.IntsAre vs ns) (h63 : ns.length ≤ 63)
    (body : ∀ (base : Heap), K.In base → GxR.TabB base mg c Pt → ∀ (A0 : Around) (outer : List Env) (s : Shared) (H : Hp) (vs : List V) (Q : VK) (Es : XK), A0.guards = some [] → Room k (A0.deeper (PyProof.Rows.envOfC "law" (defScope sLaw) s.heap.objs.size fa cdv)) → spLaw K Pt vs H Q Es →
      ∃ t, PSs (cxOf CX0 P w K mg base nLaw "law" (defScope sLaw) fa cdv A0 outer s H Es).nox (defBody sLaw) t ∧ t { nx := fun _ H' => Q .non H', rt := Q } (L2.start nLaw vs) H) :
    codeAny (model P w) callerA (.call (.ref fa) ⟨[.ref a], []⟩) (fun r s' => r = .ok (.ret (.bool true)) ∧ OldK s₁.heap s'.heap ∧ s'.os = s₁.os ∧ PyProof.Rows.AllBare s'.gens) s₁ := by
  have aT : a ≠ Pt := fun z => by
    rw [z, hT] at ha
    have := congrArg Obj.data (Option.some.inj ha)
    cases this
  have nlen := hi.length
  -- the script: known to the written part, or tracked
  obtain ⟨sc, hsc, hscK, hseq⟩ : ∃ sc : Option HO, (∀ u, sc = some u → ObjOk P w (First a Pt sc) s₁.heap a u ∧ ∃ o xs, u = .frz o (.lst xs)) ∧ (sc ≠ none → K.lookup a = none) ∧ SqL K (First a Pt sc) a (ns.map V.int) := by
    cases hk : K.lookup a with
    | none =>
      refine ⟨some (.frz { cls := .type "list", data := .seq vs.toArray } (.lst (ns.map V.int))), fun u e => ?_, fun _ => rfl, .inl (.inr ⟨_, first_scr aT⟩)⟩
      cases e
      refine ⟨⟨ha, ?_, vs, _, vals_ints hi, ha⟩, _, _, rfl⟩
      rw [List.length_map]
      exact Nat.le_trans h63 (by decide)
    | some o =>
      refine ⟨none, fun u e => (nomatch e), fun n => (n rfl).elim, .inr ⟨o, vs.toArray, 0, hk, ?_⟩⟩
      have q := inK a o hk
      rw [ha] at q
      cases q
      refine ⟨rfl, rfl, rfl, ?_, by simpa using vals_ints hi⟩
      rw [List.size_toArray, nlen]
      exact Nat.le_trans h63 (by decide)
  generalize hHd : First a Pt sc = H at hsc hseq
  have hTab : H Pt = some (.tbl #[]) := by rw [← hHd]; exact first_tab
  have known : ∀ b u, H b = some u → (b = Pt ∧ u = .tbl #[]) ∨ (b = a ∧ sc = some u) := fun b u e => first_some (by rw [hHd]; exact e)
  have hok : HOk P w H s₁.heap := fun b u e => by
    rcases known b u e with ⟨rfl, rfl⟩ | ⟨rfl, q⟩
    · exact hT
    · exact (hsc u q).1
  -- nothing else is tracked
  have clear : ∀ {b : Addr} {o : Obj}, s₁.heap.get? b = some o → (∀ l n, o.data ≠ .seq l n) → o.data ≠ .fields #[] → H b = none := fun {b o} e n1 n2 => by
    cases q : H b with
    | none => rfl
    | some u =>
      rcases known b u q with ⟨rfl, _⟩ | ⟨rfl, _⟩
      · rw [hT] at e
        cases e
        exact (n2 rfl).elim
      · rw [ha] at e
        cases e
        exact (n1 _ _ rfl).elim
  have nsB : ∀ {b : Addr} {m : Str → Option Value}, s₁.heap.Ns b m → (hidT s₁.heap H).Ns b m := fun {b m} ⟨o, es, ep, e, d, r⟩ =>
    ⟨o, es, ep, hidT_get e (clear e (fun l n z => by rw [d] at z; cases z) (fun z => by rw [d] at z; cases z)), d, r⟩
  have kB : K.In (hidT s₁.heap H) := fun b o e => hidT_get (inK b o e) (by
    cases q : H b with
    | none => rfl
    | some u =>
      rcases known b u q with ⟨rfl, _⟩ | ⟨rfl, q2⟩
      · rw [nT] at e; cases e
      · rw [hscK (by rw [q2]; simp)] at e; cases e)
  have modB : L2.Mod K mg (hidT s₁.heap H) := by
    obtain ⟨mc, l1, l2⟩ := lim
    exact ⟨kB, nsB gl, ⟨mb, nsB bl, bb⟩, mc, nsB l1, l2⟩
  have glob : mainGlobals ≠ Pt := fun z => by
    obtain ⟨o, es, ep, e, d, _⟩ := gl
    rw [z, hT] at e
    cases e
    cases d
  have tabB : GxR.TabB (hidT s₁.heap H) mg c Pt := by
    obtain ⟨m, ob, g1, g2, g3, g4, g5, g6⟩ := bm
    refine ⟨PySem.W.codeHd_of_K kB hh, ⟨m, ob, g1, g2, fun z => ?_, fun z => ?_, hidT_get g3 (clear g3 (fun l n z => by rw [g6] at z; cases z) (fun z => by rw [g6] at z; cases z)), g4, g5, g6⟩, glob⟩
    · obtain ⟨o, es, ep, e, d, _⟩ := gl
      rw [← z, g3] at e
      cases e
      rw [g6] at d
      cases d
    · rw [z, hT] at g3
      cases g3
      cases g6
  have e0 : Env0 P w K mg (hidT s₁.heap H) callerA [] s₁ H := ⟨rfl, modB, fun b o e => of_hidT e, Nat.le_of_eq (hidT_size _ _), trivial, fun b z => absurd z List.not_mem_nil, hok, .of_eq gen0⟩
  have run := here_run (Q := fun v _ => v = .bl true) (v := .ref a) (u := .ref a) lk hcd scLaw room e0 rfl (bd s₁ (.ref a)) fun hr => by
    obtain ⟨t, ht, hq⟩ := body _ kB tabB callerA [] s₁ H [.ref a] (fun v _ => v = .bl true) E0 rfl hr ⟨a, ns, rfl, hseq, h63, hTab, fun _ => rfl⟩
    exact ⟨t, ht.nox, hq⟩
  refine codeAny_mono run fun r s' ⟨v', u', H', er, os, bare, un, hok', rv', ev⟩ => ?_
  subst ev
  have eu : u' = Value.bool true := rv'
  subst eu
  have kept : ∀ b o, b ≠ Pt → s₁.heap.get? b = some o → s'.heap.get? b = some o := fun b o n e => by
    cases q : H b with
    | none => exact un.keep b o e q List.not_mem_nil List.not_mem_nil
    | some u =>
      rcases known b u q with ⟨z, _⟩ | ⟨rfl, q2⟩
      · exact (n z).elim
      · obtain ⟨_, ob, xs, rfl⟩ := hsc u q2
        have f1 := (hok b _ q).1
        have f2 := (hok' b _ (un.frzs b ob _ q)).1
        rw [e] at f1
        cases f1
        exact f2
  obtain ⟨more, hm⟩ := un.tbls Pt #[] hTab
  have grown : s'.heap.get? Pt = some { cls := .none, data := .fields (#[] ++ more) } := hok' Pt _ hm
  have isT := ((PySem.W.codeHd_of_K inK hh).tab hT).isCodeTable
  refine ⟨er, ⟨fun b o e => ?_, fun b o e => ?_⟩, os, bare⟩
  · by_cases hb : b = Pt
    · subst hb
      rw [hT] at e
      cases e
      exact .inr (.inl ⟨isT, rfl, #[], more, rfl, grown⟩)
    · exact .inl (kept b o hb e)
  · by_cases hb : b = Pt
    · subst hb
      exact ⟨_, grown⟩
    · exact ⟨o, kept b o hb e⟩
end
end Fs
namespace Fs
open PySem L2 TL
theorem fun_of_D {K : PySem.W.Frag} {x q : Str} {st : Stmt} {f : Addr} {fd : FuncData} (F : FunD K x q (defArgs st) (defBody st) (defScope st) [] [] f fd) : Fun K x q st f fd := by
  obtain ⟨oc, od, dV, kV, doc, pm, an, cdv, ct, osl, e, lk, hcd, hd, _⟩ := F.ex
  have hdV : dV = .none := by
    rcases hd with h | h
    · exact h.2
    · exact (h.1 rfl).elim
  subst hdV
  exact ⟨⟨oc, od, kV, doc, pm, an, cdv, ct, osl, e, lk, hcd⟩, F.kp⟩
section
variable {P : Program} {w : World} {K : PySem.W.Frag} {mg : Str → Option Value} {h : Heap}
/-- everything together -/
theorem all (X : K.In h) (G : h.Ns mainGlobals mg) {fa0 : Addr} (hfa : mg ("law" : Str) = some (.ref fa0)) (c : He.SaysX fa fn [] tf exB w h K) :
    ∃ (co Pt : Addr) (dV kV doc pm cdv ct oc : Value) (an od : Option Addr) (osl : Array (Option Value)), K.lookup fa0 = some ⟨oc, od, .func (PySem.W.fnOf "law" "law" (defArgs sLaw) (defBody sLaw) (defScope sLaw) dV kV doc pm an cdv ct), osl⟩ ∧ PySem.W.codeIn K cdv "law" = true ∧
      (∀ (s : Shared) (u : Value), BindsTo s (PySem.W.fnOf "law" "law" (defArgs sLaw) (defBody sLaw) (defScope sLaw) dV kV doc pm an cdv ct) ⟨[u], []⟩ [("_law_script", u)]) ∧
      h.get? Pt = some { cls := .none, data := .fields #[] } ∧ K.lookup Pt = none ∧ PySem.W.codeHdIn K co Pt = true ∧
      ∀ (base : Heap), K.In base → GxR.TabB base mg co Pt → ∀ (A0 : Around) (outer : List Env) (s : Shared) (H : Hp) (vs : List V) (Q : VK) (Es : XK), A0.guards = some [] → Room 6 (A0.deeper (PyProof.Rows.envOfC "law" (defScope sLaw) s.heap.objs.size fa0 cdv)) → spLaw K Pt vs H Q Es →
        ∃ t, PSs (cxOf CX0 P w K mg base nLaw "law" (defScope sLaw) fa0 cdv A0 outer s H Es).nox (defBody sLaw) t ∧ t { nx := fun _ H' => Q .non H', rt := Q } (L2.start nLaw vs) H := by
  have d : He.SaysD fa fn K := c.t.d
  have fct : ∀ f : He.Fa, f ∈ fa → f.ok K = true := fun f hf => d.facts hf
  obtain ⟨x_d_is_text, D_d_is_text⟩ := d.def_ 0 (d := d_is_text) rfl
  have F_d_is_text : Fun K "is_text" "is_text" sIsText (He.ga K "is_text") x_d_is_text := fun_of_D D_d_is_text
  have B_d_is_text : Binds K x_d_is_text ["thing"] [] := F_d_is_text.binds fun _ _ _ _ _ _ us hl => match us, hl with | [_], _ => rfl
  obtain ⟨x_d_is_name, D_d_is_name⟩ := d.def_ 1 (d := d_is_name) rfl
  have F_d_is_name : Fun K "is_name" "is_name" sIsName (He.ga K "is_name") x_d_is_name := fun_of_D D_d_is_name
  have B_d_is_name : Binds K x_d_is_name ["thing"] [] := F_d_is_name.binds fun _ _ _ _ _ _ us hl => match us, hl with | [_], _ => rfl
  obtain ⟨x_d__law_pot, D_d__law_pot⟩ := d.def_ 2 (d := d__law_pot) rfl
  have F_d__law_pot : Fun K "_law_pot" "_law_pot" sPot (He.ga K "_law_pot") x_d__law_pot := fun_of_D D_d__law_pot
  have B_d__law_pot : Binds K x_d__law_pot ["_law_script", "_law_k"] [] := F_d__law_pot.binds fun _ _ _ _ _ _ us hl => match us, hl with | [_, _], _ => rfl
  obtain ⟨x_d__law_digit, D_d__law_digit⟩ := d.def_ 3 (d := d__law_digit) rfl
  have F_d__law_digit : Fun K "_law_digit" "_law_digit" sDigit (He.ga K "_law_digit") x_d__law_digit := fun_of_D D_d__law_digit
  have B_d__law_digit : Binds K x_d__law_digit ["_law_pot_here", "_law_many"] [] := F_d__law_digit.binds fun _ _ _ _ _ _ us hl => match us, hl with | [_, _], _ => rfl
  obtain ⟨x_d__law_name, D_d__law_name⟩ := d.def_ 4 (d := d__law_name) rfl
  have F_d__law_name : Fun K "_law_name" "_law_name" sName (He.ga K "_law_name") x_d__law_name := fun_of_D D_d__law_name
  have B_d__law_name : Binds K x_d__law_name ["_law_pot_here"] [] := F_d__law_name.binds fun _ _ _ _ _ _ us hl => match us, hl with | [_], _ => rfl
  obtain ⟨x_d__law_fresh, D_d__law_fresh⟩ := d.def_ 5 (d := d__law_fresh) rfl
  have F_d__law_fresh : Fun K "_law_fresh" "_law_fresh" sFresh (He.ga K "_law_fresh") x_d__law_fresh := fun_of_D D_d__law_fresh
  have B_d__law_fresh : Binds K x_d__law_fresh ["_law_pot_here", "_law_taken"] [] := F_d__law_fresh.binds fun _ _ _ _ _ _ us hl => match us, hl with | [_, _], _ => rfl
  obtain ⟨x_d__law_pairs, D_d__law_pairs⟩ := d.def_ 6 (d := d__law_pairs) rfl
  have F_d__law_pairs : Fun K "_law_pairs" "_law_pairs" sPairs (He.ga K "_law_pairs") x_d__law_pairs := fun_of_D D_d__law_pairs
  have B_d__law_pairs : Binds K x_d__law_pairs ["_law_pot_here"] [] := F_d__law_pairs.binds fun _ _ _ _ _ _ us hl => match us, hl with | [_], _ => rfl
  obtain ⟨x_d__law_stands, D_d__law_stands⟩ := d.def_ 7 (d := d__law_stands) rfl
  have F_d__law_stands : Fun K "_law_stands" "_law_stands" sStd (He.ga K "_law_stands") x_d__law_stands := fun_of_D D_d__law_stands
  have B_d__law_stands : Binds K x_d__law_stands ["_law_pairs_here", "_law_name_here", "_law_other"] [] := F_d__law_stands.binds fun _ _ _ _ _ _ us hl => match us, hl with | [_, _, _], _ => rfl
  obtain ⟨x_d__law_is_no_kind, D_d__law_is_no_kind⟩ := d.def_ 8 (d := d__law_is_no_kind) rfl
  have F_d__law_is_no_kind : Fun K "_law_is_no_kind" "_law_is_no_kind" sNoK (He.ga K "_law_is_no_kind") x_d__law_is_no_kind := fun_of_D D_d__law_is_no_kind
  have B_d__law_is_no_kind : Binds K x_d__law_is_no_kind ["_law_e"] [] := F_d__law_is_no_kind.binds fun _ _ _ _ _ _ us hl => match us, hl with | [_], _ => rfl
  obtain ⟨x_d__law_made, D_d__law_made⟩ := d.def_ 9 (d := d__law_made) rfl
  have F_d__law_made : Fun K "_law_made" "_law_made" sMad (He.ga K "_law_made") x_d__law_made := fun_of_D D_d__law_made
  have B_d__law_made : Binds K x_d__law_made ["_law_pairs_here"] [] := F_d__law_made.binds fun _ _ _ _ _ _ us hl => match us, hl with | [_], _ => rfl
  obtain ⟨x_d__law_above, D_d__law_above⟩ := d.def_ 10 (d := d__law_above) rfl
  have F_d__law_above : Fun K "_law_above" "_law_above" sLab (He.ga K "_law_above") x_d__law_above := fun_of_D D_d__law_above
  have B_d__law_above : Binds K x_d__law_above ["_law_kinds", "_law_name_here"] [] := F_d__law_above.binds fun _ _ _ _ _ _ us hl => match us, hl with | [_, _], _ => rfl
  obtain ⟨x_d__law_under, D_d__law_under⟩ := d.def_ 11 (d := d__law_under) rfl
  have F_d__law_under : Fun K "_law_under" "_law_under" sLun (He.ga K "_law_under") x_d__law_under := fun_of_D D_d__law_under
  have B_d__law_under : Binds K x_d__law_under ["_law_kinds", "_law_name_here", "_law_other"] [] := F_d__law_under.binds fun _ _ _ _ _ _ us hl => match us, hl with | [_, _, _], _ => rfl
  obtain ⟨x_d__law_odd, D_d__law_odd⟩ := d.def_ 12 (d := d__law_odd) rfl
  have F_d__law_odd : Fun K "_law_odd" "_law_odd" sOdd (He.ga K "_law_odd") x_d__law_odd := fun_of_D D_d__law_odd
  have B_d__law_odd : Binds K x_d__law_odd ["_law_pot_here"] [] := F_d__law_odd.binds fun _ _ _ _ _ _ us hl => match us, hl with | [_], _ => rfl
  obtain ⟨x_d__law_spoilt, D_d__law_spoilt⟩ := d.def_ 13 (d := d__law_spoilt) rfl
  have F_d__law_spoilt : Fun K "_law_spoilt" "_law_spoilt" sSpo (He.ga K "_law_spoilt") x_d__law_spoilt := fun_of_D D_d__law_spoilt
  have B_d__law_spoilt : Binds K x_d__law_spoilt ["_law_pot_here", "_law_pairs_here"] [] := F_d__law_spoilt.binds fun _ _ _ _ _ _ us hl => match us, hl with | [_, _], _ => rfl
  obtain ⟨x_d__law_right, D_d__law_right⟩ := d.def_ 14 (d := d__law_right) rfl
  have F_d__law_right : Fun K "_law_right" "_law_right" sRgt (He.ga K "_law_right") x_d__law_right := fun_of_D D_d__law_right
  have B_d__law_right : Binds K x_d__law_right ["_law_pot_here", "_law_pairs_here", "_law_kinds", "_law_names"] [] := F_d__law_right.binds fun _ _ _ _ _ _ us hl => match us, hl with | [_, _, _, _], _ => rfl
  obtain ⟨x_d_law, D_d_law⟩ := d.def_ 15 (d := d_law) rfl
  have F_d_law : Fun K "law" "law" sLaw (He.ga K "law") x_d_law := fun_of_D D_d_law
  have B_d_law : Binds K x_d_law ["_law_script"] [] := F_d_law.binds fun _ _ _ _ _ _ us hl => match us, hl with | [_], _ => rfl
  obtain ⟨x_dK_xinitx, D_dK_xinitx⟩ := d.def_ 16 (d := dK_xinitx) rfl
  have F_dK_xinitx : Fun K "__init__" "Kinds.__init__" sKInit (He.ma K (He.ga K "Kinds") "__init__") x_dK_xinitx := fun_of_D D_dK_xinitx
  have B_dK_xinitx : Binds K x_dK_xinitx ["self", "pairs"] [] := F_dK_xinitx.binds fun _ _ _ _ _ _ us hl => match us, hl with | [_, _], _ => rfl
  obtain ⟨x_dK_is_kind, D_dK_is_kind⟩ := d.def_ 17 (d := dK_is_kind) rfl
  have F_dK_is_kind : Fun K "is_kind" "Kinds.is_kind" sIsKind (He.ma K (He.ga K "Kinds") "is_kind") x_dK_is_kind := fun_of_D D_dK_is_kind
  have B_dK_is_kind : Binds K x_dK_is_kind ["self", "thing"] [] := F_dK_is_kind.binds fun _ _ _ _ _ _ us hl => match us, hl with | [_, _], _ => rfl
  obtain ⟨x_dK__check_new, D_dK__check_new⟩ := d.def_ 18 (d := dK__check_new) rfl
  have F_dK__check_new : Fun K "_check_new" "Kinds._check_new" sChkNew (He.ma K (He.ga K "Kinds") "_check_new") x_dK__check_new := fun_of_D D_dK__check_new
  have B_dK__check_new : Binds K x_dK__check_new ["self", "name", "above"] [] := F_dK__check_new.binds fun _ _ _ _ _ _ us hl => match us, hl with | [_, _, _], _ => rfl
  obtain ⟨x_dK_names, D_dK_names⟩ := d.def_ 19 (d := dK_names) rfl
  have F_dK_names : Fun K "names" "Kinds.names" sNms (He.ma K (He.ga K "Kinds") "names") x_dK_names := fun_of_D D_dK_names
  have B_dK_names : Binds K x_dK_names ["self"] [] := F_dK_names.binds fun _ _ _ _ _ _ us hl => match us, hl with | [_], _ => rfl
  obtain ⟨x_dK_above, D_dK_above⟩ := d.def_ 20 (d := dK_above) rfl
  have F_dK_above : Fun K "above" "Kinds.above" sAbv (He.ma K (He.ga K "Kinds") "above") x_dK_above := fun_of_D D_dK_above
  have B_dK_above : Binds K x_dK_above ["self", "name"] [] := F_dK_above.binds fun _ _ _ _ _ _ us hl => match us, hl with | [_, _], _ => rfl
  obtain ⟨x_dK_stands_under, D_dK_stands_under⟩ := d.def_ 21 (d := dK_stands_under) rfl
  have F_dK_stands_under : Fun K "stands_under" "Kinds.stands_under" sStU (He.ma K (He.ga K "Kinds") "stands_under") x_dK_stands_under := fun_of_D D_dK_stands_under
  have B_dK_stands_under : Binds K x_dK_stands_under ["self", "name", "other"] [] := F_dK_stands_under.binds fun _ _ _ _ _ _ us hl => match us, hl with | [_, _, _], _ => rfl
  obtain ⟨x_dK__check, D_dK__check⟩ := d.def_ 22 (d := dK__check) rfl
  have F_dK__check : Fun K "_check" "Kinds._check" sKCk (He.ma K (He.ga K "Kinds") "_check") x_dK__check := fun_of_D D_dK__check
  have B_dK__check : Binds K x_dK__check ["self", "name"] [] := F_dK__check.binds fun _ _ _ _ _ _ us hl => match us, hl with | [_, _], _ => rfl
  have z_isinstance : mg "isinstance" = none := He.free_ok X G (fct (.free "isinstance") (by simp [fa]))
  have z_int : mg "int" = none := He.free_ok X G (fct (.free "int") (by simp [fa]))
  have z_str : mg "str" = none := He.free_ok X G (fct (.free "str") (by simp [fa]))
  have z_len : mg "len" = none := He.free_ok X G (fct (.free "len") (by simp [fa]))
  have z_all : mg "all" = none := He.free_ok X G (fct (.free "all") (by simp [fa]))
  have z_max : mg "max" = none := He.free_ok X G (fct (.free "max") (by simp [fa]))
  have z_min : mg "min" = none := He.free_ok X G (fct (.free "min") (by simp [fa]))
  have z_range : mg "range" = none := He.free_ok X G (fct (.free "range") (by simp [fa]))
  have z_list : mg "list" = none := He.free_ok X G (fct (.free "list") (by simp [fa]))
  have z_dict : mg "dict" = none := He.free_ok X G (fct (.free "dict") (by simp [fa]))
  have z_repr : mg "repr" = none := He.free_ok X G (fct (.free "repr") (by simp [fa]))
  have z_ValueError : mg "ValueError" = none := He.free_ok X G (fct (.free "ValueError") (by simp [fa]))
  have g_is_text : mg "is_text" = some (.ref (He.ga K "is_text")) := He.glo_ok X G (fct (.glo "is_text") (by simp [fa]))
  have g_is_name : mg "is_name" = some (.ref (He.ga K "is_name")) := He.glo_ok X G (fct (.glo "is_name") (by simp [fa]))
  have g__law_pot : mg "_law_pot" = some (.ref (He.ga K "_law_pot")) := He.glo_ok X G (fct (.glo "_law_pot") (by simp [fa]))
  have g__law_digit : mg "_law_digit" = some (.ref (He.ga K "_law_digit")) := He.glo_ok X G (fct (.glo "_law_digit") (by simp [fa]))
  have g__law_name : mg "_law_name" = some (.ref (He.ga K "_law_name")) := He.glo_ok X G (fct (.glo "_law_name") (by simp [fa]))
  have g__law_fresh : mg "_law_fresh" = some (.ref (He.ga K "_law_fresh")) := He.glo_ok X G (fct (.glo "_law_fresh") (by simp [fa]))
  have g__law_pairs : mg "_law_pairs" = some (.ref (He.ga K "_law_pairs")) := He.glo_ok X G (fct (.glo "_law_pairs") (by simp [fa]))
  have g__law_stands : mg "_law_stands" = some (.ref (He.ga K "_law_stands")) := He.glo_ok X G (fct (.glo "_law_stands") (by simp [fa]))
  have g__law_is_no_kind : mg "_law_is_no_kind" = some (.ref (He.ga K "_law_is_no_kind")) := He.glo_ok X G (fct (.glo "_law_is_no_kind") (by simp [fa]))
  have g__law_made : mg "_law_made" = some (.ref (He.ga K "_law_made")) := He.glo_ok X G (fct (.glo "_law_made") (by simp [fa]))
  have g__law_above : mg "_law_above" = some (.ref (He.ga K "_law_above")) := He.glo_ok X G (fct (.glo "_law_above") (by simp [fa]))
  have g__law_under : mg "_law_under" = some (.ref (He.ga K "_law_under")) := He.glo_ok X G (fct (.glo "_law_under") (by simp [fa]))
  have g__law_odd : mg "_law_odd" = some (.ref (He.ga K "_law_odd")) := He.glo_ok X G (fct (.glo "_law_odd") (by simp [fa]))
  have g__law_spoilt : mg "_law_spoilt" = some (.ref (He.ga K "_law_spoilt")) := He.glo_ok X G (fct (.glo "_law_spoilt") (by simp [fa]))
  have g__law_right : mg "_law_right" = some (.ref (He.ga K "_law_right")) := He.glo_ok X G (fct (.glo "_law_right") (by simp [fa]))
  have g_law : mg "law" = some (.ref (He.ga K "law")) := He.glo_ok X G (fct (.glo "law") (by simp [fa]))
  have g_Kinds : mg "Kinds" = some (.ref (He.ga K "Kinds")) := He.glo_ok X G (fct (.glo "Kinds") (by simp [fa]))
  have cl_Kinds := He.cls_ok (fct (.cls "Kinds") (by simp [fa]))
  have mk_Kinds := He.mkr_ok (fct (.mkr "Kinds") (by simp [fa]))
  have nA := He.noat_ok (fct (.noat "Kinds" "_above") (by simp [fa]))
  have k_is_kind := He.meth_ok (fct (.meth "Kinds" "is_kind") (by simp [fa]))
  have k__check_new := He.meth_ok (fct (.meth "Kinds" "_check_new") (by simp [fa]))
  have k_names := He.meth_ok (fct (.meth "Kinds" "names") (by simp [fa]))
  have k_above := He.meth_ok (fct (.meth "Kinds" "above") (by simp [fa]))
  have k_stands_under := He.meth_ok (fct (.meth "Kinds" "stands_under") (by simp [fa]))
  have k__check := He.meth_ok (fct (.meth "Kinds" "_check") (by simp [fa]))
  have g_NoKind : mg "NoKind" = some (.ref (He.ga K "NoKind")) := He.glo_ok X G (fct (.glo "NoKind") (by simp [fa]))
  have g_FaultError : mg "FaultError" = some (.ref (He.ga K "FaultError")) := He.glo_ok X G (fct (.glo "FaultError") (by simp [fa]))
  have g_Empty : mg "Empty" = some (.ref (He.ga K "Empty")) := He.glo_ok X G (fct (.glo "Empty") (by simp [fa]))
  have g_NoBody : mg "NoBody" = some (.ref (He.ga K "NoBody")) := He.glo_ok X G (fct (.glo "NoBody") (by simp [fa]))
  have g_NoFault : mg "NoFault" = some (.ref (He.ga K "NoFault")) := He.glo_ok X G (fct (.glo "NoFault") (by simp [fa]))
  have g_NoProgram : mg "NoProgram" = some (.ref (He.ga K "NoProgram")) := He.glo_ok X G (fct (.glo "NoProgram") (by simp [fa]))
  have g_NoRow : mg "NoRow" = some (.ref (He.ga K "NoRow")) := He.glo_ok X G (fct (.glo "NoRow") (by simp [fa]))
  have g_NoTest : mg "NoTest" = some (.ref (He.ga K "NoTest")) := He.glo_ok X G (fct (.glo "NoTest") (by simp [fa]))
  have g_NoText : mg "NoText" = some (.ref (He.ga K "NoText")) := He.glo_ok X G (fct (.glo "NoText") (by simp [fa]))
  have g_NoWay : mg "NoWay" = some (.ref (He.ga K "NoWay")) := He.glo_ok X G (fct (.glo "NoWay") (by simp [fa]))
  -- the law's own object, the code of is_name
  have efa : fa0 = He.ga K "law" := by
    have e := hfa.symm.trans g_law
    cases e
    rfl
  subst efa
  obtain ⟨oc, od, dV, kV, doc, pm, an, cdv, ct, osl, exl, lkl, hcl, hdl, _⟩ := D_d_law.ex
  obtain ⟨oc2, od2, dV2, kV2, doc2, pm2, an2, cdv2, ct2, osl2, exn, lkn, hcn, hdn, _⟩ := D_d_is_name.ex
  obtain ⟨co, eco⟩ := He.codeIn_ref hcn
  have eco2 : He.codeOf K ("is_name", none) = co := He.codeOf_eq (p := ("is_name", none)) lkn (by rw [exn]; exact eco)
  have hd1 := c.hd ("is_name", none) List.mem_cons_self
  have hd2 := c.out ("is_name", none) List.mem_cons_self
  have hd3 := c.empty ("is_name", none) List.mem_cons_self
  have ecT : (He.cT K ("is_name", none)).1 = co := eco2
  rw [ecT] at hd1
  subst exl exn eco
  refine ⟨co, (He.cT K ("is_name", none)).2, dV, kV, doc, pm, cdv, ct, oc, an, od, osl, lkl, hcl, fun s u => ?_, hd3, hd2, hd1, ?_⟩
  · have hdV : dV = .none := by
      rcases hdl with q | q
      · exact q.2
      · exact (q.1 rfl).elim
    subst hdV
    exact .of_eq rfl
  intro base kB TB A0 outer s H vs Q Es hg hr hsp
  have TK : KTxt K mg (He.ga K "Kinds") (He.ma K (He.ga K "Kinds") "__init__") (He.ma K (He.ga K "Kinds") "is_kind") (He.ma K (He.ga K "Kinds") "_check_new") := ⟨cl_Kinds, nA, k_is_kind, k__check_new⟩
  have oPot := ok_pot (P := P) (w := w) (base := base) F_d__law_pot z_len z_max
  have oDig := ok_digit (P := P) (w := w) (mg := mg) (base := base) F_d__law_digit
  have oName := ok_name F_d__law_name oDig g__law_digit F_d__law_digit.kp B_d__law_digit z_range
  have oFresh := ok_fresh F_d__law_fresh oName g__law_name F_d__law_name.kp B_d__law_name z_range
  have oPairs := ok_pairs F_d__law_pairs oDig g__law_digit F_d__law_digit.kp B_d__law_digit oFresh g__law_fresh F_d__law_fresh.kp B_d__law_fresh z_len z_range z_int
  have oIsText := ok_isText (P := P) (w := w) (base := base) F_d_is_text z_isinstance z_str
  have oIsName := ok_isName lkn hcn TB oIsText g_is_text F_d_is_text.kp B_d_is_text z_len z_all
  have oIsKind := ok_isKind F_dK_is_kind TK oIsText g_is_text F_d_is_text.kp B_d_is_text
  have oChkNew := ok_chkNew F_dK__check_new TK oIsName g_is_name F_d_is_name.kp B_d_is_name oIsKind B_dK_is_kind
  have oKInit := ok_kInit F_dK_xinitx TK oChkNew B_dK__check_new
  have mo := c.more
  unfold exB at mo
  simp only [Bool.and_eq_true, decide_eq_true_eq] at mo
  obtain ⟨x1, x2, x3, x4, x5, x6, x7, x8, x9, x10, x11⟩ := mo
  obtain ⟨y1, y2, y3, y4⟩ := He.exc_ok (fct (.exc "NoKind") (by simp [fa]))
  have y5 := He.exm_ok (fct (.exm "NoKind" "FaultError" true) (by simp [fa]))
  have TN : NKx K mg (He.ga K "NoKind") := ⟨g_NoKind, y1, y2, y3, y4⟩
  have TE2 : NKE K mg (He.ga K "NoKind") (He.ga K "FaultError") (He.ga K "Empty") (He.ga K "NoBody") (He.ga K "NoFault") (He.ga K "NoProgram") (He.ga K "NoRow") (He.ga K "NoTest") (He.ga K "NoText") (He.ga K "NoWay") := ⟨g_NoKind, g_FaultError, g_Empty, g_NoBody, g_NoFault, g_NoProgram, g_NoRow, g_NoTest, g_NoText, g_NoWay, y5, ⟨x1, x2, x3, x4, x5, x6, x7, x8⟩, x9, x10, x11⟩
  have oTxT := ok_txT (P := P) (w := w) (base := base) F_d_is_text z_isinstance z_str
  have oKdT := ok_kdT F_dK_is_kind TK oTxT g_is_text F_d_is_text.kp B_d_is_text
  have oNmT := ok_nmT lkn hcn TB oTxT g_is_text F_d_is_text.kp B_d_is_text z_len z_all
  have oKCk := ok_kCkT F_dK__check TK TN oKdT B_dK_is_kind
  have oChkT := ok_chkNewT F_dK__check_new TK TN oNmT g_is_name F_d_is_name.kp B_d_is_name oKdT B_dK_is_kind
  have oInitE := ok_kInitE F_dK_xinitx TK oChkT B_dK__check_new
  have oInitX := FnOk.orX oKInit oInitE
  have oNms := ok_nms (P := P) (w := w) (base := base) F_dK_names TK z_list
  have oAbv := ok_abvT F_dK_above TK k__check oKCk B_dK__check
  have oStU := ok_stUT F_dK_stands_under TK k__check oKCk B_dK__check
  have oStd := ok_std (P := P) (w := w) (base := base) F_d__law_stands z_dict z_len z_range
  have oNoK := ok_noK (P := P) (w := w) (base := base) F_d__law_is_no_kind TE2 z_isinstance z_ValueError
  have oLab := ok_lab F_d__law_above TE2 cl_Kinds k_above oAbv B_dK_above oNoK g__law_is_no_kind F_d__law_is_no_kind.kp B_d__law_is_no_kind
  have oLun := ok_lun F_d__law_under TE2 cl_Kinds k_stands_under oStU B_dK_stands_under oNoK g__law_is_no_kind F_d__law_is_no_kind.kp B_d__law_is_no_kind
  have oMad := ok_mad F_d__law_made TE2 mk_Kinds g_Kinds oInitX B_dK_xinitx oNoK g__law_is_no_kind F_d__law_is_no_kind.kp B_d__law_is_no_kind
  have oOdd := ok_odd F_d__law_odd oDig g__law_digit F_d__law_digit.kp B_d__law_digit z_len
  have oSpo := ok_spo F_d__law_spoilt oDig g__law_digit F_d__law_digit.kp B_d__law_digit oFresh g__law_fresh F_d__law_fresh.kp B_d__law_fresh oOdd g__law_odd F_d__law_odd.kp B_d__law_odd z_len
  have TR : RTx K mg (He.ga K "Kinds") _ _ _ _ _ _ _ := ⟨g__law_digit, F_d__law_digit.kp, g__law_fresh, F_d__law_fresh.kp, g__law_odd, F_d__law_odd.kp, g__law_above, F_d__law_above.kp, g__law_under, F_d__law_under.kp, g__law_stands, F_d__law_stands.kp, cl_Kinds, k_is_kind, z_repr, z_dict, z_len, z_range⟩
  have oRgt := ok_rgt F_d__law_right TR oDig B_d__law_digit oFresh B_d__law_fresh oOdd B_d__law_odd oLab B_d__law_above oLun B_d__law_under oStd B_d__law_stands oKdT B_dK_is_kind
  have TA : ATxt K mg (He.ga K "Kinds") _ _ _ _ _ _ _ := ⟨g__law_pot, F_d__law_pot.kp, g__law_pairs, F_d__law_pairs.kp, g__law_spoilt, F_d__law_spoilt.kp, g__law_made, F_d__law_made.kp, g__law_right, F_d__law_right.kp, mk_Kinds, g_Kinds, cl_Kinds, k_names, z_list, z_repr, z_len, z_max, z_min, z_range⟩
  exact law_body TA oPot B_d__law_pot oPairs B_d__law_pairs oSpo B_d__law_spoilt oMad B_d__law_made oRgt B_d__law_right oKInit B_dK_xinitx oNms B_dK_names cdv A0 outer s H vs Q Es hg hr hsp
end
end Fs
open PySem PySem.W PySem.Calls PyProof.Rows
set_option maxHeartbeats 0 in
theorem PySem.Challenge.cw_faultsheaves_k11_kinds_holds : PySem.Challenge.rw_faultsheaves_k11_kinds.Holds := by
  w_on; o_law
  refine HandSHeadRun.head_any (r := OpenLaw.row PySem.Challenge.rw_faultsheaves_k11_kinds) (q := view (OpenLaw.row PySem.Challenge.rw_faultsheaves_k11_kinds).prog [31]) (H := Fs.hk) (ob := Fs.ob) (M := 6000) (loose := Fs.loose) (d := HandSHeadRun.topDef (OpenLaw.row PySem.Challenge.rw_faultsheaves_k11_kinds).prog 31) (kwd := []) Fs.ob_eq
    (by kernel_rfl) (fun s => by kernel_rfl) Fs.run (by kernel_rfl) (by kernel_rfl) (by kernel_rfl) (by rfl) (by first | assumption | decide +kernel) (by decide +kernel) ⟨rfl, rfl, rfl, rfl, rfl, by decide +kernel⟩ ?hw ?hc
  case hw => w_witness2
  case hc =>
    refine Att.attach_callB (l := PySem.Challenge.rw_faultsheaves_k11_kinds) (n := 63) rfl (by kernel_rfl) fun w s₀ s₁ mg mb fa o pm cd doc a vs ns G Y ho hd hcd hmg hobj hints hlen hbits hg => ?_
    obtain ⟨K, KX, c⟩ := Y
    have hmg' : mg ("law" : PySem.Str) = some (.ref fa) := by
      have e : (HandSHeadRun.topDef (OpenLaw.row PySem.Challenge.rw_faultsheaves_k11_kinds).prog 31).name = ("law" : PySem.Str) := by kernel_rfl
      rw [← e]
      exact hmg
    obtain ⟨co, Pt, dV, kV, doc', pm', cdv, ct, oc, an, od, osl, lk, hc', bd, hT, nT, hh, body⟩ := Fs.all (P := (PySem.Challenge.rw_faultsheaves_k11_kinds).prog) (w := w) KX G.T.g hmg' c
    exact Fs.law_here lk hc' ⟨rfl, by decide, by decide⟩ bd KX G.T.g G.T.b G.T.builtins G.T.nolimit hg hT nT hh G.T.bmain hobj hints hlen body
