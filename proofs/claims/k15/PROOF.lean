import PyProof.Rows.All
import Wide.All
import OpenK.AllK
import Wide.FinOn
import HandS.ForMost
import HandS.AnyAll
import HandS.IsInst
import HandS.EndTab
import HandS.Head0
import HandS.Head1
import HandS.Head2
import HandS.HeadEnd
import HandS.HeadHook4
import HandS.HeadWalk
import HandS.Defaults
import HandS.RaiseMore
import HandS.NoneIn
import HandS.TupAny
import HandS.Iter
import HandS.RevRange
import HandS.Conv
import HandS.WordsExc
import HandS.HotCalls
import HandS.ExcIs
import HandS.Deep
import HandS.SetFor
import PySem.Challenge.RW_faultsheaves_k15_refused_at_every_door
set_option Elab.async false
set_option linter.all false
set_option maxRecDepth 100000
set_option maxHeartbeats 16000000
/-! The text by places; what is kept of a heap; the pot and its digits. -/
namespace Fs
open PySem L2
def top (i : Nat) : Stmt := PySem.Challenge.pw_faultsheaves_k15_refused_at_every_door.main.body.getD i (.Pass ⟨0, 0, 0, 0⟩)

/-! ### heaps -/
/-- all that was tracked stands, but at the places of ex -/
def Keep (ex : List Addr) (H H' : Hp) : Prop := ∀ b o, b ∉ ex → H b = some o → H' b = some o
theorem Keep.refl (ex : List Addr) (H : Hp) : Keep ex H H := fun _ _ _ h => h
theorem Keep.trans {ex : List Addr} {H H1 H2 : Hp} (a : Keep ex H H1) (b : Keep ex H1 H2) : Keep ex H H2 := fun c o n h => b c o n (a c o n h)
theorem Keep.more {ex ex' : List Addr} {H H' : Hp} (a : Keep ex H H') (h : ∀ b, b ∈ ex → b ∈ ex') : Keep ex' H H' := fun c o n q => a c o (fun z => n (h c z)) q
theorem Keep.at {ex : List Addr} {H H' : Hp} (a : Keep ex H H') {b : Addr} {o : HO} (h : H b = some o) (n : b ∉ ex) : H' b = some o := a b o n h
theorem Keep.new {ex : List Addr} {H : Hp} {p : Addr} {o : HO} (h : H p = none) : Keep ex H (upd H p o) := fun b u _ q => by
  rw [upd_ne (ne_of_none q h)]
  exact q
theorem Keep.own {ex : List Addr} {H : Hp} {p : Addr} {o : HO} (h : p ∈ ex) : Keep ex H (upd H p o) := fun b u n q => by
  rw [upd_ne (fun z => n (by rw [z]; exact h))]
  exact q
theorem Keep.newTo {ex : List Addr} {H H1 : Hp} {p : Addr} {o : HO} (a : Keep ex H H1) (h : H1 p = none) : Keep ex H (upd H1 p o) := a.trans (.new h)
theorem Keep.ownTo {ex : List Addr} {H H1 : Hp} {p : Addr} {o : HO} (a : Keep ex H H1) (h : p ∈ ex) : Keep ex H (upd H1 p o) := a.trans (.own h)
theorem Keep.ne {ex : List Addr} {H H' : Hp} (a : Keep ex H H') {b p : Addr} {o : HO} (h : H b = some o) (n : b ∉ ex) (hp : H' p = none) : b ≠ p := ne_of_none (a.at h n) hp
theorem Keep.free {ex : List Addr} {H H' : Hp} (a : Keep ex H H') {p : Addr} (hp : H' p = none) (n : p ∉ ex) : H p = none := by
  cases q : H p with
  | none => rfl
  | some o =>
    rw [a p o n q] at hp
    cases hp
theorem Keep.seq {K : PySem.W.Frag} {ex : List Addr} {H H' : Hp} {a : Addr} {xs : List V} (e : Keep ex H H') (n : a ∉ ex) (h : SqL K H a xs) : SqL K H' a xs := by
  rcases h with (h | ⟨o, h⟩) | h
  · exact .inl (.inl (e _ _ n h))
  · exact .inl (.inr ⟨o, e _ _ n h⟩)
  · exact .inr h
theorem Keep.same {H H' : Hp} (a : Keep [] H H') : Same H H' := fun b o h => a b o (fun z => nomatch z) h
theorem nin1 {a b : Addr} (h : a ≠ b) : a ∉ [b] := fun z => h (List.mem_singleton.mp z)
theorem nin0 {a : Addr} : a ∉ ([] : List Addr) := fun z => nomatch z
theorem in1 {a : Addr} : a ∈ [a] := List.mem_singleton.mpr rfl

/-! ### the pot -/
/-- a list of three whole numbers, none below nought, the second one small, the third one at most n -/
def PotAt (H : Hp) (p : Addr) (n : Nat) : Prop := ∃ a b c : Int, H p = some (.lst [.int a, .int b, .int c]) ∧ 0 ≤ a ∧ 0 ≤ b ∧ b < 2147483647 ∧ 0 ≤ c ∧ c ≤ (n : Int)
theorem PotAt.le {H : Hp} {p : Addr} {n m : Nat} (h : PotAt H p n) (l : n ≤ m) : PotAt H p m := by
  obtain ⟨a, b, c, h1, h2, h3, h4, h5, h6⟩ := h
  exact ⟨a, b, c, h1, h2, h3, h4, h5, by omega⟩
theorem PotAt.some {H : Hp} {p : Addr} {n : Nat} (h : PotAt H p n) : ∃ xs, H p = some (.lst xs) := by
  obtain ⟨a, b, c, h1, _⟩ := h
  exact ⟨_, h1⟩
theorem PotAt.keep {H H' : Hp} {ex : List Addr} {p : Addr} {n : Nat} (h : PotAt H p n) (k : Keep ex H H') (m : p ∉ ex) : PotAt H' p n := by
  obtain ⟨a, b, c, h1, h2⟩ := h
  exact ⟨a, b, c, k.at h1 m, h2⟩

abbrev sPot : Stmt := top 21
abbrev sDigit : Stmt := top 22
abbrev nPot : List Str := ["_law_script", "_law_k", "_law_cell", "_law_seed"]
abbrev nDigit : List Str := ["_law_pot_here", "_law_many", "_law_digit_here", "_law_mixed"]
theorem scPot : FnScope nPot ["_law_script", "_law_k"] (defScope sPot) := ⟨rfl, rfl, rfl, by decide +kernel, rfl, by decide +kernel, by decide +kernel⟩
theorem scDigit : FnScope nDigit ["_law_pot_here", "_law_many"] (defScope sDigit) := ⟨rfl, rfl, rfl, by decide +kernel, rfl, by decide +kernel, by decide +kernel⟩
/-- the script stands to be read; a new pot -/
def spPot (K : PySem.W.Frag) : Sp := fun vs H Q _ => ∃ (a : Addr) (ns : List Int) (k : Nat), vs = [.ref a, .int (k : Int)] ∧ SqL K H a (ns.map V.int) ∧ k < 1000 ∧
  ∀ (p : Addr) (H' : Hp), H p = none → Keep [] H H' → PotAt H' p 0 → Q (.ref p) H'
/-- a digit below many; the pot has one step more at the most -/
def spDigit : Sp := fun vs H Q _ => ∃ (p : Addr) (n : Nat) (m : Int), vs = [.ref p, .int m] ∧ PotAt H p n ∧ n < 2 ^ 40 ∧ 0 < m ∧ m < 1073741824 ∧
  ∀ (d : Int) (H' : Hp), 0 ≤ d → d < m → (∀ b, b ≠ p → H' b = H b) → PotAt H' p (n + 1) → Q (.int d) H'
section
variable {P : Program} {w : World} {K : PySem.W.Frag} {mg : Str → Option Value} {base : Heap}
theorem at3 {K : PySem.W.Frag} {H : Hp} {p : Addr} {a b c : V} (h : H p = some (.lst [a, b, c])) : SqL K H p [a, b, c] := SqL.of h
theorem ok_digit {f : Addr} {fd : FuncData} (F : Fun K "_law_digit" "_law_digit" sDigit f fd) : FnOk P w K mg base CX0 1 f fd ["_law_pot_here", "_law_many"] spDigit := by
  refine F.ok scDigit (fun vs H Q E h => ?_) (fun cdv A outer s H vs Q E hr h => ?_)
  · obtain ⟨p, n, m, rfl, _⟩ := h
    rfl
  · obtain ⟨p, n, m, rfl, ⟨a, b, c, hp, ha, hb, hb2, hc, hc2⟩, hn, hm, hm2, k⟩ := h
    refine ⟨_, pss_cons (ps_if (pt_cmpR op_gt (pe_ix ix_list (pv 0) pe_int (fun _ _ => rfl)) pe_int (nomark _))
        (pss_cons (ps_set (i := 2) scDigit.nd rfl (Or.inl rfl) (pe_op op_mod (pe_ix ix_list (pv 0) pe_int (fun _ _ => rfl)) (pv 1)))
          (pss_cons (ps_asg (pe_op op_fdiv (pe_ix ix_list (pv 0) pe_int (fun _ _ => rfl)) (pv 1)) (pg_sub (pv 0) pe_int set_list))
          (pss_one (ps_ret (pv 2))))) pss_nil)
      (pss_cons (ps_asg (pe_op op_add (pe_ix ix_list (pv 0) pe_int (fun _ _ => rfl)) pe_int) (pg_sub (pv 0) pe_int set_list))
      (pss_cons (ps_asg (pe_op op_mod (pe_op op_add (pe_op op_add (pe_op op_mul (pe_ix ix_list (pv 0) pe_int (fun _ _ => rfl)) pe_int)
          (pe_op op_mul (pe_op op_mul (pe_ix ix_list (pv 0) pe_int (fun _ _ => rfl)) (pe_ix ix_list (pv 0) pe_int (fun _ _ => rfl))) pe_int)) pe_int) pe_int) (pg_sub (pv 0) pe_int set_list))
      (pss_cons (ps_set (i := 3) scDigit.nd rfl (Or.inl rfl) (pe_op op_mod (pe_op op_mul (pe_ix ix_list (pv 0) pe_int (fun _ _ => rfl)) (pe_ix ix_list (pv 0) pe_int (fun _ _ => rfl))) pe_int))
      (pss_one (ps_ret (pe_op op_mod (pe_op op_fdiv (pe_op op_mod (pe_op op_mul (pv 3) (pe_op op_add (pe_op op_mod (pv 3) pe_int) pe_int)) pe_int) pe_int) (pv 1))))))), ?_⟩
    have h3 := at3 (K := K) hp
    refine ⟨_, rfl, p, _, _, _, rfl, rfl, h3, rfl, _, _, rfl, rfl, _, rfl, ?_⟩
    refine ite2 (fun hd => ?_) (fun hd => ?_)
    · refine ⟨_, rfl, p, _, _, _, rfl, rfl, h3, rfl, _, rfl, a, m, rfl, rfl, hm, ?_⟩
      refine ⟨_, rfl, p, _, _, _, rfl, rfl, h3, rfl, _, rfl, a, m, rfl, rfl, ⟨hm, hm2⟩, ?_⟩
      refine ⟨_, rfl, p, _, _, 0, rfl, rfl, hp, rfl, ?_⟩
      refine ⟨_, rfl, ?_⟩
      refine k (a % m) _ (Int.emod_nonneg a (by omega)) (Int.emod_lt_of_pos a hm) (fun b hb => upd_ne hb) ⟨a / m, b, c, upd_same, Int.ediv_nonneg ha (by omega), hb, hb2, hc, by omega⟩
    · refine ⟨_, rfl, p, _, _, _, rfl, rfl, h3, rfl, _, _, rfl, rfl, ?_⟩
      refine ⟨_, rfl, p, _, _, 2, rfl, rfl, hp, rfl, ?_⟩
      have e1 : upd H p (.lst [.int a, .int b, .int (c + 1)]) p = some (.lst [.int a, .int b, .int (c + 1)]) := upd_same
      have h4 := at3 (K := K) e1
      have hcM : -(2 ^ 64) < c + 1 ∧ c + 1 < 2 ^ 64 := by omega
      refine ⟨_, rfl, p, _, _, _, rfl, rfl, h4, rfl, _, _, rfl, rfl, .inl (by omega), ?_⟩
      refine ⟨_, rfl, p, _, _, _, rfl, rfl, h4, rfl, _, rfl, p, _, _, _, rfl, rfl, h4, rfl, _, _, rfl, rfl, .inl hcM, ?_⟩
      refine ⟨_, _, rfl, rfl, .inr (by decide), _, _, rfl, rfl, _, _, rfl, rfl, _, _, rfl, rfl, (by show (0 : Int) < 2147483647; decide), ?_⟩
      refine ⟨_, rfl, p, _, _, 1, rfl, rfl, e1, rfl, ?_⟩
      have f1 := Int.emod_nonneg (b * 39373 + (c + 1) * (c + 1) * 104729 + 7) (by decide : (2147483647 : Int) ≠ 0)
      have f2 := Int.emod_lt_of_pos (b * 39373 + (c + 1) * (c + 1) * 104729 + 7) (by decide : (0 : Int) < 2147483647)
      have e2 : upd (upd H p (.lst [.int a, .int b, .int (c + 1)])) p (.lst [.int a, .int ((b * 39373 + (c + 1) * (c + 1) * 104729 + 7) % 2147483647), .int (c + 1)]) p = some (.lst [.int a, .int ((b * 39373 + (c + 1) * (c + 1) * 104729 + 7) % 2147483647), .int (c + 1)]) := upd_same
      have h5 := at3 (K := K) e2
      refine ⟨_, rfl, p, _, _, _, rfl, rfl, h5, rfl, _, rfl, p, _, _, _, rfl, rfl, h5, rfl, _, _, rfl, rfl, .inl ⟨Int.lt_of_lt_of_le (by decide) f1, Int.lt_trans f2 (by decide)⟩, _, _, rfl, rfl, (by show (0 : Int) < 2147483629; decide), ?_⟩
      have mb : ∀ z : Int, -(2 ^ 64) < z % 2147483629 ∧ z % 2147483629 < 2 ^ 64 := fun z => by
        have g1 := Int.emod_nonneg z (by decide : (2147483629 : Int) ≠ 0)
        have g2 := Int.emod_lt_of_pos z (by decide : (0 : Int) < 2147483629)
        omega
      refine ⟨_, rfl, _, rfl, _, _, rfl, rfl, (by show (0 : Int) < 65521; decide), _, _, rfl, rfl, ?_⟩
      refine ⟨_, _, rfl, rfl, .inl (mb _), _, _, rfl, rfl, (by show (0 : Int) < 2147483587; decide), _, _, rfl, rfl, ⟨by decide, by decide⟩, _, rfl, _, _, rfl, rfl, hm, ?_⟩
      refine k _ _ (Int.emod_nonneg _ (by omega)) (Int.emod_lt_of_pos _ hm) (fun z hz => by rw [upd_ne hz, upd_ne hz]) ⟨a, _, c + 1, upd_same, ha, f1, f2, by omega, by omega⟩
theorem ok_pot {f : Addr} {fd : FuncData} (F : Fun K "_law_pot" "_law_pot" sPot f fd) (mL : mg "len" = none) (mM : mg "max" = none) : FnOk P w K mg base CX0 1 f fd ["_law_script", "_law_k"] (spPot K) := by
  refine F.ok scPot (fun vs H Q E h => ?_) (fun cdv A outer s H vs Q E hr h => ?_)
  · obtain ⟨a, ns, k, rfl, _⟩ := h
    rfl
  · obtain ⟨a, ns, k, rfl, hS, hk, kk⟩ := h
    refine ⟨_, pss_cons (ps_set (i := 2) scPot.nd rfl (Or.inl rfl) pe_int)
      (pss_cons (ps_if (pt_cmpR op_lt (pv 1) (pe_callB call_len_seq (by rfl) mL PySem.boot_len (pa_cons (pv 0) pa_nil)) (nomark _))
        (pss_one (ps_set (i := 2) scPot.nd rfl (Or.inl rfl) (pe_ix ix_list (pv 0) (pv 1) (fun _ _ => rfl)))) pss_nil)
      (pss_cons (ps_set (i := 3) scPot.nd rfl (Or.inl rfl) (pe_op op_mod (pe_op op_add (pe_op op_add (pe_op op_mul (pe_op op_mod (pv 2) pe_int) pe_int) (pe_op op_mul (pe_op op_mul pe_int (pv 1)) (pv 1))) pe_int) pe_int))
      (pss_one (ps_ret (pe_lst (pa_cons (pe_callB (call_max2 rfl) (by rfl) mM (by decide +kernel) (pa_cons pe_int (pa_cons (pe_op op_sub (pv 2) (pe_op op_pow pe_int pe_int)) pa_nil))) (pa_cons (pv 3) (pa_cons pe_int pa_nil)))))))), ?_⟩
    have fin : ∀ c : Int, tSeq (tAsg (tOp (rI (fun _ j => 0 < j) fun i j => .int (i % j)) (tOp (rI0 fun i j => .int (i + j)) (tOp (rI0 fun i j => .int (i + j)) (tOp (rI CMul fun i j => .int (i * j)) (tOp (rI (fun _ j => 0 < j) fun i j => .int (i % j)) (tVar 2) (tC (.int 2147483629))) (tC (.int 48271))) (tOp (rI CMul fun i j => .int (i * j)) (tOp (rI CMul fun i j => .int (i * j)) (tC (.int 7919)) (tVar 1)) (tVar 1))) (tC (.int 13))) (tC (.int 2147483647))) (gName 3))
        (tRet (tLst (tCons (tCB (fun xs H Q => ∃ i j, xs = [.int i, .int j] ∧ Q (.int (if j > i then j else i)) H) (tCons (tC (.int 0)) (tCons (tOp (rI0 fun i j => .int (i - j)) (tVar 2) (tOp (rI CPow fun i j => .int (i ^ j.toNat)) (tC (.int 10)) (tC (.int 18)))) tNil))) (tCons (tVar 3) (tCons (tC (.int 0)) tNil))))) { nx := fun _ H' => Q .non H', rt := Q } [some (.ref a), some (.int (k : Int)), some (.int c), none] H := by
      intro c
      refine ⟨_, rfl, _, _, rfl, rfl, (by show (0 : Int) < 2147483629; decide), _, _, rfl, rfl, .inr (by decide), _, rfl, _, _, rfl, rfl, .inl (by decide), ?_⟩
      refine ⟨_, rfl, _, _, rfl, rfl, .inr (by omega), _, _, rfl, rfl, _, _, rfl, rfl, _, _, rfl, rfl, (by show (0 : Int) < 2147483647; decide), ?_⟩
      refine ⟨_, rfl, _, _, rfl, rfl, ⟨by decide, by decide, by decide⟩, _, _, rfl, rfl, _, _, rfl, ?_⟩
      refine ⟨_, rfl, (by show 3 ≤ sizeLine; decide), fun p hp => ?_⟩
      refine kk p _ hp (Keep.new hp) ⟨_, _, _, upd_same, ?_, Int.emod_nonneg _ (by decide), Int.emod_lt_of_pos _ (by decide), Int.le_refl _, Int.le_refl _⟩
      split <;> omega
    refine ⟨_, rfl, _, rfl, a, _, rfl, .inl hS, _, _, rfl, rfl, _, rfl, ?_⟩
    refine ite2 (fun hd => ?_) (fun hd => ?_)
    · have hd2 : k < ns.length := by
        have z := of_decide_eq_true hd
        rw [List.length_map] at z
        omega
      refine ⟨_, rfl, _, rfl, a, _, _, (V.int ns[k]), rfl, rfl, hS, atI_nat (by rw [List.getElem?_map, List.getElem?_eq_getElem hd2]; rfl), ?_⟩
      exact fin _
    · exact fin 0
end
end Fs
/-! The head: what the top has written, by names; the end. -/
namespace Fs
open PySem L2 TL
def d_is_whole : He.DefD := ⟨("is_whole", none), "is_whole", "is_whole", defArgs (top 2), defBody (top 2), defScope (top 2), [], []⟩
def d_is_text : He.DefD := ⟨("is_text", none), "is_text", "is_text", defArgs (top 3), defBody (top 3), defScope (top 3), [], []⟩
def d_is_name : He.DefD := ⟨("is_name", none), "is_name", "is_name", defArgs (top 4), defBody (top 4), defScope (top 4), [], []⟩
def d__law_pot : He.DefD := ⟨("_law_pot", none), "_law_pot", "_law_pot", defArgs (top 21), defBody (top 21), defScope (top 21), [], []⟩
def d__law_digit : He.DefD := ⟨("_law_digit", none), "_law_digit", "_law_digit", defArgs (top 22), defBody (top 22), defScope (top 22), [], []⟩
def d__law_text : He.DefD := ⟨("_law_text", none), "_law_text", "_law_text", defArgs (top 23), defBody (top 23), defScope (top 23), [], []⟩
def d__law_name : He.DefD := ⟨("_law_name", none), "_law_name", "_law_name", defArgs (top 24), defBody (top 24), defScope (top 24), [], []⟩
def d__law_fresh : He.DefD := ⟨("_law_fresh", none), "_law_fresh", "_law_fresh", defArgs (top 25), defBody (top 25), defScope (top 25), [], []⟩
def d__law_pairs : He.DefD := ⟨("_law_pairs", none), "_law_pairs", "_law_pairs", defArgs (top 26), defBody (top 26), defScope (top 26), [], []⟩
def d__law_kind : He.DefD := ⟨("_law_kind", none), "_law_kind", "_law_kind", defArgs (top 27), defBody (top 27), defScope (top 27), [], []⟩
def d__law_entries : He.DefD := ⟨("_law_entries", none), "_law_entries", "_law_entries", defArgs (top 28), defBody (top 28), defScope (top 28), [], []⟩
def d__law_ledger : He.DefD := ⟨("_law_ledger", none), "_law_ledger", "_law_ledger", defArgs (top 29), defBody (top 29), defScope (top 29), [], []⟩
def d__law_risen : He.DefD := ⟨("_law_risen", none), "_law_risen", "_law_risen", defArgs (top 30), defBody (top 30), defScope (top 30), [], []⟩
def d__law_told : He.DefD := ⟨("_law_told", none), "_law_told", "_law_told", defArgs (top 32), defBody (top 32), defScope (top 32), [], []⟩
def d__law_marked : He.DefD := ⟨("_law_marked", none), "_law_marked", "_law_marked", defArgs (top 31), defBody (top 31), defScope (top 31), [], []⟩
def d__law_odd_number : He.DefD := ⟨("_law_odd_number", none), "_law_odd_number", "_law_odd_number", defArgs (top 33), defBody (top 33), defScope (top 33), [], []⟩
def d__law_odd_text : He.DefD := ⟨("_law_odd_text", none), "_law_odd_text", "_law_odd_text", defArgs (top 34), defBody (top 34), defScope (top 34), [], []⟩
def d__law_odd_kind : He.DefD := ⟨("_law_odd_kind", none), "_law_odd_kind", "_law_odd_kind", defArgs (top 35), defBody (top 35), defScope (top 35), [], []⟩
def d__law_members : He.DefD := ⟨("_law_members", none), "_law_members", "_law_members", defArgs (top 36), defBody (top 36), defScope (top 36), [], []⟩
def d__law_odd_way : He.DefD := ⟨("_law_odd_way", none), "_law_odd_way", "_law_odd_way", defArgs (top 37), defBody (top 37), defScope (top 37), [], []⟩
def d__law_arguments : He.DefD := ⟨("_law_arguments", none), "_law_arguments", "_law_arguments", defArgs (top 38), defBody (top 38), defScope (top 38), [], []⟩
def d__law_is_number : He.DefD := ⟨("_law_is_number", none), "_law_is_number", "_law_is_number", defArgs (top 39), defBody (top 39), defScope (top 39), [], []⟩
def d__law_due_of_members : He.DefD := ⟨("_law_due_of_members", none), "_law_due_of_members", "_law_due_of_members", defArgs (top 40), defBody (top 40), defScope (top 40), [], []⟩
def d__law_due : He.DefD := ⟨("_law_due", none), "_law_due", "_law_due", defArgs (top 41), defBody (top 41), defScope (top 41), [], []⟩
def d__law_looked : He.DefD := ⟨("_law_looked", none), "_law_looked", "_law_looked", defArgs (top 42), defBody (top 42), defScope (top 42), [], []⟩
def d__law_called : He.DefD := ⟨("_law_called", none), "_law_called", "_law_called", defArgs (top 43), defBody (top 43), defScope (top 43), [], []⟩
def d__law_word : He.DefD := ⟨("_law_word", none), "_law_word", "_law_word", defArgs (top 44), defBody (top 44), defScope (top 44), [], []⟩
def d__law_refusal : He.DefD := ⟨("_law_refusal", none), "_law_refusal", "_law_refusal", defArgs (top 45), defBody (top 45), defScope (top 45), [], []⟩
def d__law_bare_right : He.DefD := ⟨("_law_bare_right", none), "_law_bare_right", "_law_bare_right", defArgs (top 46), defBody (top 46), defScope (top 46), [], []⟩
def d__law_good_done : He.DefD := ⟨("_law_good_done", none), "_law_good_done", "_law_good_done", defArgs (top 47), defBody (top 47), defScope (top 47), [], []⟩
def d_law : He.DefD := ⟨("law", none), "law", "law", defArgs (top 48), defBody (top 48), defScope (top 48), [], []⟩
def dL_xinitx : He.DefD := ⟨("Ledger", some "__init__"), "__init__", "Ledger.__init__", defArgs (inClass (top 17) 0), defBody (inClass (top 17) 0), defScope (inClass (top 17) 0), [], []⟩
def dL_plain : He.DefD := ⟨("Ledger", some "plain"), "plain", "Ledger.plain", defArgs (inClass (top 17) 1), defBody (inClass (top 17) 1), defScope (inClass (top 17) 1), [], []⟩
def dL_sheaf : He.DefD := ⟨("Ledger", some "sheaf"), "sheaf", "Ledger.sheaf", defArgs (inClass (top 17) 2), defBody (inClass (top 17) 2), defScope (inClass (top 17) 2), [], []⟩
def dL_many : He.DefD := ⟨("Ledger", some "many"), "many", "Ledger.many", defArgs (inClass (top 17) 4), defBody (inClass (top 17) 4), defScope (inClass (top 17) 4), [], []⟩
def dL_kind : He.DefD := ⟨("Ledger", some "kind"), "kind", "Ledger.kind", defArgs (inClass (top 17) 5), defBody (inClass (top 17) 5), defScope (inClass (top 17) 5), [], []⟩
def dL_text : He.DefD := ⟨("Ledger", some "text"), "text", "Ledger.text", defArgs (inClass (top 17) 6), defBody (inClass (top 17) 6), defScope (inClass (top 17) 6), [], []⟩
def dL_members : He.DefD := ⟨("Ledger", some "members"), "members", "Ledger.members", defArgs (inClass (top 17) 7), defBody (inClass (top 17) 7), defScope (inClass (top 17) 7), [], []⟩
def dL_notes : He.DefD := ⟨("Ledger", some "notes"), "notes", "Ledger.notes", defArgs (inClass (top 17) 8), defBody (inClass (top 17) 8), defScope (inClass (top 17) 8), [], []⟩
def dL_cause : He.DefD := ⟨("Ledger", some "cause"), "cause", "Ledger.cause", defArgs (inClass (top 17) 9), defBody (inClass (top 17) 9), defScope (inClass (top 17) 9), [], []⟩
def dL_at_work : He.DefD := ⟨("Ledger", some "at_work"), "at_work", "Ledger.at_work", defArgs (inClass (top 17) 10), defBody (inClass (top 17) 10), defScope (inClass (top 17) 10), [], []⟩
def dL_note : He.DefD := ⟨("Ledger", some "note"), "note", "Ledger.note", defArgs (inClass (top 17) 11), defBody (inClass (top 17) 11), defScope (inClass (top 17) 11), [], []⟩
def dL_blame : He.DefD := ⟨("Ledger", some "blame"), "blame", "Ledger.blame", defArgs (inClass (top 17) 12), defBody (inClass (top 17) 12), defScope (inClass (top 17) 12), [], []⟩
def dL_rise : He.DefD := ⟨("Ledger", some "rise"), "rise", "Ledger.rise", defArgs (inClass (top 17) 13), defBody (inClass (top 17) 13), defScope (inClass (top 17) 13), [], []⟩
def dL__add : He.DefD := ⟨("Ledger", some "_add"), "_add", "Ledger._add", defArgs (inClass (top 17) 18), defBody (inClass (top 17) 18), defScope (inClass (top 17) 18), [], []⟩
def dL__cut_row : He.DefD := ⟨("Ledger", some "_cut_row"), "_cut_row", "Ledger._cut_row", defArgs (inClass (top 17) 19), defBody (inClass (top 17) 19), defScope (inClass (top 17) 19), [], []⟩
def dL__check_fault_or_none : He.DefD := ⟨("Ledger", some "_check_fault_or_none"), "_check_fault_or_none", "Ledger._check_fault_or_none", defArgs (inClass (top 17) 21), defBody (inClass (top 17) 21), defScope (inClass (top 17) 21), [], []⟩
def dL__check_fault : He.DefD := ⟨("Ledger", some "_check_fault"), "_check_fault", "Ledger._check_fault", defArgs (inClass (top 17) 20), defBody (inClass (top 17) 20), defScope (inClass (top 17) 20), [], []⟩
def dL__check_text : He.DefD := ⟨("Ledger", some "_check_text"), "_check_text", "Ledger._check_text", defArgs (inClass (top 17) 22), defBody (inClass (top 17) 22), defScope (inClass (top 17) 22), [], []⟩
def dL__check_members : He.DefD := ⟨("Ledger", some "_check_members"), "_check_members", "Ledger._check_members", defArgs (inClass (top 17) 23), defBody (inClass (top 17) 23), defScope (inClass (top 17) 23), [], []⟩
def dL_like : He.DefD := ⟨("Ledger", some "like"), "like", "Ledger.like", defArgs (inClass (top 17) 3), defBody (inClass (top 17) 3), defScope (inClass (top 17) 3), [], []⟩
def dL_leaves : He.DefD := ⟨("Ledger", some "leaves"), "leaves", "Ledger.leaves", defArgs (inClass (top 17) 14), defBody (inClass (top 17) 14), defScope (inClass (top 17) 14), [], []⟩
def dL_led : He.DefD := ⟨("Ledger", some "led"), "led", "Ledger.led", defArgs (inClass (top 17) 15), defBody (inClass (top 17) 15), defScope (inClass (top 17) 15), [], []⟩
def dK_xinitx : He.DefD := ⟨("Kinds", some "__init__"), "__init__", "Kinds.__init__", defArgs (inClass (top 19) 0), defBody (inClass (top 19) 0), defScope (inClass (top 19) 0), [], []⟩
def dK_is_kind : He.DefD := ⟨("Kinds", some "is_kind"), "is_kind", "Kinds.is_kind", defArgs (inClass (top 19) 2), defBody (inClass (top 19) 2), defScope (inClass (top 19) 2), [], []⟩
def dK__check_new : He.DefD := ⟨("Kinds", some "_check_new"), "_check_new", "Kinds._check_new", defArgs (inClass (top 19) 6), defBody (inClass (top 19) 6), defScope (inClass (top 19) 6), [], []⟩
def fn : List He.DefD := [d_is_whole, d_is_text, d_is_name, d__law_pot, d__law_digit, d__law_text, d__law_name, d__law_fresh, d__law_pairs, d__law_kind, d__law_entries, d__law_ledger, d__law_risen, d__law_told, d__law_marked, d__law_odd_number, d__law_odd_text, d__law_odd_kind, d__law_members, d__law_odd_way, d__law_arguments, d__law_is_number, d__law_due_of_members, d__law_due, d__law_looked, d__law_called, d__law_word, d__law_refusal, d__law_bare_right, d__law_good_done, d_law, dL_xinitx, dL_plain, dL_sheaf, dL_many, dL_kind, dL_text, dL_members, dL_notes, dL_cause, dL_at_work, dL_note, dL_blame, dL_rise, dL__add, dL__cut_row, dL__check_fault_or_none, dL__check_fault, dL__check_text, dL__check_members, dL_like, dL_leaves, dL_led, dK_xinitx, dK_is_kind, dK__check_new]
def fa : List He.Fa := [.glo "is_whole", .glo "is_text", .glo "is_name", .glo "_law_pot", .glo "_law_digit", .glo "_law_text", .glo "_law_name", .glo "_law_fresh", .glo "_law_pairs", .glo "_law_kind", .glo "_law_entries", .glo "_law_ledger", .glo "_law_risen", .glo "_law_told", .glo "_law_marked", .glo "_law_odd_number", .glo "_law_odd_text", .glo "_law_odd_kind", .glo "_law_members", .glo "_law_odd_way", .glo "_law_arguments", .glo "_law_is_number", .glo "_law_due_of_members", .glo "_law_due", .glo "_law_looked", .glo "_law_called", .glo "_law_word", .glo "_law_refusal", .glo "_law_bare_right", .glo "_law_good_done", .glo "law", .glo "Ledger", .glo "Kinds", .free "isinstance", .free "int", .free "bool", .free "str", .free "len", .free "all", .free "max", .free "min", .free "range", .free "sum", .free "tuple", .free "list", .free "repr", .free "reversed", .free "ValueError", .cls "Ledger", .cls "Kinds", .mkr "Ledger", .mkr "Kinds", .noat "Ledger" "_kinds", .noat "Ledger" "_kind_of", .noat "Ledger" "_text_of", .noat "Ledger" "_members_of", .noat "Ledger" "_notes_of", .noat "Ledger" "_cause_of", .noat "Ledger" "_at_work_of", .noat "Kinds" "_above", .meth "Ledger" "plain", .meth "Ledger" "sheaf", .meth "Ledger" "many", .meth "Ledger" "kind", .meth "Ledger" "text", .meth "Ledger" "members", .meth "Ledger" "notes", .meth "Ledger" "cause", .meth "Ledger" "at_work", .meth "Ledger" "note", .meth "Ledger" "blame", .meth "Ledger" "rise", .meth "Ledger" "_add", .meth "Ledger" "_cut_row", .meth "Ledger" "_check_fault_or_none", .meth "Ledger" "_check_fault", .meth "Ledger" "_check_text", .meth "Ledger" "_check_members", .meth "Ledger" "like", .meth "Ledger" "leaves", .meth "Ledger" "led", .meth "Kinds" "is_kind", .meth "Kinds" "_check_new", .glo "FaultError", .glo "NoKind", .glo "NoText", .glo "NoFault", .glo "Empty", .glo "NoWay", .glo "NoBody", .glo "NoProgram", .glo "NoRow", .glo "NoTest", .exc "NoKind", .exc "NoText", .exc "NoFault", .exc "Empty", .exc "NoWay", .exm "NoKind" "FaultError" true, .exm "NoText" "FaultError" true, .exm "NoFault" "FaultError" true, .exm "Empty" "FaultError" true, .exm "NoWay" "FaultError" true]
def exB (K : PySem.W.Frag) : Bool := decide (PySem.W.specialIn K (.builtin "object.__class__") "__get__" = some (some (.builtin "getset_descriptor.__get__"))) && (decide (PySem.W.takesIn K (.builtin "object.__class__") = some true) && (decide (PySem.W.findIn K (.ref (He.ga K "NoKind")) "__getattribute__" = some (some (.builtin "BaseException.__getattribute__"))) && (decide (PySem.W.findIn K (.ref (He.ga K "NoKind")) "__getattr__" = some none) && (decide (PySem.W.subIn K (.ref (He.ga K "NoKind")) (.type "BaseException") = some true) && (PySem.W.hasDictIn K (He.ga K "NoKind") && (decide (PySem.W.findIn K (.ref (He.ga K "NoKind")) "__class__" = some (some (.builtin "object.__class__"))) && (decide (PySem.W.mroIn K (He.ga K "NoKind") (.type "object") = some true) && (decide (PySem.W.kitAny K (.ref (He.ga K "NoKind")) [.ref (He.ga K "NoBody"), .ref (He.ga K "NoProgram"), .ref (He.ga K "NoRow"), .ref (He.ga K "NoTest")] = some false) && (decide (PySem.W.kitOne K (.ref (He.ga K "NoKind")) (.type "ValueError") = some true) && (decide (PySem.W.kitOne K (.ref (He.ga K "NoKind")) (.ref (He.ga K "NoKind")) = some true) && (decide (PySem.W.kitOne K (.ref (He.ga K "NoKind")) (.ref (He.ga K "NoText")) = some false) && (decide (PySem.W.kitOne K (.ref (He.ga K "NoKind")) (.ref (He.ga K "NoFault")) = some false) && (decide (PySem.W.kitOne K (.ref (He.ga K "NoKind")) (.ref (He.ga K "Empty")) = some false) && (decide (PySem.W.kitOne K (.ref (He.ga K "NoKind")) (.ref (He.ga K "NoWay")) = some false) && (decide (PySem.W.findIn K (.ref (He.ga K "NoText")) "__getattribute__" = some (some (.builtin "BaseException.__getattribute__"))) && (decide (PySem.W.findIn K (.ref (He.ga K "NoText")) "__getattr__" = some none) && (decide (PySem.W.subIn K (.ref (He.ga K "NoText")) (.type "BaseException") = some true) && (PySem.W.hasDictIn K (He.ga K "NoText") && (decide (PySem.W.findIn K (.ref (He.ga K "NoText")) "__class__" = some (some (.builtin "object.__class__"))) && (decide (PySem.W.mroIn K (He.ga K "NoText") (.type "object") = some true) && (decide (PySem.W.kitAny K (.ref (He.ga K "NoText")) [.ref (He.ga K "NoBody"), .ref (He.ga K "NoProgram"), .ref (He.ga K "NoRow"), .ref (He.ga K "NoTest")] = some false) && (decide (PySem.W.kitOne K (.ref (He.ga K "NoText")) (.type "ValueError") = some true) && (decide (PySem.W.kitOne K (.ref (He.ga K "NoText")) (.ref (He.ga K "NoKind")) = some false) && (decide (PySem.W.kitOne K (.ref (He.ga K "NoText")) (.ref (He.ga K "NoText")) = some true) && (decide (PySem.W.kitOne K (.ref (He.ga K "NoText")) (.ref (He.ga K "NoFault")) = some false) && (decide (PySem.W.kitOne K (.ref (He.ga K "NoText")) (.ref (He.ga K "Empty")) = some false) && (decide (PySem.W.kitOne K (.ref (He.ga K "NoText")) (.ref (He.ga K "NoWay")) = some false) && (decide (PySem.W.findIn K (.ref (He.ga K "NoFault")) "__getattribute__" = some (some (.builtin "BaseException.__getattribute__"))) && (decide (PySem.W.findIn K (.ref (He.ga K "NoFault")) "__getattr__" = some none) && (decide (PySem.W.subIn K (.ref (He.ga K "NoFault")) (.type "BaseException") = some true) && (PySem.W.hasDictIn K (He.ga K "NoFault") && (decide (PySem.W.findIn K (.ref (He.ga K "NoFault")) "__class__" = some (some (.builtin "object.__class__"))) && (decide (PySem.W.mroIn K (He.ga K "NoFault") (.type "object") = some true) && (decide (PySem.W.kitAny K (.ref (He.ga K "NoFault")) [.ref (He.ga K "NoBody"), .ref (He.ga K "NoProgram"), .ref (He.ga K "NoRow"), .ref (He.ga K "NoTest")] = some false) && (decide (PySem.W.kitOne K (.ref (He.ga K "NoFault")) (.type "ValueError") = some true) && (decide (PySem.W.kitOne K (.ref (He.ga K "NoFault")) (.ref (He.ga K "NoKind")) = some false) && (decide (PySem.W.kitOne K (.ref (He.ga K "NoFault")) (.ref (He.ga K "NoText")) = some false) && (decide (PySem.W.kitOne K (.ref (He.ga K "NoFault")) (.ref (He.ga K "NoFault")) = some true) && (decide (PySem.W.kitOne K (.ref (He.ga K "NoFault")) (.ref (He.ga K "Empty")) = some false) && (decide (PySem.W.kitOne K (.ref (He.ga K "NoFault")) (.ref (He.ga K "NoWay")) = some false) && (decide (PySem.W.findIn K (.ref (He.ga K "Empty")) "__getattribute__" = some (some (.builtin "BaseException.__getattribute__"))) && (decide (PySem.W.findIn K (.ref (He.ga K "Empty")) "__getattr__" = some none) && (decide (PySem.W.subIn K (.ref (He.ga K "Empty")) (.type "BaseException") = some true) && (PySem.W.hasDictIn K (He.ga K "Empty") && (decide (PySem.W.findIn K (.ref (He.ga K "Empty")) "__class__" = some (some (.builtin "object.__class__"))) && (decide (PySem.W.mroIn K (He.ga K "Empty") (.type "object") = some true) && (decide (PySem.W.kitAny K (.ref (He.ga K "Empty")) [.ref (He.ga K "NoBody"), .ref (He.ga K "NoProgram"), .ref (He.ga K "NoRow"), .ref (He.ga K "NoTest")] = some false) && (decide (PySem.W.kitOne K (.ref (He.ga K "Empty")) (.type "ValueError") = some true) && (decide (PySem.W.kitOne K (.ref (He.ga K "Empty")) (.ref (He.ga K "NoKind")) = some false) && (decide (PySem.W.kitOne K (.ref (He.ga K "Empty")) (.ref (He.ga K "NoText")) = some false) && (decide (PySem.W.kitOne K (.ref (He.ga K "Empty")) (.ref (He.ga K "NoFault")) = some false) && (decide (PySem.W.kitOne K (.ref (He.ga K "Empty")) (.ref (He.ga K "Empty")) = some true) && (decide (PySem.W.kitOne K (.ref (He.ga K "Empty")) (.ref (He.ga K "NoWay")) = some false) && (decide (PySem.W.findIn K (.ref (He.ga K "NoWay")) "__getattribute__" = some (some (.builtin "BaseException.__getattribute__"))) && (decide (PySem.W.findIn K (.ref (He.ga K "NoWay")) "__getattr__" = some none) && (decide (PySem.W.subIn K (.ref (He.ga K "NoWay")) (.type "BaseException") = some true) && (PySem.W.hasDictIn K (He.ga K "NoWay") && (decide (PySem.W.findIn K (.ref (He.ga K "NoWay")) "__class__" = some (some (.builtin "object.__class__"))) && (decide (PySem.W.mroIn K (He.ga K "NoWay") (.type "object") = some true) && (decide (PySem.W.kitAny K (.ref (He.ga K "NoWay")) [.ref (He.ga K "NoBody"), .ref (He.ga K "NoProgram"), .ref (He.ga K "NoRow"), .ref (He.ga K "NoTest")] = some false) && (decide (PySem.W.kitOne K (.ref (He.ga K "NoWay")) (.type "ValueError") = some true) && (decide (PySem.W.kitOne K (.ref (He.ga K "NoWay")) (.ref (He.ga K "NoKind")) = some false) && (decide (PySem.W.kitOne K (.ref (He.ga K "NoWay")) (.ref (He.ga K "NoText")) = some false) && (decide (PySem.W.kitOne K (.ref (He.ga K "NoWay")) (.ref (He.ga K "NoFault")) = some false) && (decide (PySem.W.kitOne K (.ref (He.ga K "NoWay")) (.ref (He.ga K "Empty")) = some false) && (decide (PySem.W.kitOne K (.ref (He.ga K "NoWay")) (.ref (He.ga K "NoWay")) = some true)))))))))))))))))))))))))))))))))))))))))))))))))))))))))))))))))))
def tf : List He.Defn := [("is_name", none)]
abbrev R : PySem.W.OpenRow := PySem.W.OpenLaw.row PySem.Challenge.rw_faultsheaves_k15_refused_at_every_door
abbrev hk : PySem.W.Hook := He.hookX 6 fa fn [] tf exB
def ob (s : PySem.W.SharedT) : He.AlX := He.obsX 6 fa fn [] tf exB (HandSHeadRun.getT s)
theorem ob_eq (s : PySem.W.SharedT) : ob s = hk.obs s.abs := He.obsX_eq (HandSHeadRun.getT_eq s)
def loose : List Str := [("__name__" : Str), ("_wall" : Str), ("is_whole" : Str), ("is_text" : Str), ("is_name" : Str), ("FaultError" : Str), ("NoKind" : Str), ("NoText" : Str), ("NoFault" : Str), ("Empty" : Str), ("NoWay" : Str), ("NoTest" : Str), ("NoProgram" : Str), ("NoBody" : Str), ("NoRow" : Str), ("Ledger" : Str), ("Kinds" : Str), ("_law_pot" : Str), ("_law_digit" : Str), ("_law_text" : Str), ("_law_name" : Str), ("_law_fresh" : Str), ("_law_pairs" : Str), ("_law_kind" : Str), ("_law_entries" : Str), ("_law_ledger" : Str), ("_law_risen" : Str), ("_law_marked" : Str), ("_law_told" : Str), ("_law_odd_number" : Str), ("_law_odd_text" : Str), ("_law_odd_kind" : Str), ("_law_members" : Str), ("_law_odd_way" : Str), ("_law_arguments" : Str), ("_law_is_number" : Str), ("_law_due_of_members" : Str), ("_law_due" : Str), ("_law_looked" : Str), ("_law_called" : Str), ("_law_word" : Str), ("_law_refusal" : Str), ("_law_bare_right" : Str), ("_law_good_done" : Str)]
theorem run (w : World) : HandSHeadRun.RunEq R (PySem.W.view R.prog [48]) hk ob 6000 loose w := by
  intro os
  kernel_rfl
end Fs
/-! Names and texts by digits. -/
namespace Fs
open PySem L2 TL
abbrev sText : Stmt := top 23
abbrev sName : Stmt := top 24
abbrev nText : List Str := ["_law_pot_here", "_law_signs", "_law_size", "_law_k"]
abbrev nName : List Str := ["_law_pot_here", "_law_k"]
theorem scText : FnScope nText ["_law_pot_here"] (defScope sText) := ⟨rfl, rfl, rfl, by decide +kernel, rfl, by decide +kernel, by decide +kernel⟩
theorem scName : FnScope nName ["_law_pot_here"] (defScope sName) := ⟨rfl, rfl, rfl, by decide +kernel, rfl, by decide +kernel, by decide +kernel⟩
/-- a sign of a to z -/
def small (c : Nat) : Bool := decide (97 ≤ c) && decide (c ≤ 122)
/-- a text of one to eight small letters -/
def IsNm (z : Str) : Prop := 1 ≤ z.cps.toList.length ∧ z.cps.toList.length ≤ 8 ∧ ∀ c ∈ z.cps.toList, small c = true
/-- a text of at most forty signs, none of them beyond the first hundred and twenty-eight -/
def IsTx (z : Str) : Prop := z.cps.toList.length ≤ 40 ∧ ∀ c ∈ z.cps.toList, c < 128
/-- the pot alone is another -/
def spName : Sp := fun vs H Q _ => ∃ (p : Addr) (n : Nat), vs = [.ref p] ∧ PotAt H p n ∧ n < 2 ^ 39 ∧
  ∀ (z : Str) (H' : Hp), IsNm z → Keep [p] H H' → PotAt H' p (n + 9) → Q (.str z) H'
def spText : Sp := fun vs H Q _ => ∃ (p : Addr) (n : Nat), vs = [.ref p] ∧ PotAt H p n ∧ n < 2 ^ 39 ∧
  ∀ (z : Str) (H' : Hp), IsTx z → Keep [p] H H' → PotAt H' p (n + 43) → Q (.str z) H'
abbrev one (c : Nat) : Str := ⟨#[c]⟩
theorem tyes {σ : L2.St} {H : Hp} {A B : Hp → Prop} (h : A H) : tYes σ H fun b H3 => if b = true then A H3 else B H3 := by
  show if true = true then A H else B H
  exact iteT h
theorem joinL_ones : ∀ cs : List Nat, joinL [] (cs.map fun c => [c]) = cs
  | [] => rfl
  | [c] => rfl
  | c :: d :: r => by
    have ih := joinL_ones (d :: r)
    show [c] ++ ([] ++ joinL [] ((d :: r).map fun c => [c])) = c :: d :: r
    rw [ih]
    rfl
theorem tl_empty : tl (Str.ofString "") = [] := by decide +kernel
theorem join_ones (cs : List Nat) : (Txt.join (Str.ofString "") (cs.map one)).cps.toList = cs := by
  have h := tl_join (Str.ofString "") (cs.map one)
  rw [tl_empty, List.map_map] at h
  have e : (cs.map (tl ∘ one)) = cs.map fun c => [c] := List.map_congr_left fun c _ => rfl
  rw [e, joinL_ones] at h
  rw [join_eq]
  exact h
theorem sum_ones (cs : List Nat) : ((cs.map one).map (·.length)).sum = cs.length := by
  induction cs with
  | nil => rfl
  | cons c r ih =>
    rw [List.map_cons, List.map_cons, List.sum_cons, ih, List.length_cons]
    show 1 + r.length = r.length + 1
    omega
theorem one_map (cs : List Nat) : (cs.map one).map V.str = cs.map fun c => V.str (one c) := List.map_map ..
theorem digit_at {l : List Nat} {d : Int} (h0 : 0 ≤ d) (h1 : d < (l.length : Int)) : ∃ c, c ∈ l ∧ atI l d = some c := by
  have h2 : d.toNat < l.length := by omega
  refine ⟨l[d.toNat], List.getElem_mem h2, ?_⟩
  have e : ((d.toNat : Nat) : Int) = d := Int.toNat_of_nonneg h0
  have h3 := atI_nat (List.getElem?_eq_getElem h2)
  rw [e] at h3
  exact h3
theorem signs_turn {tz : TE} {σ2 : St} {H : Hp} {p D : Addr} {n : Nat} {z : Str} {m : Int} {acc : List V} {R : Hp → Prop} (hσ : σ2[0]? = some (some (.ref p))) (hz : ∀ (H : Hp) (Q : VK), Q (.str z) H → tz σ2 H Q)
    (hp : PotAt H p n) (hn : n < 2 ^ 40) (hm : m = (z.cps.toList.length : Int)) (hm0 : 0 < m) (hm1 : m < 1000) (hD : H D = some (.lst acc)) (ha : acc.length < sizeLine) (np : D ≠ p)
    (go : ∀ (c : Nat) (H' : Hp), c ∈ z.cps.toList → (∀ b, b ≠ p → H' b = H b) → PotAt H' p (n + 1) → R (upd H' D (.lst (acc ++ [.str (one c)])))) :
    tOp rIxS tz (tCall spDigit [] E0 (tCons (tVar 0) (tCons (tC (.int m)) tNil))) σ2 H fun y H4 => ∃ acc, H4 D = some (.lst acc) ∧ acc.length < sizeLine ∧ R (upd H4 D (.lst (acc ++ [y]))) := by
  refine hz H _ ⟨_, hσ, p, n, m, rfl, hp, hn, hm0, by omega, fun d H' d0 d1 hk hp' => ?_⟩
  obtain ⟨c, hc, he⟩ := digit_at (l := z.cps.toList) d0 (by omega)
  have hzl : z.length = z.cps.toList.length := by simp [Str.length]
  refine ⟨z, d, c, rfl, rfl, ?_, he, acc, by rw [hk D np]; exact hD, ha, go c H' hc hk hp'⟩
  exact Nat.le_of_lt (Nat.lt_of_lt_of_le (by omega : z.length < 1000) (by decide))
/-- the whole list of signs: an invariant for lc_range -/
def SgAt (H0 : Hp) (p D : Addr) (n : Nat) (g : Nat → Prop) (i : Nat) (H : Hp) : Prop :=
  ∃ cs : List Nat, cs.length = i ∧ (∀ c ∈ cs, g c) ∧ H D = some (.lst (cs.map fun c => V.str (one c))) ∧ PotAt H p (n + i) ∧ Keep [p] H0 H
theorem SgAt.start {H0 : Hp} {p D : Addr} {n : Nat} {g : Nat → Prop} (hp : PotAt H0 p n) (hD : H0 D = none) : SgAt H0 p D n g 0 (upd H0 D (.lst [])) := by
  obtain ⟨xs, e⟩ := hp.some
  have np : p ≠ D := ne_of_none e hD
  exact ⟨[], rfl, fun _ h => absurd h List.not_mem_nil, upd_same, hp.keep (ex := []) (Keep.new hD) (fun z => nomatch z), Keep.new hD⟩
theorem SgAt.next {H0 H H' : Hp} {p D : Addr} {n : Nat} {g : Nat → Prop} {i : Nat} {c : Nat} {cs : List Nat} (hD : H0 D = none) (np : D ≠ p) (hl : cs.length = i) (hg : ∀ c ∈ cs, g c) (k : Keep [p] H0 H) (hc : g c) (hk : ∀ b, b ≠ p → H' b = H b) (hp : PotAt H' p (n + i + 1)) :
    SgAt H0 p D n g (i + 1) (upd H' D (.lst ((cs.map fun c => V.str (one c)) ++ [.str (one c)]))) := by
  refine ⟨cs ++ [c], by rw [List.length_append, hl]; rfl, fun x hx => ?_, by rw [upd_same, List.map_append]; rfl, ?_, ?_⟩
  · rcases List.mem_append.mp hx with h | h
    · exact hg x h
    · rw [List.mem_singleton.mp h]
      exact hc
  · obtain ⟨a, b, c, h1, h2⟩ := hp
    exact ⟨a, b, c, by rw [upd_ne (Ne.symm np)]; exact h1, h2⟩
  · intro b o hb e
    have nb : b ≠ p := fun z => hb (by rw [z]; exact in1)
    rw [upd_ne (ne_of_none e hD), hk b nb]
    exact k b o hb e
section
variable {P : Program} {w : World} {K : PySem.W.Frag} {mg : Str → Option Value} {base : Heap}
theorem letters_small : ∀ c ∈ (Str.ofString "abcdefghijklmnopqrstuvwxyz").cps.toList, small c = true := by decide +kernel
theorem letters_len : (Str.ofString "abcdefghijklmnopqrstuvwxyz").cps.toList.length = 26 := by decide +kernel
theorem ok_name {f fD : Addr} {fd fdD : FuncData} (F : Fun K "_law_name" "_law_name" sName f fd) (FD : FnOk P w K mg base CX0 1 fD fdD ["_law_pot_here", "_law_many"] spDigit) (mD : mg "_law_digit" = some (.ref fD)) (kD : PySem.W.keepIn K (.ref fD) = true) (bD : Binds K fdD ["_law_pot_here", "_law_many"] []) (mR : mg "range" = none) :
    FnOk P w K mg base CX0 2 f fd ["_law_pot_here"] spName := by
  refine F.ok scName (fun vs H Q E h => ?_) (fun cdv A outer s H vs Q E hr h => ?_)
  · obtain ⟨p, n, rfl, _⟩ := h
    rfl
  · obtain ⟨p, n, rfl, hp, hn, kk⟩ := h
    refine ⟨_, pss_one (ps_ret (pe_join pe_str (pe_lc (own := [("_law_k", 1)]) (g := gName 1) (tt := tYes) rfl scName.nd
      (pi_range1 rfl mR (pa_cons (pe_op op_add pe_int (pe_call FD hr rfl mD kD bD .nil pass0 (pa_cons (pv 0) (pa_cons pe_int pa_nil)))) pa_nil))
      (blkOk_by (N := nName) (sc := defScope sName) (by decide +kernel)) (fun _ _ _ _ _ => pg_name (i := 1) scName.nd rfl (Or.inl rfl)) (fun _ _ _ _ _ => pts_nil)
      (fun _ _ _ _ _ => pe_ix ix_str pe_str (pe_call FD hr rfl mD kD bD .nil pass0 (pa_cons (pv 0) (pa_cons pe_int pa_nil))) (fun _ _ => rfl))))), ?_⟩
    refine ⟨⟨_, rfl⟩, _, rfl, p, n, 8, rfl, hp, by omega, by decide, by decide, fun d H1 d0 d1 hk hp1 => ?_⟩
    refine ⟨_, _, rfl, rfl, _, rfl, by omega, by omega, fun D hD => ?_⟩
    obtain ⟨xs, ep⟩ := hp1.some
    have np : D ≠ p := Ne.symm (ne_of_none ep hD)
    obtain ⟨m, hm⟩ : ∃ m : Nat, (1 + d : Int) = (m : Int) := ⟨(1 + d).toNat, by omega⟩
    have em : (1 + d : Int).toNat = m := by omega
    rw [em]
    refine lc_range (lo := 0) (n := m) (SgAt H1 p D (n + 1) fun c => small c = true) (SgAt.start hp1 hD) (fun i H2 hi hI => ?_) (fun H2 hI => ?_)
    · obtain ⟨cs, hl, hg, eD, hp2, k2⟩ := hI
      refine ⟨rfl, tyes ?_⟩
      refine signs_turn (z := Str.ofString "abcdefghijklmnopqrstuvwxyz") (n := n + 1 + i) rfl (fun _ _ q => q) hp2 (by omega) (by rw [letters_len]; rfl) (by decide) (by decide) eD ?_ np fun c H' hc hk' hp' => ?_
      · rw [List.length_map, hl]
        exact Nat.lt_of_lt_of_le (by omega : i < 1000) (by decide)
      · exact SgAt.next hD np hl hg k2 (letters_small c hc) hk' hp'
    · obtain ⟨cs, hl, hg, eD, hp2, k2⟩ := hI
      refine ⟨Str.ofString "", D, cs.map one, rfl, rfl, .inl (SqL.of (by rw [one_map]; exact eD)), ?_, ?_⟩
      · rw [sum_ones, List.length_map, show (Str.ofString "").length = 0 by decide +kernel]
        omega
      · refine kk _ _ ⟨?_, ?_, ?_⟩ (Keep.trans (fun b o hb e => by rw [hk b (fun z => hb (by rw [z]; exact in1))]; exact e) k2) (hp2.le (by omega))
        · rw [join_ones, hl]; omega
        · rw [join_ones, hl]; omega
        · rw [join_ones]; exact hg
theorem signs_ascii : ∀ c ∈ (Str.ofString " !\"#$&'()*+,-./0123456789:;<=>?@ABCDEFGHIJKLMNOPQRSTUVWXYZ[\\]^_`abcdefghijklmnopqrstuvwxyz{|}~").cps.toList, c < 128 := by decide +kernel
theorem signs_len : (Str.ofString " !\"#$&'()*+,-./0123456789:;<=>?@ABCDEFGHIJKLMNOPQRSTUVWXYZ[\\]^_`abcdefghijklmnopqrstuvwxyz{|}~").cps.toList.length = 94 := by decide +kernel
theorem ok_text {f fD : Addr} {fd fdD : FuncData} (F : Fun K "_law_text" "_law_text" sText f fd) (FD : FnOk P w K mg base CX0 1 fD fdD ["_law_pot_here", "_law_many"] spDigit) (mD : mg "_law_digit" = some (.ref fD)) (kD : PySem.W.keepIn K (.ref fD) = true) (bD : Binds K fdD ["_law_pot_here", "_law_many"] []) (mR : mg "range" = none) (mI : mg "int" = none) :
    FnOk P w K mg base CX0 2 f fd ["_law_pot_here"] spText := by
  refine F.ok scText (fun vs H Q E h => ?_) (fun cdv A outer s H vs Q E hr h => ?_)
  · obtain ⟨p, n, rfl, _⟩ := h
    rfl
  · obtain ⟨p, n, rfl, hp, hn, kk⟩ := h
    refine ⟨_, pss_cons (ps_set (i := 1) scText.nd rfl (Or.inr rfl) pe_str)
      (pss_cons (ps_set (i := 2) scText.nd rfl (Or.inl rfl) (pe_ix ix_list (pe_lst (pa_cons (pe_call FD hr rfl mD kD bD .nil pass0 (pa_cons (pv 0) (pa_cons pe_int pa_nil))) (pa_cons (pe_call FD hr rfl mD kD bD .nil pass0 (pa_cons (pv 0) (pa_cons pe_int pa_nil))) pa_nil)))
        (pe_callTy call_int1 (by rfl) mI (by decide +kernel) (pa_cons (pe_cmpR op_eq (pe_call FD hr rfl mD kD bD .nil pass0 (pa_cons (pv 0) (pa_cons pe_int pa_nil))) pe_int (nomark _)) pa_nil)) (fun _ _ => rfl)))
      (pss_one (ps_ret (pe_join pe_str (pe_lc (own := [("_law_k", 3)]) (g := gName 3) (tt := tYes) rfl scText.nd
      (pi_range1 rfl mR (pa_cons (pv 2) pa_nil))
      (blkOk_by (N := nText) (sc := defScope sText) (by decide +kernel)) (fun _ _ _ _ _ => pg_name (i := 3) scText.nd rfl (Or.inl rfl)) (fun _ _ _ _ _ => pts_nil)
      (fun _ _ _ _ _ => pe_ix ix_str (pv 1) (pe_call FD hr rfl mD kD bD .nil pass0 (pa_cons (pv 0) (pa_cons pe_int pa_nil))) (fun _ _ => rfl))))))), ?_⟩
    refine ⟨_, rfl, p, n, 4, rfl, hp, by omega, by decide, by decide, fun d1 H1 a0 a1 hk1 hp1 => ?_⟩
    refine ⟨_, rfl, p, n + 1, 41, rfl, hp1, by omega, by decide, by decide, fun d2 H2 b0 b1 hk2 hp2 => ?_⟩
    refine ⟨(by show 2 ≤ sizeLine; decide), fun L hL => ?_⟩
    obtain ⟨xs2, ep2⟩ := hp2.some
    have npL : p ≠ L := ne_of_none ep2 hL
    refine ⟨_, rfl, p, n + 2, 5, rfl, hp2.keep (ex := []) (Keep.new hL) nin0, by omega, by decide, by decide, fun d3 H3 c0 c1 hk3 hp3 => ?_⟩
    have eL : H3 L = some (.lst [.int d1, .int d2]) := by rw [hk3 L npL.symm, upd_same]
    have k3 : Keep [p] H H3 := fun b o hb e => by
      have nb : b ≠ p := fun z => hb (by rw [z]; exact in1)
      have e1 : H1 b = some o := by rw [hk1 b nb]; exact e
      have e2 : H2 b = some o := by rw [hk2 b nb]; exact e1
      rw [hk3 b nb, upd_ne (ne_of_none e2 hL)]
      exact e2
    refine ⟨rfl, ?_⟩
    have fin : ∀ d : Int, 0 ≤ d → d ≤ 40 → tRet (tM1 (fun x xs H Q => ∃ a p, ∃ ys : List Str, x = .str a ∧ xs = [.ref p] ∧ (SqL K H p (ys.map V.str) ∨ SqT K H p (ys.map V.str)) ∧ (ys.map (·.length)).sum + ys.length * a.length ≤ 16777216 ∧ Q (.str (Txt.join a ys)) H) (tC (.str (Str.ofString "")))
        (tLc (iRng1 (tCons (tVar 2) tNil)) (gName 3) tYes (tOp rIxS (tVar 1) (tCall spDigit [] E0 (tCons (tVar 0) (tCons (tC (.int 94)) tNil)))) [3])) { nx := fun _ H' => Q .non H', rt := Q } [some (.ref p), some (.str (Str.ofString " !\"#$&'()*+,-./0123456789:;<=>?@ABCDEFGHIJKLMNOPQRSTUVWXYZ[\\]^_`abcdefghijklmnopqrstuvwxyz{|}~")), some (.int d), none] H3 := by
      intro d e0 e1
      refine ⟨⟨_, rfl⟩, _, rfl, _, rfl, by omega, by omega, fun D hD => ?_⟩
      obtain ⟨xs, ep⟩ := hp3.some
      have np : D ≠ p := Ne.symm (ne_of_none ep hD)
      obtain ⟨m, rfl⟩ : ∃ m : Nat, d = (m : Int) := ⟨d.toNat, by omega⟩
      rw [Int.toNat_natCast]
      refine lc_range (lo := 0) (n := m) (SgAt H3 p D (n + 3) fun c => c < 128) (SgAt.start hp3 hD) (fun i H4 hi hI => ?_) (fun H4 hI => ?_)
      · obtain ⟨cs, hl, hg, eD, hp4, k4⟩ := hI
        refine ⟨rfl, tyes ?_⟩
        refine signs_turn (z := Str.ofString " !\"#$&'()*+,-./0123456789:;<=>?@ABCDEFGHIJKLMNOPQRSTUVWXYZ[\\]^_`abcdefghijklmnopqrstuvwxyz{|}~") (n := n + 3 + i) rfl (fun _ _ q => ⟨_, rfl, q⟩) hp4 (by omega) (by rw [signs_len]; rfl) (by decide) (by decide) eD ?_ np fun c H' hc hk' hp' => ?_
        · rw [List.length_map, hl]
          exact Nat.lt_of_lt_of_le (by omega : i < 1000) (by decide)
        · exact SgAt.next hD np hl hg k4 (signs_ascii c hc) hk' hp'
      · obtain ⟨cs, hl, hg, eD, hp4, k4⟩ := hI
        refine ⟨Str.ofString "", D, cs.map one, rfl, rfl, .inl (SqL.of (by rw [one_map]; exact eD)), ?_, ?_⟩
        · rw [sum_ones, List.length_map, show (Str.ofString "").length = 0 by decide +kernel]
          omega
        · refine kk _ _ ⟨?_, ?_⟩ (k3.trans k4) (hp4.le (by omega))
          · rw [join_ones, hl]; omega
          · rw [join_ones]; exact hg
    by_cases hz : V.int d3 = V.int 0
    · refine .inr ⟨_, rfl, ?_⟩
      rw [decide_eq_true hz]
      exact ⟨L, _, _, _, rfl, rfl, SqL.of eL, rfl, fin d2 b0 (by omega)⟩
    · refine .inr ⟨_, rfl, ?_⟩
      rw [decide_eq_false hz]
      exact ⟨L, _, _, _, rfl, rfl, SqL.of eL, rfl, fin d1 a0 (by omega)⟩
end
end Fs
/-! A name that isn't taken. -/
namespace Fs
open PySem L2 TL
abbrev sFresh : Stmt := top 25
abbrev nFresh : List Str := ["_law_pot_here", "_law_taken", "_law_name_here", "_law_letters", "_law_k"]
theorem scFresh : FnScope nFresh ["_law_pot_here", "_law_taken"] (defScope sFresh) := ⟨rfl, rfl, rfl, by decide +kernel, rfl, by decide +kernel, by decide +kernel⟩
def cand (j : Nat) : Str := ⟨#[122, 97 + j / 26, 97 + j % 26]⟩
theorem cand_nm {j : Nat} (h : j < 260) : IsNm (cand j) := by
  refine ⟨by show 1 ≤ 3; decide, by show 3 ≤ 8; decide, fun c hc => ?_⟩
  have h1 : c = 122 ∨ c = 97 + j / 26 ∨ c = 97 + j % 26 := by
    have z : c ∈ [122, 97 + j / 26, 97 + j % 26] := hc
    simpa using z
  unfold small
  simp only [Bool.and_eq_true, decide_eq_true_eq]
  omega
theorem cand_inj {i j : Nat} (e : cand i = cand j) : i = j := by
  have h : [122, 97 + i / 26, 97 + i % 26] = [122, 97 + j / 26, 97 + j % 26] := congrArg (fun s : Str => s.cps.toList) e
  simp at h
  omega
theorem len_le_of_sub {α : Type} [DecidableEq α] : ∀ {l ts : List α}, l.Nodup → (∀ x ∈ l, x ∈ ts) → l.length ≤ ts.length
  | [], _, _, _ => Nat.zero_le _
  | x :: l, ts, nd, h => by
    have hx := h x List.mem_cons_self
    obtain ⟨h1, h2⟩ := List.nodup_cons.mp nd
    have ih := len_le_of_sub (ts := ts.erase x) h2 fun y hy => by
      have ne : y ≠ x := fun z => h1 (by rw [← z]; exact hy)
      exact (List.mem_erase_of_ne ne).mpr (h y (List.mem_cons_of_mem _ hy))
    rw [List.length_erase_of_mem hx] at ih
    have hp : 0 < ts.length := List.length_pos_iff.mpr (fun z => by rw [z] at hx; cases hx)
    show l.length + 1 ≤ ts.length
    omega
theorem cand_left {ts : List Str} (h : ts.length ≤ 100) : ¬ ∀ j, j < 260 → cand j ∈ ts := fun q => by
  have nd : ((List.range 260).map cand).Nodup := by
    refine List.Pairwise.map (R := fun a b => a ≠ b) cand (fun a b hab e => hab (cand_inj e)) List.nodup_range
  have z := len_le_of_sub nd (ts := ts) fun x hx => by
    obtain ⟨j, hj, e⟩ := List.mem_map.mp hx
    rw [← e]
    exact q j (List.mem_range.mp hj)
  rw [List.length_map, List.length_range] at z
  omega
theorem eqV_str (a b : Str) : eqV (.str a) (.str b) = decide (a = b) := by
  by_cases h : a = b
  · rw [decide_eq_true h, h]; simp [eqV]
  · rw [decide_eq_false h]; simp [eqV, h]
theorem inV_strs (z : Str) (ts : List Str) : inV (.str z) (ts.map V.str) = decide (z ∈ ts) := by
  unfold inV
  induction ts with
  | nil => simp
  | cons t r ih =>
    rw [List.map_cons, List.any_cons, ih, eqV_str]
    by_cases h1 : t = z
    · simp [h1]
    · have h2 : ¬ z = t := fun e => h1 e.symm
      simp [h1, h2]
theorem flat_strs (ts : List Str) : (ts.map V.str).all flatV = true := by
  rw [List.all_eq_true]
  intro x hx
  obtain ⟨t, _, e⟩ := List.mem_map.mp hx
  rw [← e]
  rfl
/-- the pot and a list of texts: a name that is none of them -/
def spFresh (K : PySem.W.Frag) : Sp := fun vs H Q _ => ∃ (p t : Addr) (n : Nat) (ts : List Str), vs = [.ref p, .ref t] ∧ PotAt H p n ∧ n < 2 ^ 38 ∧ H t = some (.lst (ts.map V.str)) ∧ t ≠ p ∧ ts.length ≤ 100 ∧
  ∀ (z : Str) (H' : Hp), IsNm z → z ∉ ts → Keep [p] H H' → PotAt H' p (n + 9) → Q (.str z) H'
theorem letter_at {i : Nat} (h : i < 26) : (Str.ofString "abcdefghijklmnopqrstuvwxyz").cps.toList[i]? = some (97 + i) := by
  have q : ∀ i, i < 26 → (Str.ofString "abcdefghijklmnopqrstuvwxyz").cps.toList[i]? = some (97 + i) := by decide +kernel
  exact q i h
theorem cand_eq (j : Nat) : ((Str.ofString "z" ++ one (97 + j / 26)) ++ one (97 + j % 26) : Str) = cand j := by
  have h : (Str.ofString "z") = ⟨#[122]⟩ := by decide +kernel
  rw [h]
  rfl
section
variable {P : Program} {w : World} {K : PySem.W.Frag} {mg : Str → Option Value} {base : Heap}
theorem ok_fresh {f fN : Addr} {fd fdN : FuncData} (F : Fun K "_law_fresh" "_law_fresh" sFresh f fd) (FN : FnOk P w K mg base CX0 2 fN fdN ["_law_pot_here"] spName) (mN : mg "_law_name" = some (.ref fN)) (kN : PySem.W.keepIn K (.ref fN) = true) (bN : Binds K fdN ["_law_pot_here"] []) (mR : mg "range" = none) :
    FnOk P w K mg base CX0 3 f fd ["_law_pot_here", "_law_taken"] (spFresh K) := by
  refine F.ok scFresh (fun vs H Q E h => ?_) (fun cdv A outer s H vs Q E hr h => ?_)
  · obtain ⟨p, t, n, ts, rfl, _⟩ := h
    rfl
  · obtain ⟨p, t, n, ts, rfl, hp, hn, ht, ntp, hl, kk⟩ := h
    refine ⟨_, pss_cons (ps_set (i := 2) scFresh.nd rfl (Or.inl rfl) (pe_call FN hr rfl mN kN bN .nil pass0 (pa_cons (pv 0) pa_nil)))
      (pss_cons (ps_set (i := 3) scFresh.nd rfl (Or.inl rfl) pe_str)
      (pss_cons (ps_for PassesOwn.never rfl (pi_range1 rfl mR (pa_cons pe_int pa_nil)) (pg_name (i := 4) scFresh.nd rfl (Or.inl rfl))
        (pss_one (ps_if (pt_cmpR op_in_seq (pv 2) (pv 1) rfl) (pss_one (ps_set (i := 2) scFresh.nd rfl (Or.inl rfl) (pe_op op_add_str (pe_op op_add_str pe_str (pe_ix ix_str (pv 3) (pe_op op_fdiv (pv 4) pe_int) (fun _ _ => rfl))) (pe_ix ix_str (pv 3) (pe_op op_mod (pv 4) pe_int) (fun _ _ => rfl))))) pss_nil)))
      (pss_one (ps_ret (pv 2))))), ?_⟩
    refine ⟨_, rfl, p, n, rfl, hp, by omega, fun z0 H1 hz0 k1 hp1 => ?_⟩
    have ht1 : H1 t = some (.lst (ts.map V.str)) := k1.at ht (nin1 ntp)
    refine ⟨260, rfl, by decide, by decide, for_range (lo := 0) (n := 260) (fun i σ H' => H' = H1 ∧ ∃ (z : Str) (kv : Option V), σ = [some (.ref p), some (.ref t), some (.str z), some (.str (Str.ofString "abcdefghijklmnopqrstuvwxyz")), kv] ∧ IsNm z ∧ (z ∉ ts ∨ ∀ j, j < i → cand j ∈ ts)) ⟨rfl, z0, none, rfl, hz0, .inr fun j hj => absurd hj (Nat.not_lt_zero j)⟩ ?_ ?_⟩
    · rintro i σ H' hi ⟨rfl, z, kv, rfl, hz, hc⟩
      refine ⟨_, rfl, _, rfl, t, _, rfl, .inl (SqL.of ht1), rfl, flat_strs ts, _, rfl, ?_⟩
      rw [inV_strs]
      refine ite2 (fun hd => ?_) (fun hd => ?_)
      · have hin : z ∈ ts := of_decide_eq_true hd
        have hall : ∀ j, j < i → cand j ∈ ts := hc.resolve_left (fun q => q hin)
        have e0 : (0 + (i : Int)) = (i : Int) := Int.zero_add _
        have q1 : ((i : Int) / 26) = ((i / 26 : Nat) : Int) := rfl
        have q2 : ((i : Int) % 26) = ((i % 26 : Nat) : Int) := rfl
        have zl : (Str.ofString "abcdefghijklmnopqrstuvwxyz").length ≤ sizeLine := by decide +kernel
        refine ⟨_, rfl, _, rfl, _, _, rfl, rfl, ⟨by decide, by decide⟩, Str.ofString "abcdefghijklmnopqrstuvwxyz", _, 97 + i / 26, rfl, rfl, zl, ?_, _, _, rfl, rfl, ?_, ?_⟩
        · rw [e0, q1]
          exact atI_nat (letter_at (by omega))
        · show 1 + 1 ≤ sizeLine
          decide
        refine ⟨_, rfl, _, rfl, _, _, rfl, rfl, (by show (0 : Int) < 26; decide), Str.ofString "abcdefghijklmnopqrstuvwxyz", _, 97 + i % 26, rfl, rfl, zl, ?_, _, _, rfl, rfl, ?_, ?_⟩
        · rw [e0, q2]
          exact atI_nat (letter_at (by omega))
        · show 2 + 1 ≤ sizeLine
          decide
        refine ⟨rfl, cand i, some (.int (0 + (i : Int))), ?_, cand_nm hi, ?_⟩
        · rw [cand_eq]
          rfl
        · by_cases hci : cand i ∈ ts
          · refine .inr fun j hj => ?_
            by_cases hji : j = i
            · rw [hji]; exact hci
            · exact hall j (by omega)
          · exact .inl hci
      · have hin : z ∉ ts := fun q => hd (decide_eq_true q)
        exact ⟨rfl, z, _, rfl, hz, .inl hin⟩
    · rintro σ H' ⟨rfl, z, kv, rfl, hz, hc⟩
      exact ⟨_, rfl, kk z _ hz (hc.resolve_right (cand_left hl)) k1 hp1⟩
end
end Fs
/-! The pairs of kinds. -/
namespace Fs
open PySem L2 TL
abbrev sPairs : Stmt := top 26
abbrev sKindL : Stmt := top 27
abbrev nPairs : List Str := ["_law_pot_here", "_law_pairs_here", "_law_k", "_law_aboves", "_law_name_here", "_law_above"]
abbrev nKindL : List Str := ["_law_pot_here", "_law_pairs_here", "_law_name_here", "_law_above"]
theorem scPairs : FnScope nPairs ["_law_pot_here"] (defScope sPairs) := ⟨rfl, rfl, rfl, by decide +kernel, rfl, by decide +kernel, by decide +kernel⟩
theorem scKindL : FnScope nKindL ["_law_pot_here", "_law_pairs_here"] (defScope sKindL) := ⟨rfl, rfl, rfl, by decide +kernel, rfl, by decide +kernel, by decide +kernel⟩
abbrev sF : Str := Str.ofString "fault"
abbrev sS : Str := Str.ofString "sheaf"
/-- kinds as they are told, one behind another -/
inductive Wf : List (Str × Str) → Prop where
  | nil : Wf []
  | snoc {ps : List (Str × Str)} {z y : Str} : Wf ps → IsNm z → z ∉ sS :: sF :: ps.map Prod.fst → y ∈ sF :: ps.map Prod.fst → Wf (ps ++ [(z, y)])
/-- a tuple a pair -/
def TupsAt (H : Hp) : List Addr → List (Str × Str) → Prop
  | [], [] => True
  | a :: as, q :: ps => H a = some (.tup [.str q.1, .str q.2]) ∧ TupsAt H as ps
  | _, _ => False
theorem TupsAt.len {H : Hp} : ∀ {as : List Addr} {ps : List (Str × Str)}, TupsAt H as ps → as.length = ps.length
  | [], [], _ => rfl
  | _ :: as, _ :: ps, h => by rw [List.length_cons, List.length_cons, TupsAt.len h.2]
  | [], _ :: _, h => h.elim
  | _ :: _, [], h => h.elim
theorem TupsAt.map {H H' : Hp} (k : ∀ a xs, H a = some (.tup xs) → H' a = some (.tup xs)) : ∀ {as : List Addr} {ps : List (Str × Str)}, TupsAt H as ps → TupsAt H' as ps
  | [], [], _ => True.intro
  | _ :: as, _ :: ps, h => ⟨k _ _ h.1, TupsAt.map k h.2⟩
  | [], _ :: _, h => h.elim
  | _ :: _, [], h => h.elim
theorem TupsAt.snoc {H : Hp} {b : Addr} {q : Str × Str} (hb : H b = some (.tup [.str q.1, .str q.2])) : ∀ {as : List Addr} {ps : List (Str × Str)}, TupsAt H as ps → TupsAt H (as ++ [b]) (ps ++ [q])
  | [], [], _ => ⟨hb, True.intro⟩
  | _ :: as, _ :: ps, h => ⟨h.1, TupsAt.snoc hb h.2⟩
  | [], _ :: _, h => h.elim
  | _ :: _, [], h => h.elim
theorem TupsAt.at {H : Hp} : ∀ {as : List Addr} {ps : List (Str × Str)} {i : Nat} {a : Addr}, TupsAt H as ps → as[i]? = some a → ∃ q, ps[i]? = some q ∧ H a = some (.tup [.str q.1, .str q.2])
  | [], _, _, _, _, e => by simp at e
  | _ :: _, [], _, _, h, _ => h.elim
  | b :: as, q :: ps, 0, a, h, e => by
    have e' : b = a := by simpa using e
    subst e'
    exact ⟨q, rfl, h.1⟩
  | b :: as, q :: ps, i + 1, a, h, e => TupsAt.at (i := i) h.2 (by simpa using e)
/-- a list of pairs -/
def PairsAt (H : Hp) (l : Addr) (ps : List (Str × Str)) : Prop := ∃ as : List Addr, H l = some (.lst (as.map V.ref)) ∧ TupsAt H as ps
theorem Keep.tup {ex : List Addr} {H H' : Hp} (k : Keep ex H H') (hx : ∀ b ∈ ex, ∃ o, H b = some o ∧ ∀ xs, o ≠ .tup xs) {a : Addr} {xs : List V} (h : H a = some (.tup xs)) : H' a = some (.tup xs) :=
  k.at h fun z => by
    obtain ⟨o, e, n⟩ := hx a z
    rw [h] at e
    exact n xs (Option.some.inj e).symm
theorem lst_ex {H : Hp} {p : Addr} {xs : List V} (h : H p = some (.lst xs)) : ∀ b ∈ [p], ∃ o, H b = some o ∧ ∀ xs, o ≠ .tup xs := fun b hb => by
  rw [List.mem_singleton.mp hb]
  exact ⟨_, h, fun _ z => nomatch z⟩
theorem PairsAt.keep {ex : List Addr} {H H' : Hp} {l : Addr} {ps : List (Str × Str)} (h : PairsAt H l ps) (k : Keep ex H H') (hl : l ∉ ex) (hx : ∀ b ∈ ex, ∃ o, H b = some o ∧ ∀ xs, o ≠ .tup xs) : PairsAt H' l ps := by
  obtain ⟨as, e, t⟩ := h
  exact ⟨as, k.at e hl, t.map fun a xs q => k.tup hx q⟩
theorem PairsAt.some {H : Hp} {l : Addr} {ps : List (Str × Str)} (h : PairsAt H l ps) : ∃ xs, H l = some (.lst xs) := by
  obtain ⟨as, e, _⟩ := h
  exact ⟨_, e⟩
/-- [name for name, above in pairs]: slots i, j -/
theorem names_run {K : PySem.W.Frag} {l D : Addr} {ps : List (Str × Str)} {i j : Nat} {σ : L2.St} {H1 : Hp} {Qd : Hp → Prop} (h : PairsAt H1 l ps) (hD : H1 D = none) (hlen : ps.length ≤ 1000)
    (hw : ∀ v u, wipe (((wipe σ [i, j]).set i (some v)).set j (some u)) [i, j] = wipe σ [i, j]) (hv : ∀ v u, (((wipe σ [i, j]).set i (some v)).set j (some u))[i]? = some (some v))
    (hq : ∀ H, H D = some (.lst ((ps.map Prod.fst).map V.str)) → Keep [] H1 H → Qd H) :
    ∃ W : Nat → Nat → Hp → Prop, (∃ m, W 0 m (upd H1 D (.lst []))) ∧ ∀ k m H, W k m H →
      ((Itl K l).stop k H ∧ Qd H) ∨ ((Itl K l).go k H ∧ ∃ Nx : Hp → Prop, (∀ H', Nx H' → ∃ m', m' < m ∧ W (k + 1) m' H') ∧ ∀ x H', (Itl K l).yld k H x H' → gTup K 2 (gCons (gName i) (gCons (gName j) gNil)) x (wipe σ [i, j]) H' fun σ2 H2 => wipe σ2 [i, j] = wipe σ [i, j] ∧ tYes σ2 H2 fun b H3 =>
        if b = true then tVar i σ2 H3 fun y H4 => ∃ acc, H4 D = some (.lst acc) ∧ acc.length < sizeLine ∧ Nx (upd H4 D (.lst (acc ++ [y]))) else Nx H3) := by
  obtain ⟨as, e, t⟩ := h
  have hl := t.len
  refine lc_list (K := K) (a := l) (xs := as.map V.ref) (fun k H => H D = some (.lst (((ps.take k).map Prod.fst).map V.str)) ∧ Keep [] H1 H) ⟨upd_same, Keep.new hD⟩ (fun k H _ hI => SqL.of (hI.2.at e nin0)) (fun k x H hx hI => ?_) (fun H hI => ?_)
  · obtain ⟨a, ha, rfl⟩ : ∃ a, as[k]? = some a ∧ x = V.ref a := by
      rw [List.getElem?_map] at hx
      cases q : as[k]? with
      | none => rw [q] at hx; cases hx
      | some a => rw [q] at hx; exact ⟨a, rfl, (Option.some.inj hx).symm⟩
    obtain ⟨q, hq2, hta⟩ := t.at ha
    have hk : k < ps.length := (List.getElem?_eq_some_iff.mp hq2).1
    refine ⟨a, _, rfl, SqT.of (hI.2.at hta nin0), rfl, _, _, rfl, _, _, rfl, rfl, hw _ _, tyes ?_⟩
    refine ⟨_, hv _ _, _, hI.1, ?_, ?_, fun b o hb ho => ?_⟩
    · rw [List.length_map, List.length_map, List.length_take]
      exact Nat.lt_of_le_of_lt (by omega : min k ps.length ≤ 1000) (by decide)
    · rw [upd_same, List.take_add_one, hq2, List.map_append, List.map_append]
      rfl
    · rw [upd_ne (ne_of_none ho hD)]
      exact hI.2 b o hb ho
  · rw [List.length_map, hl, List.take_length] at hI
    exact hq H hI.1 hI.2
theorem Keep.freshTo {ex : List Addr} {H H1 : Hp} {p : Addr} {o : HO} (a : Keep ex H H1) (h : H p = none) : Keep ex H (upd H1 p o) := fun b u n q => by
  rw [upd_ne (ne_of_none q h)]
  exact a b u n q
def spPairs : Sp := fun vs H Q _ => ∃ (p : Addr) (n : Nat), vs = [.ref p] ∧ PotAt H p n ∧ n < 2 ^ 30 ∧
  ∀ (l : Addr) (ps : List (Str × Str)) (H' : Hp), H l = none → Wf ps → ps.length ≤ 8 → PairsAt H' l ps → Keep [p] H H' → PotAt H' p (n + 100) → Q (.ref l) H'
/-- one of the kinds, not sheaf -/
def spKindL : Sp := fun vs H Q _ => ∃ (p l : Addr) (n : Nat) (ps : List (Str × Str)), vs = [.ref p, .ref l] ∧ PotAt H p n ∧ n < 2 ^ 30 ∧ PairsAt H l ps ∧ l ≠ p ∧ ps.length ≤ 1000 ∧
  ∀ (z : Str) (H' : Hp), z ∈ sF :: ps.map Prod.fst → Keep [p] H H' → PotAt H' p (n + 1) → Q (.str z) H'
theorem digit_in {α : Type} {l : List α} {d : Int} (h0 : 0 ≤ d) (h1 : d < (l.length : Int)) : ∃ c, c ∈ l ∧ l[d.toNat]? = some c ∧ ((d.toNat : Nat) : Int) = d := by
  have h2 : d.toNat < l.length := by omega
  exact ⟨l[d.toNat], List.getElem_mem h2, List.getElem?_eq_getElem h2, Int.toNat_of_nonneg h0⟩
theorem keep_of_dig {p : Addr} {H H' : Hp} (h : ∀ b, b ≠ p → H' b = H b) : Keep [p] H H' := fun b o hb e => by
  rw [h b (fun z => hb (by rw [z]; exact in1))]
  exact e
section
variable {P : Program} {w : World} {K : PySem.W.Frag} {mg : Str → Option Value} {base : Heap}
theorem ok_kindL {f fD : Addr} {fd fdD : FuncData} (F : Fun K "_law_kind" "_law_kind" sKindL f fd) (FD : FnOk P w K mg base CX0 1 fD fdD ["_law_pot_here", "_law_many"] spDigit) (mD : mg "_law_digit" = some (.ref fD)) (kD : PySem.W.keepIn K (.ref fD) = true) (bD : Binds K fdD ["_law_pot_here", "_law_many"] []) (mL : mg "len" = none) :
    FnOk P w K mg base CX0 2 f fd ["_law_pot_here", "_law_pairs_here"] spKindL := by
  refine F.ok scKindL (fun vs H Q E h => ?_) (fun cdv A outer s H vs Q E hr h => ?_)
  · obtain ⟨p, l, n, ps, rfl, _⟩ := h
    rfl
  · obtain ⟨p, l, n, ps, rfl, hp, hn, hl, nlp, hlen, kk⟩ := h
    refine ⟨_, pss_one (ps_ret (pe_ix ix_list (pe_op op_cat (pe_lst (pa_cons pe_str pa_nil)) (pe_lc (own := [("_law_name_here", 2), ("_law_above", 3)]) (g := gTup K 2 (gCons (gName 2) (gCons (gName 3) gNil))) (tt := tYes) rfl scKindL.nd (pi_list (pv 1))
        (blkOk_by (N := nKindL) (sc := defScope sKindL) (by decide +kernel)) (fun _ _ _ _ _ => by exact (pg_tup rfl (pgs_cons (pg_name (i := 2) scKindL.nd rfl (Or.inl rfl)) (pgs_cons (pg_name (i := 3) scKindL.nd rfl (Or.inl rfl)) pgs_nil)))) (fun _ _ _ _ _ => pts_nil) (fun _ _ _ _ _ => pv 2)))
      (pe_call FD hr rfl mD kD bD .nil pass0 (pa_cons (pv 0) (pa_cons (pe_op op_add (pe_callB call_len_seq (by rfl) mL PySem.boot_len (pa_cons (pv 1) pa_nil)) pe_int) pa_nil))) (fun _ _ => rfl))), ?_⟩
    refine ⟨(by show 1 ≤ sizeLine; decide), fun a ha => ?_⟩
    have h1 : PairsAt (upd H a (.lst [.str sF])) l ps := hl.keep (ex := []) (Keep.new ha) nin0 (fun _ z => absurd z nin0)
    obtain ⟨xs, el⟩ := h1.some
    refine ⟨_, rfl, l, rfl, ⟨_, SqL.of el⟩, fun D hD => ?_⟩
    refine names_run (K := K) (i := 2) (j := 3) (σ := L2.start nKindL [V.ref p, V.ref l]) h1 hD hlen (fun _ _ => rfl) (fun _ _ => rfl) fun H2 e2 k2 => ?_
    have ea : H2 a = some (.lst [.str sF]) := k2.at upd_same nin0
    refine ⟨a, D, _, _, rfl, rfl, ea, e2, ?_, fun b hb => ?_⟩
    · show ([V.str sF] : List V).length + _ ≤ sizeLine
      rw [List.length_map, List.length_map]
      exact Nat.le_trans (Nat.add_le_add_left hlen 1) (by decide)
    have k3 : Keep [] H (upd H2 b (.lst ([V.str sF] ++ (ps.map Prod.fst).map V.str))) := ((Keep.new ha).trans k2).newTo hb
    have hp3 := hp.keep k3 nin0
    obtain ⟨as, e3, t3⟩ := hl.keep k3 nin0 (fun _ z => absurd z nin0)
    refine ⟨_, rfl, _, rfl, l, _, rfl, .inl (SqL.of e3), _, _, rfl, rfl, p, n, _, rfl, hp3, by omega, ?_, ?_, fun d H4 d0 d1 hk hp4 => ?_⟩
    · omega
    · rw [List.length_map, t3.len]; omega
    · rw [List.length_map, t3.len] at d1
      have eb : H4 b = some (.lst (([sF] ++ ps.map Prod.fst).map V.str)) := by
        obtain ⟨ys, ep⟩ := hp.some
        have nbp : p ≠ b := Keep.ne ((Keep.new ha).trans k2) ep nin0 hb
        rw [hk b nbp.symm, upd_same]
        rfl
      obtain ⟨c, hc, hc2, hc3⟩ := digit_in (l := [sF] ++ ps.map Prod.fst) d0 (by rw [List.length_append, List.length_map, List.length_singleton]; omega)
      refine ⟨b, _, d, .str c, rfl, rfl, SqL.of eb, ?_, kk c H4 hc ((k3.more (fun _ z => absurd z nin0)).trans (keep_of_dig hk)) hp4⟩
      rw [← hc3]
      exact atI_nat (by rw [List.getElem?_map, hc2]; rfl)
theorem ok_pairs {f fD fR : Addr} {fd fdD fdR : FuncData} (F : Fun K "_law_pairs" "_law_pairs" sPairs f fd) (FD : FnOk P w K mg base CX0 1 fD fdD ["_law_pot_here", "_law_many"] spDigit) (mD : mg "_law_digit" = some (.ref fD)) (kD : PySem.W.keepIn K (.ref fD) = true) (bD : Binds K fdD ["_law_pot_here", "_law_many"] [])
    (FR : FnOk P w K mg base CX0 3 fR fdR ["_law_pot_here", "_law_taken"] (spFresh K)) (mF : mg "_law_fresh" = some (.ref fR)) (kF : PySem.W.keepIn K (.ref fR) = true) (bF : Binds K fdR ["_law_pot_here", "_law_taken"] []) (mL : mg "len" = none) (mR : mg "range" = none) :
    FnOk P w K mg base CX0 4 f fd ["_law_pot_here"] spPairs := by
  refine F.ok scPairs (fun vs H Q E h => ?_) (fun cdv A outer s H vs Q E hr h => ?_)
  · obtain ⟨p, n, rfl, _⟩ := h
    rfl
  · obtain ⟨p, n, rfl, hp, hn, kk⟩ := h
    have hr1 : Room 1 _ := hr.mono (by decide)
    refine ⟨_, pss_cons (ps_set (i := 1) scPairs.nd rfl (Or.inl rfl) (pe_lst pa_nil))
      (pss_cons (ps_for PassesOwn.never rfl (pi_range1 rfl mR (pa_cons (pe_call FD hr1 rfl mD kD bD .nil pass0 (pa_cons (pv 0) (pa_cons pe_int pa_nil))) pa_nil)) (pg_name (i := 2) scPairs.nd rfl (Or.inl rfl))
        (pss_cons (ps_set (i := 3) scPairs.nd rfl (Or.inl rfl) (pe_op op_cat (pe_lst (pa_cons pe_str pa_nil)) (pe_lc (own := [("_law_name_here", 4), ("_law_above", 5)]) (g := gTup K 2 (gCons (gName 4) (gCons (gName 5) gNil))) (tt := tYes) rfl scPairs.nd (pi_list (pv 1))
          (blkOk_by (N := nPairs) (sc := defScope sPairs) (by decide +kernel)) (fun _ _ _ _ _ => by exact (pg_tup rfl (pgs_cons (pg_name (i := 4) scPairs.nd rfl (Or.inl rfl)) (pgs_cons (pg_name (i := 5) scPairs.nd rfl (Or.inl rfl)) pgs_nil)))) (fun _ _ _ _ _ => pts_nil) (fun _ _ _ _ _ => pv 4))))
        (pss_cons (ps_set (i := 4) scPairs.nd rfl (Or.inl rfl) (pe_call FR hr rfl mF kF bF .nil pass0 (pa_cons (pv 0) (pa_cons (pe_op op_cat (pe_lst (pa_cons pe_str pa_nil)) (pv 3)) pa_nil))))
        (pss_one (ps_expr (pe_bm PySem.F.plainAttrs_list PySem.F.slot_list_append PySem.F.type_list_append mt_append (pv 1) (pa_cons (pe_tup (pa_cons (pv 4) (pa_cons (pe_ix ix_list (pv 3) (pe_call FD hr1 rfl mD kD bD .nil pass0 (pa_cons (pv 0) (pa_cons (pe_callB call_len_seq (by rfl) mL PySem.boot_len (pa_cons (pv 3) pa_nil)) pa_nil))) (fun _ _ => rfl)) pa_nil))) pa_nil)))))))
      (pss_one (ps_ret (pv 1)))), ?_⟩
    refine ⟨Nat.zero_le _, fun l hl => ?_⟩
    have hp0 : PotAt (upd H l (.lst [])) p n := hp.keep (ex := []) (Keep.new hl) nin0
    obtain ⟨x0, ep0⟩ := hp.some
    have nlp : l ≠ p := Ne.symm (ne_of_none ep0 hl)
    refine ⟨_, rfl, p, n, 9, rfl, hp0, by omega, by decide, by decide, fun d H1 d0 d1 hk1 hp1 => ?_⟩
    have hl1 : H1 l = some (.lst []) := by rw [hk1 l nlp, upd_same]
    have k1 : Keep [p] H H1 := (Keep.new hl).trans (keep_of_dig hk1)
    obtain ⟨m, rfl⟩ : ∃ m : Nat, d = (m : Int) := ⟨d.toNat, by omega⟩
    refine ⟨_, rfl, by omega, by omega, ?_⟩
    rw [Int.toNat_natCast]
    refine for_range (lo := 0) (n := m) (fun i σ H' => ∃ (ps : List (Str × Str)) (v2 v3 v4 v5 : Option V), σ = [some (.ref p), some (.ref l), v2, v3, v4, v5] ∧ Wf ps ∧ ps.length = i ∧ PairsAt H' l ps ∧ PotAt H' p (n + 1 + 10 * i) ∧ Keep [p] H H')
      ⟨[], none, none, none, none, rfl, .nil, rfl, ⟨[], hl1, True.intro⟩, hp1, k1⟩ ?_ ?_
    · rintro i σ H2 hi ⟨ps, v2, v3, v4, v5, rfl, hw, hlen, hP, hp2, k2⟩
      -- aboves
      refine ⟨(by show 1 ≤ sizeLine; decide), fun a ha => ?_⟩
      have h1 : PairsAt (upd H2 a (.lst [.str sF])) l ps := hP.keep (ex := []) (Keep.new ha) nin0 (fun _ z => absurd z nin0)
      obtain ⟨xs, el⟩ := h1.some
      refine ⟨_, rfl, l, rfl, ⟨_, SqL.of el⟩, fun D hD => ?_⟩
      refine names_run (K := K) (i := 4) (j := 5) h1 hD (by omega) (fun _ _ => rfl) (fun _ _ => rfl) fun H3 e3 k3 => ?_
      have ea : H3 a = some (.lst [.str sF]) := k3.at upd_same nin0
      refine ⟨a, D, _, _, rfl, rfl, ea, e3, ?_, fun b hb => ?_⟩
      · show ([V.str sF] : List V).length + _ ≤ sizeLine
        rw [List.length_map, List.length_map]
        exact Nat.le_trans (by show 1 + ps.length ≤ 1000; omega) (by decide)
      have k4 : Keep [] H2 (upd H3 b (.lst ([V.str sF] ++ (ps.map Prod.fst).map V.str))) := ((Keep.new ha).trans k3).newTo hb
      generalize hH4 : upd H3 b (.lst ([V.str sF] ++ (ps.map Prod.fst).map V.str)) = H4 at k4
      have eb4 : H4 b = some (.lst ((sF :: ps.map Prod.fst).map V.str)) := by rw [← hH4, upd_same]; rfl
      -- name
      refine ⟨_, rfl, ?_⟩
      refine ⟨(by show 1 ≤ sizeLine; decide), fun c hc => ?_⟩
      have nbc : b ≠ c := ne_of_none eb4 hc
      refine ⟨_, rfl, c, b, _, _, rfl, rfl, upd_same, by rw [upd_ne nbc]; exact eb4, ?_, fun t ht => ?_⟩
      · show ([V.str sS] : List V).length + _ ≤ sizeLine
        have e9 : ([V.str sS] : List V).length + ((sF :: ps.map Prod.fst).map V.str).length = ps.length + 2 := by simp; omega
        exact Nat.le_trans (Nat.le_of_eq e9) (Nat.le_trans (by omega : ps.length + 2 ≤ 1000) (by decide))
      have k5 : Keep [] H2 (upd (upd H4 c (.lst [.str sS])) t (.lst ([V.str sS] ++ (sF :: ps.map Prod.fst).map V.str))) := (k4.newTo hc).newTo ht
      have eb5 : upd (upd H4 c (.lst [.str sS])) t (.lst ([V.str sS] ++ (sF :: ps.map Prod.fst).map V.str)) b = some (.lst ((sF :: ps.map Prod.fst).map V.str)) := by
        have nbt : b ≠ t := ne_of_none (show upd H4 c (.lst [.str sS]) b = _ by rw [upd_ne nbc]; exact eb4) ht
        rw [upd_ne nbt, upd_ne nbc]
        exact eb4
      have hp5 := hp2.keep k5 nin0
      obtain ⟨x2, ep2⟩ := hp2.some
      have ntp : t ≠ p := Ne.symm (Keep.ne (k4.newTo hc) ep2 nin0 ht)
      have nbp : b ≠ p := fun z => by
        rw [z] at hb
        exact absurd rfl (Keep.ne ((Keep.new ha).trans k3) ep2 nin0 hb)
      refine ⟨p, t, n + 1 + 10 * i, sS :: sF :: ps.map Prod.fst, rfl, hp5, by omega, upd_same, ntp, by rw [List.length_cons, List.length_cons, List.length_map]; omega, fun z H6 hz hz2 k6 hp6 => ?_⟩
      have eb6 := k6.at eb5 (nin1 nbp)
      have hl6 : PairsAt H6 l ps := (hP.keep k5 nin0 (fun _ z => absurd z nin0)).keep k6 (nin1 nlp) (lst_ex (k5.at ep2 nin0))
      obtain ⟨as, el6, tl6⟩ := hl6
      -- append
      refine ⟨_, rfl, .inl ⟨rfl, _, SqL.of el6⟩, _, rfl, _, rfl, _, rfl, _, rfl, b, _, rfl, .inl (SqL.of eb6), p, n + 1 + 10 * i + 9, _, rfl, hp6, by omega, ?_, ?_, fun e H7 e0 e1 hk7 hp7 => ?_⟩
      · rw [List.length_map, List.length_cons]; omega
      · rw [List.length_map, List.length_cons, List.length_map]; omega
      · rw [List.length_map] at e1
        obtain ⟨y, hy, hy2, hy3⟩ := digit_in (l := sF :: ps.map Prod.fst) e0 e1
        have k7 : Keep [p] H6 H7 := keep_of_dig hk7
        refine ⟨b, _, e, .str y, rfl, rfl, SqL.of (k7.at eb6 (nin1 nbp)), ?_, (by show 2 ≤ sizeLine; decide), fun g hg => ?_⟩
        · rw [← hy3]
          exact atI_nat (by rw [List.getElem?_map, hy2]; rfl)
        have el7 : H7 l = some (.lst (as.map V.ref)) := k7.at el6 (nin1 nlp)
        have nlg : l ≠ g := ne_of_none el7 hg
        refine ⟨l, _, _, rfl, rfl, by rw [upd_ne nlg]; exact el7, ?_, ?_⟩
        · rw [List.length_map, tl6.len]
          exact Nat.lt_of_le_of_lt (by omega : ps.length ≤ 1000) (by decide)
        obtain ⟨x6, ep6⟩ := hp6.some
        have tl7 : TupsAt H7 as ps := tl6.map fun a xs q => k7.tup (lst_ex ep6) q
        have tl8 : TupsAt (upd (upd H7 g (.tup [.str z, .str y])) l (.lst (as.map V.ref ++ [V.ref g]))) (as ++ [g]) (ps ++ [(z, y)]) := by
          refine TupsAt.snoc (by rw [upd_ne nlg.symm, upd_same]) (tl7.map fun a xs q => ?_)
          rw [upd_ne (ne_of q el7 (fun z => nomatch z)), upd_ne (ne_of_none q hg)]
          exact q
        refine ⟨ps ++ [(z, y)], _, _, _, _, rfl, .snoc hw hz hz2 hy, by rw [List.length_append, hlen]; rfl, ⟨as ++ [g], by rw [upd_same, List.map_append]; rfl, tl8⟩, ?_, ?_⟩
        · obtain ⟨x7, ep7⟩ := hp7.some
          have hp8 : PotAt (upd (upd H7 g (.tup [.str z, .str y])) l (.lst (as.map V.ref ++ [V.ref g]))) p (n + 1 + 10 * i + 9 + 1) :=
            (hp7.keep (ex := []) (Keep.new hg) nin0).keep (ex := [l]) (Keep.own in1) (nin1 nlp.symm)
          exact hp8.le (by omega)
        · exact (((((k2.trans (k5.more fun _ q => absurd q nin0)).trans k6).trans k7).newTo hg).freshTo hl)
    · rintro σ H2 ⟨ps, v2, v3, v4, v5, rfl, hw, hlen, hP, hp2, k2⟩
      exact ⟨_, rfl, kk l ps H2 hl hw (by omega) hP k2 (hp2.le (by omega))⟩
end
end Fs
/-! What is a whole number, a text, a name; the kinds. -/
namespace Fs
open PySem L2 TL
abbrev sWhole : Stmt := top 2
abbrev sIsText : Stmt := top 3
abbrev sIsName : Stmt := top 4
theorem scWhole : FnScope ["thing"] ["thing"] (defScope sWhole) := ⟨rfl, rfl, rfl, by decide +kernel, rfl, by decide +kernel, by decide +kernel⟩
theorem scIsText : FnScope ["thing"] ["thing"] (defScope sIsText) := ⟨rfl, rfl, rfl, by decide +kernel, rfl, by decide +kernel, by decide +kernel⟩
theorem scIsName : FnScope ["thing"] ["thing"] (defScope sIsName) := ⟨rfl, rfl, rfl, by decide +kernel, rfl, by decide +kernel, by decide +kernel⟩
def spWhole : Sp := fun vs H Q _ => ∃ i : Int, vs = [.int i] ∧ Q (.bl true) H
def spIsText : Sp := fun vs H Q _ => ∃ z : Str, vs = [.str z] ∧ Q (.bl true) H
def spIsName (Pt : Addr) : Sp := fun vs H Q _ => ∃ z : Str, vs = [.str z] ∧ IsNm z ∧ GxR.TabG H Pt ∧ ∀ H2, GxR.Tabbed Pt H H2 → Q (.bl true) H2
/-- 'a' <= sign <= 'z' -/
def pbN (c : Nat) : Bool := (!decide ([c] < (Str.ofString "a").cps.toList)) && (!decide ((Str.ofString "z").cps.toList < [c]))
theorem one_lt {a b : Nat} : ([a] < [b]) ↔ a < b := by
  constructor
  · intro h
    cases h with
    | rel h => exact h
    | cons h => cases h
  · intro h
    exact List.Lex.rel h
theorem pbN_small {c : Nat} (h : small c = true) : pbN c = true := by
  unfold small at h
  simp only [Bool.and_eq_true, decide_eq_true_eq] at h
  have ea : (Str.ofString "a").cps.toList = [97] := by decide +kernel
  have ez : (Str.ofString "z").cps.toList = [122] := by decide +kernel
  have h1 : ¬ ([c] < [97]) := fun q => by have := one_lt.mp q; omega
  have h2 : ¬ ([122] < [c]) := fun q => by have := one_lt.mp q; omega
  unfold pbN
  rw [ea, ez, decide_eq_false h1, decide_eq_false h2]
  rfl
theorem elt_name {prog : Program} {w : World} {scope : Scope} {x : Str} {j1 j2 : Nat} {p1 p2 p3 p4 : Pos} (hk : scope.kind = .function) (hl : scope.names.lookup x = some .local) (hd : (x == ("__debug__" : Str)) = false := by decide) :
    GxR.EltP prog w scope x (.Compare (.Constant (.str "a") j1 p1) [.LtE, .LtE] [.Name x p2, .Constant (.str "z") j2 p3] p4) pbN := by
  intro cenv A' E' c t s₂ m₂ hs hn hm
  have name : ∀ (s : Shared) (Q : Value → Shared → Prop), s.heap.Ns cenv.locals m₂ → Q (.str ⟨#[c]⟩ t) s → wpAny (model prog w) A' (eval (.Name x p2) cenv) Q E' s := fun s Q hn' h =>
    wpAny_Name (wpAny_loadName_local (by rw [hs]; exact hk) (show cenv.scope.names.lookup x = some .local by rw [hs]; exact hl) hn' hm h) hd
  refine PyProof.Rows.Compare_chain (PySem.Calls.Constant_str (PyProof.Rows.chain_link (name _ _ hn (PySem.P.le_str ?_)))) (by with_unfolding_all rfl)
  refine wpAny_truthy_bool ?_
  by_cases h : [c] < (Str.ofString "a").cps.toList
  · have e : pbN c = false := by unfold pbN; rw [decide_eq_true h]; rfl
    have e2 : (!decide ((Str.mk #[c]).cps.toList < (Str.ofString "a").cps.toList)) = false := by
      show (!decide ([c] < _)) = false
      rw [decide_eq_true h]; rfl
    rw [e2]
    exact PyProof.Rows.ite_ff ⟨by rw [e], GxR.keeps_tok _ _⟩
  · have e2 : (!decide ((Str.mk #[c]).cps.toList < (Str.ofString "a").cps.toList)) = true := by
      show (!decide ([c] < _)) = true
      rw [decide_eq_false h]; rfl
    rw [e2]
    refine PyProof.Rows.ite_tt (PyProof.Rows.chain_last (PySem.Calls.Constant_str (PySem.P.le_str ⟨?_, GxR.keeps_tok _ _⟩)))
    · have e : pbN c = (!decide ((Str.ofString "z").cps.toList < [c])) := by unfold pbN; rw [decide_eq_false h]; rfl
      rw [e]
section
variable {P : Program} {w : World} {K : PySem.W.Frag} {mg : Str → Option Value} {base : Heap}
theorem ok_whole {f : Addr} {fd : FuncData} (F : Fun K "is_whole" "is_whole" sWhole f fd) (mI : mg "isinstance" = none) (mT : mg "int" = none) (mB : mg "bool" = none) : FnOk P w K mg base CX0 1 f fd ["thing"] spWhole := by
  refine F.ok scWhole (fun vs H Q E h => ?_) (fun cdv A outer s H vs Q E hr h => ?_)
  · obtain ⟨i, rfl, _⟩ := h
    rfl
  · obtain ⟨i, rfl, kk⟩ := h
    refine ⟨_, pss_one (ps_ret (pe_and (pe_callB call_isi (by rfl) mI (by decide +kernel) (pa_cons (pv 0) (pa_cons (pe_bltn (v := .ty "int") (u := .type "int") (by rfl) mT (by decide +kernel) rfl) pa_nil)))
      (pe_one (pe_not (pe_callB call_isi (by rfl) mI (by decide +kernel) (pa_cons (pv 0) (pa_cons (pe_bltn (v := .ty "bool") (u := .type "bool") (by rfl) mB (by decide +kernel) rfl) pa_nil))))))), ?_⟩
    refine ⟨_, rfl, _, _, _, _, _, rfl, .ty "int", .base (.int i), kit_ty (r := true) (by decide +kernel), true, rfl, iteT ?_⟩
    exact ⟨_, rfl, _, _, _, _, _, rfl, .ty "bool", .base (.int i), kit_ty (r := false) (by decide +kernel), false, rfl, kk⟩
theorem ok_isText {f : Addr} {fd : FuncData} (F : Fun K "is_text" "is_text" sIsText f fd) (mI : mg "isinstance" = none) (mS : mg "str" = none) : FnOk P w K mg base CX0 1 f fd ["thing"] spIsText := by
  refine F.ok scIsText (fun vs H Q E h => ?_) (fun cdv A outer s H vs Q E hr h => ?_)
  · obtain ⟨i, rfl, _⟩ := h
    rfl
  · obtain ⟨i, rfl, kk⟩ := h
    refine ⟨_, pss_one (ps_ret (pe_callB call_isi (by rfl) mI (by decide +kernel) (pa_cons (pv 0) (pa_cons (pe_bltn (v := .ty "str") (u := .type "str") (by rfl) mS (by decide +kernel) rfl) pa_nil)))), ?_⟩
    exact ⟨_, rfl, _, _, _, _, _, rfl, .ty "str", .base (.str i), kit_ty (r := true) (by decide +kernel), kk⟩
theorem ok_isName {f fT c Pt : Addr} {fdT : FuncData} {oc dV kV doc pm ct : Value} {an od : Option Addr} {osl : Array (Option Value)} (lk : K.lookup f = some ⟨oc, od, .func (PySem.W.fnOf "is_name" "is_name" (defArgs sIsName) (defBody sIsName) (defScope sIsName) dV kV doc pm an (.ref c) ct), osl⟩) (hcd : PySem.W.codeIn K (.ref c) "is_name" = true)
    (TB : GxR.TabB base mg c Pt) (FT : FnOk P w K mg base CX0 1 fT fdT ["thing"] spIsText) (mT : mg "is_text" = some (.ref fT)) (kT : PySem.W.keepIn K (.ref fT) = true) (bT : Binds K fdT ["thing"] []) (mL : mg "len" = none) (mA : mg "all" = none) :
    FnOk P w K mg base CX0 2 f (PySem.W.fnOf "is_name" "is_name" (defArgs sIsName) (defBody sIsName) (defScope sIsName) dV kV doc pm an (.ref c) ct) ["thing"] (spIsName Pt) := by
  refine fn_of (CX := CX0) lk hcd scIsName (fun vs H Q E h => ?_) (fun A outer s H vs Q E hr h => ?_)
  · obtain ⟨z, rfl, _⟩ := h
    rfl
  · obtain ⟨z, rfl, ⟨h1, h2, h3⟩, hT, kk⟩ := h
    refine ⟨_, PSs.nox (pss_one (ps_ret (pe_and (pe_call FT hr rfl mT kT bT .nil pass0 (pa_cons (pv 0) pa_nil)) (pe_and (pe_chain op_le op_le pe_int (pe_callB call_len_str (by rfl) mL PySem.boot_len (pa_cons (pv 0) pa_nil)) pe_int)
      (pe_one (GxR.pe_allS hr (by rfl) mA (by decide +kernel) TB rfl ⟨rfl, rfl, by decide +kernel, rfl, rfl, fun y hy e => ?_⟩ (pv 0) (elt_name rfl rfl) (fun v => rfl))))))), ?_⟩
    · have q : ∀ y ∈ ([((".0" : Str), NameKind.local), (("sign" : Str), NameKind.local)] : List (Str × NameKind)), y.2 = NameKind.free → False := by decide
      exact (q y hy e).elim
    have hzl : z.length = z.cps.toList.length := by simp [Str.length]
    refine ⟨_, rfl, z, rfl, true, rfl, iteT ?_⟩
    refine ⟨_, rfl, z, rfl, Nat.le_of_lt (Nat.lt_of_lt_of_le (by omega : z.length < 1000) (by decide)), _, _, rfl, rfl, _, rfl, ?_⟩
    rw [decide_eq_true (show (1 : Int) ≤ (z.length : Int) by omega)]
    refine iteT ⟨_, _, rfl, rfl, _, rfl, ?_⟩
    rw [decide_eq_true (show (z.length : Int) ≤ (8 : Int) by omega)]
    refine iteT ⟨_, rfl, z, rfl, hT, fun H2 hH => ?_⟩
    have ea : z.cps.toList.all pbN = true := List.all_eq_true.mpr fun c hc => pbN_small (h3 c hc)
    rw [ea]
    exact kk H2 hH
end
end Fs
/-! The class of kinds. -/
namespace Fs
open PySem L2 TL
abbrev sKInit : Stmt := inClass (top 19) 0
abbrev sIsKind : Stmt := inClass (top 19) 2
abbrev sChkNew : Stmt := inClass (top 19) 6
theorem scKInit : FnScope ["self", "pairs", "name", "above"] ["self", "pairs"] (defScope sKInit) := ⟨rfl, rfl, rfl, by decide +kernel, rfl, by decide +kernel, by decide +kernel⟩
theorem scIsKind : FnScope ["self", "thing"] ["self", "thing"] (defScope sIsKind) := ⟨rfl, rfl, rfl, by decide +kernel, rfl, by decide +kernel, by decide +kernel⟩
theorem scChkNew : FnScope ["self", "name", "above"] ["self", "name", "above"] (defScope sChkNew) := ⟨rfl, rfl, rfl, by decide +kernel, rfl, by decide +kernel, by decide +kernel⟩
/-- what a kinds' dict holds -/
def kvsOf (ps : List (Str × Str)) : List (Key × V) := [(.inr sF, .non), (.inr sS, .str sF)] ++ ps.map fun q => (.inr q.1, .str q.2)
theorem sFS : ¬ sF = sS := by decide +kernel
theorem kvs_some (z : Str) : ∀ ps : List (Str × Str), (valV (ps.map fun q => ((.inr q.1 : Key), V.str q.2)) (.inr z)).isSome = decide (z ∈ ps.map Prod.fst)
  | [] => rfl
  | q :: r => by
    rw [List.map_cons, List.map_cons]
    by_cases h : q.1 = z
    · rw [valV_pos (by rw [h]), decide_eq_true (by rw [h]; exact List.mem_cons_self)]
      rfl
    · rw [valV_neg (fun e => h (Sum.inr.inj e)), kvs_some z r]
      have h2 : ¬ z = q.1 := fun e => h e.symm
      simp only [List.mem_cons, h2, false_or]
theorem kvs_is (z : Str) (ps : List (Str × Str)) : (valV (kvsOf ps) (.inr z)).isSome = decide (z ∈ sF :: sS :: ps.map Prod.fst) := by
  show (valV ((.inr sF, V.non) :: (.inr sS, V.str sF) :: ps.map fun q => ((.inr q.1 : Key), V.str q.2)) (.inr z)).isSome = _
  by_cases h : sF = z
  · rw [valV_pos (by rw [h]), decide_eq_true (by rw [h]; exact List.mem_cons_self)]
    rfl
  · rw [valV_neg (fun e => h (Sum.inr.inj e))]
    have h' : ¬ z = sF := fun e => h e.symm
    by_cases h2 : sS = z
    · rw [valV_pos (by rw [h2]), decide_eq_true (by rw [h2]; exact List.mem_cons_of_mem _ List.mem_cons_self)]
      rfl
    · have h2' : ¬ z = sS := fun e => h2 e.symm
      rw [valV_neg (fun e => h2 (Sum.inr.inj e)), kvs_some]
      simp only [List.mem_cons, h', h2', false_or]
theorem kvs_put {z y : Str} {ps : List (Str × Str)} (h : z ∉ sF :: sS :: ps.map Prod.fst) : putK (kvsOf ps) (.inr z) (.str y) = kvsOf (ps ++ [(z, y)]) := by
  have hn : ((kvsOf ps).any fun kv => decide (kv.1 = (.inr z : Key))) = false := by
    rw [List.any_eq_false]
    intro kv hkv e
    have e' := of_decide_eq_true e
    rcases List.mem_append.mp hkv with m | m
    · rcases List.mem_cons.mp m with m | m
      · rw [m] at e'
        exact h (by rw [← Sum.inr.inj e']; exact List.mem_cons_self)
      · rw [List.mem_singleton.mp m] at e'
        exact h (by rw [← Sum.inr.inj e']; exact List.mem_cons_of_mem _ List.mem_cons_self)
    · obtain ⟨q, hq, rfl⟩ := List.mem_map.mp m
      exact h (by rw [← Sum.inr.inj e']; exact List.mem_cons_of_mem _ (List.mem_cons_of_mem _ (List.mem_map.mpr ⟨q, hq, rfl⟩)))
  unfold putK
  rw [hn, if_neg Bool.false_ne_true]
  unfold kvsOf
  rw [List.map_append, ← List.append_assoc]
  rfl
theorem kvs_len (ps : List (Str × Str)) : (kvsOf ps).length = ps.length + 2 := by
  unfold kvsOf
  rw [List.length_append, List.length_map]
  show 2 + ps.length = _
  omega
/-- kinds of these pairs at kd, its dict at d -/
def KindsAt (C : Addr) (H : Hp) (kd : Addr) (ps : List (Str × Str)) : Prop := ∃ dx d, H kd = some (.ins C dx [("_above", .ref d)]) ∧ H d = some (.dK (kvsOf ps))
theorem ab_look (v : V) : ([(("_above" : Str), v)] : List (Str × V)).lookup ("_above" : Str) = some v := by simp [List.lookup]
theorem ab_no (v : V) {m : Str} (h : ¬ m = "_above") : ([(("_above" : Str), v)] : List (Str × V)).lookup m = none := by
  have e : (m == ("_above" : Str)) = false := by simpa using h
  simp [List.lookup, e]
theorem KindsAt.keep {C : Addr} {ex : List Addr} {H H' : Hp} {kd : Addr} {ps : List (Str × Str)} (h : KindsAt C H kd ps) (k : Keep ex H H') (hx : ∀ b ∈ ex, ∃ o, H b = some o ∧ (∀ C dx fs, o ≠ .ins C dx fs) ∧ ∀ kvs, o ≠ .dK kvs) : KindsAt C H' kd ps := by
  obtain ⟨dx, d, e1, e2⟩ := h
  refine ⟨dx, d, k.at e1 fun z => ?_, k.at e2 fun z => ?_⟩
  · obtain ⟨o, e, n, _⟩ := hx _ z
    rw [e1] at e
    exact n _ _ _ (Option.some.inj e).symm
  · obtain ⟨o, e, _, n⟩ := hx _ z
    rw [e2] at e
    exact n _ (Option.some.inj e).symm
/-- the class's own text -/
structure KTxt (K : PySem.W.Frag) (mg : Str → Option Value) (C fI fK fN : Addr) : Prop where
  cl : Cls K C
  nA : NoAttr K C "_above"
  mK : Meth K C "is_kind" fK
  mN : Meth K C "_check_new" fN
/-- a new object is told the pairs -/
def spKInit (C Pt : Addr) : Sp := fun vs H Q _ => ∃ (p l dx : Addr) (ps : List (Str × Str)), vs = [.ref p, .ref l] ∧ H p = some (.ins C dx []) ∧ PairsAt H l ps ∧ Wf ps ∧ ps.length ≤ 30 ∧ GxR.TabG H Pt ∧
  ∀ H' : Hp, Keep [p, Pt] H H' → KindsAt C H' p ps → GxR.TabG H' Pt → Q .non H'
theorem Wf.not_sheaf {ps : List (Str × Str)} (h : Wf ps) : ∀ y ∈ sF :: ps.map Prod.fst, ¬ y = sS := by
  induction h with
  | nil =>
    intro y hy e
    rw [List.mem_singleton.mp hy] at e
    exact sFS e
  | @snoc ps z y hw hz hn hy ih =>
    intro x hx e
    rw [List.map_append] at hx
    rcases List.mem_cons.mp hx with q | q
    · exact ih x (by rw [q]; exact List.mem_cons_self) e
    · rcases List.mem_append.mp q with q | q
      · exact ih x (List.mem_cons_of_mem _ q) e
      · have e2 : x = z := by simpa using q
        exact hn (by rw [← e2, e]; exact List.mem_cons_self)
/-- the first pairs, and the next one -/
theorem Wf.step {ps : List (Str × Str)} (h : Wf ps) : ∀ {i : Nat} {q : Str × Str}, ps[i]? = some q → IsNm q.1 ∧ q.1 ∉ sF :: sS :: (ps.take i).map Prod.fst ∧ q.2 ∈ sF :: (ps.take i).map Prod.fst := by
  induction h with
  | nil => intro i q e; simp at e
  | @snoc ps z y hw hz hn hy ih =>
    intro i q e
    by_cases hi : i < ps.length
    · rw [List.getElem?_append_left hi] at e
      rw [List.take_append_of_le_length (Nat.le_of_lt hi)]
      exact ih e
    · have hi2 : i = ps.length := by
        have := (List.getElem?_eq_some_iff.mp e).1
        rw [List.length_append, List.length_singleton] at this
        omega
      subst hi2
      rw [List.getElem?_append_right (Nat.le_refl _), Nat.sub_self] at e
      have e' : (z, y) = q := by simpa using e
      subst e'
      rw [List.take_left]
      refine ⟨hz, fun m => hn ?_, hy⟩
      rcases List.mem_cons.mp m with m | m
      · exact (show z = sF from m) ▸ List.mem_cons_of_mem _ List.mem_cons_self
      · rcases List.mem_cons.mp m with m | m
        · exact (show z = sS from m) ▸ List.mem_cons_self
        · exact List.mem_cons_of_mem _ (List.mem_cons_of_mem _ m)
def spIsKind (C : Addr) : Sp := fun vs H Q _ => ∃ (kd : Addr) (z : Str) (ps : List (Str × Str)), vs = [.ref kd, .str z] ∧ KindsAt C H kd ps ∧ Q (.bl (decide (z ∈ sF :: sS :: ps.map Prod.fst))) H
def spChkNew (C Pt : Addr) : Sp := fun vs H Q _ => ∃ (kd : Addr) (z y : Str) (ps : List (Str × Str)), vs = [.ref kd, .str z, .str y] ∧ KindsAt C H kd ps ∧ IsNm z ∧ z ∉ sF :: sS :: ps.map Prod.fst ∧ y ∈ sF :: ps.map Prod.fst ∧ ¬ y = sS ∧ GxR.TabG H Pt ∧ ∀ H2, GxR.Tabbed Pt H H2 → Q .non H2
theorem tab_keep {Pt : Addr} {H H' : Hp} (h : GxR.Tabbed Pt H H') : Keep [Pt] H H' := fun b o hb e => by
  rw [h.2 b (fun z => hb (by rw [z]; exact in1))]
  exact e
theorem tab_ex {H : Hp} {Pt : Addr} (h : GxR.TabG H Pt) : ∀ b ∈ [Pt], ∃ o, H b = some o ∧ (∀ C dx fs, o ≠ .ins C dx fs) ∧ ∀ kvs, o ≠ .dK kvs := fun b hb => by
  obtain ⟨ps, e, _⟩ := h
  rw [List.mem_singleton.mp hb]
  exact ⟨_, e, (fun _ _ _ z => by cases z), fun _ z => by cases z⟩
section
variable {P : Program} {w : World} {K : PySem.W.Frag} {mg : Str → Option Value} {base : Heap} {C fI fK fN : Addr}
theorem ok_isKind {fT : Addr} {fd fdT : FuncData} (F : Fun K "is_kind" "Kinds.is_kind" sIsKind fK fd) (T : KTxt K mg C fI fK fN) (FT : FnOk P w K mg base CX0 1 fT fdT ["thing"] spIsText) (mT : mg "is_text" = some (.ref fT)) (kT : PySem.W.keepIn K (.ref fT) = true) (bT : Binds K fdT ["thing"] []) :
    FnOk P w K mg base CX0 2 fK fd ["self", "thing"] (spIsKind C) := by
  refine F.ok scIsKind (fun vs H Q E h => ?_) (fun cdv A outer s H vs Q E hr h => ?_)
  · obtain ⟨kd, z, ps, rfl, _⟩ := h
    rfl
  · obtain ⟨kd, z, ps, rfl, ⟨dx, d, e1, e2⟩, kk⟩ := h
    refine ⟨_, pss_one (ps_ret (pe_and (pe_call FT hr rfl mT kT bT .nil pass0 (pa_cons (pv 1) pa_nil)) (pe_one (pe_cmp (pc_din (hu_of hr) (pv 1) (pe_fld (pv 0) rfl)) rfl)))), ?_⟩
    refine ⟨_, rfl, z, rfl, true, rfl, iteT ⟨_, rfl, _, rfl, kd, C, dx, _, _, rfl, e1, T.cl, T.nA, ab_look _, d, _, rfl, DGet.k (k := Sum.inr z) e2, ?_⟩⟩
    rw [kvs_is]
    exact kk
theorem ok_chkNew {fM : Addr} {fd fdM fdK : FuncData} {Pt : Addr} (F : Fun K "_check_new" "Kinds._check_new" sChkNew fN fd) (T : KTxt K mg C fI fK fN) (FM : FnOk P w K mg base CX0 2 fM fdM ["thing"] (spIsName Pt)) (mM : mg "is_name" = some (.ref fM)) (kM : PySem.W.keepIn K (.ref fM) = true) (bM : Binds K fdM ["thing"] [])
    (FK : FnOk P w K mg base CX0 2 fK fdK ["self", "thing"] (spIsKind C)) (bK : Binds K fdK ["self", "thing"] []) : FnOk P w K mg base CX0 3 fN fd ["self", "name", "above"] (spChkNew C Pt) := by
  refine F.ok scChkNew (fun vs H Q E h => ?_) (fun cdv A outer s H vs Q E hr h => ?_)
  · obtain ⟨kd, z, y, ps, rfl, _⟩ := h
    rfl
  · obtain ⟨kd, z, y, ps, rfl, hk, hz, hz2, hy, hy2, hT, kk⟩ := h
    refine ⟨_, pss_cons (ps_if (PW.pt (pw_or (pt_not (pt_val (pe_call FM hr rfl mM kM bM .nil pass0 (pa_cons (pv 1) pa_nil)))) (pw_or1 (pt_val (pe_meth (pv 0) T.cl T.mK FK hr bK .nil pass0 (pa_cons (pv 1) pa_nil)))))) (pss_one ps_never) pss_nil)
      (pss_one (ps_if (PW.pt (pw_or (pt_not (pt_val (pe_meth (pv 0) T.cl T.mK FK hr bK .nil pass0 (pa_cons (pv 2) pa_nil)))) (pw_or1 (pt_cmpR op_eq (pv 2) pe_str (nomark _))))) (pss_one ps_never) pss_nil)), ?_⟩
    refine ⟨_, rfl, z, rfl, hz, hT, fun H2 hH => ⟨true, rfl, iteF ?_⟩⟩
    have hk2 := hk.keep (tab_keep hH) (tab_ex hT)
    obtain ⟨dx, d, e1, e2⟩ := id hk2
    have noK : ([(("_above" : Str), V.ref d)] : List (Str × V)).lookup ("is_kind" : Str) = none := ab_no _ (by decide +kernel)
    refine ⟨_, rfl, kd, dx, _, rfl, e1, noK, _, rfl, kd, z, ps, rfl, hk2, _, rfl, ?_⟩
    rw [decide_eq_false hz2]
    refine iteF ?_
    refine ⟨_, rfl, kd, dx, _, rfl, e1, noK, _, rfl, kd, y, ps, rfl, hk2, _, rfl, ?_⟩
    have hy3 : y ∈ sF :: sS :: ps.map Prod.fst := by
      rcases List.mem_cons.mp hy with q | q
      · rw [q]; exact List.mem_cons_self
      · exact List.mem_cons_of_mem _ (List.mem_cons_of_mem _ q)
    rw [decide_eq_true hy3]
    refine iteF ⟨_, rfl, rfl, _, rfl, ?_⟩
    rw [decide_eq_false (fun e => hy2 (V.str.inj e))]
    exact iteF (kk H2 hH)
theorem ok_kInit {fd fdN : FuncData} {Pt : Addr} (F : Fun K "__init__" "Kinds.__init__" sKInit fI fd) (T : KTxt K mg C fI fK fN) (FN : FnOk P w K mg base CX0 3 fN fdN ["self", "name", "above"] (spChkNew C Pt)) (bN : Binds K fdN ["self", "name", "above"] []) :
    FnOk P w K mg base CX0 4 fI fd ["self", "pairs"] (spKInit C Pt) := by
  refine F.ok scKInit (fun vs H Q E h => ?_) (fun cdv A outer s H vs Q E hr h => ?_)
  · obtain ⟨p, l, dx, ps, rfl, _⟩ := h
    rfl
  · obtain ⟨p, l, dx, ps, rfl, hp, hP, hw, hlen, hT, kk⟩ := h
    refine ⟨_, pss_cons (ps_fld (pv 0) (pe_disp (pps_cons pe_str pe_non (pps_cons pe_str pe_str pps_nil)) (by rfl) (by rfl) (fun z => by cases z) (by decide)) rfl)
      (pss_one (ps_for PassesOwn.never rfl (pi_list (pv 1)) (pg_tup rfl (pgs_cons (pg_name (i := 2) scKInit.nd rfl (Or.inl rfl)) (pgs_cons (pg_name (i := 3) scKInit.nd rfl (Or.inl rfl)) pgs_nil)))
        (pss_cons (ps_expr (pe_meth (pv 0) T.cl T.mN FN hr bN .nil pass0 (pa_cons (pv 2) (pa_cons (pv 3) pa_nil)))) (pss_one (ps_dput (hu_of hr) (pe_fld (pv 0) rfl) (pv 2) (pv 3) rfl))))), ?_⟩
    intro d hd
    refine ⟨upd_same, kvsOf [], rfl, by decide, ?_⟩
    have npd : p ≠ d := ne_of_none hp hd
    have eK : mergeK [] (kvsOf []) = kvsOf [] := by decide +kernel
    rw [eK, upd_upd]
    refine ⟨_, rfl, p, C, dx, [], rfl, by rw [upd_ne npd]; exact hp, T.cl, T.nA, by decide, ?_⟩
    have k0 : Keep [p, Pt] H (upd (upd H d (.dK (kvsOf []))) p (.ins C dx [("_above", .ref d)])) := (Keep.new hd).ownTo List.mem_cons_self
    obtain ⟨as, el, tl⟩ := hP
    obtain ⟨tb, et, ht⟩ := hT
    have nlp : l ≠ p := ne_of el hp (fun z => nomatch z)
    have nlT : l ≠ Pt := ne_of el et (fun z => nomatch z)
    have nld : l ≠ d := ne_of_none el hd
    have npT : p ≠ Pt := ne_of hp et (fun z => nomatch z)
    have ndT : d ≠ Pt := fun z => by rw [z, et] at hd; cases hd
    have nlx : l ∉ [p, Pt] := fun z => by
      rcases List.mem_cons.mp z with z | z
      · exact nlp z
      · exact nlT (List.mem_singleton.mp z)
    have tx : ∀ a xs, H a = some (.tup xs) → a ∉ [p, Pt] := fun a xs q z => by
      rcases List.mem_cons.mp z with z | z
      · rw [z, hp] at q; cases q
      · rw [List.mem_singleton.mp z, et] at q; cases q
    refine ⟨_, rfl, l, rfl, ⟨_, SqL.of (k0.at el nlx)⟩, for_list (K := K) (a := l) (xs := as.map V.ref) (fun i σ H' => ∃ v2 v3 : Option V, σ = [some (.ref p), some (.ref l), v2, v3] ∧ Keep [p, Pt] H H' ∧ H' p = some (.ins C dx [("_above", .ref d)]) ∧ H' d = some (.dK (kvsOf (ps.take i))) ∧ GxR.TabG H' Pt)
      ⟨none, none, rfl, k0, upd_same, by rw [upd_ne npd.symm, upd_same]; rfl, ⟨tb, by rw [upd_ne npT.symm, upd_ne ndT.symm]; exact et, ht⟩⟩
      (fun i σ H' _ ⟨_, _, _, k, _⟩ => SqL.of (k.at el nlx)) ?_ ?_⟩
    · rintro i x σ H1 hx ⟨v2, v3, rfl, k1, e1, e2, hT1⟩
      obtain ⟨a, ha, rfl⟩ : ∃ a, as[i]? = some a ∧ x = V.ref a := by
        rw [List.getElem?_map] at hx
        cases q : as[i]? with
        | none => rw [q] at hx; cases hx
        | some a => rw [q] at hx; exact ⟨a, rfl, (Option.some.inj hx).symm⟩
      obtain ⟨q, hq2, hta⟩ := tl.at ha
      obtain ⟨w1, w2, w3⟩ := hw.step hq2
      have hns := hw.not_sheaf
      have hta1 : H1 a = some (.tup [.str q.1, .str q.2]) := k1.at hta (tx a _ hta)
      refine ⟨a, _, rfl, SqT.of hta1, rfl, _, _, rfl, _, _, rfl, rfl, ?_⟩
      have noN : ([(("_above" : Str), V.ref d)] : List (Str × V)).lookup ("_check_new" : Str) = none := ab_no _ (by decide +kernel)
      have hy : ¬ q.2 = sS := by
        refine hns q.2 ?_
        rcases List.mem_cons.mp w3 with m | m
        · rw [m]; exact List.mem_cons_self
        · obtain ⟨u, hu, eu⟩ := List.mem_map.mp m
          exact List.mem_cons_of_mem _ (List.mem_map.mpr ⟨u, List.mem_of_mem_take hu, eu⟩)
      refine ⟨_, rfl, p, dx, _, rfl, e1, noN, _, rfl, _, rfl, p, q.1, q.2, ps.take i, rfl, ⟨dx, d, e1, e2⟩, w1, w2, w3, hy, hT1, fun H2 hH => ?_⟩
      have k2 := tab_keep hH
      have e12 : H2 p = some (.ins C dx [("_above", .ref d)]) := k2.at e1 (nin1 npT)
      have e22 : H2 d = some (.dK (kvsOf (ps.take i))) := k2.at e2 (nin1 ndT)
      have hil : i < ps.length := (List.getElem?_eq_some_iff.mp hq2).1
      refine ⟨_, rfl, _, rfl, p, C, dx, _, _, rfl, e12, T.cl, T.nA, ab_look _, ?_⟩
      have hlk : (kvsOf (ps.take i)).length < sizeLine := by
        rw [kvs_len, List.length_take]
        exact Nat.lt_of_lt_of_le (by omega : min i ps.length + 2 < 1000) (by decide)
      refine ⟨_, rfl, d, _, rfl, DPut.k (k := Sum.inr q.1) e22 hlk, ?_⟩
      have eT : ps.take (i + 1) = ps.take i ++ [(q.1, q.2)] := by rw [List.take_add_one, hq2]; rfl
      rw [kvs_put w2, ← eT]
      refine ⟨_, _, rfl, ((k1.trans (k2.more fun b hb => List.mem_cons_of_mem _ hb)).freshTo hd), by rw [upd_ne npd]; exact e12, upd_same, ?_⟩
      obtain ⟨tb2, et2, ht2⟩ := hH.1
      exact ⟨tb2, by rw [upd_ne ndT.symm]; exact et2, ht2⟩
    · rintro σ H1 ⟨v2, v3, rfl, k1, e1, e2, hT1⟩
      rw [List.length_map, tl.len, List.take_length] at e2
      exact kk H1 k1 ⟨dx, d, e1, e2⟩ hT1
end
end Fs
/-! The ledger: what it holds. -/
namespace Fs
open PySem L2 TL
/-- a fault -/
structure Ent where
  kind : Str
  text : Str
  mem : List Nat
  notes : List Str
  cause : Option Nat
  atw : Option Nat
def optV : Option Nat → V
  | none => .non
  | some k => .int (k : Int)
/-- where a ledger's own lists stand -/
structure LA where
  dx : Addr
  kd : Addr
  l1 : Addr
  l2 : Addr
  l3 : Addr
  l4 : Addr
  l5 : Addr
  l6 : Addr
def LA.ls (A : LA) : List Addr := [A.l1, A.l2, A.l3, A.l4, A.l5, A.l6]
def fldsL (A : LA) : List (Str × V) := [("_kinds", .ref A.kd), ("_kind_of", .ref A.l1), ("_text_of", .ref A.l2), ("_members_of", .ref A.l3), ("_notes_of", .ref A.l4), ("_cause_of", .ref A.l5), ("_at_work_of", .ref A.l6)]
theorem fl0 (A : LA) : (fldsL A).lookup ("_kinds" : Str) = some (.ref A.kd) := rfl
theorem fl1 (A : LA) : (fldsL A).lookup ("_kind_of" : Str) = some (.ref A.l1) := rfl
theorem fl2 (A : LA) : (fldsL A).lookup ("_text_of" : Str) = some (.ref A.l2) := rfl
theorem fl3 (A : LA) : (fldsL A).lookup ("_members_of" : Str) = some (.ref A.l3) := rfl
theorem fl4 (A : LA) : (fldsL A).lookup ("_notes_of" : Str) = some (.ref A.l4) := rfl
theorem fl5 (A : LA) : (fldsL A).lookup ("_cause_of" : Str) = some (.ref A.l5) := rfl
theorem fl6 (A : LA) : (fldsL A).lookup ("_at_work_of" : Str) = some (.ref A.l6) := rfl
theorem flno (A : LA) : (fldsL A).lookup ("_check_fault" : Str) = none := rfl
/-- a list of tuples of whole numbers, as the faults have them -/
def MemsAt (H : Hp) : List Addr → List Ent → Prop
  | [], [] => True
  | a :: as, e :: es => H a = some (.tup (e.mem.map fun k : Nat => V.int (k : Int))) ∧ MemsAt H as es
  | _, _ => False
def NotesAt (H : Hp) : List Addr → List Ent → Prop
  | [], [] => True
  | a :: as, e :: es => H a = some (.lst (e.notes.map V.str)) ∧ NotesAt H as es
  | _, _ => False
theorem MemsAt.map {H H' : Hp} (k : ∀ a xs, H a = some (.tup xs) → H' a = some (.tup xs)) : ∀ {as : List Addr} {es : List Ent}, MemsAt H as es → MemsAt H' as es
  | [], [], _ => True.intro
  | _ :: as, _ :: es, h => ⟨k _ _ h.1, MemsAt.map k h.2⟩
  | [], _ :: _, h => h.elim
  | _ :: _, [], h => h.elim
theorem MemsAt.len {H : Hp} : ∀ {as : List Addr} {es : List Ent}, MemsAt H as es → as.length = es.length
  | [], [], _ => rfl
  | _ :: as, _ :: es, h => by rw [List.length_cons, List.length_cons, MemsAt.len h.2]
  | [], _ :: _, h => h.elim
  | _ :: _, [], h => h.elim
theorem MemsAt.snoc {H : Hp} {b : Addr} {e : Ent} (hb : H b = some (.tup (e.mem.map fun k : Nat => V.int (k : Int)))) : ∀ {as : List Addr} {es : List Ent}, MemsAt H as es → MemsAt H (as ++ [b]) (es ++ [e])
  | [], [], _ => ⟨hb, True.intro⟩
  | _ :: as, _ :: es, h => ⟨h.1, MemsAt.snoc hb h.2⟩
  | [], _ :: _, h => h.elim
  | _ :: _, [], h => h.elim
theorem MemsAt.at {H : Hp} : ∀ {as : List Addr} {es : List Ent} {i : Nat} {e : Ent}, MemsAt H as es → es[i]? = some e → ∃ a, as[i]? = some a ∧ H a = some (.tup (e.mem.map fun k : Nat => V.int (k : Int)))
  | _, [], _, _, _, q => by simp at q
  | [], _ :: _, _, _, h, _ => h.elim
  | b :: as, f :: es, 0, e, h, q => by
    have e' : f = e := by simpa using q
    subst e'
    exact ⟨b, rfl, h.1⟩
  | b :: as, f :: es, i + 1, e, h, q => MemsAt.at (i := i) h.2 (by simpa using q)
theorem NotesAt.map {H H' : Hp} : ∀ {as : List Addr} {es : List Ent}, (∀ a ∈ as, ∀ xs, H a = some (.lst xs) → H' a = some (.lst xs)) → NotesAt H as es → NotesAt H' as es
  | [], [], _, _ => True.intro
  | _ :: as, _ :: es, k, h => ⟨k _ List.mem_cons_self _ h.1, NotesAt.map (fun a ha => k a (List.mem_cons_of_mem _ ha)) h.2⟩
  | [], _ :: _, _, h => h.elim
  | _ :: _, [], _, h => h.elim
theorem NotesAt.len {H : Hp} : ∀ {as : List Addr} {es : List Ent}, NotesAt H as es → as.length = es.length
  | [], [], _ => rfl
  | _ :: as, _ :: es, h => by rw [List.length_cons, List.length_cons, NotesAt.len h.2]
  | [], _ :: _, h => h.elim
  | _ :: _, [], h => h.elim
theorem NotesAt.snoc {H : Hp} {b : Addr} {e : Ent} (hb : H b = some (.lst (e.notes.map V.str))) : ∀ {as : List Addr} {es : List Ent}, NotesAt H as es → NotesAt H (as ++ [b]) (es ++ [e])
  | [], [], _ => ⟨hb, True.intro⟩
  | _ :: as, _ :: es, h => ⟨h.1, NotesAt.snoc hb h.2⟩
  | [], _ :: _, h => h.elim
  | _ :: _, [], h => h.elim
theorem NotesAt.at {H : Hp} : ∀ {as : List Addr} {es : List Ent} {i : Nat} {e : Ent}, NotesAt H as es → es[i]? = some e → ∃ a, as[i]? = some a ∧ H a = some (.lst (e.notes.map V.str))
  | _, [], _, _, _, q => by simp at q
  | [], _ :: _, _, _, h, _ => h.elim
  | b :: as, f :: es, 0, e, h, q => by
    have e' : f = e := by simpa using q
    subst e'
    exact ⟨b, rfl, h.1⟩
  | b :: as, f :: es, i + 1, e, h, q => NotesAt.at (i := i) h.2 (by simpa using q)
theorem NotesAt.is {H : Hp} : ∀ {as : List Addr} {es : List Ent}, NotesAt H as es → ∀ a ∈ as, ∃ xs, H a = some (.lst xs)
  | [], [], _, _, h => absurd h List.not_mem_nil
  | _ :: as, _ :: es, h, a, m => by
    rcases List.mem_cons.mp m with m | m
    · rw [m]; exact ⟨_, h.1⟩
    · exact NotesAt.is h.2 a m
  | [], _ :: _, h, _, _ => h.elim
  | _ :: _, [], h, _, _ => h.elim
/-- a ledger at p with these faults -/
structure LedAt (C : Addr) (H : Hp) (p : Addr) (A : LA) (ms ns : List Addr) (es : List Ent) : Prop where
  ins : H p = some (.ins C A.dx (fldsL A))
  h1 : H A.l1 = some (.lst (es.map fun e => V.str e.kind))
  h2 : H A.l2 = some (.lst (es.map fun e => V.str e.text))
  h3 : H A.l3 = some (.lst (ms.map V.ref))
  h4 : H A.l4 = some (.lst (ns.map V.ref))
  h5 : H A.l5 = some (.lst (es.map fun e => optV e.cause))
  h6 : H A.l6 = some (.lst (es.map fun e => optV e.atw))
  mems : MemsAt H ms es
  notes : NotesAt H ns es
  nd : (A.ls ++ ns).Nodup
theorem LedAt.isl {C : Addr} {H : Hp} {p : Addr} {A : LA} {ms ns : List Addr} {es : List Ent} (h : LedAt C H p A ms ns es) : ∀ a ∈ A.ls, ∃ xs, H a = some (.lst xs) := by
  intro a ha
  have q : a = A.l1 ∨ a = A.l2 ∨ a = A.l3 ∨ a = A.l4 ∨ a = A.l5 ∨ a = A.l6 := by simpa [LA.ls] using ha
  rcases q with q | q | q | q | q | q <;> rw [q]
  · exact ⟨_, h.h1⟩
  · exact ⟨_, h.h2⟩
  · exact ⟨_, h.h3⟩
  · exact ⟨_, h.h4⟩
  · exact ⟨_, h.h5⟩
  · exact ⟨_, h.h6⟩
/-- what does not touch its lists leaves a ledger as it is -/
theorem LedAt.keep {C : Addr} {H H' : Hp} {p : Addr} {A : LA} {ms ns : List Addr} {es : List Ent} {ex : List Addr} (h : LedAt C H p A ms ns es) (k : Keep ex H H') (hl : ∀ b ∈ ex, b ∉ A.ls ++ ns) (hx : ∀ b ∈ ex, ∃ xs, H b = some (.lst xs)) : LedAt C H' p A ms ns es := by
  have nl : ∀ a ∈ A.ls ++ ns, a ∉ ex := fun a ha z => hl a z ha
  have ni : ∀ o, (∀ xs, o ≠ .lst xs) → ∀ b, H b = some o → b ∉ ex := fun o ho b e z => by
    obtain ⟨xs, q⟩ := hx b z
    rw [e] at q
    exact ho xs (Option.some.inj q)
  have m : ∀ a, a ∈ A.ls → a ∉ ex := fun a ha => nl a (List.mem_append_left _ ha)
  exact ⟨k.at h.ins (ni _ (fun _ z => by cases z) _ h.ins), k.at h.h1 (m _ (by simp [LA.ls])), k.at h.h2 (m _ (by simp [LA.ls])), k.at h.h3 (m _ (by simp [LA.ls])), k.at h.h4 (m _ (by simp [LA.ls])), k.at h.h5 (m _ (by simp [LA.ls])), k.at h.h6 (m _ (by simp [LA.ls])),
    h.mems.map fun a xs q => k.at q (ni _ (fun _ z => by cases z) _ q), h.notes.map fun a ha xs q => k.at q (nl a (List.mem_append_right _ ha)), h.nd⟩
end Fs
/-! The ledger's ways in and out. -/
namespace Fs
open PySem L2 TL
abbrev cLed : Stmt := top 17
abbrev sLInit : Stmt := inClass cLed 0
abbrev sPlain : Stmt := inClass cLed 1
abbrev sSheaf : Stmt := inClass cLed 2
abbrev sMany : Stmt := inClass cLed 4
abbrev sKind : Stmt := inClass cLed 5
abbrev sTextM : Stmt := inClass cLed 6
abbrev sMembers : Stmt := inClass cLed 7
abbrev sNotes : Stmt := inClass cLed 8
abbrev sCause : Stmt := inClass cLed 9
abbrev sAtWork : Stmt := inClass cLed 10
abbrev sAdd : Stmt := inClass cLed 18
abbrev sChkF : Stmt := inClass cLed 20
abbrev sChkT : Stmt := inClass cLed 22
abbrev sChkM : Stmt := inClass cLed 23
theorem scLInit : FnScope ["self", "kinds"] ["self", "kinds"] (defScope sLInit) := ⟨rfl, rfl, rfl, by decide +kernel, rfl, by decide +kernel, by decide +kernel⟩
theorem scPlain : FnScope ["self", "kind", "text"] ["self", "kind", "text"] (defScope sPlain) := ⟨rfl, rfl, rfl, by decide +kernel, rfl, by decide +kernel, by decide +kernel⟩
theorem scSheaf : FnScope ["self", "text", "members"] ["self", "text", "members"] (defScope sSheaf) := ⟨rfl, rfl, rfl, by decide +kernel, rfl, by decide +kernel, by decide +kernel⟩
theorem scMany : FnScope ["self"] ["self"] (defScope sMany) := ⟨rfl, rfl, rfl, by decide +kernel, rfl, by decide +kernel, by decide +kernel⟩
theorem scKind : FnScope ["self", "k"] ["self", "k"] (defScope sKind) := ⟨rfl, rfl, rfl, by decide +kernel, rfl, by decide +kernel, by decide +kernel⟩
theorem scTextM : FnScope ["self", "k"] ["self", "k"] (defScope sTextM) := ⟨rfl, rfl, rfl, by decide +kernel, rfl, by decide +kernel, by decide +kernel⟩
theorem scMembers : FnScope ["self", "k"] ["self", "k"] (defScope sMembers) := ⟨rfl, rfl, rfl, by decide +kernel, rfl, by decide +kernel, by decide +kernel⟩
theorem scNotes : FnScope ["self", "k"] ["self", "k"] (defScope sNotes) := ⟨rfl, rfl, rfl, by decide +kernel, rfl, by decide +kernel, by decide +kernel⟩
theorem scCause : FnScope ["self", "k"] ["self", "k"] (defScope sCause) := ⟨rfl, rfl, rfl, by decide +kernel, rfl, by decide +kernel, by decide +kernel⟩
theorem scAtWork : FnScope ["self", "k"] ["self", "k"] (defScope sAtWork) := ⟨rfl, rfl, rfl, by decide +kernel, rfl, by decide +kernel, by decide +kernel⟩
theorem scAdd : FnScope ["self", "kind", "text", "members"] ["self", "kind", "text", "members"] (defScope sAdd) := ⟨rfl, rfl, rfl, by decide +kernel, rfl, by decide +kernel, by decide +kernel⟩
theorem scChkF : FnScope ["self", "k"] ["self", "k"] (defScope sChkF) := ⟨rfl, rfl, rfl, by decide +kernel, rfl, by decide +kernel, by decide +kernel⟩
theorem scChkT : FnScope ["self", "text"] ["self", "text"] (defScope sChkT) := ⟨rfl, rfl, rfl, by decide +kernel, rfl, by decide +kernel, by decide +kernel⟩
theorem scChkM : FnScope ["self", "members", "k"] ["self", "members"] (defScope sChkM) := ⟨rfl, rfl, rfl, by decide +kernel, rfl, by decide +kernel, by decide +kernel⟩
/-- the class's own text -/
structure LTxt (K : PySem.W.Frag) (mg : Str → Option Value) (C fA fCF fCT fCM : Addr) : Prop where
  cl : Cls K C
  n0 : NoAttr K C "_kinds"
  n1 : NoAttr K C "_kind_of"
  n2 : NoAttr K C "_text_of"
  n3 : NoAttr K C "_members_of"
  n4 : NoAttr K C "_notes_of"
  n5 : NoAttr K C "_cause_of"
  n6 : NoAttr K C "_at_work_of"
  mA : Meth K C "_add" fA
  mF : Meth K C "_check_fault" fCF
  mT : Meth K C "_check_text" fCT
  mM : Meth K C "_check_members" fCM
  len : mg "len" = none
  tup : mg "tuple" = none
  lst : mg "list" = none
/-- a number of a fault that is there -/
def spChkF (C : Addr) : Sp := fun vs H Q _ => ∃ (p : Addr) (A : LA) (ms ns : List Addr) (es : List Ent) (k : Nat), vs = [.ref p, .int (k : Int)] ∧ LedAt C H p A ms ns es ∧ k < es.length ∧ Q .non H
def spChkT (C : Addr) : Sp := fun vs H Q _ => ∃ (p : Addr) (z : Str), vs = [.ref p, .str z] ∧ Q .non H
def spMany (C : Addr) : Sp := fun vs H Q _ => ∃ (p : Addr) (A : LA) (ms ns : List Addr) (es : List Ent), vs = [.ref p] ∧ LedAt C H p A ms ns es ∧ Q (.int (es.length : Int)) H
/-- one of the ways to look at a fault -/
def spGet (C : Addr) (g : Ent → V) : Sp := fun vs H Q _ => ∃ (p : Addr) (A : LA) (ms ns : List Addr) (es : List Ent) (k : Nat) (e : Ent), vs = [.ref p, .int (k : Int)] ∧ LedAt C H p A ms ns es ∧ es[k]? = some e ∧ Q (g e) H
/-- .. a list of one's own -/
def spGetL (C : Addr) (g : Ent → List V) : Sp := fun vs H Q _ => ∃ (p : Addr) (A : LA) (ms ns : List Addr) (es : List Ent) (k : Nat) (e : Ent), vs = [.ref p, .int (k : Int)] ∧ LedAt C H p A ms ns es ∧ es[k]? = some e ∧ ∀ l, H l = none → Q (.ref l) (upd H l (.lst (g e)))
section
variable {P : Program} {w : World} {K : PySem.W.Frag} {mg : Str → Option Value} {base : Heap} {C fA fCF fCT fCM : Addr}
theorem ok_chkF {fW : Addr} {fd fdW : FuncData} (F : Fun K "_check_fault" "Ledger._check_fault" sChkF fCF fd) (T : LTxt K mg C fA fCF fCT fCM) (FW : FnOk P w K mg base CX0 1 fW fdW ["thing"] spWhole) (mW : mg "is_whole" = some (.ref fW)) (kW : PySem.W.keepIn K (.ref fW) = true) (bW : Binds K fdW ["thing"] []) :
    FnOk P w K mg base CX0 2 fCF fd ["self", "k"] (spChkF C) := by
  refine F.ok scChkF (fun vs H Q E h => ?_) (fun cdv A outer s H vs Q E hr h => ?_)
  · obtain ⟨p, L, ms, ns, es, k, rfl, _⟩ := h
    rfl
  · obtain ⟨p, L, ms, ns, es, k, rfl, hL, hk, kk⟩ := h
    refine ⟨_, pss_one (ps_if (PW.pt (pw_or (pt_not (pt_val (pe_call FW hr rfl mW kW bW .nil pass0 (pa_cons (pv 1) pa_nil)))) (pw_or1 (pt_not (pt_chain op_le op_lt pe_int (pv 1) (pe_callB call_len_seq (by rfl) T.len PySem.boot_len (pa_cons (pe_fld (pv 0) rfl) pa_nil))))))) (pss_one ps_never) pss_nil), ?_⟩
    refine ⟨_, rfl, _, rfl, true, rfl, iteF ?_⟩
    refine ⟨_, rfl, _, _, rfl, rfl, _, rfl, ?_⟩
    rw [decide_eq_true (show (0 : Int) ≤ (k : Int) by omega)]
    refine iteT ⟨_, rfl, p, C, L.dx, _, _, rfl, hL.ins, T.cl, T.n1, fl1 L, L.l1, _, rfl, .inl (SqL.of hL.h1), _, _, rfl, rfl, _, rfl, ?_⟩
    rw [List.length_map, decide_eq_true (show (k : Int) < (es.length : Int) by omega)]
    exact iteF kk
theorem ok_chkT {fX : Addr} {fd fdX : FuncData} (F : Fun K "_check_text" "Ledger._check_text" sChkT fCT fd) (FX : FnOk P w K mg base CX0 1 fX fdX ["thing"] spIsText) (mX : mg "is_text" = some (.ref fX)) (kX : PySem.W.keepIn K (.ref fX) = true) (bX : Binds K fdX ["thing"] []) :
    FnOk P w K mg base CX0 2 fCT fd ["self", "text"] (spChkT C) := by
  refine F.ok scChkT (fun vs H Q E h => ?_) (fun cdv A outer s H vs Q E hr h => ?_)
  · obtain ⟨p, z, rfl, _⟩ := h
    rfl
  · obtain ⟨p, z, rfl, kk⟩ := h
    refine ⟨_, pss_one (ps_if (pt_not (pt_val (pe_call FX hr rfl mX kX bX .nil pass0 (pa_cons (pv 1) pa_nil)))) (pss_one ps_never) pss_nil), ?_⟩
    exact ⟨_, rfl, z, rfl, true, rfl, iteF kk⟩
theorem ok_many {f : Addr} {fd : FuncData} (F : Fun K "many" "Ledger.many" sMany f fd) (T : LTxt K mg C fA fCF fCT fCM) : FnOk P w K mg base CX0 1 f fd ["self"] (spMany C) := by
  refine F.ok scMany (fun vs H Q E h => ?_) (fun cdv A outer s H vs Q E hr h => ?_)
  · obtain ⟨p, L, ms, ns, es, rfl, _⟩ := h
    rfl
  · obtain ⟨p, L, ms, ns, es, rfl, hL, kk⟩ := h
    refine ⟨_, pss_one (ps_ret (pe_callB call_len_seq (by rfl) T.len PySem.boot_len (pa_cons (pe_fld (pv 0) rfl) pa_nil))), ?_⟩
    refine ⟨_, rfl, p, C, L.dx, _, _, rfl, hL.ins, T.cl, T.n1, fl1 L, L.l1, _, rfl, .inl (SqL.of hL.h1), ?_⟩
    rw [List.length_map]
    exact kk
theorem ok_kind {f : Addr} {fd fdF : FuncData} (F : Fun K "kind" "Ledger.kind" sKind f fd) (T : LTxt K mg C fA fCF fCT fCM) (FF : FnOk P w K mg base CX0 2 fCF fdF ["self", "k"] (spChkF C)) (bF : Binds K fdF ["self", "k"] []) : FnOk P w K mg base CX0 3 f fd ["self", "k"] (spGet C fun e => .str e.kind) := by
  refine F.ok scKind (fun vs H Q E h => ?_) (fun cdv A outer s H vs Q E hr h => ?_)
  · obtain ⟨p, L, ms, ns, es, k, e, rfl, _⟩ := h
    rfl
  · obtain ⟨p, L, ms, ns, es, k, e, rfl, hL, he, kk⟩ := h
    have hk := (List.getElem?_eq_some_iff.mp he).1
    refine ⟨_, pss_cons (ps_expr (pe_meth (pv 0) T.cl T.mF FF hr bF .nil pass0 (pa_cons (pv 1) pa_nil))) (pss_one (ps_ret (pe_ix ix_list (pe_fld (pv 0) rfl) (pv 1) (fun _ _ => rfl)))), ?_⟩
    refine ⟨_, rfl, p, L.dx, _, rfl, hL.ins, flno L, _, rfl, p, L, ms, ns, es, k, rfl, hL, hk, ?_⟩
    exact ⟨_, rfl, p, C, L.dx, _, _, rfl, hL.ins, T.cl, T.n1, fl1 L, _, rfl, L.l1, _, _, _, rfl, rfl, SqL.of hL.h1, atI_nat (by rw [List.getElem?_map, he]; rfl), kk⟩
theorem ok_textM {f : Addr} {fd fdF : FuncData} (F : Fun K "text" "Ledger.text" sTextM f fd) (T : LTxt K mg C fA fCF fCT fCM) (FF : FnOk P w K mg base CX0 2 fCF fdF ["self", "k"] (spChkF C)) (bF : Binds K fdF ["self", "k"] []) : FnOk P w K mg base CX0 3 f fd ["self", "k"] (spGet C fun e => .str e.text) := by
  refine F.ok scTextM (fun vs H Q E h => ?_) (fun cdv A outer s H vs Q E hr h => ?_)
  · obtain ⟨p, L, ms, ns, es, k, e, rfl, _⟩ := h
    rfl
  · obtain ⟨p, L, ms, ns, es, k, e, rfl, hL, he, kk⟩ := h
    have hk := (List.getElem?_eq_some_iff.mp he).1
    refine ⟨_, pss_cons (ps_expr (pe_meth (pv 0) T.cl T.mF FF hr bF .nil pass0 (pa_cons (pv 1) pa_nil))) (pss_one (ps_ret (pe_ix ix_list (pe_fld (pv 0) rfl) (pv 1) (fun _ _ => rfl)))), ?_⟩
    refine ⟨_, rfl, p, L.dx, _, rfl, hL.ins, flno L, _, rfl, p, L, ms, ns, es, k, rfl, hL, hk, ?_⟩
    exact ⟨_, rfl, p, C, L.dx, _, _, rfl, hL.ins, T.cl, T.n2, fl2 L, _, rfl, L.l2, _, _, _, rfl, rfl, SqL.of hL.h2, atI_nat (by rw [List.getElem?_map, he]; rfl), kk⟩
theorem ok_cause {f : Addr} {fd fdF : FuncData} (F : Fun K "cause" "Ledger.cause" sCause f fd) (T : LTxt K mg C fA fCF fCT fCM) (FF : FnOk P w K mg base CX0 2 fCF fdF ["self", "k"] (spChkF C)) (bF : Binds K fdF ["self", "k"] []) : FnOk P w K mg base CX0 3 f fd ["self", "k"] (spGet C fun e => optV e.cause) := by
  refine F.ok scCause (fun vs H Q E h => ?_) (fun cdv A outer s H vs Q E hr h => ?_)
  · obtain ⟨p, L, ms, ns, es, k, e, rfl, _⟩ := h
    rfl
  · obtain ⟨p, L, ms, ns, es, k, e, rfl, hL, he, kk⟩ := h
    have hk := (List.getElem?_eq_some_iff.mp he).1
    refine ⟨_, pss_cons (ps_expr (pe_meth (pv 0) T.cl T.mF FF hr bF .nil pass0 (pa_cons (pv 1) pa_nil))) (pss_one (ps_ret (pe_ix ix_list (pe_fld (pv 0) rfl) (pv 1) (fun _ _ => rfl)))), ?_⟩
    refine ⟨_, rfl, p, L.dx, _, rfl, hL.ins, flno L, _, rfl, p, L, ms, ns, es, k, rfl, hL, hk, ?_⟩
    exact ⟨_, rfl, p, C, L.dx, _, _, rfl, hL.ins, T.cl, T.n5, fl5 L, _, rfl, L.l5, _, _, _, rfl, rfl, SqL.of hL.h5, atI_nat (by rw [List.getElem?_map, he]; rfl), kk⟩
theorem ok_atWork {f : Addr} {fd fdF : FuncData} (F : Fun K "at_work" "Ledger.at_work" sAtWork f fd) (T : LTxt K mg C fA fCF fCT fCM) (FF : FnOk P w K mg base CX0 2 fCF fdF ["self", "k"] (spChkF C)) (bF : Binds K fdF ["self", "k"] []) : FnOk P w K mg base CX0 3 f fd ["self", "k"] (spGet C fun e => optV e.atw) := by
  refine F.ok scAtWork (fun vs H Q E h => ?_) (fun cdv A outer s H vs Q E hr h => ?_)
  · obtain ⟨p, L, ms, ns, es, k, e, rfl, _⟩ := h
    rfl
  · obtain ⟨p, L, ms, ns, es, k, e, rfl, hL, he, kk⟩ := h
    have hk := (List.getElem?_eq_some_iff.mp he).1
    refine ⟨_, pss_cons (ps_expr (pe_meth (pv 0) T.cl T.mF FF hr bF .nil pass0 (pa_cons (pv 1) pa_nil))) (pss_one (ps_ret (pe_ix ix_list (pe_fld (pv 0) rfl) (pv 1) (fun _ _ => rfl)))), ?_⟩
    refine ⟨_, rfl, p, L.dx, _, rfl, hL.ins, flno L, _, rfl, p, L, ms, ns, es, k, rfl, hL, hk, ?_⟩
    exact ⟨_, rfl, p, C, L.dx, _, _, rfl, hL.ins, T.cl, T.n6, fl6 L, _, rfl, L.l6, _, _, _, rfl, rfl, SqL.of hL.h6, atI_nat (by rw [List.getElem?_map, he]; rfl), kk⟩
theorem ok_members {f : Addr} {fd fdF : FuncData} (F : Fun K "members" "Ledger.members" sMembers f fd) (T : LTxt K mg C fA fCF fCT fCM) (FF : FnOk P w K mg base CX0 2 fCF fdF ["self", "k"] (spChkF C)) (bF : Binds K fdF ["self", "k"] []) : FnOk P w K mg base CX0 3 f fd ["self", "k"] (spGetL C fun e => e.mem.map fun k : Nat => V.int (k : Int)) := by
  refine F.ok scMembers (fun vs H Q E h => ?_) (fun cdv A outer s H vs Q E hr h => ?_)
  · obtain ⟨p, L, ms, ns, es, k, e, rfl, _⟩ := h
    rfl
  · obtain ⟨p, L, ms, ns, es, k, e, rfl, hL, he, kk⟩ := h
    have hk := (List.getElem?_eq_some_iff.mp he).1
    obtain ⟨m, hm, hm2⟩ := hL.mems.at he
    refine ⟨_, pss_cons (ps_expr (pe_meth (pv 0) T.cl T.mF FF hr bF .nil pass0 (pa_cons (pv 1) pa_nil))) (pss_one (ps_ret (pe_callTy call_list_of (by rfl) T.lst (by decide +kernel) (pa_cons (pe_ix ix_list (pe_fld (pv 0) rfl) (pv 1) (fun _ _ => rfl)) pa_nil)))), ?_⟩
    refine ⟨_, rfl, p, L.dx, _, rfl, hL.ins, flno L, _, rfl, p, L, ms, ns, es, k, rfl, hL, hk, ?_⟩
    exact ⟨_, rfl, p, C, L.dx, _, _, rfl, hL.ins, T.cl, T.n3, fl3 L, _, rfl, L.l3, _, _, V.ref m, rfl, rfl, SqL.of hL.h3, atI_nat (by rw [List.getElem?_map, hm]; rfl), m, _, rfl, .inr (SqT.of hm2), kk⟩
theorem ok_notes {f : Addr} {fd fdF : FuncData} (F : Fun K "notes" "Ledger.notes" sNotes f fd) (T : LTxt K mg C fA fCF fCT fCM) (FF : FnOk P w K mg base CX0 2 fCF fdF ["self", "k"] (spChkF C)) (bF : Binds K fdF ["self", "k"] []) : FnOk P w K mg base CX0 3 f fd ["self", "k"] (spGetL C fun e => e.notes.map V.str) := by
  refine F.ok scNotes (fun vs H Q E h => ?_) (fun cdv A outer s H vs Q E hr h => ?_)
  · obtain ⟨p, L, ms, ns, es, k, e, rfl, _⟩ := h
    rfl
  · obtain ⟨p, L, ms, ns, es, k, e, rfl, hL, he, kk⟩ := h
    have hk := (List.getElem?_eq_some_iff.mp he).1
    obtain ⟨m, hm, hm2⟩ := hL.notes.at he
    refine ⟨_, pss_cons (ps_expr (pe_meth (pv 0) T.cl T.mF FF hr bF .nil pass0 (pa_cons (pv 1) pa_nil))) (pss_one (ps_ret (pe_callTy call_list_of (by rfl) T.lst (by decide +kernel) (pa_cons (pe_ix ix_list (pe_fld (pv 0) rfl) (pv 1) (fun _ _ => rfl)) pa_nil)))), ?_⟩
    refine ⟨_, rfl, p, L.dx, _, rfl, hL.ins, flno L, _, rfl, p, L, ms, ns, es, k, rfl, hL, hk, ?_⟩
    exact ⟨_, rfl, p, C, L.dx, _, _, rfl, hL.ins, T.cl, T.n4, fl4 L, _, rfl, L.l4, _, _, V.ref m, rfl, rfl, SqL.of hL.h4, atI_nat (by rw [List.getElem?_map, hm]; rfl), m, _, rfl, .inl (SqL.of hm2), kk⟩
end
end Fs
/-! A fault more. -/
namespace Fs
open PySem L2 TL
/-- a new fault: its members as they are handed in -/
def spAdd (K : PySem.W.Frag) (C : Addr) : Sp := fun vs H Q _ => ∃ (p m : Addr) (A : LA) (ms ns : List Addr) (es : List Ent) (z t : Str) (mem : List Nat), vs = [.ref p, .str z, .str t, .ref m] ∧ LedAt C H p A ms ns es ∧ SqL K H m (mem.map fun k : Nat => V.int (k : Int)) ∧ m ∉ A.ls ∧ es.length < 1000 ∧
  ∀ (H' : Hp) (t' n' : Addr), Keep A.ls H H' → LedAt C H' p A (ms ++ [t']) (ns ++ [n']) (es ++ [⟨z, t, mem, [], none, none⟩]) → H n' = none → Q (.int (es.length : Int)) H'
theorem app_run {K : PySem.W.Frag} {C p dx l : Addr} {fs : List (Str × V)} {f : Str} {xs : List V} {v : V} {σ : L2.St} {H : Hp} {te : TE} {D : Ends} (hσ : σ[0]? = some (some (.ref p))) (hp : H p = some (.ins C dx fs)) (cl : Cls K C) (na : NoAttr K C f) (hf : fs.lookup f = some (.ref l))
    (hl : H l = some (.lst xs)) (hlen : xs.length ≤ 1000) (hte : ∀ Q : VK, Q v H → te σ H Q) (h : D.nx σ (upd H l (.lst (xs ++ [v])))) : tDrop (tBM K "list" rAppend (tFld K (tVar 0) f) (tCons te tNil)) D σ H := by
  refine ⟨_, hσ, p, C, dx, fs, _, rfl, hp, cl, na, hf, .inl ⟨rfl, _, SqL.of hl⟩, hte _ ?_⟩
  exact ⟨l, xs, v, rfl, rfl, hl, Nat.lt_of_le_of_lt hlen (by decide), h⟩
theorem ls_ne {A : LA} {ns : List Addr} (h : (A.ls ++ ns).Nodup) : A.l1 ≠ A.l2 ∧ A.l1 ≠ A.l3 ∧ A.l1 ≠ A.l4 ∧ A.l1 ≠ A.l5 ∧ A.l1 ≠ A.l6 ∧ A.l2 ≠ A.l3 ∧ A.l2 ≠ A.l4 ∧ A.l2 ≠ A.l5 ∧ A.l2 ≠ A.l6 ∧ A.l3 ≠ A.l4 ∧ A.l3 ≠ A.l5 ∧ A.l3 ≠ A.l6 ∧ A.l4 ≠ A.l5 ∧ A.l4 ≠ A.l6 ∧ A.l5 ≠ A.l6 := by
  have q := (List.nodup_append.mp h).1
  simp [LA.ls] at q
  obtain ⟨⟨a, b, c, d, e⟩, ⟨f, g, h, i⟩, ⟨j, k, l⟩, ⟨m, n⟩, o⟩ := q
  exact ⟨a, b, c, d, e, f, g, h, i, j, k, l, m, n, o⟩
theorem l_in (A : LA) : A.l1 ∈ A.ls ∧ A.l2 ∈ A.ls ∧ A.l3 ∈ A.ls ∧ A.l4 ∈ A.ls ∧ A.l5 ∈ A.ls ∧ A.l6 ∈ A.ls := by simp [LA.ls]
section
variable {P : Program} {w : World} {K : PySem.W.Frag} {mg : Str → Option Value} {base : Heap} {C fA fCF fCT fCM : Addr}
theorem ok_add {fd : FuncData} (F : Fun K "_add" "Ledger._add" sAdd fA fd) (T : LTxt K mg C fA fCF fCT fCM) : FnOk P w K mg base CX0 1 fA fd ["self", "kind", "text", "members"] (spAdd K C) := by
  refine F.ok scAdd (fun vs H Q E h => ?_) (fun cdv A outer s H vs Q E hr h => ?_)
  · obtain ⟨p, m, L, ms, ns, es, z, t, mem, rfl, _⟩ := h
    rfl
  · obtain ⟨p, m, L, ms, ns, es, z, t, mem, rfl, hL, hm, hmn, hlen, kk⟩ := h
    obtain ⟨n12, n13, n14, n15, n16, n23, n24, n25, n26, n34, n35, n36, n45, n46, n56⟩ := ls_ne hL.nd
    obtain ⟨i1, i2, i3, i4, i5, i6⟩ := l_in L
    have lm := hL.mems.len
    have ln := hL.notes.len
    refine ⟨_, pss_cons (ps_expr (pe_bm PySem.F.plainAttrs_list PySem.F.slot_list_append PySem.F.type_list_append mt_append (pe_fld (pv 0) rfl) (pa_cons (pv 1) pa_nil))) (pss_cons (ps_expr (pe_bm PySem.F.plainAttrs_list PySem.F.slot_list_append PySem.F.type_list_append mt_append (pe_fld (pv 0) rfl) (pa_cons (pv 2) pa_nil))) (pss_cons (ps_expr (pe_bm PySem.F.plainAttrs_list PySem.F.slot_list_append PySem.F.type_list_append mt_append (pe_fld (pv 0) rfl) (pa_cons (pe_callTy call_tuple_of (by rfl) T.tup (by decide +kernel) (pa_cons (pv 3) pa_nil)) pa_nil))) (pss_cons (ps_expr (pe_bm PySem.F.plainAttrs_list PySem.F.slot_list_append PySem.F.type_list_append mt_append (pe_fld (pv 0) rfl) (pa_cons (pe_lst pa_nil) pa_nil))) (pss_cons (ps_expr (pe_bm PySem.F.plainAttrs_list PySem.F.slot_list_append PySem.F.type_list_append mt_append (pe_fld (pv 0) rfl) (pa_cons pe_non pa_nil))) (pss_cons (ps_expr (pe_bm PySem.F.plainAttrs_list PySem.F.slot_list_append PySem.F.type_list_append mt_append (pe_fld (pv 0) rfl) (pa_cons pe_non pa_nil)))
      (pss_one (ps_ret (pe_op op_sub (pe_callB call_len_seq (by rfl) T.len PySem.boot_len (pa_cons (pe_fld (pv 0) rfl) pa_nil)) pe_int)))))))), ?_⟩
    -- kind
    refine app_run rfl hL.ins T.cl T.n1 (fl1 L) hL.h1 (by rw [List.length_map]; omega) (fun Q q => ⟨_, rfl, q⟩) ?_
    have k1 : Keep [L.l1] H (upd H L.l1 (.lst ((es.map fun e => V.str e.kind) ++ [.str z]))) := Keep.own in1
    have a1 : (upd H L.l1 (.lst ((es.map fun e => V.str e.kind) ++ [.str z]))) L.l1 = _ := upd_same
    generalize (upd H L.l1 (.lst ((es.map fun e => V.str e.kind) ++ [.str z]))) = H1 at k1 a1 ⊢
    have p1 : H1 p = some (.ins C L.dx (fldsL L)) := k1.at hL.ins (nin1 (ne_of hL.ins hL.h1 (fun z => by cases z)))
    have b2 := k1.at hL.h2 (nin1 n12.symm)
    -- text
    refine app_run rfl p1 T.cl T.n2 (fl2 L) b2 (by rw [List.length_map]; omega) (fun Q q => ⟨_, rfl, q⟩) ?_
    have k2 : Keep [L.l2] H1 (upd H1 L.l2 (.lst ((es.map fun e => V.str e.text) ++ [.str t]))) := Keep.own in1
    have a2 : (upd H1 L.l2 (.lst ((es.map fun e => V.str e.text) ++ [.str t]))) L.l2 = _ := upd_same
    generalize (upd H1 L.l2 (.lst ((es.map fun e => V.str e.text) ++ [.str t]))) = H2 at k2 a2 ⊢
    have p2 : H2 p = some (.ins C L.dx (fldsL L)) := k2.at p1 (nin1 (ne_of p1 b2 (fun z => by cases z)))
    have nm : ∀ l, l ∈ L.ls → m ∉ [l] := fun l hl z => hmn (by rw [List.mem_singleton.mp z]; exact hl)
    have m2 := k2.seq (nm _ i2) (k1.seq (nm _ i1) hm)
    have b3 := k2.at (k1.at hL.h3 (nin1 n13.symm)) (nin1 n23.symm)
    -- tuple(members)
    refine ⟨_, rfl, p, C, L.dx, _, _, rfl, p2, T.cl, T.n3, fl3 L, .inl ⟨rfl, _, SqL.of b3⟩, _, rfl, m, _, rfl, .inl ⟨m2, fun u hu => ?_⟩⟩
    have k3 : Keep [] H2 (upd H2 u (.tup (mem.map fun k : Nat => V.int (k : Int)))) := Keep.new hu
    have a3 : (upd H2 u (.tup (mem.map fun k : Nat => V.int (k : Int)))) u = _ := upd_same
    generalize (upd H2 u (.tup (mem.map fun k : Nat => V.int (k : Int)))) = H3 at k3 a3 ⊢
    have b3' := k3.at b3 nin0
    refine ⟨L.l3, _, _, rfl, rfl, b3', Nat.lt_of_le_of_lt (by rw [List.length_map]; omega : (ms.map V.ref).length ≤ 1000) (by decide), ?_⟩
    have k4 : Keep [L.l3] H3 (upd H3 L.l3 (.lst ((ms.map V.ref) ++ [.ref u]))) := Keep.own in1
    have a4 : (upd H3 L.l3 (.lst ((ms.map V.ref) ++ [.ref u]))) L.l3 = _ := upd_same
    generalize (upd H3 L.l3 (.lst ((ms.map V.ref) ++ [.ref u]))) = H4 at k4 a4 ⊢
    have p4 : H4 p = some (.ins C L.dx (fldsL L)) := k4.at (k3.at p2 nin0) (nin1 (ne_of (k3.at p2 nin0) b3' (fun z => by cases z)))
    have b4 := k4.at (k3.at (k2.at (k1.at hL.h4 (nin1 n14.symm)) (nin1 n24.symm)) nin0) (nin1 n34.symm)
    -- []
    refine ⟨_, rfl, p, C, L.dx, _, _, rfl, p4, T.cl, T.n4, fl4 L, .inl ⟨rfl, _, SqL.of b4⟩, Nat.zero_le _, fun n hn => ?_⟩
    have k5 : Keep [] H4 (upd H4 n (.lst [])) := Keep.new hn
    have a5 : (upd H4 n (.lst [])) n = _ := upd_same
    generalize (upd H4 n (.lst [])) = H5 at k5 a5 ⊢
    have b4' := k5.at b4 nin0
    refine ⟨L.l4, _, _, rfl, rfl, b4', Nat.lt_of_le_of_lt (by rw [List.length_map]; omega : (ns.map V.ref).length ≤ 1000) (by decide), ?_⟩
    have k6 : Keep [L.l4] H5 (upd H5 L.l4 (.lst ((ns.map V.ref) ++ [.ref n]))) := Keep.own in1
    have a6 : (upd H5 L.l4 (.lst ((ns.map V.ref) ++ [.ref n]))) L.l4 = _ := upd_same
    generalize (upd H5 L.l4 (.lst ((ns.map V.ref) ++ [.ref n]))) = H6 at k6 a6 ⊢
    have p6 : H6 p = some (.ins C L.dx (fldsL L)) := k6.at (k5.at p4 nin0) (nin1 (ne_of (k5.at p4 nin0) b4' (fun z => by cases z)))
    have b5 := k6.at (k5.at (k4.at (k3.at (k2.at (k1.at hL.h5 (nin1 n15.symm)) (nin1 n25.symm)) nin0) (nin1 n35.symm)) nin0) (nin1 n45.symm)
    -- None
    refine app_run rfl p6 T.cl T.n5 (fl5 L) b5 (by rw [List.length_map]; omega) (fun Q q => q) ?_
    have k7 : Keep [L.l5] H6 (upd H6 L.l5 (.lst ((es.map fun e => optV e.cause) ++ [.non]))) := Keep.own in1
    have a7 : (upd H6 L.l5 (.lst ((es.map fun e => optV e.cause) ++ [.non]))) L.l5 = _ := upd_same
    generalize (upd H6 L.l5 (.lst ((es.map fun e => optV e.cause) ++ [.non]))) = H7 at k7 a7 ⊢
    have p7 : H7 p = some (.ins C L.dx (fldsL L)) := k7.at p6 (nin1 (ne_of p6 b5 (fun z => by cases z)))
    have b6 := k7.at (k6.at (k5.at (k4.at (k3.at (k2.at (k1.at hL.h6 (nin1 n16.symm)) (nin1 n26.symm)) nin0) (nin1 n36.symm)) nin0) (nin1 n46.symm)) (nin1 n56.symm)
    refine app_run rfl p7 T.cl T.n6 (fl6 L) b6 (by rw [List.length_map]; omega) (fun Q q => q) ?_
    have k8 : Keep [L.l6] H7 (upd H7 L.l6 (.lst ((es.map fun e => optV e.atw) ++ [.non]))) := Keep.own in1
    have a8 : (upd H7 L.l6 (.lst ((es.map fun e => optV e.atw) ++ [.non]))) L.l6 = _ := upd_same
    generalize (upd H7 L.l6 (.lst ((es.map fun e => optV e.atw) ++ [.non]))) = H8 at k8 a8 ⊢
    have p8 : H8 p = some (.ins C L.dx (fldsL L)) := k8.at p7 (nin1 (ne_of p7 b6 (fun z => by cases z)))
    have e1 : H8 L.l1 = _ := k8.at (k7.at (k6.at (k5.at (k4.at (k3.at (k2.at a1 (nin1 n12)) nin0) (nin1 n13)) nin0) (nin1 n14)) (nin1 n15)) (nin1 n16)
    have e2 : H8 L.l2 = _ := k8.at (k7.at (k6.at (k5.at (k4.at (k3.at a2 nin0) (nin1 n23)) nin0) (nin1 n24)) (nin1 n25)) (nin1 n26)
    have e3 : H8 L.l3 = _ := k8.at (k7.at (k6.at (k5.at a4 nin0) (nin1 n34)) (nin1 n35)) (nin1 n36)
    have e4 : H8 L.l4 = _ := k8.at (k7.at a6 (nin1 n45)) (nin1 n46)
    have e5 : H8 L.l5 = _ := k8.at a7 (nin1 n56)
    have sub : ∀ {l : Addr}, l ∈ L.ls → ∀ b, b ∈ [l] → b ∈ L.ls := fun hl b hb => by rw [List.mem_singleton.mp hb]; exact hl
    have s0 : ∀ b, b ∈ ([] : List Addr) → b ∈ L.ls := fun b hb => absurd hb nin0
    have kA2 : Keep L.ls H H2 := (k1.more (sub i1)).trans (k2.more (sub i2))
    have kA4 : Keep L.ls H H4 := (kA2.trans (k3.more s0)).trans (k4.more (sub i3))
    have kA : Keep L.ls H H8 := (((kA4.trans (k5.more s0)).trans (k6.more (sub i4))).trans (k7.more (sub i5))).trans (k8.more (sub i6))
    have isl := hL.isl
    have nu : ∀ l, l ∈ L.ls → u ≠ l := fun l hl z => by
      have q : H2 l ≠ none := by
        rcases (show l = L.l1 ∨ l = L.l2 ∨ l = L.l3 ∨ l = L.l4 ∨ l = L.l5 ∨ l = L.l6 by simpa [LA.ls] using hl) with q | q | q | q | q | q
        · rw [q, k2.at a1 (nin1 n12)]; simp
        · rw [q, a2]; simp
        · rw [q, b3]; simp
        · rw [q, k2.at (k1.at hL.h4 (nin1 n14.symm)) (nin1 n24.symm)]; simp
        · rw [q, k2.at (k1.at hL.h5 (nin1 n15.symm)) (nin1 n25.symm)]; simp
        · rw [q, k2.at (k1.at hL.h6 (nin1 n16.symm)) (nin1 n26.symm)]; simp
      exact q (by rw [← z]; exact hu)
    have nn : ∀ l, l ∈ L.ls → n ≠ l := fun l hl z => by
      have q : H4 l ≠ none := by
        rcases (show l = L.l1 ∨ l = L.l2 ∨ l = L.l3 ∨ l = L.l4 ∨ l = L.l5 ∨ l = L.l6 by simpa [LA.ls] using hl) with q | q | q | q | q | q
        · rw [q, k4.at (k3.at (k2.at a1 (nin1 n12)) nin0) (nin1 n13)]; simp
        · rw [q, k4.at (k3.at a2 nin0) (nin1 n23)]; simp
        · rw [q, a4]; simp
        · rw [q, b4]; simp
        · rw [q, k4.at (k3.at (k2.at (k1.at hL.h5 (nin1 n15.symm)) (nin1 n25.symm)) nin0) (nin1 n35.symm)]; simp
        · rw [q, k4.at (k3.at (k2.at (k1.at hL.h6 (nin1 n16.symm)) (nin1 n26.symm)) nin0) (nin1 n36.symm)]; simp
      exact q (by rw [← z]; exact hn)
    have nl : ∀ l, l ∈ L.ls → u ∉ [l] := fun l hl => nin1 (nu l hl)
    have eu : H8 u = _ := k8.at (k7.at (k6.at (k5.at (k4.at a3 (nl _ i3)) nin0) (nl _ i4)) (nl _ i5)) (nl _ i6)
    have ml : ∀ l, l ∈ L.ls → n ∉ [l] := fun l hl => nin1 (nn l hl)
    have en : H8 n = _ := k8.at (k7.at (k6.at a5 (ml _ i4)) (ml _ i5)) (ml _ i6)
    have nns : n ∉ ns := fun z => by
      obtain ⟨xs, q⟩ := hL.notes.is n z
      have q2 := kA4.at q (fun y => (nn n y) rfl)
      rw [q2] at hn
      cases hn
    refine ⟨_, rfl, p, C, L.dx, _, _, rfl, p8, T.cl, T.n1, fl1 L, L.l1, _, rfl, .inl (SqL.of e1), _, _, rfl, rfl, ?_⟩
    have el : (((es.map fun e => V.str e.kind) ++ [V.str z]).length : Int) - 1 = (es.length : Int) := by
      rw [List.length_append, List.length_map]; show ((es.length + 1 : Nat) : Int) - 1 = _; omega
    show Q (V.int (((((es.map fun e => V.str e.kind) ++ [V.str z]).length : Nat) : Int) - 1)) H8
    rw [el]
    refine kk H8 u n kA ⟨p8, by rw [e1, List.map_append]; rfl, by rw [e2, List.map_append]; rfl, by rw [e3, List.map_append]; rfl, by rw [e4, List.map_append]; rfl, by rw [e5, List.map_append]; rfl, by rw [a8, List.map_append]; rfl, ?_, ?_, ?_⟩ ?_
    · refine MemsAt.snoc (e := ⟨z, t, mem, [], none, none⟩) eu (hL.mems.map fun a xs q => kA.at q fun y => ?_)
      obtain ⟨ys, qy⟩ := isl a y
      rw [q] at qy
      cases qy
    · refine NotesAt.snoc (e := ⟨z, t, mem, [], none, none⟩) en (hL.notes.map fun a ha xs q => kA.at q fun y => ?_)
      exact (List.nodup_append.mp hL.nd).2.2 a y a ha rfl
    · rw [← List.append_assoc]
      refine List.nodup_append.mpr ⟨hL.nd, by simp, fun a ha b hb => ?_⟩
      rw [List.mem_singleton.mp hb]
      intro z
      rw [z] at ha
      rcases List.mem_append.mp ha with q | q
      · exact nn n q rfl
      · exact nns q
    · exact Keep.free kA4 hn (fun y => nn n y rfl)
end
end Fs
/-! A plain fault, a sheaf; a new ledger. -/
namespace Fs
open PySem L2 TL
def spChkM (K : PySem.W.Frag) (C : Addr) : Sp := fun vs H Q _ => ∃ (p m : Addr) (A : LA) (ms ns : List Addr) (es : List Ent) (mem : List Nat), vs = [.ref p, .ref m] ∧ LedAt C H p A ms ns es ∧ SqL K H m (mem.map fun k : Nat => V.int (k : Int)) ∧ mem ≠ [] ∧ (∀ k ∈ mem, k < es.length) ∧ Q .non H
def spPlain (C CK : Addr) : Sp := fun vs H Q _ => ∃ (p : Addr) (A : LA) (ms ns : List Addr) (es : List Ent) (z t : Str) (ps : List (Str × Str)), vs = [.ref p, .str z, .str t] ∧ LedAt C H p A ms ns es ∧ KindsAt CK H A.kd ps ∧ z ∈ sF :: ps.map Prod.fst ∧ ¬ z = sS ∧ es.length < 1000 ∧
  ∀ (H' : Hp) (t' n' : Addr), Keep A.ls H H' → LedAt C H' p A (ms ++ [t']) (ns ++ [n']) (es ++ [⟨z, t, [], [], none, none⟩]) → H n' = none → Q (.int (es.length : Int)) H'
def spSheaf (K : PySem.W.Frag) (C : Addr) : Sp := fun vs H Q _ => ∃ (p m : Addr) (A : LA) (ms ns : List Addr) (es : List Ent) (t : Str) (mem : List Nat), vs = [.ref p, .str t, .ref m] ∧ LedAt C H p A ms ns es ∧ SqL K H m (mem.map fun k : Nat => V.int (k : Int)) ∧ m ∉ A.ls ∧ mem ≠ [] ∧ (∀ k ∈ mem, k < es.length) ∧ es.length < 1000 ∧
  ∀ (H' : Hp) (t' n' : Addr), Keep A.ls H H' → LedAt C H' p A (ms ++ [t']) (ns ++ [n']) (es ++ [⟨sS, t, mem, [], none, none⟩]) → H n' = none → Q (.int (es.length : Int)) H'
def spLInit (C : Addr) : Sp := fun vs H Q _ => ∃ (p kd dx : Addr), vs = [.ref p, .ref kd] ∧ H p = some (.ins C dx []) ∧ ∀ (H' : Hp) (A : LA), A.kd = kd → Keep [p] H H' → LedAt C H' p A [] [] [] → (∀ l ∈ A.ls, H l = none) → Q .non H'
theorem flnoM (A : LA) : (fldsL A).lookup ("_check_members" : Str) = none := rfl
theorem flnoT (A : LA) : (fldsL A).lookup ("_check_text" : Str) = none := rfl
theorem flnoA (A : LA) : (fldsL A).lookup ("_add" : Str) = none := rfl
section
variable {P : Program} {w : World} {K : PySem.W.Frag} {mg : Str → Option Value} {base : Heap} {C fA fCF fCT fCM CK fKI fKK fKN : Addr}
theorem ok_chkM {fd fdF : FuncData} (F : Fun K "_check_members" "Ledger._check_members" sChkM fCM fd) (T : LTxt K mg C fA fCF fCT fCM) (FF : FnOk P w K mg base CX0 2 fCF fdF ["self", "k"] (spChkF C)) (bF : Binds K fdF ["self", "k"] []) : FnOk P w K mg base CX0 3 fCM fd ["self", "members"] (spChkM K C) := by
  refine F.ok scChkM (fun vs H Q E h => ?_) (fun cdv A outer s H vs Q E hr h => ?_)
  · obtain ⟨p, m, L, ms, ns, es, mem, rfl, _⟩ := h
    rfl
  · obtain ⟨p, m, L, ms, ns, es, mem, rfl, hL, hm, hne, hall, kk⟩ := h
    refine ⟨_, pss_cons (ps_if (pt_not (pt_truth (pv 1) (fun _ => rfl))) (pss_one ps_never) pss_nil)
      (pss_one (ps_for PassesOwn.never rfl (pi_list (pv 1)) (pg_name (i := 2) scChkM.nd rfl (Or.inl rfl)) (pss_one (ps_expr (pe_meth (pv 0) T.cl T.mF FF hr bF .nil pass0 (pa_cons (pv 2) pa_nil)))))), ?_⟩
    refine ⟨_, rfl, true, ?_, iteF ?_⟩
    · refine .inl ⟨_, hm, ?_⟩
      cases mem with
      | nil => exact absurd rfl hne
      | cons k r => rfl
    · refine ⟨_, rfl, m, rfl, ⟨_, hm⟩, for_list (K := K) (a := m) (xs := mem.map fun k : Nat => V.int (k : Int)) (fun i σ H' => H' = H ∧ ∃ v2 : Option V, σ = [some (.ref p), some (.ref m), v2]) ⟨rfl, none, rfl⟩ (fun i σ H' _ hh => by rw [hh.1]; exact hm) ?_ ?_⟩
      · rintro i x σ H' hx ⟨rfl, v2, rfl⟩
        obtain ⟨k, hk, rfl⟩ : ∃ k, mem[i]? = some k ∧ x = V.int ((k : Nat) : Int) := by
          rw [List.getElem?_map] at hx
          cases q : mem[i]? with
          | none => rw [q] at hx; cases hx
          | some a => rw [q] at hx; exact ⟨a, rfl, (Option.some.inj hx).symm⟩
        exact ⟨_, rfl, p, L.dx, _, rfl, hL.ins, flno L, _, rfl, p, L, ms, ns, es, k, rfl, hL, hall k (List.mem_of_getElem? hk), rfl, _, rfl⟩
      · rintro σ H' ⟨rfl, v2, rfl⟩
        exact kk
theorem ok_plain {fd fdA fdT fdK : FuncData} {f : Addr} (F : Fun K "plain" "Ledger.plain" sPlain f fd) (T : LTxt K mg C fA fCF fCT fCM) (TK : KTxt K mg CK fKI fKK fKN) (FK : FnOk P w K mg base CX0 2 fKK fdK ["self", "thing"] (spIsKind CK)) (bK : Binds K fdK ["self", "thing"] []) (FT : FnOk P w K mg base CX0 2 fCT fdT ["self", "text"] (spChkT C)) (bT : Binds K fdT ["self", "text"] [])
    (FA : FnOk P w K mg base CX0 1 fA fdA ["self", "kind", "text", "members"] (spAdd K C)) (bA : Binds K fdA ["self", "kind", "text", "members"] []) : FnOk P w K mg base CX0 3 f fd ["self", "kind", "text"] (spPlain C CK) := by
  refine F.ok scPlain (fun vs H Q E h => ?_) (fun cdv A outer s H vs Q E hr h => ?_)
  · obtain ⟨p, L, ms, ns, es, z, t, ps, rfl, _⟩ := h
    rfl
  · obtain ⟨p, L, ms, ns, es, z, t, ps, rfl, hL, hK, hz, hzs, hlen, kk⟩ := h
    have hr1 : Room 1 _ := hr.mono (by decide)
    refine ⟨_, pss_cons (ps_if (PW.pt (pw_or (pt_not (pt_val (pe_meth (pe_fld (pv 0) rfl) TK.cl TK.mK FK hr bK .nil pass0 (pa_cons (pv 1) pa_nil)))) (pw_or1 (pt_cmpR op_eq (pv 1) pe_str (nomark _))))) (pss_one ps_never) pss_nil)
      (pss_cons (ps_expr (pe_meth (pv 0) T.cl T.mT FT hr bT .nil pass0 (pa_cons (pv 2) pa_nil)))
      (pss_one (ps_ret (pe_meth (pv 0) T.cl T.mA FA hr1 bA .nil pass0 (pa_cons (pv 1) (pa_cons (pv 2) (pa_cons (pe_lst pa_nil) pa_nil))))))), ?_⟩
    obtain ⟨dk, dd, g1, g2⟩ := id hK
    have hz3 : z ∈ sF :: sS :: ps.map Prod.fst := by
      rcases List.mem_cons.mp hz with q | q
      · rw [q]; exact List.mem_cons_self
      · exact List.mem_cons_of_mem _ (List.mem_cons_of_mem _ q)
    refine ⟨_, rfl, p, C, L.dx, _, _, rfl, hL.ins, T.cl, T.n0, fl0 L, L.kd, dk, _, rfl, g1, ab_no _ (by decide +kernel), _, rfl, L.kd, z, ps, rfl, hK, _, rfl, ?_⟩
    rw [decide_eq_true hz3]
    refine iteF ⟨_, rfl, rfl, _, rfl, ?_⟩
    rw [decide_eq_false (fun e => hzs (V.str.inj e))]
    refine iteF ⟨_, rfl, p, L.dx, _, rfl, hL.ins, flnoT L, _, rfl, p, t, rfl, ?_⟩
    refine ⟨_, rfl, p, L.dx, _, rfl, hL.ins, flnoA L, _, rfl, _, rfl, Nat.zero_le _, fun l hl => ?_⟩
    have k1 : Keep [] H (upd H l (.lst [])) := Keep.new hl
    have nl : l ∉ L.ls := fun q => by
      obtain ⟨xs, e⟩ := hL.isl l q
      rw [e] at hl
      cases hl
    refine ⟨p, l, L, ms, ns, es, z, t, [], rfl, hL.keep k1 (fun b q => absurd q nin0) (fun b q => absurd q nin0), SqL.of upd_same, nl, hlen, fun H' t' n' k2 hL' hn => kk H' t' n' ((k1.more fun b q => absurd q nin0).trans k2) hL' (Keep.free k1 hn nin0)⟩
theorem ok_sheaf {fd fdA fdT fdM : FuncData} {f : Addr} (F : Fun K "sheaf" "Ledger.sheaf" sSheaf f fd) (T : LTxt K mg C fA fCF fCT fCM) (FT : FnOk P w K mg base CX0 2 fCT fdT ["self", "text"] (spChkT C)) (bT : Binds K fdT ["self", "text"] []) (FM : FnOk P w K mg base CX0 3 fCM fdM ["self", "members"] (spChkM K C)) (bM : Binds K fdM ["self", "members"] [])
    (FA : FnOk P w K mg base CX0 1 fA fdA ["self", "kind", "text", "members"] (spAdd K C)) (bA : Binds K fdA ["self", "kind", "text", "members"] []) : FnOk P w K mg base CX0 4 f fd ["self", "text", "members"] (spSheaf K C) := by
  refine F.ok scSheaf (fun vs H Q E h => ?_) (fun cdv A outer s H vs Q E hr h => ?_)
  · obtain ⟨p, m, L, ms, ns, es, t, mem, rfl, _⟩ := h
    rfl
  · obtain ⟨p, m, L, ms, ns, es, t, mem, rfl, hL, hm, hmn, hne, hall, hlen, kk⟩ := h
    have hr1 : Room 1 _ := hr.mono (by decide)
    have hr2 : Room 2 _ := hr.mono (by decide)
    refine ⟨_, pss_cons (ps_expr (pe_meth (pv 0) T.cl T.mT FT hr2 bT .nil pass0 (pa_cons (pv 1) pa_nil)))
      (pss_cons (ps_expr (pe_meth (pv 0) T.cl T.mM FM hr bM .nil pass0 (pa_cons (pv 2) pa_nil)))
      (pss_one (ps_ret (pe_meth (pv 0) T.cl T.mA FA hr1 bA .nil pass0 (pa_cons pe_str (pa_cons (pv 1) (pa_cons (pv 2) pa_nil))))))), ?_⟩
    refine ⟨_, rfl, p, L.dx, _, rfl, hL.ins, flnoT L, _, rfl, p, t, rfl, ?_⟩
    refine ⟨_, rfl, p, L.dx, _, rfl, hL.ins, flnoM L, _, rfl, p, m, L, ms, ns, es, mem, rfl, hL, hm, hne, hall, ?_⟩
    exact ⟨_, rfl, p, L.dx, _, rfl, hL.ins, flnoA L, _, rfl, _, rfl, p, m, L, ms, ns, es, sS, t, mem, rfl, hL, hm, hmn, hlen, kk⟩
theorem ok_lInit {f : Addr} {fd : FuncData} (F : Fun K "__init__" "Ledger.__init__" sLInit f fd) (T : LTxt K mg C fA fCF fCT fCM) : FnOk P w K mg base CX0 1 f fd ["self", "kinds"] (spLInit C) := by
  refine F.ok scLInit (fun vs H Q E h => ?_) (fun cdv A outer s H vs Q E hr h => ?_)
  · obtain ⟨p, kd, dx, rfl, _⟩ := h
    rfl
  · obtain ⟨p, kd, dx, rfl, hp, kk⟩ := h
    refine ⟨_, pss_cons (ps_fld (pv 0) (pv 1) rfl) (pss_cons (ps_fld (pv 0) (pe_lst pa_nil) rfl) (pss_cons (ps_fld (pv 0) (pe_lst pa_nil) rfl) (pss_cons (ps_fld (pv 0) (pe_lst pa_nil) rfl) (pss_cons (ps_fld (pv 0) (pe_lst pa_nil) rfl) (pss_cons (ps_fld (pv 0) (pe_lst pa_nil) rfl) (pss_one (ps_fld (pv 0) (pe_lst pa_nil) rfl))))))), ?_⟩
    refine ⟨_, rfl, _, rfl, p, C, dx, [], rfl, hp, T.cl, T.n0, by decide, ?_⟩
    have k0 : Keep [p] H (upd H p (.ins C dx [("_kinds", .ref kd)])) := Keep.own in1
    have p0 : (upd H p (.ins C dx [("_kinds", .ref kd)])) p = some (.ins C dx [("_kinds", .ref kd)]) := upd_same
    have eq0 : upd H p (.ins C dx (putF "_kinds" (.ref kd) [])) = upd H p (.ins C dx [("_kinds", .ref kd)]) := rfl
    rw [eq0]
    generalize (upd H p (.ins C dx [("_kinds", .ref kd)])) = G0 at k0 p0 ⊢
    refine ⟨Nat.zero_le _, fun l1 hl1 => ?_⟩
    have np1 : p ≠ l1 := ne_of_none p0 hl1
    refine ⟨_, rfl, p, C, dx, [("_kinds", .ref kd)], rfl, by rw [upd_ne np1]; exact p0, T.cl, T.n1, (by show 1 < 1000; decide), ?_⟩
    have eq1 : upd (upd G0 l1 (.lst [])) p (.ins C dx (putF "_kind_of" (.ref l1) [("_kinds", .ref kd)])) = upd (upd G0 l1 (.lst [])) p (.ins C dx [("_kinds", .ref kd), ("_kind_of", .ref l1)]) := rfl
    rw [eq1]
    have k1 : Keep [p] G0 (upd (upd G0 l1 (.lst [])) p (.ins C dx [("_kinds", .ref kd), ("_kind_of", .ref l1)])) := (Keep.new hl1).ownTo in1
    have p1 : (upd (upd G0 l1 (.lst [])) p (.ins C dx [("_kinds", .ref kd), ("_kind_of", .ref l1)])) p = some (.ins C dx [("_kinds", .ref kd), ("_kind_of", .ref l1)]) := upd_same
    have b1 : (upd (upd G0 l1 (.lst [])) p (.ins C dx [("_kinds", .ref kd), ("_kind_of", .ref l1)])) l1 = some (.lst []) := by rw [upd_ne np1.symm, upd_same]
    generalize (upd (upd G0 l1 (.lst [])) p (.ins C dx [("_kinds", .ref kd), ("_kind_of", .ref l1)])) = G1 at k1 p1 b1 ⊢
    refine ⟨Nat.zero_le _, fun l2 hl2 => ?_⟩
    have np2 : p ≠ l2 := ne_of_none p1 hl2
    refine ⟨_, rfl, p, C, dx, [("_kinds", .ref kd), ("_kind_of", .ref l1)], rfl, by rw [upd_ne np2]; exact p1, T.cl, T.n2, (by show 2 < 1000; decide), ?_⟩
    have eq2 : upd (upd G1 l2 (.lst [])) p (.ins C dx (putF "_text_of" (.ref l2) [("_kinds", .ref kd), ("_kind_of", .ref l1)])) = upd (upd G1 l2 (.lst [])) p (.ins C dx [("_kinds", .ref kd), ("_kind_of", .ref l1), ("_text_of", .ref l2)]) := rfl
    rw [eq2]
    have k2 : Keep [p] G1 (upd (upd G1 l2 (.lst [])) p (.ins C dx [("_kinds", .ref kd), ("_kind_of", .ref l1), ("_text_of", .ref l2)])) := (Keep.new hl2).ownTo in1
    have p2 : (upd (upd G1 l2 (.lst [])) p (.ins C dx [("_kinds", .ref kd), ("_kind_of", .ref l1), ("_text_of", .ref l2)])) p = some (.ins C dx [("_kinds", .ref kd), ("_kind_of", .ref l1), ("_text_of", .ref l2)]) := upd_same
    have b2 : (upd (upd G1 l2 (.lst [])) p (.ins C dx [("_kinds", .ref kd), ("_kind_of", .ref l1), ("_text_of", .ref l2)])) l2 = some (.lst []) := by rw [upd_ne np2.symm, upd_same]
    generalize (upd (upd G1 l2 (.lst [])) p (.ins C dx [("_kinds", .ref kd), ("_kind_of", .ref l1), ("_text_of", .ref l2)])) = G2 at k2 p2 b2 ⊢
    refine ⟨Nat.zero_le _, fun l3 hl3 => ?_⟩
    have np3 : p ≠ l3 := ne_of_none p2 hl3
    refine ⟨_, rfl, p, C, dx, [("_kinds", .ref kd), ("_kind_of", .ref l1), ("_text_of", .ref l2)], rfl, by rw [upd_ne np3]; exact p2, T.cl, T.n3, (by show 3 < 1000; decide), ?_⟩
    have eq3 : upd (upd G2 l3 (.lst [])) p (.ins C dx (putF "_members_of" (.ref l3) [("_kinds", .ref kd), ("_kind_of", .ref l1), ("_text_of", .ref l2)])) = upd (upd G2 l3 (.lst [])) p (.ins C dx [("_kinds", .ref kd), ("_kind_of", .ref l1), ("_text_of", .ref l2), ("_members_of", .ref l3)]) := rfl
    rw [eq3]
    have k3 : Keep [p] G2 (upd (upd G2 l3 (.lst [])) p (.ins C dx [("_kinds", .ref kd), ("_kind_of", .ref l1), ("_text_of", .ref l2), ("_members_of", .ref l3)])) := (Keep.new hl3).ownTo in1
    have p3 : (upd (upd G2 l3 (.lst [])) p (.ins C dx [("_kinds", .ref kd), ("_kind_of", .ref l1), ("_text_of", .ref l2), ("_members_of", .ref l3)])) p = some (.ins C dx [("_kinds", .ref kd), ("_kind_of", .ref l1), ("_text_of", .ref l2), ("_members_of", .ref l3)]) := upd_same
    have b3 : (upd (upd G2 l3 (.lst [])) p (.ins C dx [("_kinds", .ref kd), ("_kind_of", .ref l1), ("_text_of", .ref l2), ("_members_of", .ref l3)])) l3 = some (.lst []) := by rw [upd_ne np3.symm, upd_same]
    generalize (upd (upd G2 l3 (.lst [])) p (.ins C dx [("_kinds", .ref kd), ("_kind_of", .ref l1), ("_text_of", .ref l2), ("_members_of", .ref l3)])) = G3 at k3 p3 b3 ⊢
    refine ⟨Nat.zero_le _, fun l4 hl4 => ?_⟩
    have np4 : p ≠ l4 := ne_of_none p3 hl4
    refine ⟨_, rfl, p, C, dx, [("_kinds", .ref kd), ("_kind_of", .ref l1), ("_text_of", .ref l2), ("_members_of", .ref l3)], rfl, by rw [upd_ne np4]; exact p3, T.cl, T.n4, (by show 4 < 1000; decide), ?_⟩
    have eq4 : upd (upd G3 l4 (.lst [])) p (.ins C dx (putF "_notes_of" (.ref l4) [("_kinds", .ref kd), ("_kind_of", .ref l1), ("_text_of", .ref l2), ("_members_of", .ref l3)])) = upd (upd G3 l4 (.lst [])) p (.ins C dx [("_kinds", .ref kd), ("_kind_of", .ref l1), ("_text_of", .ref l2), ("_members_of", .ref l3), ("_notes_of", .ref l4)]) := rfl
    rw [eq4]
    have k4 : Keep [p] G3 (upd (upd G3 l4 (.lst [])) p (.ins C dx [("_kinds", .ref kd), ("_kind_of", .ref l1), ("_text_of", .ref l2), ("_members_of", .ref l3), ("_notes_of", .ref l4)])) := (Keep.new hl4).ownTo in1
    have p4 : (upd (upd G3 l4 (.lst [])) p (.ins C dx [("_kinds", .ref kd), ("_kind_of", .ref l1), ("_text_of", .ref l2), ("_members_of", .ref l3), ("_notes_of", .ref l4)])) p = some (.ins C dx [("_kinds", .ref kd), ("_kind_of", .ref l1), ("_text_of", .ref l2), ("_members_of", .ref l3), ("_notes_of", .ref l4)]) := upd_same
    have b4 : (upd (upd G3 l4 (.lst [])) p (.ins C dx [("_kinds", .ref kd), ("_kind_of", .ref l1), ("_text_of", .ref l2), ("_members_of", .ref l3), ("_notes_of", .ref l4)])) l4 = some (.lst []) := by rw [upd_ne np4.symm, upd_same]
    generalize (upd (upd G3 l4 (.lst [])) p (.ins C dx [("_kinds", .ref kd), ("_kind_of", .ref l1), ("_text_of", .ref l2), ("_members_of", .ref l3), ("_notes_of", .ref l4)])) = G4 at k4 p4 b4 ⊢
    refine ⟨Nat.zero_le _, fun l5 hl5 => ?_⟩
    have np5 : p ≠ l5 := ne_of_none p4 hl5
    refine ⟨_, rfl, p, C, dx, [("_kinds", .ref kd), ("_kind_of", .ref l1), ("_text_of", .ref l2), ("_members_of", .ref l3), ("_notes_of", .ref l4)], rfl, by rw [upd_ne np5]; exact p4, T.cl, T.n5, (by show 5 < 1000; decide), ?_⟩
    have eq5 : upd (upd G4 l5 (.lst [])) p (.ins C dx (putF "_cause_of" (.ref l5) [("_kinds", .ref kd), ("_kind_of", .ref l1), ("_text_of", .ref l2), ("_members_of", .ref l3), ("_notes_of", .ref l4)])) = upd (upd G4 l5 (.lst [])) p (.ins C dx [("_kinds", .ref kd), ("_kind_of", .ref l1), ("_text_of", .ref l2), ("_members_of", .ref l3), ("_notes_of", .ref l4), ("_cause_of", .ref l5)]) := rfl
    rw [eq5]
    have k5 : Keep [p] G4 (upd (upd G4 l5 (.lst [])) p (.ins C dx [("_kinds", .ref kd), ("_kind_of", .ref l1), ("_text_of", .ref l2), ("_members_of", .ref l3), ("_notes_of", .ref l4), ("_cause_of", .ref l5)])) := (Keep.new hl5).ownTo in1
    have p5 : (upd (upd G4 l5 (.lst [])) p (.ins C dx [("_kinds", .ref kd), ("_kind_of", .ref l1), ("_text_of", .ref l2), ("_members_of", .ref l3), ("_notes_of", .ref l4), ("_cause_of", .ref l5)])) p = some (.ins C dx [("_kinds", .ref kd), ("_kind_of", .ref l1), ("_text_of", .ref l2), ("_members_of", .ref l3), ("_notes_of", .ref l4), ("_cause_of", .ref l5)]) := upd_same
    have b5 : (upd (upd G4 l5 (.lst [])) p (.ins C dx [("_kinds", .ref kd), ("_kind_of", .ref l1), ("_text_of", .ref l2), ("_members_of", .ref l3), ("_notes_of", .ref l4), ("_cause_of", .ref l5)])) l5 = some (.lst []) := by rw [upd_ne np5.symm, upd_same]
    generalize (upd (upd G4 l5 (.lst [])) p (.ins C dx [("_kinds", .ref kd), ("_kind_of", .ref l1), ("_text_of", .ref l2), ("_members_of", .ref l3), ("_notes_of", .ref l4), ("_cause_of", .ref l5)])) = G5 at k5 p5 b5 ⊢
    refine ⟨Nat.zero_le _, fun l6 hl6 => ?_⟩
    have np6 : p ≠ l6 := ne_of_none p5 hl6
    refine ⟨_, rfl, p, C, dx, [("_kinds", .ref kd), ("_kind_of", .ref l1), ("_text_of", .ref l2), ("_members_of", .ref l3), ("_notes_of", .ref l4), ("_cause_of", .ref l5)], rfl, by rw [upd_ne np6]; exact p5, T.cl, T.n6, (by show 6 < 1000; decide), ?_⟩
    have eq6 : upd (upd G5 l6 (.lst [])) p (.ins C dx (putF "_at_work_of" (.ref l6) [("_kinds", .ref kd), ("_kind_of", .ref l1), ("_text_of", .ref l2), ("_members_of", .ref l3), ("_notes_of", .ref l4), ("_cause_of", .ref l5)])) = upd (upd G5 l6 (.lst [])) p (.ins C dx [("_kinds", .ref kd), ("_kind_of", .ref l1), ("_text_of", .ref l2), ("_members_of", .ref l3), ("_notes_of", .ref l4), ("_cause_of", .ref l5), ("_at_work_of", .ref l6)]) := rfl
    rw [eq6]
    have k6 : Keep [p] G5 (upd (upd G5 l6 (.lst [])) p (.ins C dx [("_kinds", .ref kd), ("_kind_of", .ref l1), ("_text_of", .ref l2), ("_members_of", .ref l3), ("_notes_of", .ref l4), ("_cause_of", .ref l5), ("_at_work_of", .ref l6)])) := (Keep.new hl6).ownTo in1
    have p6 : (upd (upd G5 l6 (.lst [])) p (.ins C dx [("_kinds", .ref kd), ("_kind_of", .ref l1), ("_text_of", .ref l2), ("_members_of", .ref l3), ("_notes_of", .ref l4), ("_cause_of", .ref l5), ("_at_work_of", .ref l6)])) p = some (.ins C dx [("_kinds", .ref kd), ("_kind_of", .ref l1), ("_text_of", .ref l2), ("_members_of", .ref l3), ("_notes_of", .ref l4), ("_cause_of", .ref l5), ("_at_work_of", .ref l6)]) := upd_same
    have b6 : (upd (upd G5 l6 (.lst [])) p (.ins C dx [("_kinds", .ref kd), ("_kind_of", .ref l1), ("_text_of", .ref l2), ("_members_of", .ref l3), ("_notes_of", .ref l4), ("_cause_of", .ref l5), ("_at_work_of", .ref l6)])) l6 = some (.lst []) := by rw [upd_ne np6.symm, upd_same]
    generalize (upd (upd G5 l6 (.lst [])) p (.ins C dx [("_kinds", .ref kd), ("_kind_of", .ref l1), ("_text_of", .ref l2), ("_members_of", .ref l3), ("_notes_of", .ref l4), ("_cause_of", .ref l5), ("_at_work_of", .ref l6)])) = G6 at k6 p6 b6 ⊢
    have c1 : G6 l1 = some (.lst []) := k6.at (k5.at (k4.at (k3.at (k2.at (b1) (nin1 np1.symm)) (nin1 np1.symm)) (nin1 np1.symm)) (nin1 np1.symm)) (nin1 np1.symm)
    have c2 : G6 l2 = some (.lst []) := k6.at (k5.at (k4.at (k3.at (b2) (nin1 np2.symm)) (nin1 np2.symm)) (nin1 np2.symm)) (nin1 np2.symm)
    have c3 : G6 l3 = some (.lst []) := k6.at (k5.at (k4.at (b3) (nin1 np3.symm)) (nin1 np3.symm)) (nin1 np3.symm)
    have c4 : G6 l4 = some (.lst []) := k6.at (k5.at (b4) (nin1 np4.symm)) (nin1 np4.symm)
    have c5 : G6 l5 = some (.lst []) := k6.at (b5) (nin1 np5.symm)
    have c6 : G6 l6 = some (.lst []) := b6
    have n12 : l1 ≠ l2 := ne_of_none (b1) hl2
    have n13 : l1 ≠ l3 := ne_of_none (k2.at (b1) (nin1 np1.symm)) hl3
    have n14 : l1 ≠ l4 := ne_of_none (k3.at (k2.at (b1) (nin1 np1.symm)) (nin1 np1.symm)) hl4
    have n15 : l1 ≠ l5 := ne_of_none (k4.at (k3.at (k2.at (b1) (nin1 np1.symm)) (nin1 np1.symm)) (nin1 np1.symm)) hl5
    have n16 : l1 ≠ l6 := ne_of_none (k5.at (k4.at (k3.at (k2.at (b1) (nin1 np1.symm)) (nin1 np1.symm)) (nin1 np1.symm)) (nin1 np1.symm)) hl6
    have n23 : l2 ≠ l3 := ne_of_none (b2) hl3
    have n24 : l2 ≠ l4 := ne_of_none (k3.at (b2) (nin1 np2.symm)) hl4
    have n25 : l2 ≠ l5 := ne_of_none (k4.at (k3.at (b2) (nin1 np2.symm)) (nin1 np2.symm)) hl5
    have n26 : l2 ≠ l6 := ne_of_none (k5.at (k4.at (k3.at (b2) (nin1 np2.symm)) (nin1 np2.symm)) (nin1 np2.symm)) hl6
    have n34 : l3 ≠ l4 := ne_of_none (b3) hl4
    have n35 : l3 ≠ l5 := ne_of_none (k4.at (b3) (nin1 np3.symm)) hl5
    have n36 : l3 ≠ l6 := ne_of_none (k5.at (k4.at (b3) (nin1 np3.symm)) (nin1 np3.symm)) hl6
    have n45 : l4 ≠ l5 := ne_of_none (b4) hl5
    have n46 : l4 ≠ l6 := ne_of_none (k5.at (b4) (nin1 np4.symm)) hl6
    have n56 : l5 ≠ l6 := ne_of_none (b5) hl6
    have f1 : H l1 = none := Keep.free (k0) hl1 (nin1 np1.symm)
    have f2 : H l2 = none := Keep.free ((k0).trans k1) hl2 (nin1 np2.symm)
    have f3 : H l3 = none := Keep.free (((k0).trans k1).trans k2) hl3 (nin1 np3.symm)
    have f4 : H l4 = none := Keep.free ((((k0).trans k1).trans k2).trans k3) hl4 (nin1 np4.symm)
    have f5 : H l5 = none := Keep.free (((((k0).trans k1).trans k2).trans k3).trans k4) hl5 (nin1 np5.symm)
    have f6 : H l6 = none := Keep.free ((((((k0).trans k1).trans k2).trans k3).trans k4).trans k5) hl6 (nin1 np6.symm)
    refine kk G6 ⟨dx, kd, l1, l2, l3, l4, l5, l6⟩ rfl (((((((k0).trans k1).trans k2).trans k3).trans k4).trans k5).trans k6) ⟨p6, c1, c2, c3, c4, c5, c6, True.intro, True.intro, ?_⟩ ?_
    · simp [LA.ls, n12, n13, n14, n15, n16, n23, n24, n25, n26, n34, n35, n36, n45, n46, n56]
    · intro l hl
      rcases (show l = l1 ∨ l = l2 ∨ l = l3 ∨ l = l4 ∨ l = l5 ∨ l = l6 by simpa [LA.ls] using hl) with q | q | q | q | q | q <;> rw [q] <;> assumption
end
end Fs
/-! All that a ledger tells. -/
namespace Fs
open PySem L2 TL
abbrev sTold : Stmt := top 32
abbrev nTold : List Str := ["_law_ledger_here", "_law_found", "_law_k", "_law_one"]
theorem scTold : FnScope nTold ["_law_ledger_here"] (defScope sTold) := ⟨rfl, rfl, rfl, by decide +kernel, rfl, by decide +kernel, by decide +kernel⟩
abbrev memV (l : List Nat) : List V := l.map fun k : Nat => V.int (k : Int)
/-- a row of what is told of a fault; none of its lists is one of these -/
def RowAt (bad : List Addr) (H : Hp) (r : Addr) (e : Ent) : Prop := ∃ m n : Addr, r ∉ bad ∧ m ∉ bad ∧ n ∉ bad ∧ H r = some (.lst [.str e.kind, .str e.text, .ref m, .ref n, optV e.cause, optV e.atw]) ∧ H m = some (.lst (memV e.mem)) ∧ H n = some (.lst (e.notes.map V.str))
def RowsAt (bad : List Addr) (H : Hp) : List Addr → List Ent → Prop
  | [], [] => True
  | a :: as, e :: es => RowAt bad H a e ∧ RowsAt bad H as es
  | _, _ => False
theorem RowAt.imp {bad bad' : List Addr} {H H' : Hp} {r : Addr} {e : Ent} (h : RowAt bad H r e) (k : Keep bad H H') (hb : ∀ a, a ∉ bad → (∃ o, H a = some o) → a ∉ bad') : RowAt bad' H' r e := by
  obtain ⟨m, n, h1, h2, h3, h4, h5, h6⟩ := h
  exact ⟨m, n, hb r h1 ⟨_, h4⟩, hb m h2 ⟨_, h5⟩, hb n h3 ⟨_, h6⟩, k.at h4 h1, k.at h5 h2, k.at h6 h3⟩
theorem RowsAt.imp {bad bad' : List Addr} {H H' : Hp} (k : Keep bad H H') (hb : ∀ a, a ∉ bad → (∃ o, H a = some o) → a ∉ bad') : ∀ {as : List Addr} {es : List Ent}, RowsAt bad H as es → RowsAt bad' H' as es
  | [], [], _ => True.intro
  | _ :: as, _ :: es, h => ⟨h.1.imp k hb, RowsAt.imp k hb h.2⟩
  | [], _ :: _, h => h.elim
  | _ :: _, [], h => h.elim
theorem RowsAt.keep {bad : List Addr} {H H' : Hp} (k : Keep bad H H') {as : List Addr} {es : List Ent} (h : RowsAt bad H as es) : RowsAt bad H' as es := h.imp k fun _ n _ => n
theorem RowsAt.less {bad bad' : List Addr} {H : Hp} (hb : ∀ a, a ∈ bad' → a ∈ bad) {as : List Addr} {es : List Ent} (h : RowsAt bad H as es) : RowsAt bad' H as es := h.imp (Keep.refl _ _) fun a n _ q => n (hb a q)
/-- what isn't tracked may be told bad, too -/
theorem RowsAt.more {bad : List Addr} {H : Hp} {p : Addr} (hp : H p = none) {as : List Addr} {es : List Ent} (h : RowsAt bad H as es) : RowsAt (p :: bad) H as es := h.imp (Keep.refl _ _) fun a n hx q => by
  rcases List.mem_cons.mp q with q | q
  · obtain ⟨o, e⟩ := hx
    rw [q, hp] at e
    cases e
  · exact n q
theorem RowsAt.len {bad : List Addr} {H : Hp} : ∀ {as : List Addr} {es : List Ent}, RowsAt bad H as es → as.length = es.length
  | [], [], _ => rfl
  | _ :: as, _ :: es, h => by rw [List.length_cons, List.length_cons, RowsAt.len h.2]
  | [], _ :: _, h => h.elim
  | _ :: _, [], h => h.elim
theorem RowsAt.snoc {bad : List Addr} {H : Hp} {b : Addr} {e : Ent} (hb : RowAt bad H b e) : ∀ {as : List Addr} {es : List Ent}, RowsAt bad H as es → RowsAt bad H (as ++ [b]) (es ++ [e])
  | [], [], _ => ⟨hb, True.intro⟩
  | _ :: as, _ :: es, h => ⟨h.1, RowsAt.snoc hb h.2⟩
  | [], _ :: _, h => h.elim
  | _ :: _, [], h => h.elim
/-- a list of such rows -/
def ToldAt (bad : List Addr) (H : Hp) (F : Addr) (es : List Ent) : Prop := ∃ rs : List Addr, H F = some (.lst (rs.map V.ref)) ∧ RowsAt bad H rs es
def optD : Option Nat → PyData
  | none => .none
  | some k => .int (k : Int)
def entD (e : Ent) : PyData := .list [.str e.kind, .str e.text, .list (e.mem.map fun k : Nat => PyData.int (k : Int)), .list (e.notes.map PyData.str), optD e.cause, optD e.atw]
theorem dp_ints {K : PySem.W.Frag} {H : Hp} : ∀ l : List Nat, DpAll K H (memV l) (l.map fun k : Nat => PyData.int (k : Int))
  | [] => .nil
  | k :: r => .cons (.int _) (dp_ints r)
theorem dp_strs {K : PySem.W.Frag} {H : Hp} : ∀ l : List Str, DpAll K H (l.map V.str) (l.map PyData.str)
  | [] => .nil
  | k :: r => .cons (.str _) (dp_strs r)
theorem dp_opt {K : PySem.W.Frag} {H : Hp} : ∀ o : Option Nat, Dp K H (optV o) (optD o)
  | none => .non
  | some k => .int _
theorem RowAt.dp {K : PySem.W.Frag} {bad : List Addr} {H : Hp} {r : Addr} {e : Ent} (h : RowAt bad H r e) : Dp K H (.ref r) (entD e) := by
  obtain ⟨m, n, h1, h2, h3, h4, h5, h6⟩ := h
  exact .lst (SqL.of h4) (.cons (.str _) (.cons (.str _) (.cons (.lst (SqL.of h5) (dp_ints _)) (.cons (.lst (SqL.of h6) (dp_strs _)) (.cons (dp_opt _) (.cons (dp_opt _) .nil))))))
theorem RowsAt.dp {K : PySem.W.Frag} {bad : List Addr} {H : Hp} : ∀ {as : List Addr} {es : List Ent}, RowsAt bad H as es → DpAll K H (as.map V.ref) (es.map entD)
  | [], [], _ => .nil
  | _ :: as, _ :: es, h => .cons h.1.dp (RowsAt.dp h.2)
  | [], _ :: _, h => h.elim
  | _ :: _, [], h => h.elim
theorem ToldAt.dp {K : PySem.W.Frag} {bad : List Addr} {H : Hp} {F : Addr} {es : List Ent} (h : ToldAt bad H F es) : Dp K H (.ref F) (.list (es.map entD)) := by
  obtain ⟨rs, e, r⟩ := h
  exact .lst (SqL.of e) r.dp
def spTold (C : Addr) : Sp := fun vs H Q _ => ∃ (p : Addr) (A : LA) (ms ns : List Addr) (es : List Ent), vs = [.ref p] ∧ LedAt C H p A ms ns es ∧ es.length ≤ 1000 ∧ ∀ (H' : Hp) (F : Addr), Keep [] H H' → H F = none → ToldAt [] H' F es → Q (.ref F) H'
structure GTxt (K : PySem.W.Frag) (C f1 f2 f3 f4 f5 f6 f7 : Addr) : Prop where
  many : Meth K C "many" f1
  kind : Meth K C "kind" f2
  text : Meth K C "text" f3
  members : Meth K C "members" f4
  notes : Meth K C "notes" f5
  cause : Meth K C "cause" f6
  atw : Meth K C "at_work" f7
theorem flg1 (A : LA) : (fldsL A).lookup ("many" : Str) = none := rfl
theorem flg2 (A : LA) : (fldsL A).lookup ("kind" : Str) = none := rfl
theorem flg3 (A : LA) : (fldsL A).lookup ("text" : Str) = none := rfl
theorem flg4 (A : LA) : (fldsL A).lookup ("members" : Str) = none := rfl
theorem flg5 (A : LA) : (fldsL A).lookup ("notes" : Str) = none := rfl
theorem flg6 (A : LA) : (fldsL A).lookup ("cause" : Str) = none := rfl
theorem flg7 (A : LA) : (fldsL A).lookup ("at_work" : Str) = none := rfl
section
variable {P : Program} {w : World} {K : PySem.W.Frag} {mg : Str → Option Value} {base : Heap} {C f1 f2 f3 f4 f5 f6 f7 : Addr}
theorem ok_told {f : Addr} {fd d1 d2 d3 d4 d5 d6 d7 : FuncData} (F : Fun K "_law_told" "_law_told" sTold f fd) (cl : Cls K C) (T : GTxt K C f1 f2 f3 f4 f5 f6 f7) (mR : mg "range" = none)
    (F1 : FnOk P w K mg base CX0 1 f1 d1 ["self"] (spMany C)) (b1 : Binds K d1 ["self"] []) (F2 : FnOk P w K mg base CX0 3 f2 d2 ["self", "k"] (spGet C fun e => .str e.kind)) (b2 : Binds K d2 ["self", "k"] []) (F3 : FnOk P w K mg base CX0 3 f3 d3 ["self", "k"] (spGet C fun e => .str e.text)) (b3 : Binds K d3 ["self", "k"] [])
    (F4 : FnOk P w K mg base CX0 3 f4 d4 ["self", "k"] (spGetL C fun e => memV e.mem)) (b4 : Binds K d4 ["self", "k"] []) (F5 : FnOk P w K mg base CX0 3 f5 d5 ["self", "k"] (spGetL C fun e => e.notes.map V.str)) (b5 : Binds K d5 ["self", "k"] [])
    (F6 : FnOk P w K mg base CX0 3 f6 d6 ["self", "k"] (spGet C fun e => optV e.cause)) (b6 : Binds K d6 ["self", "k"] []) (F7 : FnOk P w K mg base CX0 3 f7 d7 ["self", "k"] (spGet C fun e => optV e.atw)) (b7 : Binds K d7 ["self", "k"] []) :
    FnOk P w K mg base CX0 4 f fd ["_law_ledger_here"] (spTold C) := by
  refine F.ok scTold (fun vs H Q E h => ?_) (fun cdv A outer s H vs Q E hr h => ?_)
  · obtain ⟨p, L, ms, ns, es, rfl, _⟩ := h
    rfl
  · obtain ⟨p, L, ms, ns, es, rfl, hL, hlen, kk⟩ := h
    have hr1 : Room 1 _ := hr.mono (by decide)
    refine ⟨_, pss_cons (ps_set (i := 1) scTold.nd rfl (Or.inl rfl) (pe_lst pa_nil))
      (pss_cons (ps_for PassesOwn.never rfl (pi_range1 rfl mR (pa_cons (pe_meth0 (pv 0) cl T.many F1 hr1 b1 .nil pass0) pa_nil)) (pg_name (i := 2) scTold.nd rfl (Or.inl rfl))
        (pss_cons (ps_set (i := 3) scTold.nd rfl (Or.inl rfl) (pe_lst (pa_cons (pe_meth (pv 0) cl T.kind F2 hr b2 .nil pass0 (pa_cons (pv 2) pa_nil)) (pa_cons (pe_meth (pv 0) cl T.text F3 hr b3 .nil pass0 (pa_cons (pv 2) pa_nil)) (pa_cons (pe_meth (pv 0) cl T.members F4 hr b4 .nil pass0 (pa_cons (pv 2) pa_nil)) (pa_cons (pe_meth (pv 0) cl T.notes F5 hr b5 .nil pass0 (pa_cons (pv 2) pa_nil)) pa_nil))))))
        (pss_one (ps_expr (pe_bm PySem.F.plainAttrs_list PySem.F.slot_list_append PySem.F.type_list_append mt_append (pv 1) (pa_cons (pe_op op_cat (pv 3) (pe_lst (pa_cons (pe_meth (pv 0) cl T.cause F6 hr b6 .nil pass0 (pa_cons (pv 2) pa_nil)) (pa_cons (pe_meth (pv 0) cl T.atw F7 hr b7 .nil pass0 (pa_cons (pv 2) pa_nil)) pa_nil)))) pa_nil))))))
      (pss_one (ps_ret (pv 1)))), ?_⟩
    refine ⟨Nat.zero_le _, fun l hl => ?_⟩
    have k0 : Keep [] H (upd H l (.lst [])) := Keep.new hl
    have hL0 := hL.keep k0 (fun b q => absurd q nin0) (fun b q => absurd q nin0)
    refine ⟨_, rfl, p, L.dx, _, rfl, hL0.ins, flg1 L, p, L, ms, ns, es, rfl, hL0, _, rfl, by omega, by omega, ?_⟩
    rw [Int.toNat_natCast]
    refine for_range (lo := 0) (n := es.length) (fun i σ H' => ∃ (v2 v3 : Option V) (rs : List Addr), σ = [some (.ref p), some (.ref l), v2, v3] ∧ Keep [] H H' ∧ H' l = some (.lst (rs.map V.ref)) ∧ RowsAt [l] H' rs (es.take i))
      ⟨none, none, [], rfl, k0, upd_same, True.intro⟩ ?_ ?_
    · rintro i σ H1 hi ⟨v2, v3, rs, rfl, k1, e1, r1⟩
      have he : es[i]? = some es[i] := List.getElem?_eq_getElem hi
      generalize es[i] = e at he
      have z0 : (0 : Int) + (i : Int) = (i : Int) := Int.zero_add _
      have hL1 := hL.keep k1 (fun b q => absurd q nin0) (fun b q => absurd q nin0)
      refine ⟨_, rfl, p, L.dx, _, rfl, hL1.ins, flg2 L, _, rfl, p, L, ms, ns, es, i, e, by rw [z0]; rfl, hL1, he, ?_⟩
      refine ⟨_, rfl, p, L.dx, _, rfl, hL1.ins, flg3 L, _, rfl, p, L, ms, ns, es, i, e, by rw [z0]; rfl, hL1, he, ?_⟩
      refine ⟨_, rfl, p, L.dx, _, rfl, hL1.ins, flg4 L, _, rfl, p, L, ms, ns, es, i, e, by rw [z0]; rfl, hL1, he, fun m hm => ?_⟩
      have k2 : Keep [] H (upd H1 m (.lst (memV e.mem))) := k1.newTo hm
      have hL2 := hL.keep k2 (fun b q => absurd q nin0) (fun b q => absurd q nin0)
      refine ⟨_, rfl, p, L.dx, _, rfl, hL2.ins, flg5 L, _, rfl, p, L, ms, ns, es, i, e, by rw [z0]; rfl, hL2, he, fun n hn => ?_⟩
      refine ⟨(by show 4 ≤ sizeLine; decide), fun a ha => ?_⟩
      -- one + [..]
      have k3 : Keep [] H1 (upd (upd (upd H1 m (.lst (memV e.mem))) n (.lst (e.notes.map V.str))) a (.lst [.str e.kind, .str e.text, .ref m, .ref n])) := ((Keep.new hm).newTo hn).newTo ha
      have em : (upd (upd (upd H1 m (.lst (memV e.mem))) n (.lst (e.notes.map V.str))) a (.lst [.str e.kind, .str e.text, .ref m, .ref n])) m = some (.lst (memV e.mem)) := ((Keep.new hn).newTo ha (ex := [])).at upd_same nin0
      have en : (upd (upd (upd H1 m (.lst (memV e.mem))) n (.lst (e.notes.map V.str))) a (.lst [.str e.kind, .str e.text, .ref m, .ref n])) n = some (.lst (e.notes.map V.str)) := (Keep.new ha (ex := [])).at upd_same nin0
      have ea : (upd (upd (upd H1 m (.lst (memV e.mem))) n (.lst (e.notes.map V.str))) a (.lst [.str e.kind, .str e.text, .ref m, .ref n])) a = some (.lst [.str e.kind, .str e.text, .ref m, .ref n]) := upd_same
      have nml : m ≠ l := Ne.symm (ne_of_none e1 hm)
      have nnl : n ≠ l := Ne.symm (ne_of_none ((Keep.new hm (ex := [])).at e1 nin0) hn)
      generalize (upd (upd (upd H1 m (.lst (memV e.mem))) n (.lst (e.notes.map V.str))) a (.lst [.str e.kind, .str e.text, .ref m, .ref n])) = H2 at k3 em en ea ⊢
      have e2 := k3.at e1 nin0
      have hL3 := hL1.keep k3 (fun b q => absurd q nin0) (fun b q => absurd q nin0)
      refine ⟨_, rfl, .inl ⟨rfl, _, SqL.of e2⟩, _, rfl, ?_⟩
      refine ⟨_, rfl, p, L.dx, _, rfl, hL3.ins, flg6 L, _, rfl, p, L, ms, ns, es, i, e, by rw [z0]; rfl, hL3, he, ?_⟩
      refine ⟨_, rfl, p, L.dx, _, rfl, hL3.ins, flg7 L, _, rfl, p, L, ms, ns, es, i, e, by rw [z0]; rfl, hL3, he, ?_⟩
      refine ⟨(by show 2 ≤ sizeLine; decide), fun b hb => ?_⟩
      have nab : a ≠ b := ne_of_none ea hb
      refine ⟨a, b, _, _, rfl, rfl, by rw [upd_ne nab]; exact ea, upd_same, (by show 6 ≤ sizeLine; decide), fun r hr' => ?_⟩
      have k4 : Keep [] H2 (upd (upd H2 b (.lst [optV e.cause, optV e.atw])) r (.lst ([.str e.kind, .str e.text, .ref m, .ref n] ++ [optV e.cause, optV e.atw]))) := (Keep.new hb).newTo hr'
      have er : (upd (upd H2 b (.lst [optV e.cause, optV e.atw])) r (.lst ([.str e.kind, .str e.text, .ref m, .ref n] ++ [optV e.cause, optV e.atw]))) r = some (.lst [.str e.kind, .str e.text, .ref m, .ref n, optV e.cause, optV e.atw]) := upd_same
      have nrl : r ≠ l := Ne.symm (ne_of_none ((Keep.new hb (ex := [])).at e2 nin0) hr')
      generalize (upd (upd H2 b (.lst [optV e.cause, optV e.atw])) r (.lst ([.str e.kind, .str e.text, .ref m, .ref n] ++ [optV e.cause, optV e.atw]))) = H3 at k4 er ⊢
      have e3 := k4.at e2 nin0
      have lr : rs.length ≤ 1000 := by rw [r1.len, List.length_take]; omega
      refine ⟨l, _, _, rfl, rfl, e3, Nat.lt_of_le_of_lt (by rw [List.length_map]; exact lr : (rs.map V.ref).length ≤ 1000) (by decide), ?_⟩
      have k5 : Keep [l] H3 (upd H3 l (.lst (rs.map V.ref ++ [V.ref r]))) := Keep.own in1
      refine ⟨_, _, rs ++ [r], rfl, ((k1.trans k3).trans k4).freshTo hl, by rw [upd_same, List.map_append]; rfl, ?_⟩
      rw [show es.take (i + 1) = es.take i ++ [e] by rw [List.take_add_one, he]; rfl]
      refine RowsAt.snoc ⟨m, n, nin1 nrl, nin1 nml, nin1 nnl, k5.at er (nin1 nrl), k5.at (k4.at em nin0) (nin1 nml), k5.at (k4.at en nin0) (nin1 nnl)⟩ ?_
      exact ((r1.keep (k3.more fun b q => absurd q nin0)).keep (k4.more fun b q => absurd q nin0)).keep k5
    · rintro σ H1 ⟨v2, v3, rs, rfl, k1, e1, r1⟩
      rw [List.take_length] at r1
      exact ⟨_, rfl, kk H1 l k1 hl ⟨rs, e1, r1.less (fun a q => absurd q nin0)⟩⟩
end
end Fs
/-! What a fault that comes wants. -/
namespace Fs
open PySem L2 TL
def intsD (l : List Nat) : PyData := .list (l.map fun k : Nat => PyData.int (k : Int))
theorem ints_lay : ∀ l : List Nat, PyData.canLayAll0 (l.map fun k : Nat => PyData.int (k : Int)) = true
  | [] => by simp [PyData.canLayAll0]
  | k :: r => by rw [List.map_cons]; simp [PyData.canLayAll0, PyData.canLay0, ints_lay r]
theorem ints_deep : ∀ l : List Nat, PyData.depthAll (l.map fun k : Nat => PyData.int (k : Int)) ≤ 1
  | [] => by simp [PyData.depthAll]
  | k :: r => by
    have := ints_deep r
    rw [List.map_cons]
    simp [PyData.depthAll, PyData.depth]
    omega
theorem ints_shaped (l : List Nat) : SeqAt.shaped (intsD l) = true := by
  have h := ints_deep l
  have h1 : (intsD l).canLay0 = true := by
    unfold intsD
    simp only [PyData.canLay0]
    exact ints_lay l
  have h2 : (intsD l).depth ≤ 64 := by
    unfold intsD
    simp only [PyData.depth]
    omega
  unfold SeqAt.shaped
  rw [h1, decide_eq_true h2]
  rfl
theorem ints_nil (l : List Nat) : PyData.eqv (intsD l) (intsD []) = l.isEmpty := by
  cases l <;> simp [intsD, PyData.eqv, PyData.eqvAll]
theorem ints_refl (l : List Nat) : PyData.eqv (intsD l) (intsD l) = true := by
  unfold intsD
  simp only [PyData.eqv]
  induction l with
  | nil => simp [PyData.eqvAll]
  | cons k r ih => rw [List.map_cons]; simp [PyData.eqvAll, PyData.eqv, ih]
theorem dp_intsD {K : PySem.W.Frag} {H : Hp} {a : Addr} {l : List Nat} (h : H a = some (.lst (memV l))) : Dp K H (.ref a) (intsD l) := .lst (SqL.of h) (dp_ints l)
/-- tuples of two whole numbers -/
def TwoAt (H : Hp) : List Addr → Prop
  | [] => True
  | t :: r => (∃ a b : Int, H t = some (.tup [.int a, .int b])) ∧ TwoAt H r
theorem TwoAt.map {H H' : Hp} (k : ∀ a xs, H a = some (.tup xs) → H' a = some (.tup xs)) : ∀ {ts : List Addr}, TwoAt H ts → TwoAt H' ts
  | [], _ => True.intro
  | _ :: r, ⟨⟨a, b, e⟩, h⟩ => ⟨⟨a, b, k _ _ e⟩, TwoAt.map k h⟩
theorem TwoAt.at {H : Hp} : ∀ {ts : List Addr} {i : Nat} {t : Addr}, TwoAt H ts → ts[i]? = some t → ∃ a b : Int, H t = some (.tup [.int a, .int b])
  | [], _, _, _, e => by simp at e
  | s :: r, 0, t, h, e => by
    have e' : s = t := by simpa using e
    subst e'
    exact h.1
  | s :: r, i + 1, t, h, e => TwoAt.at (i := i) h.2 (by simpa using e)
theorem TwoAt.snoc {H : Hp} {t : Addr} (ht : ∃ a b : Int, H t = some (.tup [.int a, .int b])) : ∀ {ts : List Addr}, TwoAt H ts → TwoAt H (ts ++ [t])
  | [], _ => ⟨ht, True.intro⟩
  | _ :: r, h => ⟨h.1, TwoAt.snoc ht h.2⟩
/-- [e for j in members]: whole numbers, nothing changed -/
theorem ints_run {K : PySem.W.Frag} {M D : Addr} {mem : List Nat} {i : Nat} {σ : L2.St} {H1 : Hp} {Qd : Hp → Prop} {te : TE} (hM : H1 M = some (.lst (memV mem))) (hD : H1 D = none) (hlen : mem.length ≤ 1000)
    (hw : ∀ v, wipe ((wipe σ [i]).set i (some v)) [i] = wipe σ [i])
    (hte : ∀ k ∈ mem, ∀ (H : Hp), Keep [] H1 H → ∀ Q : VK, (∀ v : Int, Q (.int v) H) → te ((wipe σ [i]).set i (some (.int ((k : Nat) : Int)))) H Q)
    (hq : ∀ (H : Hp) (ns : List Int), ns.length = mem.length → H D = some (.lst (ns.map V.int)) → Keep [] H1 H → Qd H) :
    ∃ W : Nat → Nat → Hp → Prop, (∃ m, W 0 m (upd H1 D (.lst []))) ∧ ∀ k m H, W k m H →
      ((Itl K M).stop k H ∧ Qd H) ∨ ((Itl K M).go k H ∧ ∃ Nx : Hp → Prop, (∀ H', Nx H' → ∃ m', m' < m ∧ W (k + 1) m' H') ∧ ∀ x H', (Itl K M).yld k H x H' → gName i x (wipe σ [i]) H' fun σ2 H2 => wipe σ2 [i] = wipe σ [i] ∧ tYes σ2 H2 fun b H3 =>
        if b = true then te σ2 H3 fun y H4 => ∃ acc, H4 D = some (.lst acc) ∧ acc.length < sizeLine ∧ Nx (upd H4 D (.lst (acc ++ [y]))) else Nx H3) := by
  refine lc_list (K := K) (a := M) (xs := memV mem) (fun k H => ∃ ns : List Int, ns.length = k ∧ H D = some (.lst (ns.map V.int)) ∧ Keep [] H1 H) ⟨[], rfl, upd_same, Keep.new hD⟩ (fun k H _ ⟨_, _, _, kH⟩ => SqL.of (kH.at hM nin0)) (fun k x H hx hI => ?_) (fun H hI => ?_)
  · obtain ⟨ns, hl, eD, kH⟩ := hI
    obtain ⟨a, ha, rfl⟩ : ∃ a, mem[k]? = some a ∧ x = V.int ((a : Nat) : Int) := by
      rw [List.getElem?_map] at hx
      cases q : mem[k]? with
      | none => rw [q] at hx; cases hx
      | some a => rw [q] at hx; exact ⟨a, rfl, (Option.some.inj hx).symm⟩
    have hk := (List.getElem?_eq_some_iff.mp ha).1
    refine ⟨hw _, tyes (hte a (List.mem_of_getElem? ha) H kH _ fun v => ?_)⟩
    refine ⟨_, eD, ?_, ns ++ [v], by rw [List.length_append, hl]; rfl, by rw [upd_same, List.map_append]; rfl, fun b o hb ho => ?_⟩
    · rw [List.length_map, hl]
      exact Nat.lt_of_le_of_lt (by omega : k ≤ 1000) (by decide)
    · rw [upd_ne (ne_of_none ho hD)]
      exact kH b o hb ho
  · obtain ⟨ns, hl, eD, kH⟩ := hI
    exact hq H ns (by rw [hl, List.length_map]) eD kH
/-- where the law stands: the ledger at q, the entries at E, their sizes at S, the pairs at l -/
structure StAt (C CK : Addr) (H : Hp) (q E S l : Addr) (A : LA) (ps : List (Str × Str)) (es : List Ent) (ms ns rs ts : List Addr) : Prop where
  led : LedAt C H q A ms ns es
  kin : KindsAt CK H A.kd ps
  prs : PairsAt H l ps
  wf : Wf ps
  few : ps.length ≤ 8
  ent : H E = some (.lst (rs.map V.ref))
  rows : RowsAt (E :: S :: A.ls) H rs es
  siz : H S = some (.lst (ts.map V.ref))
  two : TwoAt H ts
  tl : ts.length = es.length
  nES : E ≠ S
  nE : E ∉ A.ls ++ ns
  nS : S ∉ A.ls ++ ns
  lE : l ≠ E
  lS : l ≠ S
  lA : l ∉ A.ls
/-- a fault as the law makes it -/
def Small (n : Nat) (e : Ent) : Prop := e.kind.cps.toList.length ≤ 8 ∧ (∀ c ∈ e.kind.cps.toList, c < 128) ∧ IsTx e.text ∧ e.mem.length ≤ 6 ∧ (∀ k ∈ e.mem, k < n) ∧ e.notes = [] ∧ e.cause = none ∧ e.atw = none
theorem log_small {n : Nat} (h : n ≤ 1000) : ((n : Int)).natAbs.log2 < 1920 := by
  rw [Int.natAbs_natCast]
  exact Nat.lt_of_le_of_lt (Nat.log2_le_self n) (by omega)
end Fs
/-! What is shown of all that a ledger tells. -/
namespace Fs
open PySem L2 TL
/-- repr(x), x a list or tuple of data at any depth: where nothing else is being shown -/
theorem call_reprD {X : Cx} (hg : X.A.guards = some []) (hu : X.A.units + 64 < cLine) : CallR X (.builtin "repr") (fun xs H Q => ∃ (a : Addr) (d : PyData), xs = [.ref a] ∧ Dp X.K H (.ref a) d ∧ d.showable = true ∧ d.hasDict = false ∧ d.depth ≤ 60 ∧ d.shown.length ≤ sizeLine ∧ Q (.str d.shown) H) := by
  intro pins s σ H xs us Q I r h
  obtain ⟨a, d, rfl, hd, h1, h2, h3, h4, q⟩ := h
  obtain ⟨u, rfl, ru⟩ := vals1 r
  have eu : u = Value.ref a := ru
  subst eu
  obtain ⟨as, rd⟩ := Dp.reads I d _ _ hd rfl
  exact repr_of_reads' rd h1 (PyData.noDict_hsm h2) hg (by omega) (fun _ _ e => e) (fun h' u tk hk => ⟨.str _, H, I.kept hk, ⟨_, rfl⟩, q⟩) h4
theorem textFrom_le : ∀ (ts : List Str) (k : Nat) (acc : Str), (textFrom k acc ts).length ≤ acc.length + piled ts
  | [], k, acc => Nat.le_add_right _ _
  | t :: r, k, acc => by
    have ih := textFrom_le r (k + 1) (acc ++ (if k > 0 then ", " else "" : String) ++ t)
    have e : (acc ++ (if k > 0 then ", " else "" : String) ++ t).length ≤ acc.length + 2 + t.length := by
      rw [strLen_append, strLen_append]
      have e1 : (((if k > 0 then ", " else "" : String) : Str)).length ≤ 2 := by split <;> decide +kernel
      omega
    rw [piled_cons]
    show (textFrom (k + 1) (acc ++ (if k > 0 then ", " else "" : String) ++ t) r).length ≤ _
    omega
theorem listText_le (ts : List Str) : (listText ts).length ≤ piled ts + 2 := by
  have e1 : (("[" : String) : Str).length = 1 := by decide +kernel
  have e2 : (("]" : String) : Str).length = 1 := by decide +kernel
  have h := textFrom_le ts 0 "["
  unfold listText
  rw [strLen_append, e2]
  omega
theorem piled_le {ts : List Str} {n : Nat} : (∀ t ∈ ts, t.length ≤ n) → piled ts ≤ ts.length * (n + 2) := by
  induction ts with
  | nil => intro _; exact Nat.zero_le _
  | cons t r ih =>
    intro h
    have h1 := h t List.mem_cons_self
    have h2 := ih fun u hu => h u (List.mem_cons_of_mem _ hu)
    rw [piled_cons, List.length_cons, Nat.succ_mul]
    omega
theorem shownAll_map {α : Type} (f : α → PyData) : ∀ l : List α, PyData.shownAll (l.map f) = l.map fun x => (f x).shown
  | [] => by simp only [List.map_nil, PyData.shownAll]
  | x :: r => by simp only [List.map_cons, PyData.shownAll, shownAll_map f r]
theorem int_short {k : Nat} (h : k < 100) : (PyData.int (k : Int)).shown.length ≤ 3 := by
  have q : ∀ k, k < 100 → ((toString ((k : Nat) : Int) : String) : Str).length ≤ 3 := by decide +kernel
  simp only [PyData.shown]
  exact q k h
theorem str_short {z : Str} {n : Nat} (h : z.cps.toList.length ≤ n) (hc : ∀ c ∈ z.cps.toList, c < 128) : (PyData.str z).shown.length ≤ 10 * n + 2 := by
  have h1 := StrLaws.reprText_len z fun c hc' => Nat.lt_of_lt_of_le (hc c hc') (by decide)
  have e : z.length = z.cps.toList.length := by simp [Str.length]
  simp only [PyData.shown]
  omega
theorem ints_shown {l : List Nat} (h6 : l.length ≤ 6) (h : ∀ k ∈ l, k < 100) : (intsD l).shown.length ≤ 40 := by
  unfold intsD
  simp only [PyData.shown]
  have h1 := listText_le (PyData.shownAll (l.map fun k : Nat => PyData.int (k : Int)))
  rw [shownAll_map] at h1 ⊢
  have h2 := piled_le (ts := l.map fun k : Nat => (PyData.int (k : Int)).shown) (n := 3) fun t ht => by
    obtain ⟨k, hk, e⟩ := List.mem_map.mp ht
    rw [← e]
    exact int_short (h k hk)
  rw [List.length_map] at h2
  have h3 : l.length * (3 + 2) ≤ 6 * 5 := Nat.mul_le_mul_right 5 h6
  omega
/-- a fault as the law has it -/
def Sm (n : Nat) (e : Ent) : Prop := e.kind.cps.toList.length ≤ 8 ∧ (∀ c ∈ e.kind.cps.toList, c < 128) ∧ IsTx e.text ∧ e.mem.length ≤ 6 ∧ (∀ k ∈ e.mem, k < n) ∧ (e.notes.length ≤ 60 ∧ ∀ z ∈ e.notes, IsTx z) ∧ (∀ y, e.cause = some y → y < n) ∧ (∀ y, e.atw = some y → y < n)
theorem strs_shown {l : List Str} (h : l.length ≤ 60) (hz : ∀ z ∈ l, IsTx z) : (PyData.list (l.map PyData.str)).shown.length ≤ 25000 := by
  simp only [PyData.shown]
  have h1 := listText_le (PyData.shownAll (l.map PyData.str))
  rw [shownAll_map] at h1 ⊢
  have h2 := piled_le (ts := l.map fun z => (PyData.str z).shown) (n := 402) fun t ht => by
    obtain ⟨z, hz', e⟩ := List.mem_map.mp ht
    rw [← e]
    exact str_short (n := 40) (hz z hz').1 (hz z hz').2
  rw [List.length_map] at h2
  have h3 : l.length * (402 + 2) ≤ 60 * 404 := Nat.mul_le_mul_right 404 h
  omega
theorem strs_ok (l : List Str) : PyData.showableAll (l.map PyData.str) = true ∧ PyData.hasDictAll (l.map PyData.str) = false ∧ PyData.depthAll (l.map PyData.str) ≤ 1 := by
  induction l with
  | nil => simp only [List.map_nil, PyData.showableAll, PyData.hasDictAll, PyData.depthAll]; decide
  | cons z r ih =>
    obtain ⟨i1, i2, i3⟩ := ih
    rw [List.map_cons]
    simp only [PyData.showableAll, PyData.showable, PyData.hasDictAll, PyData.hasDict, PyData.depthAll, PyData.depth, i1, i2, Bool.and_self, Bool.or_self, true_and]
    omega
theorem opt_shown {n : Nat} {o : Option Nat} (h : ∀ y, o = some y → y < n) (hn : n ≤ 100) : (optD o).shown.length ≤ 4 := by
  cases o with
  | none => simp only [optD, PyData.shown]; decide +kernel
  | some k => exact Nat.le_succ_of_le (int_short (Nat.lt_of_lt_of_le (h k rfl) hn))
theorem opt_ok {n : Nat} {o : Option Nat} (h : ∀ y, o = some y → y < n) (hn : n ≤ 100) : (optD o).showable = true ∧ (optD o).hasDict = false ∧ (optD o).depth = 0 := by
  cases o with
  | none => refine ⟨?_, ?_, ?_⟩ <;> simp only [optD, PyData.showable, PyData.hasDict, PyData.depth]
  | some k =>
    have h1 := h k rfl
    refine ⟨?_, ?_, ?_⟩
    · simp only [optD, PyData.showable, decide_eq_true_eq]
      exact log_small (by omega)
    · simp only [optD, PyData.hasDict]
    · simp only [optD, PyData.depth]
theorem ent_shown {n : Nat} {e : Ent} (h : Sm n e) (hn : n ≤ 100) : (entD e).shown.length ≤ 26000 := by
  obtain ⟨h1, h2, ⟨h3, h4⟩, h5, h6, h7, h8, h9⟩ := h
  obtain ⟨ki, te, me, no, ca, at'⟩ := e
  have a1 : (PyData.str ki).shown.length ≤ 10 * 8 + 2 := str_short h1 h2
  have a2 : (PyData.str te).shown.length ≤ 10 * 40 + 2 := str_short h3 h4
  have a3 : (PyData.list (me.map fun k : Nat => PyData.int (k : Int))).shown.length ≤ 40 := ints_shown h5 fun k hk => Nat.lt_of_lt_of_le (h6 k hk) hn
  have a4 : (PyData.list (no.map PyData.str)).shown.length ≤ 25000 := strs_shown h7.1 h7.2
  have a5 : (optD ca).shown.length ≤ 4 := opt_shown h8 hn
  have a6 : (optD at').shown.length ≤ 4 := opt_shown h9 hn
  unfold entD
  simp only [PyData.shown]
  have g := listText_le (PyData.shownAll [.str ki, .str te, .list (me.map fun k : Nat => PyData.int (k : Int)), .list (no.map PyData.str), optD ca, optD at'])
  simp only [PyData.shownAll, piled_cons, piled_nil] at g ⊢
  omega
theorem ints_showable {l : List Nat} (h : ∀ k ∈ l, k < 100) : PyData.showableAll (l.map fun k : Nat => PyData.int (k : Int)) = true := by
  induction l with
  | nil => simp only [List.map_nil, PyData.showableAll]
  | cons k r ih =>
    rw [List.map_cons]
    simp only [PyData.showableAll, PyData.showable, ih fun x hx => h x (List.mem_cons_of_mem _ hx), Bool.and_true, decide_eq_true_eq]
    exact log_small (Nat.le_trans (Nat.le_of_lt (h k List.mem_cons_self)) (by omega))
theorem ints_nodict (l : List Nat) : PyData.hasDictAll (l.map fun k : Nat => PyData.int (k : Int)) = false := by
  induction l with
  | nil => simp only [List.map_nil, PyData.hasDictAll]
  | cons k r ih => rw [List.map_cons]; simp only [PyData.hasDictAll, PyData.hasDict, ih, Bool.or_self]
theorem ent_ok {n : Nat} {e : Ent} (h : Sm n e) (hn : n ≤ 100) : (entD e).showable = true ∧ (entD e).hasDict = false ∧ (entD e).depth ≤ 3 := by
  obtain ⟨h1, h2, h3, h5, h6, h7, h8, h9⟩ := h
  obtain ⟨ki, te, me, no, ca, at'⟩ := e
  obtain ⟨s1, s2, s3⟩ := strs_ok no
  have q := ints_showable fun k hk => Nat.lt_of_lt_of_le (h6 k hk) hn
  have q2 := ints_deep me
  obtain ⟨c1, c2, c3⟩ := opt_ok h8 hn
  obtain ⟨d1, d2, d3⟩ := opt_ok h9 hn
  refine ⟨?_, ?_, ?_⟩
  · simp only [entD, PyData.showable, PyData.showableAll, s1, q, c1, d1, Bool.and_self]
  · simp only [entD, PyData.hasDict, PyData.hasDictAll, s2, ints_nodict, c2, d2, Bool.or_self]
  · simp only [entD, PyData.depth, PyData.depthAll, c3, d3]
    omega
/-- all that is there is small -/
def AllSmall (es : List Ent) : Prop := ∀ e ∈ es, Sm 100 e
def entsD (es : List Ent) : PyData := .list (es.map entD)
theorem ents_ok {es : List Ent} (h : AllSmall es) (hl : es.length ≤ 60) : (entsD es).showable = true ∧ (entsD es).hasDict = false ∧ (entsD es).depth ≤ 60 ∧ (entsD es).shown.length ≤ sizeLine := by
  have h1 : PyData.showableAll (es.map entD) = true ∧ PyData.hasDictAll (es.map entD) = false ∧ PyData.depthAll (es.map entD) ≤ 3 := by
    clear hl
    induction es with
    | nil => simp only [List.map_nil, PyData.showableAll, PyData.hasDictAll, PyData.depthAll]; decide
    | cons e r ih =>
      obtain ⟨i1, i2, i3⟩ := ih fun x hx => h x (List.mem_cons_of_mem _ hx)
      obtain ⟨j1, j2, j3⟩ := ent_ok (h e List.mem_cons_self) (Nat.le_refl _)
      rw [List.map_cons]
      simp only [PyData.showableAll, PyData.hasDictAll, PyData.depthAll, i1, i2, j1, j2, Bool.and_self, Bool.or_self, true_and]
      omega
  obtain ⟨i1, i2, i3⟩ := h1
  refine ⟨?_, ?_, ?_, ?_⟩
  · simp only [entsD, PyData.showable, i1]
  · simp only [entsD, PyData.hasDict, i2]
  · simp only [entsD, PyData.depth]
    omega
  · simp only [entsD, PyData.shown]
    have g := listText_le (PyData.shownAll (es.map entD))
    rw [shownAll_map] at g ⊢
    have g2 := piled_le (ts := es.map fun e => (entD e).shown) (n := 26000) fun t ht => by
      obtain ⟨e, he, q⟩ := List.mem_map.mp ht
      rw [← q]
      exact ent_shown (h e he) (Nat.le_refl _)
    rw [List.length_map] at g2
    have g3 : es.length * (26000 + 2) ≤ 60 * 26002 := Nat.mul_le_mul_right 26002 hl
    exact Nat.le_trans (by omega : _ ≤ 1561000) (by decide)
end Fs
/-! A def's promise at places where nothing is being shown. -/
namespace Fs
open PySem L2 TL
structure FnG (P : Program) (w : World) (K : PySem.W.Frag) (mg : Str → Option Value) (base : Heap) (k : Nat) (f : Addr) (fd : FuncData) (ps : List Str) (sp : Sp) : Prop where
  many : ∀ vs H Q E, sp vs H Q E → vs.length = ps.length
  go : ∀ (A : Around) (outer : List Env) (s : Shared) (H : Hp) (us : List Value) (vs : List V) (Q : VK) (E : XK), A.guards = some [] → Room k A → Env0 P w K mg base A outer s H →
    BindsTo s fd ⟨us, []⟩ (ps.zip us) → Vals vs us → sp vs H Q E → codeAny (model P w) A (.call (.ref f) ⟨us, []⟩) (CR CX0 outer P w H s Q E) s
section
variable {P : Program} {w : World} {K : PySem.W.Frag} {mg : Str → Option Value} {base : Heap}
theorem okG {x q : Str} {st : Stmt} {f : Addr} {fd : FuncData} {N ps : List Str} {k : Nat} {sp : Sp} (F : Fun K x q st f fd) (S : FnScope N ps (defScope st)) (len : ∀ vs H Q E, sp vs H Q E → vs.length = ps.length)
    (body : ∀ (cdv : Value) (A : Around) (outer : List Env) (s : Shared) (H : Hp) (vs : List V) (Q : VK) (E : XK), A.guards = some [] → Room k (A.deeper (PyProof.Rows.envOfC q (defScope st) s.heap.objs.size f cdv)) → sp vs H Q E →
      ∃ t, PSs (cxOf CX0 P w K mg base N q (defScope st) f cdv A outer s H E).nox (defBody st) t ∧ t { nx := fun _ H' => Q .non H', rt := Q } (L2.start N vs) H) : FnG P w K mg base (k + 1) f fd ps sp := by
  obtain ⟨oc, od, kV, doc, pm, an, cdv, ct, osl, rfl, lk, hcd⟩ := F.ex
  refine ⟨len, fun A outer s H us vs Q E hg hr e0 bd rv hsp => ?_⟩
  have now : K.In s.heap := e0.mod.kin.keeps fun b o e => (e0.bs b o e).1
  have hl := len _ _ _ _ hsp
  refine codeAny_call_function hr.depth (now f _ lk) rfl S.co S.gen rfl (PySem.W.codeRec_of now hcd) (bd _ _ _ _ (wpAny_newFunctionEnv_cells S.kind (fun z hz => ?_) fun env he s1 entered => ?_))
  · obtain ⟨n, v⟩ := z
    exact (S.par n (List.of_mem_zip hz).1).imp id fun c => ⟨c, PySem.W.cellsFrom_some _ _ _ (.inl c)⟩
  · cases he
    have free : s1.heap.NoLimit := (e0.mod.nolimit.keeps fun b o e => (e0.bs b o e).1).keeps entered.toInCall.keep
    obtain ⟨t, ht, hq⟩ := body cdv A outer s H vs Q E hg (hr.deeper _) hsp
    have at1 := inv_start (CX := CX0) (E := E) (ps := ps) (us := us) (vs := vs) S hr.hd e0 hl rv entered
    refine ⟨free, codeAny_func (wpAny_mono (ht.nox.run [] s1 _ H _ at1 hq) (fun fl s' end_ => ?_) fun e s' bad => ?_)⟩
    · cases fl with
      | ret u' =>
        obtain ⟨v', _, H', J, rv', q'⟩ := end_
        exact ⟨v', H', J.os, J.bare, J.base, J.hok, rv', q'⟩
      | next =>
        obtain ⟨_, H', J, q'⟩ := end_
        exact ⟨.non, H', J.os, J.bare, J.base, J.hok, rfl, q'⟩
      | brk => obtain ⟨_, _, _, no⟩ := end_; exact no.elim
      | cont => obtain ⟨_, _, _, no⟩ := end_; exact no.elim
    · exact wpAny_mono bad (fun _ _ no => False.elim no) fun _ _ no => False.elim no
end
section
variable {X : Cx} {k : Nat} {f : Addr} {fd : FuncData} {ps : List Str} {sp : Sp} {x : Str} {p pos : Pos} {e : Expr} {es : List Expr} {t : TA}
theorem pe_callG (F : FnG X.prog X.w X.K X.mg X.base k f fd ps sp) (hg : X.A.guards = some []) (hr : Room k X.A) (gl : Gl X x) (hm : X.mg x = some (.ref f)) (hk : PySem.W.keepIn X.K (.ref f) = true) (hb : Binds X.K fd ps [])
    (ha : PA X (e :: es) t) (hdb : (x == ("__debug__" : Str)) = false := by decide) (he : starEach (e :: es) X.env = (false, eval e X.env) :: starEach es X.env := by rfl) (hpl : (backTo pos (starEach es X.env)).any (·.1) = false := by rfl) :
    PE X (.Call (.Name x p) (e :: es) [] pos) (tCall sp [] E0 t) := by
  refine ⟨fun pins s σ H Q I h => wpAny_Call_Name_kw (ld_glob I gl hm ?_ hdb)⟩
  refine PySem.W.callWith_K (h₀ := X.base) I.ok.mod.kin hk (thn (ha.run pos pins s σ H _ I h) fun us s1 ⟨vs, H1, I1, r, q⟩ => ⟨I1.kIn, ?_⟩) he hpl
  have q : sp (vs ++ []) H1 Q E0 := q
  rw [List.append_nil] at q
  have hl : us.length = ps.length := by rw [← r.length]; exact F.many _ _ _ _ q
  have b1 := hb s1 us I1.kIn (by rw [List.append_nil]; exact hl)
  rw [List.append_nil] at b1
  refine wpAny_call (codeAny_mono (F.go X.A X.stack s1 H1 us vs Q E0 hg hr I1.env0 b1 r q) fun r s' hq => ?_)
  cases r with
  | error e => exact False.elim hq
  | ok fl =>
    cases fl with
    | ret u => exact I1.after hq
    | next => exact False.elim hq
    | brk => exact False.elim hq
    | cont => exact False.elim hq
end
end Fs
/-! Leaves, depths, nodes of each fault. -/
namespace Fs
open PySem L2 TL
structure Tree (es : List Ent) (Lf Df Nf : Nat → Nat) : Prop where
  leaf : ∀ (i : Nat) (e : Ent), es[i]? = some e → e.mem = [] → Lf i = 1 ∧ Nf i = 1 ∧ Df i = 0
  nest : ∀ (i : Nat) (e : Ent), es[i]? = some e → e.mem ≠ [] → Lf i = (e.mem.map Lf).sum ∧ Nf i = 1 + (e.mem.map Nf).sum ∧ (∀ m ∈ e.mem, Df m + 1 ≤ Df i) ∧ ∃ m ∈ e.mem, Df i = Df m + 1
  few : ∀ (i : Nat) (e : Ent), es[i]? = some e → Lf i ≤ 60 ∧ Df i ≤ 12
  back : ∀ (i : Nat) (e : Ent), es[i]? = some e → ∀ m ∈ e.mem, m < i
theorem Tree.pos {es : List Ent} {Lf Df Nf : Nat → Nat} (T : Tree es Lf Df Nf) : ∀ n i, i ≤ n → i < es.length → 1 ≤ Lf i ∧ Nf i ≤ Lf i * (Df i + 1) := by
  intro n
  induction n with
  | zero =>
    intro i hi hl
    have he := List.getElem?_eq_getElem hl
    generalize es[i] = e at he
    cases q : e.mem with
    | nil =>
      obtain ⟨a, b, c⟩ := T.leaf i e he q
      rw [a, b, c]
      decide
    | cons x r =>
      have := T.back i e he x (by rw [q]; exact List.mem_cons_self)
      omega
  | succ n ih =>
    intro i hi hl
    have he := List.getElem?_eq_getElem hl
    generalize es[i] = e at he
    by_cases q : e.mem = []
    · obtain ⟨a, b, c⟩ := T.leaf i e he q
      rw [a, b, c]
      decide
    · obtain ⟨a, b, c, d⟩ := T.nest i e he q
      have bk := T.back i e he
      have main : ∀ l : List Nat, (∀ m ∈ l, m ∈ e.mem) → l.length ≤ (l.map Lf).sum ∧ (l.map Nf).sum ≤ (l.map Lf).sum * Df i := by
        intro l hm
        induction l with
        | nil => simp
        | cons m r ih2 =>
          obtain ⟨j1, j2⟩ := ih2 fun x hx => hm x (List.mem_cons_of_mem _ hx)
          have hmm := hm m List.mem_cons_self
          have hmi := bk m hmm
          obtain ⟨k1, k2⟩ := ih m (by omega) (by omega)
          have k3 := c m hmm
          have k4 : Lf m * (Df m + 1) ≤ Lf m * Df i := Nat.mul_le_mul_left _ k3
          simp only [List.map_cons, List.sum_cons, List.length_cons, Nat.add_mul]
          omega
      obtain ⟨m1, m2⟩ := main e.mem fun m h => h
      have m3 : 1 ≤ e.mem.length := by
        cases h : e.mem with
        | nil => exact absurd h q
        | cons x r => rw [List.length_cons]; omega
      rw [a, b]
      refine ⟨by omega, ?_⟩
      rw [Nat.mul_add, Nat.mul_one]
      omega
theorem Tree.nodes {es : List Ent} {Lf Df Nf : Nat → Nat} (T : Tree es Lf Df Nf) {i : Nat} (hi : i < es.length) : Nf i ≤ 780 := by
  obtain ⟨h1, h2⟩ := T.pos i i (Nat.le_refl _) hi
  obtain ⟨h3, h4⟩ := T.few i _ (List.getElem?_eq_getElem hi)
  have h5 : Lf i * (Df i + 1) ≤ 60 * 13 := Nat.mul_le_mul h3 (by omega)
  omega
theorem Tree.congr {es es' : List Ent} {Lf Df Nf : Nat → Nat} (T : Tree es Lf Df Nf) (h : es.map Ent.mem = es'.map Ent.mem) : Tree es' Lf Df Nf := by
  have g : ∀ (i : Nat) (e : Ent), es'[i]? = some e → ∃ f, es[i]? = some f ∧ f.mem = e.mem := fun i e q => by
    have q2 : (es.map Ent.mem)[i]? = some e.mem := by rw [h, List.getElem?_map, q]; rfl
    rw [List.getElem?_map] at q2
    cases z : es[i]? with
    | none => rw [z] at q2; cases q2
    | some f => rw [z] at q2; exact ⟨f, rfl, Option.some.inj q2⟩
  refine ⟨fun i e q a => ?_, fun i e q a => ?_, fun i e q => ?_, fun i e q => ?_⟩
  · obtain ⟨f, z, w⟩ := g i e q
    exact T.leaf i f z (by rw [w]; exact a)
  · obtain ⟨f, z, w⟩ := g i e q
    rw [← w] at a ⊢
    exact T.nest i f z a
  · obtain ⟨f, z, w⟩ := g i e q
    exact T.few i f z
  · obtain ⟨f, z, w⟩ := g i e q
    rw [← w]
    exact T.back i f z
theorem map_same {l : List Nat} {f g : Nat → Nat} (h : ∀ m ∈ l, f m = g m) : l.map f = l.map g := List.map_congr_left h
def put (f : Nat → Nat) (n v : Nat) : Nat → Nat := fun j => if j = n then v else f j
theorem put_same (f : Nat → Nat) (n v : Nat) : put f n v n = v := if_pos rfl
theorem put_old {f : Nat → Nat} {n v i : Nat} (h : i < n) : put f n v i = f i := if_neg (by omega)
/-- one more -/
theorem Tree.snoc {es : List Ent} {Lf Df Nf : Nat → Nat} (T : Tree es Lf Df Nf) {e : Ent} {a d : Nat} (hb : ∀ m ∈ e.mem, m < es.length) (ha : a = (if e.mem = [] then 1 else (e.mem.map Lf).sum)) (h60 : a ≤ 60) (hd : d ≤ 12) (hd0 : e.mem = [] → d = 0) (hd1 : ∀ m ∈ e.mem, Df m + 1 ≤ d) (hd2 : e.mem ≠ [] → ∃ m ∈ e.mem, d = Df m + 1) :
    Tree (es ++ [e]) (put Lf es.length a) (put Df es.length d) (put Nf es.length (if e.mem = [] then 1 else 1 + (e.mem.map Nf).sum)) := by
  have split : ∀ (i : Nat) (f : Ent), (es ++ [e])[i]? = some f → (i < es.length ∧ es[i]? = some f) ∨ (i = es.length ∧ f = e) := fun i f q => by
    by_cases hi : i < es.length
    · rw [List.getElem?_append_left hi] at q
      exact .inl ⟨hi, q⟩
    · rw [List.getElem?_append_right (by omega)] at q
      have hl : i - es.length < 1 := (List.getElem?_eq_some_iff.mp q).1
      have hi2 : i = es.length := by omega
      rw [hi2, Nat.sub_self] at q
      exact .inr ⟨hi2, (Option.some.inj q).symm⟩
  refine ⟨fun i f q h => ?_, fun i f q h => ?_, fun i f q => ?_, fun i f q => ?_⟩
  · rcases split i f q with ⟨hi, q⟩ | ⟨rfl, rfl⟩
    · rw [put_old hi, put_old hi, put_old hi]
      exact T.leaf i f q h
    · rw [put_same, put_same, put_same, ha, if_pos h, if_pos h]
      exact ⟨rfl, rfl, hd0 h⟩
  · rcases split i f q with ⟨hi, q⟩ | ⟨rfl, rfl⟩
    · obtain ⟨x, y, z, m0, hm0, w⟩ := T.nest i f q h
      have bk := T.back i f q
      rw [put_old hi, put_old hi, put_old hi]
      refine ⟨?_, ?_, fun m hm => ?_, m0, hm0, ?_⟩
      · rw [x]
        exact congrArg List.sum (map_same fun m hm => (put_old (by have := bk m hm; omega)).symm)
      · rw [y]
        exact congrArg (fun l => 1 + List.sum l) (map_same fun m hm => (put_old (by have := bk m hm; omega)).symm)
      · rw [put_old (by have := bk m hm; omega)]
        exact z m hm
      · rw [put_old (by have := bk m0 hm0; omega)]
        exact w
    · obtain ⟨m0, hm0, w⟩ := hd2 h
      rw [put_same, put_same, put_same]
      refine ⟨?_, ?_, fun m hm => ?_, m0, hm0, ?_⟩
      · rw [ha, if_neg h]
        exact congrArg List.sum (map_same fun m hm => (put_old (hb m hm)).symm)
      · rw [if_neg h]
        exact congrArg (fun l => 1 + List.sum l) (map_same fun m hm => (put_old (hb m hm)).symm)
      · rw [put_old (hb m hm)]
        exact hd1 m hm
      · rw [put_old (hb m0 hm0)]
        exact w
  · rcases split i f q with ⟨hi, q⟩ | ⟨rfl, rfl⟩
    · rw [put_old hi, put_old hi]
      exact T.few i f q
    · rw [put_same, put_same]
      exact ⟨h60, hd⟩
  · rcases split i f q with ⟨hi, q⟩ | ⟨rfl, rfl⟩
    · exact T.back i f q
    · exact hb
/-- the law's rows, their lists told -/
def TriAt (bad : List Addr) (H : Hp) : List Addr → List Addr → List Addr → List Ent → Prop
  | [], [], [], [] => True
  | r :: rs, m :: mm, n :: nn, e :: es => (r ∉ bad ∧ m ∉ bad ∧ n ∉ bad ∧ H r = some (.lst [.str e.kind, .str e.text, .ref m, .ref n, optV e.cause, optV e.atw]) ∧ H m = some (.lst (memV e.mem)) ∧ H n = some (.lst (e.notes.map V.str))) ∧ TriAt bad H rs mm nn es
  | _, _, _, _ => False
theorem TriAt.rows {bad : List Addr} {H : Hp} : ∀ {rs mm nn : List Addr} {es : List Ent}, TriAt bad H rs mm nn es → RowsAt bad H rs es
  | [], [], [], [], _ => True.intro
  | r :: rs, m :: mm, n :: nn, e :: es, h => ⟨⟨m, n, h.1⟩, TriAt.rows h.2⟩
theorem TriAt.imp {bad bad' : List Addr} {H H' : Hp} (k : Keep bad H H') (hb : ∀ a, a ∉ bad → (∃ xs, H a = some (.lst xs)) → a ∉ bad') : ∀ {rs mm nn : List Addr} {es : List Ent}, TriAt bad H rs mm nn es → TriAt bad' H' rs mm nn es
  | [], [], [], [], _ => True.intro
  | r :: rs, m :: mm, n :: nn, e :: es, h => by
    obtain ⟨⟨h1, h2, h3, h4, h5, h6⟩, t⟩ := h
    exact ⟨⟨hb r h1 ⟨_, h4⟩, hb m h2 ⟨_, h5⟩, hb n h3 ⟨_, h6⟩, k.at h4 h1, k.at h5 h2, k.at h6 h3⟩, TriAt.imp k hb t⟩
theorem TriAt.keep {bad : List Addr} {H H' : Hp} (k : Keep bad H H') {rs mm nn : List Addr} {es : List Ent} (h : TriAt bad H rs mm nn es) : TriAt bad H' rs mm nn es := h.imp k fun _ n _ => n
theorem TriAt.less {bad bad' : List Addr} {H : Hp} (hb : ∀ a, a ∈ bad' → a ∈ bad) {rs mm nn : List Addr} {es : List Ent} (h : TriAt bad H rs mm nn es) : TriAt bad' H rs mm nn es := h.imp (Keep.refl _ _) fun a n _ q => n (hb a q)
theorem TriAt.more {bad : List Addr} {H : Hp} {p : Addr} (hp : ∀ xs, H p ≠ some (.lst xs)) {rs mm nn : List Addr} {es : List Ent} (h : TriAt bad H rs mm nn es) : TriAt (p :: bad) H rs mm nn es := h.imp (Keep.refl _ _) fun a n ⟨xs, hx⟩ q => by
  rcases List.mem_cons.mp q with q | q
  · rw [q] at hx; exact hp xs hx
  · exact n q
theorem TriAt.snoc {bad : List Addr} {H : Hp} {r m n : Addr} {e : Ent} (hb : r ∉ bad ∧ m ∉ bad ∧ n ∉ bad ∧ H r = some (.lst [.str e.kind, .str e.text, .ref m, .ref n, optV e.cause, optV e.atw]) ∧ H m = some (.lst (memV e.mem)) ∧ H n = some (.lst (e.notes.map V.str))) : ∀ {rs mm nn : List Addr} {es : List Ent}, TriAt bad H rs mm nn es → TriAt bad H (rs ++ [r]) (mm ++ [m]) (nn ++ [n]) (es ++ [e])
  | [], [], [], [], _ => ⟨hb, True.intro⟩
  | _ :: _, _ :: _, _ :: _, _ :: _, h => ⟨h.1, TriAt.snoc hb h.2⟩
theorem TriAt.is {bad : List Addr} {H : Hp} : ∀ {rs mm nn : List Addr} {es : List Ent}, TriAt bad H rs mm nn es → ∀ a ∈ rs ++ (mm ++ nn), ∃ xs, H a = some (.lst xs)
  | [], [], [], [], _, a, h => by simp at h
  | r :: rs, m :: mm, n :: nn, e :: es, h, a, q => by
    have q' : a = r ∨ a = m ∨ a = n ∨ a ∈ rs ++ (mm ++ nn) := by
      simp only [List.mem_append, List.mem_cons] at q ⊢
      rcases q with (q | q) | (q | q) | (q | q) <;> simp [q]
    rcases q' with q | q | q | q
    · rw [q]; exact ⟨_, h.1.2.2.2.1⟩
    · rw [q]; exact ⟨_, h.1.2.2.2.2.1⟩
    · rw [q]; exact ⟨_, h.1.2.2.2.2.2⟩
    · exact TriAt.is h.2 a q
theorem two_more {mm nn : List Addr} {m n : Addr} (h : (mm ++ nn).Nodup) (hm : m ∉ mm ++ nn) (hn : n ∉ mm ++ nn) (ne : m ≠ n) : ((mm ++ [m]) ++ (nn ++ [n])).Nodup := by
  rw [List.nodup_append] at h ⊢
  obtain ⟨h1, h2, h3⟩ := h
  simp only [List.mem_append, not_or] at hm hn
  refine ⟨?_, ?_, ?_⟩
  · refine List.nodup_append.mpr ⟨h1, by simp, fun a ha b hb z => hm.1 ?_⟩
    rw [← List.mem_singleton.mp hb, ← z]; exact ha
  · refine List.nodup_append.mpr ⟨h2, by simp, fun a ha b hb z => hn.2 ?_⟩
    rw [← List.mem_singleton.mp hb, ← z]; exact ha
  · intro a ha b hb z
    rcases List.mem_append.mp ha with q | q <;> rcases List.mem_append.mp hb with q2 | q2
    · exact h3 a q b q2 z
    · exact hn.1 (by rw [← List.mem_singleton.mp q2, ← z]; exact q)
    · exact hm.2 (by rw [← List.mem_singleton.mp q, z]; exact q2)
    · exact ne (by rw [← List.mem_singleton.mp q, z, List.mem_singleton.mp q2])
theorem Tree.nil : Tree [] (fun _ => 0) (fun _ => 0) (fun _ => 0) := ⟨fun i e q => by simp at q, fun i e q => by simp at q, fun i e q => by simp at q, fun i e q => by simp at q⟩
theorem sum_cast {l : List Nat} (f : Nat → Nat) : (l.map fun m => (f m : Int)).sum = ((l.map f).sum : Nat) := by
  induction l with
  | nil => rfl
  | cons m r ih => simp only [List.map_cons, List.sum_cons, ih]; omega
end Fs
/-! The law's entries: what a turn does behind the draw of the members. -/
namespace Fs
open PySem L2 TL
/-- [e for j in members]: whole numbers, nothing changed -/
theorem ints_runG {K : PySem.W.Frag} {M D : Addr} {mem : List Nat} {i : Nat} {σ : L2.St} {H1 : Hp} {Qd : Hp → Prop} {te : TE} (g : Nat → Int) (hM : H1 M = some (.lst (memV mem))) (hD : H1 D = none) (hlen : mem.length ≤ 1000)
    (hw : ∀ v, wipe ((wipe σ [i]).set i (some v)) [i] = wipe σ [i])
    (hte : ∀ k ∈ mem, ∀ (H : Hp), Keep [] H1 H → ∀ Q : VK, Q (.int (g k)) H → te ((wipe σ [i]).set i (some (.int ((k : Nat) : Int)))) H Q)
    (hq : ∀ (H : Hp), H D = some (.lst ((mem.map g).map V.int)) → Keep [] H1 H → Qd H) :
    ∃ W : Nat → Nat → Hp → Prop, (∃ m, W 0 m (upd H1 D (.lst []))) ∧ ∀ k m H, W k m H →
      ((Itl K M).stop k H ∧ Qd H) ∨ ((Itl K M).go k H ∧ ∃ Nx : Hp → Prop, (∀ H', Nx H' → ∃ m', m' < m ∧ W (k + 1) m' H') ∧ ∀ x H', (Itl K M).yld k H x H' → gName i x (wipe σ [i]) H' fun σ2 H2 => wipe σ2 [i] = wipe σ [i] ∧ tYes σ2 H2 fun b H3 =>
        if b = true then te σ2 H3 fun y H4 => ∃ acc, H4 D = some (.lst acc) ∧ acc.length < sizeLine ∧ Nx (upd H4 D (.lst (acc ++ [y]))) else Nx H3) := by
  refine lc_list (K := K) (a := M) (xs := memV mem) (fun k H => H D = some (.lst (((mem.take k).map g).map V.int)) ∧ Keep [] H1 H) ⟨upd_same, Keep.new hD⟩ (fun k H _ ⟨_, kH⟩ => SqL.of (kH.at hM nin0)) (fun k x H hx hI => ?_) (fun H hI => ?_)
  · obtain ⟨eD, kH⟩ := hI
    obtain ⟨a, ha, rfl⟩ : ∃ a, mem[k]? = some a ∧ x = V.int ((a : Nat) : Int) := by
      rw [List.getElem?_map] at hx
      cases q : mem[k]? with
      | none => rw [q] at hx; cases hx
      | some a => rw [q] at hx; exact ⟨a, rfl, (Option.some.inj hx).symm⟩
    have hk := (List.getElem?_eq_some_iff.mp ha).1
    refine ⟨hw _, tyes (hte a (List.mem_of_getElem? ha) H kH _ ?_)⟩
    refine ⟨_, eD, ?_, ?_, fun b o hb ho => ?_⟩
    · rw [List.length_map, List.length_map, List.length_take]
      exact Nat.lt_of_le_of_lt (by omega : min k mem.length ≤ 1000) (by decide)
    · rw [upd_same, List.take_add_one, ha, List.map_append, List.map_append]; rfl
    · rw [upd_ne (ne_of_none ho hD)]
      exact kH b o hb ho
  · obtain ⟨eD, kH⟩ := hI
    rw [List.length_map, List.take_length] at eD
    exact hq H eD kH
abbrev sEnt : Stmt := top 28
abbrev nEnt : List Str := ["_law_pot_here", "_law_pairs_here", "_law_most", "_law_entries_here", "_law_leaves", "_law_depths", "_law_k", "_law_members_here", "_law_j", "_law_many", "_law_deep", "_law_kind_here"]
theorem scEnt : FnScope nEnt ["_law_pot_here", "_law_pairs_here", "_law_most"] (defScope sEnt) := ⟨rfl, rfl, rfl, by decide +kernel, rfl, by decide +kernel, by decide +kernel⟩
def inFor : Stmt → List Stmt
  | .For _ _ b _ _ => b
  | _ => []
abbrev bEnt : List Stmt := inFor ((defBody sEnt).getD 3 (.Pass ⟨0, 0, 0, 0⟩))
/-- a fault as the law draws it -/
def KindOk (ps : List (Str × Str)) (mem : List Nat) (z : Str) : Prop := (mem = [] → z ∈ sF :: ps.map Prod.fst) ∧ (mem ≠ [] → z = sS)
def Fresh (ps : List (Str × Str)) (i : Nat) (e : Ent) : Prop := IsTx e.text ∧ e.mem.length ≤ 6 ∧ (∀ k ∈ e.mem, k < i) ∧ e.notes = [] ∧ e.cause = none ∧ e.atw = none ∧ KindOk ps e.mem e.kind
def Built (ps : List (Str × Str)) (es : List Ent) : Prop := ∀ (i : Nat) (e : Ent), es[i]? = some e → Fresh ps i e
theorem Built.snoc {ps : List (Str × Str)} {es : List Ent} {e : Ent} (h : Built ps es) (he : Fresh ps es.length e) : Built ps (es ++ [e]) := fun i f q => by
  by_cases hi : i < es.length
  · rw [List.getElem?_append_left hi] at q
    exact h i f q
  · rw [List.getElem?_append_right (by omega)] at q
    have hl : i - es.length < 1 := (List.getElem?_eq_some_iff.mp q).1
    have hi2 : i = es.length := by omega
    rw [hi2, Nat.sub_self] at q
    rw [hi2, ← Option.some.inj q]
    exact he
structure EnAt (ps : List (Str × Str)) (Lf Df Nf : Nat → Nat) (H0 H : Hp) (p E L D : Addr) (es : List Ent) (rs : List Addr) (lv dp : List Int) : Prop where
  ent : H E = some (.lst (rs.map V.ref))
  lvs : H L = some (.lst (lv.map V.int))
  dps : H D = some (.lst (dp.map V.int))
  ll : lv = (List.range es.length).map fun i => (Lf i : Int)
  dl : dp = (List.range es.length).map fun i => (Df i : Int)
  tree : Tree es Lf Df Nf
  rows : RowsAt [p, E, L, D] H rs es
  tri : ∃ mm nn : List Addr, TriAt [p, E, L, D] H rs mm nn es ∧ (mm ++ nn).Nodup ∧ ∀ x ∈ mm ++ nn, H0 x = none
  nd : rs.Nodup
  fresh : ∀ r ∈ rs, H0 r = none
  built : Built ps es
  keep : Keep [p] H0 H
  E0 : H0 E = none
  L0 : H0 L = none
  D0 : H0 D = none
  nEL : E ≠ L
  nED : E ≠ D
  nLD : L ≠ D
structure ETxt (K : PySem.W.Frag) (mg : Str → Option Value) (fKd fDg fTx : Addr) : Prop where
  gK : mg "_law_kind" = some (.ref fKd)
  kK : PySem.W.keepIn K (.ref fKd) = true
  gD : mg "_law_digit" = some (.ref fDg)
  kD : PySem.W.keepIn K (.ref fDg) = true
  gT : mg "_law_text" = some (.ref fTx)
  kT : PySem.W.keepIn K (.ref fTx) = true
  sum : mg "sum" = none
  max : mg "max" = none
  range : mg "range" = none
/-- the leaves, the depth of a fault of these members -/
structure MD (Lf Df : Nat → Nat) (mem : List Nat) (many : Int) (a d : Nat) : Prop where
  val : (if many > 1 then many else 1) = (a : Int)
  sum : a = (if mem = [] then 1 else (mem.map Lf).sum)
  few : a ≤ 60
  flat : d ≤ 12
  zero : mem = [] → d = 0
  up : ∀ m ∈ mem, Df m + 1 ≤ d
  top : mem ≠ [] → ∃ m ∈ mem, d = Df m + 1
theorem MD.none {Lf Df : Nat → Nat} : MD Lf Df [] 0 1 0 := ⟨by decide, by simp, by decide, by decide, fun _ => rfl, (fun m h => absurd h List.not_mem_nil), fun h => absurd rfl h⟩
theorem range_put (f : Nat → Nat) (n v : Nat) : ((List.range n).map fun i => (f i : Int)) ++ [(v : Int)] = (List.range (n + 1)).map fun i => (put f n v i : Int) := by
  rw [List.range_succ, List.map_append]
  refine congr (congrArg _ (List.map_congr_left fun i hi => ?_)) ?_
  · rw [put_old (List.mem_range.mp hi)]
  · rw [List.map_singleton, put_same]
/-- behind the kind -/
def CutC (ps : List (Str × Str)) (Lf Df : Nat → Nat) (G : Hp) (p l E L D : Addr) (k n : Nat) (σ : L2.St) (H : Hp) : Prop :=
  ∃ (M : Addr) (mem : List Nat) (many : Int) (a d : Nat) (z : Str) (v2 v8 : Option V), σ = [some (.ref p), some (.ref l), v2, some (.ref E), some (.ref L), some (.ref D), some (.int (k : Int)), some (.ref M), v8, some (.int many), some (.int (d : Int)), some (.str z)] ∧ MD Lf Df mem many a d ∧ KindOk ps mem z ∧
    mem.length ≤ 6 ∧ (∀ a ∈ mem, a < k) ∧ G M = none ∧ H M = some (.lst (memV mem)) ∧ PotAt H p n ∧ Keep [p] G H
/-- ahead of the kind -/
def CutB (Lf Df : Nat → Nat) (G : Hp) (p l E L D : Addr) (k n : Nat) (σ : L2.St) (H : Hp) : Prop :=
  ∃ (M : Addr) (mem : List Nat) (many : Int) (a d : Nat) (v2 v8 v11 : Option V), σ = [some (.ref p), some (.ref l), v2, some (.ref E), some (.ref L), some (.ref D), some (.int (k : Int)), some (.ref M), v8, some (.int many), some (.int (d : Int)), v11] ∧ MD Lf Df mem many a d ∧
    mem.length ≤ 6 ∧ (∀ a ∈ mem, a < k) ∧ G M = none ∧ H M = some (.lst (memV mem)) ∧ PotAt H p n ∧ Keep [p] G H
/-- ahead of the sum -/
def CutA (G : Hp) (p l E L D : Addr) (k n : Nat) (σ : L2.St) (H : Hp) : Prop :=
  ∃ (M : Addr) (mem : List Nat) (v2 v8 v9 v10 v11 : Option V), σ = [some (.ref p), some (.ref l), v2, some (.ref E), some (.ref L), some (.ref D), some (.int (k : Int)), some (.ref M), v8, v9, v10, v11] ∧
    mem.length ≤ 6 ∧ (∀ a ∈ mem, a < k) ∧ G M = none ∧ H M = some (.lst (memV mem)) ∧ PotAt H p n ∧ Keep [p] G H
theorem RowsAt.is {bad : List Addr} {H : Hp} : ∀ {as : List Addr} {es : List Ent}, RowsAt bad H as es → ∀ a ∈ as, ∃ o, H a = some o
  | [], [], _, _, h => absurd h List.not_mem_nil
  | _ :: as, _ :: es, h, a, m => by
    rcases List.mem_cons.mp m with m | m
    · rw [m]
      obtain ⟨_, _, _, _, _, e, _⟩ := h.1
      exact ⟨_, e⟩
    · exact RowsAt.is h.2 a m
  | [], _ :: _, h, _, _ => h.elim
  | _ :: _, [], h, _, _ => h.elim
/-- what a turn leaves -/
def Turned (ps : List (Str × Str)) (H0 : Hp) (p l E L D : Addr) (n : Nat) (es : List Ent) (rs : List Addr) (lv dp : List Int) (De : Ends) : Prop :=
  ∀ (e : Ent) (r : Addr) (x y : Int) (Lf Df Nf : Nat → Nat) (v2 v6 v7 v8 v9 v10 v11 : Option V) (G' : Hp), EnAt ps Lf Df Nf H0 G' p E L D (es ++ [e]) (rs ++ [r]) (lv ++ [x]) (dp ++ [y]) → PotAt G' p n → De.nx [some (.ref p), some (.ref l), v2, some (.ref E), some (.ref L), some (.ref D), v6, v7, v8, v9, v10, v11] G'
section
variable {P : Program} {w : World} {K : PySem.W.Frag} {mg : Str → Option Value} {base : Heap} {fKd fDg fTx : Addr}
theorem ent_7 {dTx : FuncData} {f : Addr} (T : ETxt K mg fKd fDg fTx) (FT : FnOk P w K mg base CX0 2 fTx dTx ["_law_pot_here"] spText) (bT : Binds K dTx ["_law_pot_here"] [])
    (cdv : Value) (A0 : Around) (outer : List Env) (s : Shared) (Hs : Hp) (Es : XK) (hr : Room 2 (A0.deeper (PyProof.Rows.envOfC "_law_entries" (defScope sEnt) s.heap.objs.size f cdv))) :
    ∃ t, PSs (cxOf CX0 P w K mg base nEnt "_law_entries" (defScope sEnt) f cdv A0 outer s Hs Es).nox (bEnt.drop 7) t ∧
      ∀ (ps : List (Str × Str)) (Lf Df Nf : Nat → Nat) (H0 G : Hp) (p l E L D : Addr) (n0 n : Nat) (es : List Ent) (rs : List Addr) (lv dp : List Int), PotAt H0 p n0 → (∃ xs, G p = some (.lst xs)) → n < 2 ^ 30 → es.length ≤ 100 → EnAt ps Lf Df Nf H0 G p E L D es rs lv dp → ∀ (De : Ends) σ H, CutC ps Lf Df G p l E L D es.length n σ H →
        Turned ps H0 p l E L D (n + 43) es rs lv dp De → t De σ H := by
  refine ⟨_, pss_cons (ps_expr (pe_bm PySem.F.plainAttrs_list PySem.F.slot_list_append PySem.F.type_list_append mt_append (pv 3) (pa_cons (pe_lst (pa_cons (pv 11) (pa_cons (pe_call FT hr rfl T.gT T.kT bT .nil pass0 (pa_cons (pv 0) pa_nil)) (pa_cons (pv 7) (pa_cons (pe_lst pa_nil) (pa_cons pe_non (pa_cons pe_non pa_nil))))))) pa_nil)))
    (pss_cons (ps_expr (pe_bm PySem.F.plainAttrs_list PySem.F.slot_list_append PySem.F.type_list_append mt_append (pv 4) (pa_cons (pe_callB (call_max2 rfl) (by rfl) T.max (by decide +kernel) (pa_cons pe_int (pa_cons (pv 9) pa_nil))) pa_nil)))
    (pss_one (ps_expr (pe_bm PySem.F.plainAttrs_list PySem.F.slot_list_append PySem.F.type_list_append mt_append (pv 5) (pa_cons (pv 10) pa_nil))))), ?_⟩
  rintro ps Lf Df Nf H0 G p l E L D n0 n es rs lv dp hp00 ⟨gx, gp⟩ hn hlen S De σ H ⟨M, mem, many, da, dd, z, v2, v8, rfl, md, hz, hm6, hmk, hM0, hM, hp, k0⟩ kk
  obtain ⟨x0, ep0⟩ := hp00.some
  have free0 : ∀ b, G b = none → H0 b = none := fun b hb => Keep.free S.keep hb (nin1 fun z => by rw [z, gp] at hb; cases hb)
  have nb : ∀ b, G b = none → b ∉ [p, E, L, D] := fun b hb z => by
    rcases (show b = p ∨ b = E ∨ b = L ∨ b = D by simpa using z) with z | z | z | z
    · rw [z, gp] at hb; cases hb
    · rw [z, S.ent] at hb; cases hb
    · rw [z, S.lvs] at hb; cases hb
    · rw [z, S.dps] at hb; cases hb
  have nEp : E ≠ p := fun z => by rw [← z, S.E0] at ep0; cases ep0
  have nLp : L ≠ p := fun z => by rw [← z, S.L0] at ep0; cases ep0
  have nDp : D ≠ p := fun z => by rw [← z, S.D0] at ep0; cases ep0
  refine ⟨_, rfl, .inl ⟨rfl, _, SqL.of (k0.at S.ent (nin1 nEp))⟩, _, rfl, _, rfl, p, n, rfl, hp, by omega, fun tx H5 htx k5 hp5 => ?_⟩
  have k05 : Keep [p] G H5 := k0.trans k5
  have nMp : M ≠ p := fun z => by rw [z, gp] at hM0; cases hM0
  have hM5 : H5 M = some (.lst (memV mem)) := k5.at hM (nin1 nMp)
  obtain ⟨x5, ep5⟩ := hp5.some
  refine ⟨_, rfl, Nat.zero_le _, fun N hN => ?_⟩
  refine ⟨(by show 6 ≤ sizeLine; decide), fun r hr' => ?_⟩
  have hN0 : G N = none := Keep.free k05 hN (nin1 fun z => by rw [z, ep5] at hN; cases hN)
  have hr5 : H5 r = none := Keep.free (Keep.new hN (ex := [])) hr' nin0
  have hr0 : G r = none := Keep.free k05 hr5 (nin1 fun z => by rw [z, ep5] at hr5; cases hr5)
  have kG7 : Keep [p] G (upd (upd H5 N (.lst [])) r (.lst [.str z, .str tx, .ref M, .ref N, .non, .non])) := (k05.newTo hN).newTo hr'
  have p7 : PotAt (upd (upd H5 N (.lst [])) r (.lst [.str z, .str tx, .ref M, .ref N, .non, .non])) p (n + 43) := hp5.keep ((Keep.new hN (ex := [])).newTo hr') nin0
  have eM7 : (upd (upd H5 N (.lst [])) r (.lst [.str z, .str tx, .ref M, .ref N, .non, .non])) M = some (.lst (memV mem)) := ((Keep.new hN (ex := [])).newTo hr').at hM5 nin0
  have eN7 : (upd (upd H5 N (.lst [])) r (.lst [.str z, .str tx, .ref M, .ref N, .non, .non])) N = some (.lst []) := (Keep.new hr' (ex := [])).at upd_same nin0
  have er7 : (upd (upd H5 N (.lst [])) r (.lst [.str z, .str tx, .ref M, .ref N, .non, .non])) r = some (.lst [.str z, .str tx, .ref M, .ref N, .non, .non]) := upd_same
  generalize (upd (upd H5 N (.lst [])) r (.lst [.str z, .str tx, .ref M, .ref N, .non, .non])) = H7 at kG7 p7 eM7 eN7 er7 ⊢
  have ent7 := kG7.at S.ent (nin1 nEp)
  have lvs7 := kG7.at S.lvs (nin1 nLp)
  have dps7 := kG7.at S.dps (nin1 nDp)
  have lr := S.rows.len
  refine ⟨E, _, _, rfl, rfl, ent7, Nat.lt_of_le_of_lt (by rw [List.length_map, lr]; omega : (rs.map V.ref).length ≤ 1000) (by decide), ?_⟩
  refine ⟨_, rfl, .inl ⟨rfl, _, SqL.of (by rw [upd_ne S.nEL.symm]; exact lvs7)⟩, _, rfl, _, _, rfl, L, _, _, rfl, rfl, (by rw [upd_ne S.nEL.symm]; exact lvs7), Nat.lt_of_le_of_lt (by rw [List.length_map, S.ll, List.length_map, List.length_range]; omega : (lv.map V.int).length ≤ 1000) (by decide), ?_⟩
  have d9 : ∀ o o', (upd (upd H7 E o) L o') D = some (.lst (dp.map V.int)) := fun o o' => by rw [upd_ne S.nLD.symm, upd_ne S.nED.symm]; exact dps7
  refine ⟨_, rfl, .inl ⟨rfl, _, SqL.of (d9 _ _)⟩, _, rfl, D, _, _, rfl, rfl, d9 _ _, Nat.lt_of_le_of_lt (by rw [List.length_map, S.dl, List.length_map, List.length_range]; omega : (dp.map V.int).length ≤ 1000) (by decide), ?_⟩
  have kend : ∀ o1 o2 o3, Keep [E, L, D] H7 (upd (upd (upd H7 E o1) L o2) D o3) := fun o1 o2 o3 => ((Keep.own (by simp)).ownTo (by simp)).ownTo (by simp)
  have e1 : ∀ o1 o2 o3, (upd (upd (upd H7 E o1) L o2) D o3) E = some o1 := fun o1 o2 o3 => by rw [upd_ne S.nED, upd_ne S.nEL, upd_same]
  have e2 : ∀ o1 o2 o3, (upd (upd (upd H7 E o1) L o2) D o3) L = some o2 := fun o1 o2 o3 => by rw [upd_ne S.nLD, upd_same]
  have sub : ∀ b, b ∈ [E, L, D] → b ∈ [p, E, L, D] := fun b hb => List.mem_cons_of_mem _ hb
  have sub1 : ∀ b, b ∈ [p] → b ∈ [p, E, L, D] := fun b hb => by rw [List.mem_singleton.mp hb]; exact List.mem_cons_self
  have ns : ∀ b, G b = none → b ∉ [E, L, D] := fun b hb z => nb b hb (sub b z)
  refine kk ⟨z, tx, mem, [], none, none⟩ r _ _ (put Lf es.length da) (put Df es.length dd) _ _ _ _ _ _ _ _ _ ⟨by rw [e1, List.map_append]; rfl, by rw [e2, List.map_append]; rfl, by rw [upd_same, List.map_append]; rfl, by rw [md.val, List.length_append, S.ll]; exact range_put Lf es.length da, by rw [List.length_append, S.dl]; exact range_put Df es.length dd, S.tree.snoc (e := (⟨z, tx, mem, [], none, none⟩ : Ent)) hmk md.sum md.few md.flat md.zero md.up md.top,
    RowsAt.snoc (e := (⟨z, tx, mem, [], none, none⟩ : Ent)) ⟨M, N, nb r hr0, nb M hM0, nb N hN0, (kend _ _ _).at er7 (ns r hr0), (kend _ _ _).at eM7 (ns M hM0), (kend _ _ _).at eN7 (ns N hN0)⟩ (S.rows.keep ((kG7.more sub1).trans ((kend _ _ _).more sub))), ?_, ?_, ?_, S.built.snoc ⟨htx, hm6, hmk, rfl, rfl, rfl, hz⟩, (((S.keep.trans kG7).freshTo S.E0).freshTo S.L0).freshTo S.D0, S.E0, S.L0, S.D0, S.nEL, S.nED, S.nLD⟩ (p7.keep (kend _ _ _) ?_)
  · obtain ⟨mm, nn, t1, t2, t3⟩ := S.tri
    have out : ∀ b, G b = none → b ∉ mm ++ nn := fun b hb z => by
      obtain ⟨xs, e⟩ := t1.is b (List.mem_append_right _ z)
      rw [e] at hb; cases hb
    refine ⟨mm ++ [M], nn ++ [N], TriAt.snoc (e := (⟨z, tx, mem, [], none, none⟩ : Ent)) ⟨nb r hr0, nb M hM0, nb N hN0, (kend _ _ _).at er7 (ns r hr0), (kend _ _ _).at eM7 (ns M hM0), (kend _ _ _).at eN7 (ns N hN0)⟩ (t1.keep ((kG7.more sub1).trans ((kend _ _ _).more sub))), two_more t2 (out M hM0) (out N hN0) (ne_of_none hM5 hN), fun x hx => ?_⟩
    have q' : x ∈ mm ++ nn ∨ x = M ∨ x = N := by
      simp only [List.mem_append, List.mem_singleton] at hx ⊢
      rcases hx with (q | q) | (q | q) <;> simp [q]
    rcases q' with q | q | q
    · exact t3 x q
    · rw [q]; exact free0 M hM0
    · rw [q]; exact free0 N hN0
  · refine List.nodup_append.mpr ⟨S.nd, by simp, fun a ha b hb z => ?_⟩
    obtain ⟨o, e⟩ := S.rows.is a ha
    rw [z, List.mem_singleton.mp hb, hr0] at e
    cases e
  · intro b hb
    rcases List.mem_append.mp hb with z | z
    · exact S.fresh b z
    · rw [List.mem_singleton.mp z]; exact free0 r hr0
  · simp [nEp.symm, nLp.symm, nDp.symm]
theorem ent_5 {dKd dTx : FuncData} {f : Addr} (T : ETxt K mg fKd fDg fTx) (FK : FnOk P w K mg base CX0 2 fKd dKd ["_law_pot_here", "_law_pairs_here"] spKindL) (bK : Binds K dKd ["_law_pot_here", "_law_pairs_here"] []) (FT : FnOk P w K mg base CX0 2 fTx dTx ["_law_pot_here"] spText) (bT : Binds K dTx ["_law_pot_here"] [])
    (cdv : Value) (A0 : Around) (outer : List Env) (s : Shared) (Hs : Hp) (Es : XK) (hr : Room 2 (A0.deeper (PyProof.Rows.envOfC "_law_entries" (defScope sEnt) s.heap.objs.size f cdv))) :
    ∃ t, PSs (cxOf CX0 P w K mg base nEnt "_law_entries" (defScope sEnt) f cdv A0 outer s Hs Es).nox (bEnt.drop 5) t ∧
      ∀ (ps : List (Str × Str)) (Lf Df Nf : Nat → Nat) (H0 G : Hp) (p l E L D : Addr) (n0 n : Nat) (es : List Ent) (rs : List Addr) (lv dp : List Int), PotAt H0 p n0 → (∃ xs, G p = some (.lst xs)) → PairsAt H0 l ps → ps.length ≤ 1000 → l ≠ p → n < 2 ^ 29 → es.length ≤ 100 → EnAt ps Lf Df Nf H0 G p E L D es rs lv dp → ∀ (De : Ends) σ H, CutB Lf Df G p l E L D es.length n σ H →
        Turned ps H0 p l E L D (n + 44) es rs lv dp De → t De σ H := by
  obtain ⟨t7, h7, r7⟩ := ent_7 (P := P) (w := w) (base := base) T FT bT cdv A0 outer s Hs Es hr
  refine ⟨_, pss_cons (ps_set (i := 11) scEnt.nd rfl (Or.inl rfl) pe_str)
    (pss_cons (ps_if (pt_cmpR (op_eqD hr.units) (pv 7) (pe_lst pa_nil) (nomark _)) (pss_one (ps_set (i := 11) scEnt.nd rfl (Or.inl rfl) (pe_call FK hr rfl T.gK T.kK bK .nil pass0 (pa_cons (pv 0) (pa_cons (pv 1) pa_nil))))) pss_nil) h7), ?_⟩
  rintro ps Lf Df Nf H0 G p l E L D n0 n es rs lv dp hp00 ⟨gx, gp⟩ hl0 hps nlp hn hlen S De σ H ⟨M, mem, many, da, dd, v2, v8, v11, rfl, md, hm6, hmk, hM0, hM, hp, k0⟩ kk
  have nMp : M ≠ p := fun z => by rw [z, gp] at hM0; cases hM0
  refine ⟨_, rfl, Nat.zero_le _, fun e2 he2 => ?_⟩
  have k1 : Keep [] H (upd H e2 (.lst [])) := Keep.new he2
  have a1 : (upd H e2 (.lst [])) e2 = some (.lst []) := upd_same
  generalize (upd H e2 (.lst [])) = H1 at k1 a1 ⊢
  have hM1 := k1.at hM nin0
  have p1 := hp.keep k1 nin0
  have k01 : Keep [p] G H1 := k0.trans (k1.more fun b z => absurd z nin0)
  refine ⟨intsD mem, intsD [], dp_intsD hM1, dp_intsD (l := []) a1, ints_shaped _, ints_shaped _, _, rfl, ?_⟩
  rw [ints_nil]
  cases mem with
  | nil =>
    refine iteT ?_
    have hl1 : PairsAt H1 l ps := (hl0.keep (S.keep.trans k01) (nin1 nlp) (fun b hb => by
      obtain ⟨x0, ep0⟩ := hp00.some
      rw [List.mem_singleton.mp hb]; exact ⟨_, ep0, fun _ z => by cases z⟩))
    refine ⟨_, rfl, _, rfl, p, l, n, ps, rfl, p1, by omega, hl1, nlp, hps, fun zk G5 hzk k5 hp5 => ?_⟩
    exact r7 ps Lf Df Nf H0 G p l E L D n0 (n + 1) es rs lv dp hp00 ⟨gx, gp⟩ (by omega) hlen S De _ _ ⟨M, [], many, da, dd, zk, v2, v8, rfl, md, ⟨fun _ => hzk, fun h => absurd rfl h⟩, hm6, hmk, hM0, k5.at hM1 (nin1 nMp), hp5, k01.trans k5⟩ kk
  | cons x r =>
    refine iteF ?_
    exact r7 ps Lf Df Nf H0 G p l E L D n0 (n + 1) es rs lv dp hp00 ⟨gx, gp⟩ (by omega) hlen S De _ _ ⟨M, x :: r, many, da, dd, _, v2, v8, rfl, md, ⟨(fun h => by cases h), fun _ => rfl⟩, hm6, hmk, hM0, hM1, p1.le (by omega), k01⟩ kk
theorem ent_2 {dKd dTx : FuncData} {f : Addr} (T : ETxt K mg fKd fDg fTx) (FK : FnOk P w K mg base CX0 2 fKd dKd ["_law_pot_here", "_law_pairs_here"] spKindL) (bK : Binds K dKd ["_law_pot_here", "_law_pairs_here"] []) (FT : FnOk P w K mg base CX0 2 fTx dTx ["_law_pot_here"] spText) (bT : Binds K dTx ["_law_pot_here"] [])
    (cdv : Value) (A0 : Around) (outer : List Env) (s : Shared) (Hs : Hp) (Es : XK) (hr : Room 2 (A0.deeper (PyProof.Rows.envOfC "_law_entries" (defScope sEnt) s.heap.objs.size f cdv))) :
    ∃ t, PSs (cxOf CX0 P w K mg base nEnt "_law_entries" (defScope sEnt) f cdv A0 outer s Hs Es).nox (bEnt.drop 2) t ∧
      ∀ (ps : List (Str × Str)) (Lf Df Nf : Nat → Nat) (H0 G : Hp) (p l E L D : Addr) (n0 n : Nat) (es : List Ent) (rs : List Addr) (lv dp : List Int), PotAt H0 p n0 → (∃ xs, G p = some (.lst xs)) → PairsAt H0 l ps → ps.length ≤ 1000 → l ≠ p → n < 2 ^ 29 → es.length ≤ 100 → EnAt ps Lf Df Nf H0 G p E L D es rs lv dp → ∀ (De : Ends) σ H, CutA G p l E L D es.length n σ H →
        Turned ps H0 p l E L D (n + 44) es rs lv dp De → t De σ H := by
  obtain ⟨t5, h5, r5⟩ := ent_5 (P := P) (w := w) (base := base) T FK bK FT bT cdv A0 outer s Hs Es hr
  refine ⟨_, pss_cons (ps_set (i := 9) scEnt.nd rfl (Or.inl rfl) (pe_callB (cr_sum rfl) (by rfl) T.sum (by decide +kernel) (pa_cons (pe_lc (own := [("_law_j", 8)]) (g := gName 8) (tt := tYes) (te := tOp (rIxL K) (tVar 4) (tVar 8)) rfl scEnt.nd (pi_list (pv 7))
        (blkOk_by (N := nEnt) (sc := defScope sEnt) (by decide +kernel)) (fun _ _ _ _ _ => pg_name (i := 8) scEnt.nd rfl (Or.inl rfl)) (fun _ _ _ _ _ => pts_nil) (fun _ _ _ _ _ => by exact (pe_ix ix_list (pv 4) (pv 8) (fun _ _ => rfl)))) pa_nil)))
    (pss_cons (ps_set (i := 10) scEnt.nd rfl (Or.inl rfl) (pe_callB (cr_max rfl) (by rfl) T.max (by decide +kernel) (pa_cons (pe_op op_cat (pe_lst (pa_cons pe_int pa_nil)) (pe_lc (own := [("_law_j", 8)]) (g := gName 8) (tt := tYes) (te := tOp (rI0 fun i j => .int (i + j)) (tOp (rIxL K) (tVar 5) (tVar 8)) (tC (.int 1))) rfl scEnt.nd (pi_list (pv 7))
        (blkOk_by (N := nEnt) (sc := defScope sEnt) (by decide +kernel)) (fun _ _ _ _ _ => pg_name (i := 8) scEnt.nd rfl (Or.inl rfl)) (fun _ _ _ _ _ => pts_nil) (fun _ _ _ _ _ => by exact (pe_op op_add (pe_ix ix_list (pv 5) (pv 8) (fun _ _ => rfl)) pe_int)))) pa_nil)))
    (pss_cons (ps_if (PW.pt (pw_or (pt_cmpR op_gt (pv 9) pe_int (nomark _)) (pw_or1 (pt_cmpR op_gt (pv 10) pe_int (nomark _))))) (pss_cons (ps_set (i := 7) scEnt.nd rfl (Or.inl rfl) (pe_lst pa_nil)) (pss_cons (ps_set (i := 9) scEnt.nd rfl (Or.inl rfl) pe_int) (pss_one (ps_set (i := 10) scEnt.nd rfl (Or.inl rfl) pe_int)))) pss_nil) h5)), ?_⟩
  rintro ps Lf Df Nf H0 G p l E L D n0 n es rs lv dp hp00 ⟨gx, gp⟩ hl0 hps nlp hn hlen S De σ H ⟨M, mem, v2, v8, v9, v10, v11, rfl, hm6, hmk, hM0, hM, hp, k0⟩ kk
  obtain ⟨x0, ep0⟩ := hp00.some
  have nLp : L ≠ p := fun z => by rw [← z, S.L0] at ep0; cases ep0
  have nDp : D ≠ p := fun z => by rw [← z, S.D0] at ep0; cases ep0
  have lvH := k0.at S.lvs (nin1 nLp)
  have dpH := k0.at S.dps (nin1 nDp)
  have pick : ∀ (f : Nat → Nat), ∀ a ∈ mem, atI (((List.range es.length).map fun i => (f i : Int)).map V.int) ((a : Nat) : Int) = some (V.int (f a : Int)) := fun f a ha => by
    have hlt : a < es.length := hmk a ha
    exact atI_nat (by rw [List.getElem?_map, List.getElem?_map, List.getElem?_range hlt]; rfl)
  refine ⟨_, rfl, M, rfl, ⟨_, SqL.of hM⟩, fun D1 hD1 => ?_⟩
  refine ints_runG (K := K) (i := 8) (fun a => (Lf a : Int)) hM hD1 (by omega) (fun _ => rfl) (fun a ha H' k Q' hQ' => ?_) (fun H2 e2 k2 => ?_)
  · exact ⟨_, rfl, _, rfl, L, _, _, _, rfl, rfl, SqL.of (k.at lvH nin0), by rw [S.ll]; exact pick Lf a ha, hQ'⟩
  refine ⟨D1, _, rfl, SqL.of e2, ?_⟩
  have hM2 := k2.at hM nin0
  refine ⟨(by show 1 ≤ sizeLine; decide), fun a1 ha1 => ?_⟩
  have k3 : Keep [] H2 (upd H2 a1 (.lst [.int 0])) := Keep.new ha1
  have e3 : (upd H2 a1 (.lst [.int 0])) a1 = some (.lst [.int 0]) := upd_same
  generalize (upd H2 a1 (.lst [.int 0])) = H3 at k3 e3 ⊢
  refine ⟨_, rfl, M, rfl, ⟨_, SqL.of (k3.at hM2 nin0)⟩, fun D2 hD2 => ?_⟩
  refine ints_runG (K := K) (i := 8) (fun a => (Df a : Int) + 1) (k3.at hM2 nin0) hD2 (by omega) (fun _ => rfl) (fun a ha H' k Q' hQ' => ?_) (fun H4 e4 k4 => ?_)
  · exact ⟨_, rfl, _, rfl, D, _, _, _, rfl, rfl, SqL.of (((k2.trans k3).trans k).at dpH nin0), by rw [S.dl]; exact pick Df a ha, _, _, rfl, rfl, hQ'⟩
  have kH4 : Keep [] H H4 := (k2.trans k3).trans k4
  refine ⟨a1, D2, _, _, rfl, rfl, k4.at e3 nin0, e4, ?_, fun c hc => ?_⟩
  · rw [List.length_map, List.length_map]
    exact Nat.le_trans (by show 1 + mem.length ≤ 1000; omega) (by decide)
  have e5 : (upd H4 c (.lst ([.int 0] ++ (mem.map fun a => (Df a : Int) + 1).map V.int))) c = some (.lst ((0 :: mem.map fun a => (Df a : Int) + 1).map V.int)) := by rw [upd_same]; rfl
  have k5 : Keep [] H4 (upd H4 c (.lst ([.int 0] ++ (mem.map fun a => (Df a : Int) + 1).map V.int))) := Keep.new hc
  generalize (upd H4 c (.lst ([.int 0] ++ (mem.map fun a => (Df a : Int) + 1).map V.int))) = H5 at k5 e5 ⊢
  refine ⟨c, 0 :: mem.map fun a => (Df a : Int) + 1, rfl, SqL.of e5, Nat.succ_pos _, fun deep hd1 hd2 => ?_⟩
  have kH5 := kH4.trans k5
  have k05 : Keep [p] G H5 := k0.trans (kH5.more fun b z => absurd z nin0)
  have hp5 : PotAt H5 p n := hp.keep kH5 nin0
  have hM5 : H5 M = some (.lst (memV mem)) := kH5.at hM nin0
  have same : (mem.map fun a => (Lf a : Int)).sum ≤ 60 → deep ≤ 11 → t5 De [some (.ref p), some (.ref l), v2, some (.ref E), some (.ref L), some (.ref D), some (.int (es.length : Int)), some (.ref M), v8, some (.int (mem.map fun a => (Lf a : Int)).sum), some (.int deep), v11] H5 := fun q1 q2 => by
    have d0 : 0 ≤ deep := by
      have := hd2 0 List.mem_cons_self
      omega
    obtain ⟨dd, rfl⟩ : ∃ m : Nat, deep = (m : Int) := ⟨deep.toNat, by omega⟩
    have up : ∀ m ∈ mem, Df m + 1 ≤ dd := fun m hm => by
      have := hd2 ((Df m : Int) + 1) (List.mem_cons_of_mem _ (List.mem_map.mpr ⟨m, hm, rfl⟩))
      omega
    rw [sum_cast] at q1 ⊢
    refine r5 ps Lf Df Nf H0 G p l E L D n0 n es rs lv dp hp00 ⟨gx, gp⟩ hl0 hps nlp hn hlen S De _ _ ⟨M, mem, _, (if mem = [] then 1 else (mem.map Lf).sum), dd, v2, v8, v11, rfl, ⟨?_, rfl, ?_, by omega, fun h => ?_, up, fun h => ?_⟩, hm6, hmk, hM0, hM5, hp5, k05⟩ kk
    · cases mem with
      | nil => simp
      | cons m r =>
        have h1 := (S.tree.pos m m (Nat.le_refl _) (hmk m List.mem_cons_self)).1
        have h2 : 1 ≤ ((m :: r).map Lf).sum := by
          rw [List.map_cons, List.sum_cons]
          exact Nat.le_trans h1 (Nat.le_add_right _ _)
        rw [if_neg (show ¬ (m :: r : List Nat) = [] from fun z => by cases z)]
        generalize ((m :: r).map Lf).sum = x at h2 ⊢
        split <;> omega
    · split
      · decide
      · omega
    · subst h
      rcases List.mem_cons.mp hd1 with z | z
      · omega
      · exact absurd z List.not_mem_nil
    · rcases List.mem_cons.mp hd1 with z | z
      · exfalso
        cases mem with
        | nil => exact h rfl
        | cons m r =>
          have := up m List.mem_cons_self
          omega
      · obtain ⟨m, hm, e⟩ := List.mem_map.mp z
        exact ⟨m, hm, by omega⟩
  have anew : ∀ N : Addr, H5 N = none → t5 De [some (.ref p), some (.ref l), v2, some (.ref E), some (.ref L), some (.ref D), some (.int (es.length : Int)), some (.ref N), v8, some (.int 0), some (.int 0), v11] (upd H5 N (.lst [])) := fun N hN => by
    obtain ⟨xs, ep⟩ := hp5.some
    exact r5 ps Lf Df Nf H0 G p l E L D n0 n es rs lv dp hp00 ⟨gx, gp⟩ hl0 hps nlp hn hlen S De _ _ ⟨N, [], 0, 1, 0, v2, v8, v11, rfl, .none, Nat.zero_le _, (fun a h => absurd h List.not_mem_nil), Keep.free k05 hN (nin1 (Ne.symm (ne_of_none ep hN))), upd_same, hp5.keep (ex := []) (Keep.new hN) nin0, k05.newTo hN⟩ kk
  refine ⟨_, rfl, _, _, rfl, rfl, _, rfl, ?_⟩
  refine ite2 (fun _ => iteT ⟨Nat.zero_le _, fun N hN => anew N hN⟩) (fun q1 => ?_)
  refine ⟨_, rfl, _, _, rfl, rfl, _, rfl, ?_⟩
  refine ite2 (fun _ => ⟨Nat.zero_le _, fun N hN => anew N hN⟩) (fun q2 => same ?_ ?_)
  · have : ¬ (mem.map fun a => (Lf a : Int)).sum > 60 := fun z => q1 (decide_eq_true z)
    omega
  · have : ¬ deep > 11 := fun z => q2 (decide_eq_true z)
    omega
end
end Fs
/-! The law's entries. -/
namespace Fs
open PySem L2 TL
def spEnt : Sp := fun vs H Q _ => ∃ (p l : Addr) (n mo : Nat) (ps : List (Str × Str)), vs = [.ref p, .ref l, .int (mo : Int)] ∧ mo ≤ 20 ∧ PotAt H p n ∧ n < 2 ^ 20 ∧ PairsAt H l ps ∧ ps.length ≤ 1000 ∧ l ≠ p ∧
  ∀ (E : Addr) (rs : List Addr) (es : List Ent) (Lf Df Nf : Nat → Nat) (H' : Hp), Tree es Lf Df Nf → H E = none → (∀ r ∈ rs, H r = none) → H' E = some (.lst (rs.map V.ref)) → (∃ mm nn : List Addr, TriAt [p, E] H' rs mm nn es ∧ (mm ++ nn).Nodup ∧ ∀ x ∈ mm ++ nn, H x = none) → rs.Nodup → Built ps es → es.length ≤ mo → Keep [p] H H' → PotAt H' p (n + 2000) → Q (.ref E) H'
section
variable {P : Program} {w : World} {K : PySem.W.Frag} {mg : Str → Option Value} {base : Heap} {fKd fDg fTx : Addr}
theorem ok_ent {dKd dDg dTx fd : FuncData} {f : Addr} (F : Fun K "_law_entries" "_law_entries" sEnt f fd) (T : ETxt K mg fKd fDg fTx) (FK : FnOk P w K mg base CX0 2 fKd dKd ["_law_pot_here", "_law_pairs_here"] spKindL) (bK : Binds K dKd ["_law_pot_here", "_law_pairs_here"] []) (FD : FnOk P w K mg base CX0 1 fDg dDg ["_law_pot_here", "_law_many"] spDigit) (bD : Binds K dDg ["_law_pot_here", "_law_many"] []) (FT : FnOk P w K mg base CX0 2 fTx dTx ["_law_pot_here"] spText) (bT : Binds K dTx ["_law_pot_here"] []) :
    FnOk P w K mg base CX0 3 f fd ["_law_pot_here", "_law_pairs_here", "_law_most"] spEnt := by
  refine F.ok scEnt (fun vs H Q E h => ?_) (fun cdv A0 outer s H vs Q Es hr h => ?_)
  · obtain ⟨p, l, n, mo, ps, rfl, _⟩ := h
    rfl
  · obtain ⟨p, l, n, mo, ps, rfl, hmo, hp, hn, hl, hps, nlp, kk⟩ := h
    obtain ⟨t2, h2, r2⟩ := ent_2 (P := P) (w := w) (base := base) T FK bK FT bT cdv A0 outer s H Es hr
    have hr1 : Room 1 _ := hr.mono (by decide)
    refine ⟨_, pss_cons (ps_set (i := 3) scEnt.nd rfl (Or.inl rfl) (pe_lst pa_nil))
      (pss_cons (ps_set (i := 4) scEnt.nd rfl (Or.inr rfl) (pe_lst pa_nil))
      (pss_cons (ps_set (i := 5) scEnt.nd rfl (Or.inr rfl) (pe_lst pa_nil))
      (pss_cons (ps_for PassesOwn.never rfl (pi_range1 rfl T.range (pa_cons (pe_call FD hr1 rfl T.gD T.kD bD .nil pass0 (pa_cons (pv 0) (pa_cons (pe_op op_add (pv 2) pe_int) pa_nil))) pa_nil)) (pg_name (i := 6) scEnt.nd rfl (Or.inr rfl))
        (pss_cons (ps_set (i := 7) scEnt.nd rfl (Or.inl rfl) (pe_lst pa_nil))
        (pss_cons (ps_if (PW.pt (pw_and (pt_cmpR op_gt (pv 6) pe_int (nomark _)) (pw_and1 (pt_cmpR op_eq (pe_call FD hr1 rfl T.gD T.kD bD .nil pass0 (pa_cons (pv 0) (pa_cons pe_int pa_nil))) pe_int (nomark _)))))
          (pss_one (ps_setLc (i := 7) (own := [("_law_j", 8)]) (g := gName 8) (tt := tYes) rfl scEnt.nd rfl rfl (sw_true rfl rfl rfl (by decide +kernel)) (pi_range1 rfl T.range (pa_cons (pe_op op_add pe_int (pe_call FD hr1 rfl T.gD T.kD bD .nil pass0 (pa_cons (pv 0) (pa_cons pe_int pa_nil)))) pa_nil))
            (blkOk_by (N := nEnt) (sc := defScope sEnt) (by decide +kernel)) (fun _ _ _ _ _ => pg_name (i := 8) scEnt.nd rfl (Or.inl rfl)) (fun _ _ _ _ _ => pts_nil) (fun _ _ _ _ _ => by exact (pe_call FD hr1 rfl T.gD T.kD bD .nil pass0 (pa_cons (pv 0) (pa_cons (pv 6) pa_nil)))))) pss_nil) h2)))
      (pss_one (ps_ret (pv 3)))))), ?_⟩
    obtain ⟨x0, ep0⟩ := hp.some
    refine ⟨Nat.zero_le _, fun E hE => ?_⟩
    refine ⟨Nat.zero_le _, fun L hL => ?_⟩
    refine ⟨Nat.zero_le _, fun D hD => ?_⟩
    have k3 : Keep [] H (upd (upd (upd H E (.lst [])) L (.lst [])) D (.lst [])) := ((Keep.new hE).newTo hL).newTo hD
    have eE : (upd (upd (upd H E (.lst [])) L (.lst [])) D (.lst [])) E = some (.lst []) := ((Keep.new hL (ex := [])).newTo hD).at upd_same nin0
    have eL : (upd (upd (upd H E (.lst [])) L (.lst [])) D (.lst [])) L = some (.lst []) := (Keep.new hD (ex := [])).at upd_same nin0
    have eD : (upd (upd (upd H E (.lst [])) L (.lst [])) D (.lst [])) D = some (.lst []) := upd_same
    have nEL : E ≠ L := ne_of_none (show upd H E (.lst []) E = some (.lst []) from upd_same) hL
    have nED : E ≠ D := ne_of_none ((Keep.new hL (ex := [])).at (show upd H E (.lst []) E = some (.lst []) from upd_same) nin0) hD
    have nLD : L ≠ D := ne_of_none (show upd (upd H E (.lst [])) L (.lst []) L = some (.lst []) from upd_same) hD
    have hL0 : H L = none := Keep.free (Keep.new hE (ex := [])) hL nin0
    have hD0 : H D = none := Keep.free ((Keep.new hE (ex := [])).newTo hL) hD nin0
    generalize (upd (upd (upd H E (.lst [])) L (.lst [])) D (.lst [])) = H3 at k3 eE eL eD ⊢
    have nEp : E ≠ p := fun z => by rw [← z, hE] at ep0; cases ep0
    have nLp : L ≠ p := fun z => by rw [← z, hL0] at ep0; cases ep0
    have nDp : D ≠ p := fun z => by rw [← z, hD0] at ep0; cases ep0
    refine ⟨_, rfl, _, rfl, _, _, rfl, rfl, p, n, _, rfl, hp.keep k3 nin0, by omega, by omega, by omega, fun d H4 d0 d1 hk4 hp4 => ?_⟩
    have k4 := keep_of_dig hk4
    obtain ⟨m, rfl⟩ : ∃ m : Nat, d = (m : Int) := ⟨d.toNat, by omega⟩
    have S0 : EnAt ps (fun _ => 0) (fun _ => 0) (fun _ => 0) H H4 p E L D [] [] [] [] := ⟨k4.at eE (nin1 nEp), k4.at eL (nin1 nLp), k4.at eD (nin1 nDp), rfl, rfl, .nil, True.intro, ⟨[], [], True.intro, List.nodup_nil, fun x h => absurd h List.not_mem_nil⟩, List.nodup_nil, (fun r h => absurd h List.not_mem_nil), (fun i e h => by simp at h), (k3.more fun b z => absurd z nin0).trans k4, hE, hL0, hD0, nEL, nED, nLD⟩
    refine ⟨_, rfl, by omega, by omega, ?_⟩
    rw [Int.toNat_natCast]
    refine for_range (lo := 0) (n := m) (fun i σ G => ∃ (v2 v6 v7 v8 v9 v10 v11 : Option V) (es : List Ent) (rs : List Addr) (lv dp : List Int) (Lf Df Nf : Nat → Nat), σ = [some (.ref p), some (.ref l), v2, some (.ref E), some (.ref L), some (.ref D), v6, v7, v8, v9, v10, v11] ∧ EnAt ps Lf Df Nf H G p E L D es rs lv dp ∧ es.length = i ∧ PotAt G p (n + 1 + 60 * i))
      ⟨_, none, none, none, none, none, none, [], [], [], [], _, _, _, rfl, S0, rfl, hp4⟩ ?_ ?_
    · rintro i σ G hi ⟨v2, v6, v7, v8, v9, v10, v11, es, rs, lv, dp, Lf, Df, Nf, rfl, S, hl', pot⟩
      have z0 : (0 : Int) + (i : Int) = (i : Int) := Int.zero_add _
      obtain ⟨gx, gp⟩ := pot.some
      refine ⟨Nat.zero_le _, fun N hN => ?_⟩
      have nNp : N ≠ p := Ne.symm (ne_of_none gp hN)
      have kN : Keep [] G (upd G N (.lst [])) := Keep.new hN
      have eN : (upd G N (.lst [])) N = some (.lst []) := upd_same
      generalize (upd G N (.lst [])) = G1 at kN eN ⊢
      have pot1 := pot.keep kN nin0
      have done : ∀ (De : Ends) (q : Nat) (M : Addr) (mem : List Nat) (v8 v9 v10 v11 : Option V) (G' : Hp), mem.length ≤ 6 → (∀ a ∈ mem, a < i) → G M = none → G' M = some (.lst (memV mem)) → PotAt G' p q → Keep [p] G G' → q ≤ n + 1 + 60 * i + 10 →
          Turned ps H p l E L D (q + 44) es rs lv dp De → t2 De [some (.ref p), some (.ref l), v2, some (.ref E), some (.ref L), some (.ref D), some (.int (0 + (i : Int))), some (.ref M), v8, v9, v10, v11] G' := fun De q M mem v8 v9 v10 v11 G' a1 a2 a3 a4 a5 a6 a7 a8 => by
        rw [z0]
        exact r2 ps Lf Df Nf H G p l E L D n q es rs lv dp hp ⟨gx, gp⟩ hl hps nlp (by omega) (by omega) S De _ _ ⟨M, mem, v2, v8, v9, v10, v11, by rw [hl'], a1, by rw [hl']; exact a2, a3, a4, a5, a6⟩ a8
      have turned : ∀ (q : Nat) (De : Ends), q ≤ n + 1 + 60 * i + 10 → (∀ (v2 v6 v7 v8 v9 v10 v11 : Option V) (es : List Ent) (rs : List Addr) (lv dp : List Int) (Lf Df Nf : Nat → Nat) G', EnAt ps Lf Df Nf H G' p E L D es rs lv dp → es.length = i + 1 → PotAt G' p (n + 1 + 60 * (i + 1)) → De.nx [some (.ref p), some (.ref l), v2, some (.ref E), some (.ref L), some (.ref D), v6, v7, v8, v9, v10, v11] G') → Turned ps H p l E L D (q + 44) es rs lv dp De := fun q De hq hD e r x y Lf' Df' Nf' v2 v6 v7 v8 v9 v10 v11 G' S' P' =>
        hD v2 v6 v7 v8 v9 v10 v11 (es ++ [e]) (rs ++ [r]) (lv ++ [x]) (dp ++ [y]) Lf' Df' Nf' G' S' (by rw [List.length_append, hl']; rfl) (P'.le (by omega))
      refine ⟨_, rfl, _, _, rfl, rfl, _, rfl, ?_⟩
      refine ite2 (fun hi0 => ?_) (fun _ => iteF ?_)
      · have hi' : 0 < i := by
          have := of_decide_eq_true hi0
          omega
        refine ⟨_, rfl, p, _, 2, rfl, pot1, by omega, by decide, by decide, fun d2 G2 e0 e1 hk2 pot2 => ?_⟩
        have kG2 : Keep [p] G G2 := (kN.more fun b z => absurd z nin0).trans (keep_of_dig hk2)
        refine ⟨rfl, _, rfl, ?_⟩
        refine ite2 (fun _ => ?_) (fun _ => ?_)
        · refine ⟨_, rfl, p, _, 6, rfl, pot2, by omega, by decide, by decide, fun d3 G3 f0 f1 hk3 pot3 => ?_⟩
          have kG3 : Keep [p] G G3 := kG2.trans (keep_of_dig hk3)
          refine ⟨_, _, rfl, rfl, _, rfl, by omega, by omega, fun B hB => ?_⟩
          obtain ⟨x3, ep3⟩ := pot3.some
          have nBp : B ≠ p := Ne.symm (ne_of_none ep3 hB)
          have hB0 : G B = none := Keep.free kG3 hB (nin1 nBp)
          obtain ⟨c, hc⟩ : ∃ c : Nat, (1 + d3 : Int) = (c : Int) := ⟨(1 + d3).toNat, by omega⟩
          have ec : (1 + d3 : Int).toNat = c := by omega
          rw [ec]
          refine lc_range (lo := 0) (n := c) (fun a G' => ∃ mem : List Nat, mem.length = a ∧ (∀ x ∈ mem, x < i) ∧ G' B = some (.lst (memV mem)) ∧ PotAt G' p (n + 1 + 60 * i + 2 + a) ∧ Keep [p] G G')
            ⟨[], rfl, (fun a h => absurd h List.not_mem_nil), upd_same, (pot3.keep (ex := []) (Keep.new hB) nin0).le (by omega), kG3.newTo hB⟩ (fun a G' ha hI => ?_) (fun G' hI => ?_)
          · obtain ⟨mem, hm, hg, eB, hpG, kG⟩ := hI
            refine ⟨rfl, tyes ?_⟩
            refine ⟨_, rfl, _, rfl, p, _, _, rfl, hpG, by omega, by omega, by omega, fun x G5 x0 x1 hk5 hp5 => ?_⟩
            refine ⟨_, by rw [hk5 B nBp]; exact eB, ?_, mem ++ [x.toNat], by rw [List.length_append, hm]; rfl, fun b hb => ?_, ?_, ?_, ?_⟩
            · rw [List.length_map, hm]
              exact Nat.lt_of_le_of_lt (by omega : a ≤ 1000) (by decide)
            · rcases List.mem_append.mp hb with h | h
              · exact hg b h
              · rw [List.mem_singleton.mp h]; omega
            · have ex : ((x.toNat : Nat) : Int) = x := Int.toNat_of_nonneg x0
              rw [upd_same]
              show _ = some (HO.lst ((mem ++ [x.toNat]).map fun k : Nat => V.int (k : Int)))
              rw [List.map_append, List.map_singleton, ex]
            · exact (hp5.keep (ex := [B]) (Keep.own in1) (nin1 nBp.symm)).le (by omega)
            · exact (kG.trans (keep_of_dig hk5)).freshTo hB0
          · obtain ⟨mem, hm, hg, eB, hpG, kG⟩ := hI
            exact done _ _ B mem _ _ _ _ G' (by omega) hg hB0 eB (hpG.le (Nat.le_refl _)) kG (by omega) (turned _ _ (by omega) fun v2 v6 v7 v8 v9 v10 v11 es rs lv dp Lf Df Nf G' a b c => ⟨v2, v6, v7, v8, v9, v10, v11, es, rs, lv, dp, Lf, Df, Nf, rfl, a, b, c⟩)
        · exact done _ _ N [] _ _ _ _ G2 (Nat.zero_le _) (fun a h => absurd h List.not_mem_nil) (Keep.free (Keep.refl [] G) hN nin0) ((keep_of_dig hk2).at eN (nin1 nNp)) pot2 kG2 (by omega) (turned _ _ (by omega) fun v2 v6 v7 v8 v9 v10 v11 es rs lv dp Lf Df Nf G' a b c => ⟨v2, v6, v7, v8, v9, v10, v11, es, rs, lv, dp, Lf, Df, Nf, rfl, a, b, c⟩)
      · exact done _ _ N [] _ _ _ _ G1 (Nat.zero_le _) (fun a h => absurd h List.not_mem_nil) hN eN pot1 (kN.more fun b z => absurd z nin0) (by omega) (turned _ _ (by omega) fun v2 v6 v7 v8 v9 v10 v11 es rs lv dp Lf Df Nf G' a b c => ⟨v2, v6, v7, v8, v9, v10, v11, es, rs, lv, dp, Lf, Df, Nf, rfl, a, b, c⟩)
    · rintro σ G ⟨v2, v6, v7, v8, v9, v10, v11, es, rs, lv, dp, Lf, Df, Nf, rfl, S, hl', pot⟩
      exact ⟨_, rfl, kk E rs es Lf Df Nf G S.tree hE S.fresh S.ent (by obtain ⟨mm, nn, t1, t2, t3⟩ := S.tri; exact ⟨mm, nn, t1.less fun a q => (by simp only [List.mem_cons, List.not_mem_nil, or_false] at q ⊢; rcases q with q | q <;> simp [q]), t2, t3⟩) S.nd S.built (by omega) S.keep (pot.le (by omega))⟩
end
end Fs
/-! One fault is written anew: in the ledger, in the law's rows. -/
namespace Fs
open PySem L2 TL
theorem set_id {α : Type} : ∀ {l : List α} {i : Nat} {a : α}, l[i]? = some a → l.set i a = l
  | [], _, _, h => by simp at h
  | b :: l, 0, a, h => by
    have e : b = a := by simpa using h
    rw [e]; rfl
  | b :: l, i + 1, a, h => by
    rw [List.set_cons_succ, set_id (by simpa using h)]
theorem map_put {β : Type} {es : List Ent} {x : Nat} {e e' : Ent} (f : Ent → β) (he : es[x]? = some e) (h : f e' = f e) : (es.set x e').map f = es.map f := by
  rw [List.map_set, h]
  exact set_id (by rw [List.getElem?_map, he]; rfl)
theorem MemsAt.congr {H : Hp} : ∀ {as : List Addr} {es es' : List Ent}, es.map Ent.mem = es'.map Ent.mem → MemsAt H as es → MemsAt H as es'
  | [], [], [], _, h => h
  | a :: as, e :: es, f :: fs, q, h => by
    have q1 : e.mem = f.mem := by have := congrArg List.head? q; simpa using this
    have q2 : es.map Ent.mem = fs.map Ent.mem := by have := congrArg List.tail q; simpa using this
    exact ⟨by rw [← q1]; exact h.1, MemsAt.congr q2 h.2⟩
  | _, [], _ :: _, q, _ => by simp at q
  | _, _ :: _, [], q, _ => by simp at q
  | [], _ :: _, _ :: _, _, h => h.elim
  | _ :: _, [], [], _, h => h.elim
theorem NotesAt.congr {H : Hp} : ∀ {as : List Addr} {es es' : List Ent}, es.map Ent.notes = es'.map Ent.notes → NotesAt H as es → NotesAt H as es'
  | [], [], [], _, h => h
  | a :: as, e :: es, f :: fs, q, h => by
    have q1 : e.notes = f.notes := by have := congrArg List.head? q; simpa using this
    have q2 : es.map Ent.notes = fs.map Ent.notes := by have := congrArg List.tail q; simpa using this
    exact ⟨by rw [← q1]; exact h.1, NotesAt.congr q2 h.2⟩
  | _, [], _ :: _, q, _ => by simp at q
  | _, _ :: _, [], q, _ => by simp at q
  | [], _ :: _, _ :: _, _, h => h.elim
  | _ :: _, [], [], _, h => h.elim
theorem LedAt.nes {C : Addr} {H : Hp} {p : Addr} {A : LA} {ms ns : List Addr} {es : List Ent} (h : LedAt C H p A ms ns es) : A.l1 ≠ A.l5 ∧ A.l2 ≠ A.l5 ∧ A.l3 ≠ A.l5 ∧ A.l4 ≠ A.l5 ∧ A.l1 ≠ A.l6 ∧ A.l2 ≠ A.l6 ∧ A.l3 ≠ A.l6 ∧ A.l4 ≠ A.l6 ∧ A.l5 ≠ A.l6 ∧ A.l5 ∉ ns ∧ A.l6 ∉ ns := by
  have h := h.nd
  simp only [LA.ls, List.cons_append, List.nil_append, List.nodup_cons, List.mem_cons, not_or] at h
  obtain ⟨⟨a2, a3, a4, a5, a6, a7⟩, ⟨b3, b4, b5, b6, b7⟩, ⟨c4, c5, c6, c7⟩, ⟨d5, d6, d7⟩, ⟨e6, e7⟩, f7, g⟩ := h
  exact ⟨a5, b5, c5, d5, a6, b6, c6, d6, e6, e7, f7⟩
def byE (e : Ent) (o : Option Nat) : Ent := { e with cause := o }
theorem LedAt.by' {C : Addr} {H : Hp} {p : Addr} {A : LA} {ms ns : List Addr} {es : List Ent} (h : LedAt C H p A ms ns es) {x : Nat} {e : Ent} (o : Option Nat) (he : es[x]? = some e) : LedAt C (upd H A.l5 (.lst ((es.map fun e => optV e.cause).set x (optV o)))) p A ms ns (es.set x (byE e o)) := by
  obtain ⟨n1, n2, n3, n4, _, _, _, _, n5, n7, _⟩ := h.nes
  have k : Keep [A.l5] H (upd H A.l5 (.lst ((es.map fun e => optV e.cause).set x (optV o)))) := Keep.own in1
  refine ⟨k.at h.ins (nin1 (ne_of h.ins h.h5 (fun z => by cases z))), ?_, ?_, k.at h.h3 (nin1 n3), k.at h.h4 (nin1 n4), ?_, ?_, ?_, ?_, h.nd⟩
  · rw [map_put (e := e) (e' := byE e o) (fun e => V.str e.kind) he rfl]; exact k.at h.h1 (nin1 n1)
  · rw [map_put (e := e) (e' := byE e o) (fun e => V.str e.text) he rfl]; exact k.at h.h2 (nin1 n2)
  · rw [upd_same, List.map_set]; rfl
  · rw [map_put (e := e) (e' := byE e o) (fun e => optV e.atw) he rfl]; exact k.at h.h6 (nin1 (Ne.symm n5))
  · exact MemsAt.congr (map_put (e := e) (e' := byE e o) Ent.mem he rfl).symm (h.mems.map fun a xs q => k.at q (nin1 (ne_of q h.h5 (fun z => by cases z))))
  · exact NotesAt.congr (map_put (e := e) (e' := byE e o) Ent.notes he rfl).symm (h.notes.map fun a ha xs q => k.at q (nin1 fun z => n7 (by rw [← z]; exact ha)))
def rowL (k t : Str) (m n : Addr) (c a : V) : List V := [.str k, .str t, .ref m, .ref n, c, a]
theorem row_ints {k t : Str} {m n : Addr} {c a : V} {l : List Nat} (h : memV l = rowL k t m n c a) : False := by
  cases l with
  | nil => cases h
  | cons x r => cases h
theorem row_strs {k t : Str} {m n : Addr} {c a : V} {l : List Str} (h : l.map V.str = rowL k t m n c a) : False := by
  match l, h with
  | [], h => cases h
  | [_], h => cases h
  | [_, _], h => cases h
  | _ :: _ :: _ :: _, h => cases h
theorem RowAt.other {bad : List Addr} {H : Hp} {r a : Addr} {e : Ent} {k t : Str} {m n : Addr} {c w : V} {o : HO} (h : RowAt bad H a e) (hr : H r = some (.lst (rowL k t m n c w))) (na : a ≠ r) : RowAt bad (upd H r o) a e := by
  obtain ⟨m', n', h1, h2, h3, h4, h5, h6⟩ := h
  refine ⟨m', n', h1, h2, h3, by rw [upd_ne na]; exact h4, ?_, ?_⟩
  · rw [upd_ne fun z => ?_]
    · exact h5
    · rw [z, hr] at h5
      exact row_ints (by injection h5 with q; injection q with q; exact q.symm)
  · rw [upd_ne fun z => ?_]
    · exact h6
    · rw [z, hr] at h6
      exact row_strs (by injection h6 with q; injection q with q; exact q.symm)
theorem RowsAt.other {bad : List Addr} {H : Hp} {r : Addr} {k t : Str} {m n : Addr} {c w : V} {o : HO} (hr : H r = some (.lst (rowL k t m n c w))) : ∀ {as : List Addr} {es : List Ent}, RowsAt bad H as es → r ∉ as → RowsAt bad (upd H r o) as es
  | [], [], _, _ => True.intro
  | _ :: as, _ :: es, h, n => ⟨h.1.other hr (fun z => n (by rw [z]; exact List.mem_cons_self)), RowsAt.other hr h.2 fun z => n (List.mem_cons_of_mem _ z)⟩
  | [], _ :: _, h, _ => h.elim
  | _ :: _, [], h, _ => h.elim
theorem RowsAt.at {bad : List Addr} {H : Hp} : ∀ {as : List Addr} {es : List Ent} {x : Nat} {e : Ent}, RowsAt bad H as es → es[x]? = some e → ∃ r, as[x]? = some r ∧ RowAt bad H r e
  | _, [], _, _, _, q => by simp at q
  | [], _ :: _, _, _, h, _ => h.elim
  | b :: as, f :: es, 0, e, h, q => by
    have e' : f = e := by simpa using q
    subst e'
    exact ⟨b, rfl, h.1⟩
  | b :: as, f :: es, x + 1, e, h, q => RowsAt.at (x := x) h.2 (by simpa using q)
theorem RowsAt.put {bad : List Addr} {H : Hp} {r : Addr} {e e' : Ent} {m n : Addr} (q1 : e'.kind = e.kind) (q2 : e'.text = e.text) (q3 : e'.mem = e.mem) (q4 : e'.notes = e.notes) (hm : m ∉ bad) (hn : n ∉ bad) (hr : H r = some (.lst (rowL e.kind e.text m n (optV e.cause) (optV e.atw)))) (h5 : H m = some (.lst (memV e.mem))) (h6 : H n = some (.lst (e.notes.map V.str))) : ∀ {as : List Addr} {es : List Ent} {x : Nat}, RowsAt bad H as es → as.Nodup → as[x]? = some r → es[x]? = some e → RowsAt bad (upd H r (.lst (rowL e.kind e.text m n (optV e'.cause) (optV e'.atw)))) as (es.set x e')
  | _, [], _, _, _, _, q => by simp at q
  | [], _ :: _, _, h, _, _, _ => h.elim
  | b :: as, f :: es, 0, h, nd, qa, qe => by
    have e1 : b = r := by simpa using qa
    subst e1
    obtain ⟨m', n', g1, _, _, _, _, _⟩ := h.1
    refine ⟨⟨m, n, g1, hm, hn, ?_, ?_, ?_⟩, RowsAt.other hr h.2 (List.nodup_cons.mp nd).1⟩
    · rw [upd_same, q1, q2]; rfl
    · rw [upd_ne fun z => ?_, q3]
      · exact h5
      · rw [z, hr] at h5
        exact row_ints (by injection h5 with q; injection q with q; exact q.symm)
    · rw [upd_ne fun z => ?_, q4]
      · exact h6
      · rw [z, hr] at h6
        exact row_strs (by injection h6 with q; injection q with q; exact q.symm)
  | b :: as, f :: es, x + 1, h, nd, qa, qe => by
    have ha : r ∈ as := List.mem_of_getElem? (by simpa using qa)
    refine ⟨h.1.other hr fun z => (List.nodup_cons.mp nd).1 (by rw [z]; exact ha), ?_⟩
    exact RowsAt.put q1 q2 q3 q4 hm hn hr h5 h6 h.2 (List.nodup_cons.mp nd).2 (by simpa using qa) (by simpa using qe)
/-- a row of the law's is none of the ledger's lists of notes -/
theorem NotesAt.norow {H : Hp} {r : Addr} {k t : Str} {m n : Addr} {c w : V} (hr : H r = some (.lst (rowL k t m n c w))) : ∀ {as : List Addr} {es : List Ent}, NotesAt H as es → r ∉ as
  | [], [], _ => fun z => absurd z List.not_mem_nil
  | a :: as, e :: es, h => fun z => by
    rcases List.mem_cons.mp z with z | z
    · have h1 := h.1
      rw [← z, hr] at h1
      exact row_strs (by injection h1 with q; injection q with q; exact q.symm)
    · exact NotesAt.norow hr h.2 z
  | [], _ :: _, h => h.elim
  | _ :: _, [], h => h.elim
end Fs
/-! The law's ledger. -/
namespace Fs
open PySem L2 TL
abbrev sLedg : Stmt := top 29
abbrev nLedg : List Str := ["_law_pairs_here", "_law_entries_here", "_law_ledger_here", "_law_kind_here", "_law_text_here", "_law_members_here", "_law_notes", "_law_cause", "_law_at_work"]
theorem scLedg : FnScope nLedg ["_law_pairs_here", "_law_entries_here"] (defScope sLedg) := ⟨rfl, rfl, rfl, by decide +kernel, rfl, by decide +kernel, by decide +kernel⟩
/-- what is changed came behind H, but for the table at Pt -/
theorem Keep.late {H H1 H2 : Hp} {Pt : Addr} {ex : List Addr} (k : Keep [Pt] H H1) (k2 : Keep ex H1 H2) (hx : ∀ b ∈ ex, b = Pt ∨ H b = none) : Keep [Pt] H H2 := fun b o hb e => k2 b o (fun z => by
  rcases hx b z with q | q
  · exact hb (by rw [q]; exact in1)
  · rw [q] at e; cases e) (k b o hb e)
theorem RowsAt.noTab {bad : List Addr} {H : Hp} {Pt : Addr} {tb : Array Value} (hT : H Pt = some (.tbl tb)) : ∀ {as : List Addr} {es : List Ent}, RowsAt bad H as es → RowsAt (Pt :: bad) H as es
  | [], [], _ => True.intro
  | _ :: as, _ :: es, h => by
    obtain ⟨m, n, h1, h2, h3, h4, h5, h6⟩ := h.1
    have no : ∀ {a : Addr} {xs : List V}, a ∉ bad → H a = some (.lst xs) → a ∉ Pt :: bad := fun ha e z => by
      rcases List.mem_cons.mp z with z | z
      · rw [z, hT] at e; cases e
      · exact ha z
    exact ⟨⟨m, n, no h1 h4, no h2 h5, no h3 h6, h4, h5, h6⟩, RowsAt.noTab hT h.2⟩
  | [], _ :: _, h => h.elim
  | _ :: _, [], h => h.elim
structure GLx (K : PySem.W.Frag) (mg : Str → Option Value) (C CK fI fIK fPl fSh : Addr) : Prop where
  cl : Cls K C
  gC : mg "Ledger" = some (.ref C)
  gK : mg "Kinds" = some (.ref CK)
  mkC : Mk K C fI
  mkK : Mk K CK fIK
  mP : Meth K C "plain" fPl
  mS : Meth K C "sheaf" fSh
  list : mg "list" = none
theorem flp (A : LA) : (fldsL A).lookup ("plain" : Str) = none := rfl
theorem fls (A : LA) : (fldsL A).lookup ("sheaf" : Str) = none := rfl
def spLedg (C CK Pt : Addr) : Sp := fun vs H Q _ => ∃ (l E : Addr) (rs : List Addr) (es : List Ent) (ps : List (Str × Str)), vs = [.ref l, .ref E] ∧ PairsAt H l ps ∧ Wf ps ∧ ps.length ≤ 30 ∧ H E = some (.lst (rs.map V.ref)) ∧ RowsAt [] H rs es ∧ Built ps es ∧ es.length ≤ 100 ∧ GxR.TabG H Pt ∧
  ∀ (q : Addr) (A : LA) (ms ns : List Addr) (H' : Hp), Keep [Pt] H H' → (∀ b ∈ A.ls, H b = none) → LedAt C H' q A ms ns es → (∀ b ∈ ns, H b = none) → GxR.TabG H' Pt → KindsAt CK H' A.kd ps → Q (.ref q) H'
section
variable {P : Program} {w : World} {K : PySem.W.Frag} {mg : Str → Option Value} {base : Heap} {C CK fI fIK fPl fSh Pt : Addr}
theorem ok_ledg {dI dIK dPl dSh fd : FuncData} {f : Addr} (F : Fun K "_law_ledger" "_law_ledger" sLedg f fd) (T : GLx K mg C CK fI fIK fPl fSh) (FI : FnOk P w K mg base CX0 1 fI dI ["self", "kinds"] (spLInit C)) (bI : Binds K dI ["self", "kinds"] [])
    (FIK : FnOk P w K mg base CX0 4 fIK dIK ["self", "pairs"] (spKInit CK Pt)) (bIK : Binds K dIK ["self", "pairs"] []) (FP : FnOk P w K mg base CX0 3 fPl dPl ["self", "kind", "text"] (spPlain C CK)) (bP : Binds K dPl ["self", "kind", "text"] []) (FS : FnOk P w K mg base CX0 4 fSh dSh ["self", "text", "members"] (spSheaf K C)) (bS : Binds K dSh ["self", "text", "members"] []) :
    FnOk P w K mg base CX0 6 f fd ["_law_pairs_here", "_law_entries_here"] (spLedg C CK Pt) := by
  refine F.ok scLedg (fun vs H Q E h => ?_) (fun cdv A0 outer s H vs Q Es hr h => ?_)
  · obtain ⟨l, E, rs, es, ps, rfl, _⟩ := h
    rfl
  · obtain ⟨l, E, rs, es, ps, rfl, hP, hw, hps, hE, hR, hB, h100, hTG, kk⟩ := h
    obtain ⟨tb0, hT, hTo⟩ := hTG
    have hr2 : Room 2 _ := hr.mono (by decide)
    have hr3 : Room 3 _ := hr.mono (by decide)
    have hr4 : Room 4 _ := hr.mono (by decide)
    refine ⟨_, pss_cons (ps_set (i := 2) scLedg.nd rfl (Or.inl rfl) (pe_make T.mkC FI hr2 rfl T.gC bI .nil pass0 (pa_cons (pe_make T.mkK FIK hr rfl T.gK bIK .nil pass0 (pa_cons (pe_callTy call_list_of (by rfl) T.list (by decide +kernel) (pa_cons (pv 0) pa_nil)) pa_nil)) pa_nil)))
      (pss_cons (ps_for PassesOwn.never rfl (pi_list (pv 1)) (pg_unl rfl (pgs_cons (pg_name (i := 3) scLedg.nd rfl (Or.inl rfl)) (pgs_cons (pg_name (i := 4) scLedg.nd rfl (Or.inl rfl)) (pgs_cons (pg_name (i := 5) scLedg.nd rfl (Or.inl rfl)) (pgs_cons (pg_name (i := 6) scLedg.nd rfl (Or.inl rfl)) (pgs_cons (pg_name (i := 7) scLedg.nd rfl (Or.inl rfl)) (pgs_cons (pg_name (i := 8) scLedg.nd rfl (Or.inl rfl)) pgs_nil)))))))
        (pss_one (ps_if (pt_cmpR (op_eqD hr.units) (pv 5) (pe_lst pa_nil) (nomark _))
          (pss_one (ps_expr (pe_meth (pv 2) T.cl T.mP FP hr3 bP .nil pass0 (pa_cons (pv 3) (pa_cons (pv 4) pa_nil)))))
          (pss_one (ps_expr (pe_meth (pv 2) T.cl T.mS FS hr4 bS .nil pass0 (pa_cons (pv 4) (pa_cons (pe_callTy call_list_of (by rfl) T.list (by decide +kernel) (pa_cons (pv 5) pa_nil)) pa_nil))))))))
      (pss_one (ps_ret (pv 2)))), ?_⟩
    -- list(pairs)
    obtain ⟨as, el, tl⟩ := id hP
    refine ⟨_, rfl, l, _, rfl, .inl (SqL.of el), fun l2 hl2 => ?_⟩
    have k3 : Keep [] H (upd H l2 (.lst (as.map V.ref))) := Keep.new hl2
    have P3 : PairsAt (upd H l2 (.lst (as.map V.ref))) l2 ps := ⟨as, upd_same, tl.map fun a xs q => k3.at q nin0⟩
    generalize (upd H l2 (.lst (as.map V.ref))) = H3 at k3 P3 ⊢
    -- Kinds(..)
    intro kd kx nkd nkx nkk
    have k4 : Keep [] H3 (upd (upd H3 kx (.own kd)) kd (.ins CK kx [])) := fun b o _ e => by
      rw [upd_ne (ne_of_none e nkd), upd_ne (ne_of_none e nkx)]
      exact e
    have e4 : (upd (upd H3 kx (.own kd)) kd (.ins CK kx [])) kd = some (.ins CK kx []) := upd_same
    generalize (upd (upd H3 kx (.own kd)) kd (.ins CK kx [])) = H4 at k4 e4 ⊢
    have hT4 : H4 Pt = some (.tbl tb0) := k4.at (k3.at hT nin0) nin0
    have P4 : PairsAt H4 l2 ps := P3.keep k4 nin0 (fun b z => absurd z nin0)
    refine ⟨kd, l2, kx, ps, rfl, e4, P4, hw, hps, ⟨tb0, hT4, hTo⟩, fun H5 k5 K5 T5 => ⟨rfl, ?_⟩⟩
    have kk4 : Keep [Pt] H H4 := (k3.more fun b z => absurd z nin0).trans (k4.more fun b z => absurd z nin0)
    have hnkd : H kd = none := Keep.free k3 nkd nin0
    have kk5 : Keep [Pt] H H5 := kk4.late k5 fun b hb => by
      rcases List.mem_cons.mp hb with z | z
      · exact .inr (by rw [z]; exact hnkd)
      · exact .inl (List.mem_singleton.mp z)
    obtain ⟨tb5, eT5, oT5⟩ := T5
    -- Ledger(..)
    intro q qx nq nqx nqq
    have k6 : Keep [] H5 (upd (upd H5 qx (.own q)) q (.ins C qx [])) := fun b o _ e => by
      rw [upd_ne (ne_of_none e nq), upd_ne (ne_of_none e nqx)]
      exact e
    have e6 : (upd (upd H5 qx (.own q)) q (.ins C qx [])) q = some (.ins C qx []) := upd_same
    generalize (upd (upd H5 qx (.own q)) q (.ins C qx [])) = H6 at k6 e6 ⊢
    refine ⟨q, kd, qx, rfl, e6, fun H7 A hA k7 led7 hnA => ⟨rfl, ?_⟩⟩
    have kk6 : Keep [Pt] H H6 := kk5.trans (k6.more fun b z => absurd z nin0)
    have hqT : q ≠ Pt := fun z => by rw [z, eT5] at nq; cases nq
    have hnq : H q = none := Keep.free kk5 nq (nin1 hqT)
    have kk7 : Keep [Pt] H H7 := kk6.late k7 fun b hb => .inr (by rw [List.mem_singleton.mp hb]; exact hnq)
    have eT6 : H6 Pt = some (.tbl tb5) := k6.at eT5 nin0
    have eT7 : H7 Pt = some (.tbl tb5) := k7.at eT6 (nin1 hqT.symm)
    have K7 : KindsAt CK H7 A.kd ps := by
      rw [hA]
      obtain ⟨dx, d, g1, g2⟩ := K5
      have n1 : kd ≠ q := ne_of_none g1 nq
      have n2 : d ≠ q := ne_of_none g2 nq
      exact ⟨dx, d, k7.at (k6.at g1 nin0) (nin1 n1), k7.at (k6.at g2 nin0) (nin1 n2)⟩
    have hA0 : ∀ b ∈ A.ls, H b = none := fun b hb => by
      refine Keep.free kk6 (hnA b hb) (nin1 fun z => ?_)
      have q1 := hnA b hb
      rw [z, eT6] at q1; cases q1
    have nEP : E ≠ Pt := fun z => by rw [z, hT] at hE; cases hE
    have hRT : RowsAt [Pt] H rs es := hR.noTab hT
    have lr := hR.len
    -- the walk
    refine ⟨_, rfl, E, rfl, ⟨_, SqL.of (kk7.at hE (nin1 nEP))⟩, ?_⟩
    refine for_list (xs := rs.map V.ref) (fun i σ G => ∃ (ms ns : List Addr) (v3 v4 v5 v6 v7 v8 : Option V), σ = [some (.ref l), some (.ref E), some (.ref q), v3, v4, v5, v6, v7, v8] ∧ LedAt C G q A ms ns (es.take i) ∧ KindsAt CK G A.kd ps ∧ Keep [Pt] H G ∧ G Pt = some (.tbl tb5) ∧ ∀ b ∈ ns, H b = none)
      ⟨[], [], none, none, none, none, none, none, rfl, led7, K7, kk7, eT7, fun b h => absurd h List.not_mem_nil⟩ (fun i σ G hi hI => ?_) (fun i x σ G hx hI => ?_) (fun σ G hI => ?_)
    · obtain ⟨ms, ns, v3, v4, v5, v6, v7, v8, _, _, _, kG, _, _⟩ := hI
      exact SqL.of (kG.at hE (nin1 nEP))
    · obtain ⟨ms, ns, v3, v4, v5, v6, v7, v8, rfl, led, kin, kG, eT, fr⟩ := hI
      have frs : ∀ {G' : Hp} {x : Addr}, Keep [Pt] H G' → G' Pt = some (.tbl tb5) → G' x = none → ∀ b ∈ ns ++ [x], H b = none := fun k t h b hb => by
        rcases List.mem_append.mp hb with z | z
        · exact fr b z
        · rw [List.mem_singleton.mp z]; exact Keep.free k h (nin1 fun z => by rw [z, t] at h; cases h)
      have hi : i < es.length := by
        have := (List.getElem?_eq_some_iff.mp hx).1
        rw [List.length_map] at this
        omega
      have he := List.getElem?_eq_getElem hi
      generalize es[i] = e at he
      obtain ⟨r, hq, m, n, _, _, _, g4, g5, g6⟩ := (hRT.keep kG).at he
      have ex : x = V.ref r := by
        rw [List.getElem?_map, hq] at hx
        exact (Option.some.inj hx).symm
      subst ex
      obtain ⟨f1, f2, f3, f4, f5, f6, f7⟩ := hB i e he
      have ht : (es.take i).length = i := by rw [List.length_take]; omega
      have htk : es.take (i + 1) = es.take i ++ [e] := by rw [List.take_add_one, he]; rfl
      have subA : ∀ {G' G'' : Hp}, Keep [Pt] H G' → Keep A.ls G' G'' → Keep [Pt] H G'' := fun a b => a.late b fun c hc => .inr (hA0 c hc)
      refine ⟨r, _, rfl, SqL.of g4, rfl, ?_⟩
      refine ⟨_, _, rfl, _, _, rfl, _, _, rfl, _, _, rfl, _, _, rfl, _, _, rfl, rfl, ?_⟩
      refine ⟨_, rfl, Nat.zero_le _, fun e2 he2 => ?_⟩
      have k1 : Keep [] G (upd G e2 (.lst [])) := Keep.new he2
      have a1 : (upd G e2 (.lst [])) e2 = some (.lst []) := upd_same
      generalize (upd G e2 (.lst [])) = G1 at k1 a1 ⊢
      have g51 := k1.at g5 nin0
      have led1 := led.keep k1 (fun b z => absurd z nin0) (fun b z => absurd z nin0)
      have kin1 := kin.keep k1 (fun b z => absurd z nin0)
      have kG1 := kG.trans (k1.more fun b z => absurd z nin0)
      have eT1 := k1.at eT nin0
      refine ⟨intsD e.mem, intsD [], dp_intsD g51, dp_intsD (l := []) a1, ints_shaped _, ints_shaped _, _, rfl, ?_⟩
      rw [ints_nil]
      have kinK : ∀ {G' G'' : Hp}, LedAt C G' q A ms ns (es.take i) → KindsAt CK G' A.kd ps → Keep A.ls G' G'' → KindsAt CK G'' A.kd ps := fun ld h k => h.keep k fun b hb => by
        obtain ⟨xs, e⟩ := ld.isl b hb
        exact ⟨_, e, (fun _ _ _ z => by cases z), fun _ z => by cases z⟩
      have noT : ∀ {G' : Hp}, LedAt C G' q A ms ns (es.take i) → G' Pt = some (.tbl tb5) → Pt ∉ A.ls := fun ld h z => by
        obtain ⟨xs, e⟩ := ld.isl Pt z
        rw [h] at e; cases e
      obtain ⟨ki, te, me, no, ca, aw⟩ := e
      simp only at f1 f2 f3 f4 f5 f6 f7
      subst f4 f5 f6
      cases me with
      | nil =>
        refine iteT ?_
        have ek := f7.1 rfl
        refine ⟨_, rfl, q, A.dx, _, rfl, led1.ins, flp A, _, rfl, _, rfl, q, A, ms, ns, es.take i, ki, te, ps, rfl, led1, kin1, ek, hw.not_sheaf ki ek, by omega, fun G2 t' n' k2 led2 hn2 => ?_⟩
        refine ⟨ms ++ [t'], ns ++ [n'], _, _, _, _, _, _, rfl, ?_, kinK led1 kin1 k2, subA kG1 k2, k2.at eT1 (noT led1 eT1), frs kG1 eT1 hn2⟩
        rw [htk]; exact led2
      | cons y ys =>
        refine iteF ?_
        have ek : ki = sS := f7.2 fun z => by cases z
        subst ek
        refine ⟨_, rfl, q, A.dx, _, rfl, led1.ins, fls A, _, rfl, _, rfl, m, _, rfl, .inl (SqL.of g51), fun m2 hm2 => ?_⟩
        have k2 : Keep [] G1 (upd G1 m2 (.lst (memV (y :: ys)))) := Keep.new hm2
        have em2 : (upd G1 m2 (.lst (memV (y :: ys)))) m2 = some (.lst (memV (y :: ys))) := upd_same
        have nmA : m2 ∉ A.ls := fun z => by
          obtain ⟨xs, e⟩ := led1.isl m2 z
          rw [e] at hm2; cases hm2
        have led2 := led1.keep k2 (fun b z => absurd z nin0) (fun b z => absurd z nin0)
        have kin2 := kin1.keep k2 (fun b z => absurd z nin0)
        have kG2 := kG1.trans (k2.more fun b z => absurd z nin0)
        have eT2 := k2.at eT1 nin0
        refine ⟨q, m2, A, ms, ns, es.take i, te, y :: ys, rfl, led2, SqL.of em2, nmA, (fun z => by cases z), fun k hk => ?_, by omega, fun G3 t' n' k3' led3 hn3 => ?_⟩
        · rw [ht]; exact f3 k hk
        refine ⟨ms ++ [t'], ns ++ [n'], _, _, _, _, _, _, rfl, ?_, kinK led2 kin2 k3', subA kG2 k3', k3'.at eT2 (noT led2 eT2), frs kG2 eT2 hn3⟩
        rw [htk]; exact led3
    · obtain ⟨ms, ns, v3, v4, v5, v6, v7, v8, rfl, led, kin, kG, eT, fr⟩ := hI
      rw [List.length_map, lr, List.take_length] at led
      exact ⟨_, rfl, kk q A ms ns G kG hA0 led fr ⟨_, eT, oT5⟩ kin⟩
end
end Fs
/-! The leaves of a fault, as the law finds them. -/
namespace Fs
open PySem L2 TL
/-- a way, and whereto it leads -/
abbrev WH := List Nat × Nat
def WayAt (H : Hp) (t : Addr) (x : WH) : Prop := ∃ a : Addr, H t = some (.tup [.ref a, .int (x.2 : Int)]) ∧ H a = some (.tup (memV x.1))
def WaysAt (H : Hp) : List Addr → List WH → Prop
  | [], [] => True
  | t :: ts, x :: xs => WayAt H t x ∧ WaysAt H ts xs
  | _, _ => False
theorem WaysAt.map {H H' : Hp} (k : ∀ a xs, H a = some (.tup xs) → H' a = some (.tup xs)) : ∀ {ts : List Addr} {xs : List WH}, WaysAt H ts xs → WaysAt H' ts xs
  | [], [], _ => True.intro
  | _ :: ts, _ :: xs, ⟨⟨a, e1, e2⟩, h⟩ => ⟨⟨a, k _ _ e1, k _ _ e2⟩, WaysAt.map k h⟩
  | [], _ :: _, h => h.elim
  | _ :: _, [], h => h.elim
theorem WaysAt.len {H : Hp} : ∀ {ts : List Addr} {xs : List WH}, WaysAt H ts xs → ts.length = xs.length
  | [], [], _ => rfl
  | _ :: ts, _ :: xs, h => by rw [List.length_cons, List.length_cons, WaysAt.len h.2]
  | [], _ :: _, h => h.elim
  | _ :: _, [], h => h.elim
theorem WaysAt.snoc {H : Hp} {t : Addr} {x : WH} (hb : WayAt H t x) : ∀ {ts : List Addr} {xs : List WH}, WaysAt H ts xs → WaysAt H (ts ++ [t]) (xs ++ [x])
  | [], [], _ => ⟨hb, True.intro⟩
  | _ :: ts, _ :: xs, h => ⟨h.1, WaysAt.snoc hb h.2⟩
  | [], _ :: _, h => h.elim
  | _ :: _, [], h => h.elim
theorem WaysAt.unsnoc {H : Hp} {x : WH} : ∀ {xs : List WH} {ts : List Addr}, WaysAt H ts (xs ++ [x]) → ∃ t ts', ts = ts' ++ [t] ∧ WayAt H t x ∧ WaysAt H ts' xs
  | [], [t], h => ⟨t, [], rfl, h.1, True.intro⟩
  | [], _ :: _ :: _, h => h.2.elim
  | [], [], h => h.elim
  | y :: xs, t :: ts, h => by
    obtain ⟨t', ts', e, h1, h2⟩ := WaysAt.unsnoc h.2
    exact ⟨t', t :: ts', by rw [e]; rfl, h1, h.1, h2⟩
  | _ :: _, [], h => h.elim
def wayD (x : WH) : PyData := .tuple [.tuple (x.1.map fun k : Nat => PyData.int (k : Int)), .int (x.2 : Int)]
theorem WayAt.dp {K : PySem.W.Frag} {H : Hp} {t : Addr} {x : WH} (h : WayAt H t x) : Dp K H (.ref t) (wayD x) := by
  obtain ⟨a, e1, e2⟩ := h
  exact .tup (SqT.of e1) (.cons (.tup (SqT.of e2) (dp_ints _)) (.cons (.int _) .nil))
theorem WaysAt.dp {K : PySem.W.Frag} {H : Hp} : ∀ {ts : List Addr} {xs : List WH}, WaysAt H ts xs → DpAll K H (ts.map V.ref) (xs.map wayD)
  | [], [], _ => .nil
  | _ :: ts, _ :: xs, h => .cons h.1.dp (WaysAt.dp h.2)
  | [], _ :: _, h => h.elim
  | _ :: _, [], h => h.elim
theorem ways_flat (xs : List WH) : PyData.canLayAll0 (xs.map wayD) = true ∧ PyData.depthAll (xs.map wayD) ≤ 4 := by
  induction xs with
  | nil => simp [PyData.canLayAll0, PyData.depthAll]
  | cons x r ih =>
    have h1 := ints_lay x.1
    have h2 := ints_deep x.1
    obtain ⟨i1, i2⟩ := ih
    rw [List.map_cons]
    refine ⟨?_, ?_⟩
    · simp only [PyData.canLayAll0, wayD, PyData.canLay0, h1, i1, Bool.and_self]
    · simp only [PyData.depthAll, wayD, PyData.depth]
      omega
def waysD (xs : List WH) : PyData := .list (xs.map wayD)
theorem ways_shaped (xs : List WH) : SeqAt.shaped (waysD xs) = true := by
  obtain ⟨h1, h2⟩ := ways_flat xs
  have a1 : (waysD xs).canLay0 = true := by
    unfold waysD
    simp only [PyData.canLay0]
    exact h1
  have a2 : (waysD xs).depth ≤ 64 := by
    unfold waysD
    simp only [PyData.depth]
    omega
  unfold SeqAt.shaped
  rw [a1, decide_eq_true a2]
  rfl
theorem ways_nil (xs : List WH) : PyData.eqv (waysD xs) (waysD []) = xs.isEmpty := by
  cases xs <;> simp [waysD, PyData.eqv, PyData.eqvAll]
/-- of all that waits -/
def tot (f : Nat → Nat) (xs : List WH) : Nat := (xs.map fun x => f x.2).sum
theorem tot_snoc (f : Nat → Nat) (xs : List WH) (x : WH) : tot f (xs ++ [x]) = tot f xs + f x.2 := by
  unfold tot
  rw [List.map_append, List.sum_append]
  simp
theorem tot_len {f : Nat → Nat} {xs : List WH} (h : ∀ x ∈ xs, 1 ≤ f x.2) : xs.length ≤ tot f xs := by
  induction xs with
  | nil => exact Nat.zero_le _
  | cons x r ih =>
    have := h x List.mem_cons_self
    have := ih fun y hy => h y (List.mem_cons_of_mem _ hy)
    unfold tot at *
    simp only [List.map_cons, List.sum_cons, List.length_cons]
    omega
theorem Tree.node1 {es : List Ent} {Lf Df Nf : Nat → Nat} (T : Tree es Lf Df Nf) {i : Nat} (hi : i < es.length) : 1 ≤ Nf i := by
  have he := List.getElem?_eq_getElem hi
  generalize es[i] = e at he
  by_cases q : e.mem = []
  · rw [(T.leaf i e he q).2.1]
    exact Nat.le_refl _
  · rw [(T.nest i e he q).2.1]
    omega
/-- what is pushed of the members, the last one first -/
def kidsN (w : List Nat) (mem : List Nat) (i : Nat) : List WH := (List.range i).map fun j => (w ++ [mem.length - 1 - j], mem.getD (mem.length - 1 - j) 0)
theorem kidsN_succ {w mem : List Nat} {i : Nat} (h : mem.length - 1 - i < mem.length) : kidsN w mem (i + 1) = kidsN w mem i ++ [(w ++ [mem.length - 1 - i], mem[mem.length - 1 - i])] := by
  unfold kidsN
  rw [List.range_succ, List.map_append, List.map_singleton]
  rw [show mem.getD (mem.length - 1 - i) 0 = mem[mem.length - 1 - i] by rw [List.getD_eq_getElem?_getD, List.getElem?_eq_getElem h]; rfl]
/-- the walk over what waits -/
inductive Run (es : List Ent) : List WH → List WH → List WH → Prop where
  | done {f : List WH} : Run es f [] f
  | leaf {f st l r : List WH} {x : WH} {e : Ent} : st = l ++ [x] → es[x.2]? = some e → e.mem = [] → Run es (f ++ [x]) l r → Run es f st r
  | nest {f st l r : List WH} {x : WH} {e : Ent} : st = l ++ [x] → es[x.2]? = some e → e.mem ≠ [] → Run es f (l ++ kidsN x.1 e.mem e.mem.length) r → Run es f st r
theorem last_one {l l' : List WH} {x x' : WH} (h : l ++ [x] = l' ++ [x']) : l = l' ∧ x = x' := by
  have := List.append_inj' h rfl
  exact ⟨this.1, by have := this.2; simpa using this⟩
theorem Run.one {es : List Ent} {f st a b : List WH} (h : Run es f st a) (g : Run es f st b) : a = b := by
  induction h generalizing b with
  | done =>
    cases g with
    | done => rfl
    | leaf e _ _ _ => simp at e
    | nest e _ _ _ => simp at e
  | leaf h1 h2 h3 h4 ih =>
    cases g with
    | done => simp at h1
    | leaf g1 g2 g3 g4 =>
      obtain ⟨rfl, rfl⟩ := last_one (h1.symm.trans g1)
      exact ih g4
    | nest g1 g2 g3 g4 =>
      obtain ⟨rfl, rfl⟩ := last_one (h1.symm.trans g1)
      rw [h2] at g2
      rw [← Option.some.inj g2] at g3
      exact absurd h3 g3
  | nest h1 h2 h3 h4 ih =>
    cases g with
    | done => simp at h1
    | leaf g1 g2 g3 g4 =>
      obtain ⟨rfl, rfl⟩ := last_one (h1.symm.trans g1)
      rw [h2] at g2
      rw [← Option.some.inj g2] at g3
      exact absurd g3 h3
    | nest g1 g2 g3 g4 =>
      obtain ⟨rfl, rfl⟩ := last_one (h1.symm.trans g1)
      rw [h2] at g2
      rw [← Option.some.inj g2] at g4
      exact ih g4
end Fs
/-! The leaves of a fault, as the ledger tells them. -/
namespace Fs
open PySem L2 TL
abbrev sLvp : Stmt := inClass cLed 14
abbrev nLvp : List Str := ["self", "k", "found", "waiting", "way", "number", "members", "place"]
theorem scLvp : FnScope nLvp ["self", "k"] (defScope sLvp) := ⟨rfl, rfl, rfl, by decide +kernel, rfl, by decide +kernel, by decide +kernel⟩
def spLvp (C : Addr) : Sp := fun vs H Q _ => ∃ (p : Addr) (A : LA) (ms ns : List Addr) (es : List Ent) (k : Nat) (Lf Df Nf : Nat → Nat), vs = [.ref p, .int (k : Int)] ∧ LedAt C H p A ms ns es ∧ Tree es Lf Df Nf ∧ k < es.length ∧ (∀ e ∈ es, e.mem.length ≤ 6) ∧
  ∀ (H' : Hp) (F : Addr) (ts : List Addr) (fs : List WH), Keep [] H H' → H F = none → H' F = some (.lst (ts.map V.ref)) → WaysAt H' ts fs → fs.length = Lf k → (∀ b, (∀ x ∈ fs, x.1.length ≤ b) → Df k ≤ b) → (∀ x ∈ fs, x.1.length ≤ Df k) → Run es [] [([], k)] fs → Q (.ref F) H'
section
variable {P : Program} {w : World} {K : PySem.W.Frag} {mg : Str → Option Value} {base : Heap} {C fA fCF fCT fCM : Addr}
theorem ok_lvp {f : Addr} {fd fdF : FuncData} (F : Fun K "leaves" "Ledger.leaves" sLvp f fd) (T : LTxt K mg C fA fCF fCT fCM) (FF : FnOk P w K mg base CX0 2 fCF fdF ["self", "k"] (spChkF C)) (bF : Binds K fdF ["self", "k"] []) (mR : mg "range" = none) (mV : mg "reversed" = none) : FnOk P w K mg base CX0 3 f fd ["self", "k"] (spLvp C) := by
  refine F.ok scLvp (fun vs H Q E h => ?_) (fun cdv A0 outer s H vs Q Es hr h => ?_)
  · obtain ⟨p, A, ms, ns, es, k, Lf, Df, Nf, rfl, _⟩ := h
    rfl
  · obtain ⟨p, A, ms, ns, es, k, Lf, Df, Nf, rfl, hL, T', hk, h6, kk⟩ := h
    refine ⟨_, pss_cons (ps_expr (pe_meth (pv 0) T.cl T.mF FF hr bF .nil pass0 (pa_cons (pv 1) pa_nil)))
      (pss_cons (ps_set (i := 2) scLvp.nd rfl (Or.inl rfl) (pe_lst pa_nil))
      (pss_cons (ps_set (i := 3) scLvp.nd rfl (Or.inl rfl) (pe_lst (pa_cons (pe_tup (pa_cons (pe_tup pa_nil) (pa_cons (pv 1) pa_nil))) pa_nil)))
      (pss_cons (ps_while PassesOwn.never (pt_truth (pv 3) (fun _ => rfl))
        (pss_cons (ps_asg (pe_bm0 PySem.F.plainAttrs_list PySem.F.slot_list_pop PySem.F.type_list_pop mt_pop (pv 3)) (pg_tup rfl (pgs_cons (pg_name (i := 4) scLvp.nd rfl (Or.inl rfl)) (pgs_cons (pg_name (i := 5) scLvp.nd rfl (Or.inl rfl)) pgs_nil))))
        (pss_cons (ps_set (i := 6) scLvp.nd rfl (Or.inl rfl) (pe_ix ix_list (pe_fld (pv 0) rfl) (pv 5) (fun _ _ => rfl)))
        (pss_cons (ps_if (pt_not (pt_truth (pv 6) (fun _ => rfl))) (pss_one (ps_expr (pe_bm PySem.F.plainAttrs_list PySem.F.slot_list_append PySem.F.type_list_append mt_append (pv 2) (pa_cons (pe_tup (pa_cons (pv 4) (pa_cons (pv 5) pa_nil))) pa_nil)))) pss_nil)
        (pss_one (ps_for PassesOwn.never rfl (pi_revR rfl mV (prg_1 rfl mR (pe_callB call_len_seq (by rfl) T.len PySem.boot_len (pa_cons (pv 6) pa_nil)))) (pg_name (i := 7) scLvp.nd rfl (Or.inl rfl))
          (pss_one (ps_expr (pe_bm PySem.F.plainAttrs_list PySem.F.slot_list_append PySem.F.type_list_append mt_append (pv 3) (pa_cons (pe_tup (pa_cons (pe_op op_catA (pv 4) (pe_tup (pa_cons (pv 7) pa_nil))) (pa_cons (pe_ix ix_tup (pv 6) (pv 7) (fun _ _ => rfl)) pa_nil))) pa_nil))))))))))
      (pss_one (ps_ret (pv 2)))))), ?_⟩
    refine ⟨_, rfl, p, A.dx, _, rfl, hL.ins, flno A, _, rfl, p, A, ms, ns, es, k, rfl, hL, hk, ?_⟩
    refine ⟨Nat.zero_le _, fun F hF => ?_⟩
    refine ⟨Nat.zero_le _, fun a0 ha0 => ?_⟩
    refine ⟨_, rfl, (by show 2 ≤ sizeLine; decide), fun t0 ht0 => ?_⟩
    refine ⟨(by show 1 ≤ sizeLine; decide), fun W hW => ?_⟩
    have k0 : Keep [] H (upd (upd (upd (upd H F (.lst [])) a0 (.tup [])) t0 (.tup [.ref a0, .int (k : Int)])) W (.lst [.ref t0])) := (((Keep.new hF).newTo ha0).newTo ht0).newTo hW
    have eF0 : (upd (upd (upd (upd H F (.lst [])) a0 (.tup [])) t0 (.tup [.ref a0, .int (k : Int)])) W (.lst [.ref t0])) F = some (.lst []) := (((Keep.new ha0 (ex := [])).newTo ht0).newTo hW).at upd_same nin0
    have ea0 : (upd (upd (upd (upd H F (.lst [])) a0 (.tup [])) t0 (.tup [.ref a0, .int (k : Int)])) W (.lst [.ref t0])) a0 = some (.tup []) := ((Keep.new ht0 (ex := [])).newTo hW).at upd_same nin0
    have et0 : (upd (upd (upd (upd H F (.lst [])) a0 (.tup [])) t0 (.tup [.ref a0, .int (k : Int)])) W (.lst [.ref t0])) t0 = some (.tup [.ref a0, .int (k : Int)]) := (Keep.new hW (ex := [])).at upd_same nin0
    have eW0 : (upd (upd (upd (upd H F (.lst [])) a0 (.tup [])) t0 (.tup [.ref a0, .int (k : Int)])) W (.lst [.ref t0])) W = some (.lst [.ref t0]) := upd_same
    have hW0 : H W = none := Keep.free (((Keep.new hF (ex := [])).newTo ha0).newTo ht0) hW nin0
    have nFW : F ≠ W := ne_of_none (((Keep.new ha0 (ex := [])).newTo ht0).at (show upd H F (.lst []) F = some (.lst []) from upd_same) nin0) hW
    generalize (upd (upd (upd (upd H F (.lst [])) a0 (.tup [])) t0 (.tup [.ref a0, .int (k : Int)])) W (.lst [.ref t0])) = G0 at k0 eF0 ea0 et0 eW0 ⊢
    have dk := (T'.few k _ (List.getElem?_eq_getElem hk)).2
    have own : ∀ {G : Hp} {o : HO}, Keep [] H G → Keep [] H (upd G W o) := fun k => k.freshTo hW0
    have tups : ∀ {G : Hp} {xs : List V} {o : HO} {ts : List Addr} {zs : List WH}, G W = some (.lst xs) → WaysAt G ts zs → WaysAt (upd G W o) ts zs := fun eW h => h.map fun a ys q => by rw [upd_ne (ne_of q eW (fun z => by cases z))]; exact q
    have tupsF : ∀ {G : Hp} {xs : List V} {o : HO} {ts : List Addr} {zs : List WH}, G F = some (.lst xs) → WaysAt G ts zs → WaysAt (upd G F o) ts zs := fun eF h => h.map fun a ys q => by rw [upd_ne (ne_of q eF (fun z => by cases z))]; exact q
    have tupsN : ∀ {G G' : Hp} {ts : List Addr} {zs : List WH}, Keep [] G G' → WaysAt G ts zs → WaysAt G' ts zs := fun k h => h.map fun a ys q => k.at q nin0
    let Inv : Nat → L2.St → Hp → Prop := fun m σ G => ∃ (fs st : List WH) (tsF tsW : List Addr) (v4 v5 v6 v7 : Option V), σ = [some (.ref p), some (.int (k : Int)), some (.ref F), some (.ref W), v4, v5, v6, v7] ∧ Keep [] H G ∧ G F = some (.lst (tsF.map V.ref)) ∧ G W = some (.lst (tsW.map V.ref)) ∧ WaysAt G tsF fs ∧ WaysAt G tsW st ∧
      (∀ x ∈ st, x.2 < es.length) ∧ fs.length + tot Lf st = Lf k ∧ (∀ b, (∀ x ∈ fs, x.1.length ≤ b) → (∀ x ∈ st, x.1.length + Df x.2 ≤ b) → Df k ≤ b) ∧ (∀ x ∈ fs, x.1.length ≤ Df k) ∧ (∀ x ∈ st, x.1.length + Df x.2 ≤ Df k) ∧ tot Nf st ≤ 780 ∧ m = tot Nf st ∧ ∀ r, Run es fs st r → Run es [] [([], k)] r
    refine ⟨Inv, ⟨_, [], [([], k)], [], [t0], none, none, none, none, rfl, k0, eF0, eW0, True.intro, ⟨⟨a0, et0, ea0⟩, True.intro⟩, fun x hx => ?_, ?_, fun b _ hb => ?_, (fun x hx => absurd hx List.not_mem_nil), fun x hx => ?_, ?_, rfl, fun r h => h⟩, ?_⟩
    · rw [List.mem_singleton.mp hx]; exact hk
    · simp [tot]
    · have := hb _ List.mem_cons_self
      simpa using this
    · rw [List.mem_singleton.mp hx]; simp
    · have := T'.nodes hk
      simpa [tot] using this
    rintro m σ G ⟨fs, st, tsF, tsW, v4, v5, v6, v7, rfl, kG, eF, eW, wF, wW, hin, hsum, hdeep, hf12, hs12, hn, rfl, hrun⟩
    have lW := wW.len
    refine ⟨_, rfl, !(tsW.map V.ref).isEmpty, .inl ⟨_, SqL.of eW, rfl⟩, ?_⟩
    have eW1 := eW
    have eF1 := eF
    have wF1 := wF
    have wW1 := wW
    have kG1 := kG
    rcases List.eq_nil_or_concat st with hst | ⟨l0, x, hst⟩
    · subst hst
      have en : tsW = [] := by
        cases tsW with
        | nil => rfl
        | cons y ys => simp at lW
      rw [en]
      refine iteF ?_
      exact ⟨_, rfl, kk G F tsF fs kG1 hF eF1 wF1 (by simpa [tot] using hsum) (fun b hb => hdeep b hb fun x hx => absurd hx List.not_mem_nil) hf12 (hrun _ .done)⟩
    · rw [List.concat_eq_append] at hst
      subst hst
      have ene : (tsW.map V.ref).isEmpty = false := by
        cases tsW with
        | nil => simp at lW
        | cons y ys => rfl
      rw [ene]
      refine iteT ⟨fun σ' H' => ∃ m', m' < tot Nf (l0 ++ [x]) ∧ Inv m' σ' H', fun σ' H' h => h, ?_⟩
      obtain ⟨t, ts', rfl, ⟨a, et, ea⟩, wl⟩ := WaysAt.unsnoc wW1
      have hx := hin x (List.mem_append_right _ List.mem_cons_self)
      have hx12 := hs12 x (List.mem_append_right _ List.mem_cons_self)
      -- pop
      have get : ((ts' ++ [t]).map V.ref)[((ts' ++ [t]).map V.ref).length - 1]? = some (V.ref t) := by
        rw [List.map_append, List.length_append, List.getElem?_append_right (by simp)]
        simp
      refine ⟨_, rfl, .inl ⟨rfl, _, SqL.of eW1⟩, W, _, V.ref t, rfl, rfl, eW1, get, ?_⟩
      have edr : ((ts' ++ [t]).map V.ref).dropLast = ts'.map V.ref := by rw [List.map_append]; simp
      rw [edr]
      have kG2 : Keep [] H (upd G W (.lst (ts'.map V.ref))) := own kG1
      have et2 : (upd G W (.lst (ts'.map V.ref))) t = some (.tup [.ref a, .int (x.2 : Int)]) := by rw [upd_ne (ne_of et eW1 (fun z => by cases z))]; exact et
      have ea2 : (upd G W (.lst (ts'.map V.ref))) a = some (.tup (memV x.1)) := by rw [upd_ne (ne_of ea eW1 (fun z => by cases z))]; exact ea
      have eF2 : (upd G W (.lst (ts'.map V.ref))) F = some (.lst (tsF.map V.ref)) := by rw [upd_ne nFW]; exact eF1
      have eW2 : (upd G W (.lst (ts'.map V.ref))) W = some (.lst (ts'.map V.ref)) := upd_same
      have wF2 := tups (o := .lst (ts'.map V.ref)) eW1 wF1
      have wl2 := tups (o := .lst (ts'.map V.ref)) eW1 wl
      generalize (upd G W (.lst (ts'.map V.ref))) = G2 at kG2 et2 ea2 eF2 eW2 wF2 wl2 ⊢
      refine ⟨t, _, rfl, SqT.of et2, rfl, _, _, rfl, _, _, rfl, rfl, ?_⟩
      -- members
      have he := List.getElem?_eq_getElem hx
      generalize es[x.2] = e at he
      have LG := hL.keep kG2 (fun b z => absurd z nin0) (fun b z => absurd z nin0)
      obtain ⟨mm, hq, g50⟩ := hL.mems.at he
      have g5 := kG2.at g50 nin0
      refine ⟨_, rfl, p, C, A.dx, _, _, rfl, LG.ins, T.cl, T.n3, fl3 A, _, rfl, A.l3, _, _, V.ref mm, rfl, rfl, SqL.of LG.h3, atI_nat (by rw [List.getElem?_map, hq]; rfl), ?_⟩
      refine ⟨_, rfl, !(memV e.mem).isEmpty, .inr (.inl ⟨_, SqT.of g5, rfl⟩), ?_⟩
      have kG3 := kG2
      have g53 := g5
      have ea3 := ea2
      have eF3 := eF2
      have eW3 := eW2
      have wF3 := wF2
      have wl3 := wl2
      have hl6 := h6 e (List.mem_of_getElem? he)
      rw [tot_snoc] at hsum hn ⊢
      have lF : tsF.length ≤ 60 := by
        have h1 := wF.len
        have h2 := (T'.few k _ (List.getElem?_eq_getElem hk)).1
        omega
      by_cases hm : e.mem = []
      · obtain ⟨q1, q2, q3⟩ := T'.leaf x.2 e he hm
        rw [show (memV e.mem).isEmpty = true by rw [hm]; rfl]
        refine iteT ?_
        refine ⟨_, rfl, .inl ⟨rfl, _, SqL.of eF3⟩, _, rfl, _, rfl, (by show 2 ≤ sizeLine; decide), fun t4 ht4 => ?_⟩
        have k4 : Keep [] G2 (upd G2 t4 (.tup [.ref a, .int (x.2 : Int)])) := Keep.new ht4
        have et4 : (upd G2 t4 (.tup [.ref a, .int (x.2 : Int)])) t4 = some (.tup [.ref a, .int (x.2 : Int)]) := upd_same
        generalize (upd G2 t4 (.tup [.ref a, .int (x.2 : Int)])) = G4 at k4 et4 ⊢
        have eF4 := k4.at eF3 nin0
        refine ⟨F, _, _, rfl, rfl, eF4, Nat.lt_of_le_of_lt (by rw [List.length_map]; omega : (tsF.map V.ref).length ≤ 1000) (by decide), ?_⟩
        have k5 : Keep [] H (upd G4 F (.lst (tsF.map V.ref ++ [.ref t4]))) := (kG3.trans k4).freshTo hF
        have eF5 : (upd G4 F (.lst (tsF.map V.ref ++ [.ref t4]))) F = some (.lst ((tsF ++ [t4]).map V.ref)) := by rw [upd_same, List.map_append]; rfl
        have eW5 : (upd G4 F (.lst (tsF.map V.ref ++ [.ref t4]))) W = some (.lst (ts'.map V.ref)) := by rw [upd_ne nFW.symm]; exact k4.at eW3 nin0
        have wF5 : WaysAt (upd G4 F (.lst (tsF.map V.ref ++ [.ref t4]))) (tsF ++ [t4]) (fs ++ [x]) := tupsF eF4 (WaysAt.snoc ⟨a, et4, k4.at ea3 nin0⟩ (tupsN k4 wF3))
        have wl5 : WaysAt (upd G4 F (.lst (tsF.map V.ref ++ [.ref t4]))) ts' l0 := tupsF eF4 (tupsN k4 wl3)
        generalize (upd G4 F (.lst (tsF.map V.ref ++ [.ref t4]))) = G5 at k5 eF5 eW5 wF5 wl5 ⊢
        refine ⟨_, rfl, mm, _, rfl, .inr (SqT.of (k5.at g50 nin0)), _, rfl, by omega, by omega, by rw [List.length_map]; omega, by rw [List.length_map]; omega, ?_⟩
        have nn0 : (((memV e.mem).length : Int) - 0).toNat = e.mem.length := by rw [List.length_map]; omega
        rw [nn0]
        refine for_rangeC (lo := 0 + ((e.mem.length : Nat) : Int) - 1) (c := -1) (n := e.mem.length) (fun _ σ G => σ = [some (.ref p), some (.int (k : Int)), some (.ref F), some (.ref W), some (.ref a), some (.int (x.2 : Int)), some (.ref mm), v7] ∧ G = G5) ⟨rfl, rfl⟩ (fun i σ G hi _ => by rw [hm] at hi; exact absurd hi (Nat.not_lt_zero _)) ?_
        rintro σ G ⟨rfl, rfl⟩
        refine ⟨_, ?_, fs ++ [x], l0, tsF ++ [t4], ts', _, _, _, _, rfl, k5, eF5, eW5, wF5, wl5, fun y hy => hin y (List.mem_append_left _ hy), ?_, fun b h1 h2 => ?_, fun y hy => ?_, fun y hy => hs12 y (List.mem_append_left _ hy), by omega, rfl, fun r hr => hrun r (.leaf rfl he hm hr)⟩
        · rw [q2]; omega
        · rw [List.length_append]; show fs.length + 1 + tot Lf l0 = Lf k; omega
        · refine hdeep b (fun y hy => h1 y (List.mem_append_left _ hy)) fun y hy => ?_
          rcases List.mem_append.mp hy with z | z
          · exact h2 y z
          · rw [List.mem_singleton.mp z, q3]
            exact h1 x (List.mem_append_right _ List.mem_cons_self)
        · rcases List.mem_append.mp hy with z | z
          · exact hf12 y z
          · rw [List.mem_singleton.mp z]; omega
      · obtain ⟨q1, q2, q3, m0, hm0, q4⟩ := T'.nest x.2 e he hm
        have bk := T'.back x.2 e he
        rw [show (memV e.mem).isEmpty = false by cases h : e.mem with | nil => exact absurd h hm | cons y ys => rfl]
        refine iteF ?_
        refine ⟨_, rfl, mm, _, rfl, .inr (SqT.of g53), _, rfl, by omega, by omega, by rw [List.length_map]; omega, by rw [List.length_map]; omega, ?_⟩
        have nn0 : (((memV e.mem).length : Int) - 0).toNat = e.mem.length := by rw [List.length_map]; omega
        rw [nn0]
        let Pv : Nat → L2.St → Hp → Prop := fun i σ G => ∃ (kids : List WH) (tsK : List Addr) (v7 : Option V), σ = [some (.ref p), some (.int (k : Int)), some (.ref F), some (.ref W), some (.ref a), some (.int (x.2 : Int)), some (.ref mm), v7] ∧ Keep [] H G ∧ G F = some (.lst (tsF.map V.ref)) ∧ WaysAt G tsF fs ∧ G a = some (.tup (memV x.1)) ∧
          G W = some (.lst ((ts' ++ tsK).map V.ref)) ∧ WaysAt G (ts' ++ tsK) (l0 ++ kids) ∧ kids.length = i ∧ (∀ f, tot f kids = ((e.mem.drop (e.mem.length - i)).map f).sum) ∧ (∀ y ∈ kids, y.2 ∈ e.mem ∧ y.1.length = x.1.length + 1) ∧ (∀ z ∈ e.mem.drop (e.mem.length - i), ∃ y ∈ kids, y.2 = z) ∧ kids = kidsN x.1 e.mem i
        have nW : (l0.length : Nat) ≤ 780 := by
          have h1 := tot_len (f := Nf) (xs := l0) fun y hy => T'.node1 (hin y (List.mem_append_left _ hy))
          omega
        have lts : ts'.length = l0.length := wl.len
        refine for_rangeC (lo := 0 + ((e.mem.length : Nat) : Int) - 1) (c := -1) (n := e.mem.length) Pv ⟨[], [], _, rfl, kG3, eF3, wF3, ea3, by rw [List.append_nil]; exact eW3, by rw [List.append_nil, List.append_nil]; exact wl3, rfl, fun f => by simp [tot], (fun y hy => absurd hy List.not_mem_nil), (fun z hz => by simp at hz), rfl⟩ ?_ ?_
        · rintro i σ G hi ⟨kids, tsK, w7, rfl, kG', eF', wF', ea', eW', wl', hkl, htot, hkid, hall, hks0⟩
          have pl : 0 + ((e.mem.length : Nat) : Int) - 1 + (i : Int) * -1 = ((e.mem.length - 1 - i : Nat) : Int) := by omega
          rw [pl]
          have hp : e.mem.length - 1 - i < e.mem.length := by omega
          have hd : e.mem.drop (e.mem.length - (i + 1)) = e.mem[e.mem.length - 1 - i] :: e.mem.drop (e.mem.length - i) := by
            rw [show e.mem.length - (i + 1) = e.mem.length - 1 - i by omega, List.drop_eq_getElem_cons hp, show e.mem.length - 1 - i + 1 = e.mem.length - i by omega]
          have hz := List.getElem?_eq_getElem hp
          have hzm := List.getElem_mem hp
          have hks : kidsN x.1 e.mem (i + 1) = kidsN x.1 e.mem i ++ [(x.1 ++ [e.mem.length - 1 - i], e.mem[e.mem.length - 1 - i])] := kidsN_succ hp
          generalize e.mem[e.mem.length - 1 - i] = z at hd hz hzm hks
          generalize e.mem.length - 1 - i = pl at hz hks ⊢
          have fin : ∀ (wy t : Addr) (G' : Hp), Keep [] G G' → G' wy = some (.tup (memV (x.1 ++ [pl]))) → G' t = some (.tup [.ref wy, .int (z : Int)]) → Pv (i + 1) [some (.ref p), some (.int (k : Int)), some (.ref F), some (.ref W), some (.ref a), some (.int (x.2 : Int)), some (.ref mm), some (.int (pl : Int))] (upd G' W (.lst ((ts' ++ tsK).map V.ref ++ [.ref t]))) := fun wy t G' k' ew et' => by
            have eWg := k'.at eW' nin0
            refine ⟨kids ++ [(x.1 ++ [pl], z)], tsK ++ [t], _, rfl, own (kG'.trans k'), by rw [upd_ne nFW]; exact k'.at eF' nin0, tups eWg (tupsN k' wF'), by rw [upd_ne (ne_of (k'.at ea' nin0) eWg (fun z => by cases z))]; exact k'.at ea' nin0, by rw [upd_same, ← List.append_assoc, List.map_append (l₁ := ts' ++ tsK)]; rfl, ?_, by rw [List.length_append, hkl]; rfl, fun f => ?_, fun y hy => ?_, fun y hy => ?_, by rw [hks0, hks]⟩
            · rw [← List.append_assoc, ← List.append_assoc]
              exact tups eWg (WaysAt.snoc ⟨wy, et', ew⟩ (tupsN k' wl'))
            · rw [tot_snoc, htot f, hd, List.map_cons, List.sum_cons]
              exact Nat.add_comm _ _
            · rcases List.mem_append.mp hy with q | q
              · exact hkid y q
              · rw [List.mem_singleton.mp q]
                exact ⟨hzm, by rw [List.length_append]; rfl⟩
            · rw [hd] at hy
              rcases List.mem_cons.mp hy with q | q
              · exact ⟨_, List.mem_append_right _ List.mem_cons_self, q.symm⟩
              · obtain ⟨y', h1, h2⟩ := hall y q
                exact ⟨y', List.mem_append_left _ h1, h2⟩
          have bW : ((ts' ++ tsK).map V.ref).length < sizeLine := by
            have h1 := wl'.len
            rw [List.length_append, List.length_append] at h1
            rw [List.length_map, List.length_append]
            exact Nat.lt_of_le_of_lt (by omega : ts'.length + tsK.length ≤ 1000) (by decide)
          have gm := kG'.at g50 nin0
          have ix : atI (memV e.mem) ((pl : Nat) : Int) = some (V.int (z : Int)) := atI_nat (by rw [List.getElem?_map, hz]; rfl)
          refine ⟨_, rfl, .inl ⟨rfl, _, SqL.of eW'⟩, _, rfl, _, rfl, (by show 1 ≤ sizeLine; decide), fun b1 hb1 => ?_⟩
          have kb : Keep [] G (upd G b1 (.tup [.int (pl : Int)])) := Keep.new hb1
          have eb : (upd G b1 (.tup [.int (pl : Int)])) b1 = some (.tup [.int (pl : Int)]) := upd_same
          generalize (upd G b1 (.tup [.int (pl : Int)])) = Gb at kb eb ⊢
          refine ⟨a, b1, _, _, rfl, rfl, SqT.of (kb.at ea' nin0), SqT.of eb, ?_, fun hx0 => ?_, (fun _ h => by cases h), fun hx0 _ p hp' => ?_⟩
          · rw [List.length_map]
            exact Nat.le_trans (by show x.1.length + 1 ≤ 1000; omega) (by decide)
          · have hx1 : x.1 = [] := by
              cases h : x.1 with
              | nil => rfl
              | cons y ys => rw [h] at hx0; cases hx0
            refine ⟨_, rfl, _, rfl, mm, _, _, V.int (z : Int), rfl, rfl, SqT.of (kb.at gm nin0), ix, (by show 2 ≤ sizeLine; decide), fun t ht => ?_⟩
            refine ⟨W, _, _, rfl, rfl, (kb.newTo ht).at eW' nin0, bW, ?_⟩
            exact fin b1 t _ (kb.newTo ht) (by rw [hx1]; exact (Keep.new ht (ex := [])).at eb nin0) upd_same
          · refine ⟨_, rfl, _, rfl, mm, _, _, V.int (z : Int), rfl, rfl, SqT.of ((kb.newTo hp').at gm nin0), ix, (by show 2 ≤ sizeLine; decide), fun t ht => ?_⟩
            refine ⟨W, _, _, rfl, rfl, ((kb.newTo hp').newTo ht).at eW' nin0, bW, ?_⟩
            refine fin p t _ ((kb.newTo hp').newTo ht) ?_ upd_same
            refine (Keep.new ht (ex := [])).at ?_ nin0
            rw [upd_same]
            show _ = some (HO.tup ((x.1 ++ [pl]).map fun k : Nat => V.int (k : Int)))
            rw [List.map_append]
            rfl
        · rintro σ G ⟨kids, tsK, w7, rfl, kG', eF', wF', ea', eW', wl', hkl, htot, hkid, hall, hks0⟩
          rw [Nat.sub_self, List.drop_zero] at htot hall
          have tl : ∀ f, tot f (l0 ++ kids) = tot f l0 + (e.mem.map f).sum := fun f => by
            rw [← htot f]
            unfold tot
            rw [List.map_append, List.sum_append]
          refine ⟨_, ?_, fs, l0 ++ kids, tsF, ts' ++ tsK, _, _, _, _, rfl, kG', eF', eW', wF', wl', fun y hy => ?_, ?_, fun b h1 h2 => ?_, hf12, fun y hy => ?_, ?_, rfl, fun r hr => hrun r (.nest rfl he hm (by rw [← hks0]; exact hr))⟩
          · rw [tl, q2]; omega
          · rcases List.mem_append.mp hy with q | q
            · exact hin y (List.mem_append_left _ q)
            · have := bk y.2 (hkid y q).1
              omega
          · rw [tl, ← q1]; omega
          · refine hdeep b h1 fun y hy => ?_
            rcases List.mem_append.mp hy with q | q
            · exact h2 y (List.mem_append_left _ q)
            · obtain ⟨y', h3, h4⟩ := hall m0 hm0
              have h5 := h2 y' (List.mem_append_right _ h3)
              rw [List.mem_singleton.mp q, q4]
              rw [h4, (hkid y' h3).2] at h5
              omega
          · rcases List.mem_append.mp hy with q | q
            · exact hs12 y (List.mem_append_left _ q)
            · obtain ⟨h3, h4⟩ := hkid y q
              have := q3 y.2 h3
              omega
          · rw [tl]; omega
end
end Fs
/-! The ledger's deeds: a cause, a note, a sheaf like another one. -/
namespace Fs
open PySem L2 TL
abbrev sLike : Stmt := inClass cLed 3
abbrev sNote : Stmt := inClass cLed 11
abbrev sBlame : Stmt := inClass cLed 12
abbrev sChkN : Stmt := inClass cLed 21
theorem scLike : FnScope ["self", "k", "members", "new"] ["self", "k", "members"] (defScope sLike) := ⟨rfl, rfl, rfl, by decide +kernel, rfl, by decide +kernel, by decide +kernel⟩
theorem scNote : FnScope ["self", "k", "text"] ["self", "k", "text"] (defScope sNote) := ⟨rfl, rfl, rfl, by decide +kernel, rfl, by decide +kernel, by decide +kernel⟩
theorem scBlame : FnScope ["self", "k", "j"] ["self", "k", "j"] (defScope sBlame) := ⟨rfl, rfl, rfl, by decide +kernel, rfl, by decide +kernel, by decide +kernel⟩
theorem scChkN : FnScope ["self", "j"] ["self", "j"] (defScope sChkN) := ⟨rfl, rfl, rfl, by decide +kernel, rfl, by decide +kernel, by decide +kernel⟩
def offE (e : Ent) (o : Option Nat) : Ent := { e with atw := o }
def noteE (e : Ent) (l : List Str) : Ent := { e with notes := l }
theorem iteNN {c A B : Prop} [Decidable c] (hc : ¬ c) (h : A) : if (!decide c) = true then A else B := by
  rw [decide_eq_false hc]
  exact iteT h
theorem ixN_nat {n k : Nat} (h : k < n) : ixN n (k : Int) = some k := by
  unfold ixN
  rw [if_pos (by omega), if_pos (by omega), Int.toNat_natCast]
theorem scal_opt (o : Option Nat) (k : Int) : scal (optV o) (.int k) = true := by cases o <;> rfl
theorem opt_ne {o : Option Nat} {k : Nat} (h : o ≠ some k) : ¬ optV o = V.int (k : Int) := fun z => by
  cases o with
  | none => cases z
  | some j =>
    have : (j : Int) = (k : Int) := V.int.inj z
    exact h (by rw [show j = k by omega])
theorem flnoN (A : LA) : (fldsL A).lookup ("_check_fault_or_none" : Str) = none := rfl
/-- what is at work for x -/
theorem LedAt.off {C : Addr} {H : Hp} {p : Addr} {A : LA} {ms ns : List Addr} {es : List Ent} (h : LedAt C H p A ms ns es) {x : Nat} {e : Ent} (o : Option Nat) (he : es[x]? = some e) : LedAt C (upd H A.l6 (.lst ((es.map fun e => optV e.atw).set x (optV o)))) p A ms ns (es.set x (offE e o)) := by
  obtain ⟨_, _, _, _, n1, n2, n3, n4, n5, _, n7⟩ := h.nes
  have k : Keep [A.l6] H (upd H A.l6 (.lst ((es.map fun e => optV e.atw).set x (optV o)))) := Keep.own in1
  refine ⟨k.at h.ins (nin1 (ne_of h.ins h.h6 (fun z => by cases z))), ?_, ?_, k.at h.h3 (nin1 n3), k.at h.h4 (nin1 n4), ?_, ?_, ?_, ?_, h.nd⟩
  · rw [map_put (e := e) (e' := offE e o) (fun e => V.str e.kind) he rfl]; exact k.at h.h1 (nin1 n1)
  · rw [map_put (e := e) (e' := offE e o) (fun e => V.str e.text) he rfl]; exact k.at h.h2 (nin1 n2)
  · rw [map_put (e := e) (e' := offE e o) (fun e => optV e.cause) he rfl]; exact k.at h.h5 (nin1 n5)
  · rw [upd_same, List.map_set]; rfl
  · exact MemsAt.congr (map_put (e := e) (e' := offE e o) Ent.mem he rfl).symm (h.mems.map fun a xs q => k.at q (nin1 (ne_of q h.h6 (fun z => by cases z))))
  · exact NotesAt.congr (map_put (e := e) (e' := offE e o) Ent.notes he rfl).symm (h.notes.map fun a ha xs q => k.at q (nin1 fun z => n7 (by rw [← z]; exact ha)))

theorem set_last {α : Type} (l : List α) (a b : α) : (l ++ [a]).set l.length b = l ++ [b] := by
  rw [List.set_append_right _ _ (Nat.le_refl _), Nat.sub_self]
  rfl
/-- one list of notes is written anew -/
theorem NotesAt.put {H : Hp} {n : Addr} {l : List Str} {e : Ent} : ∀ {as : List Addr} {es : List Ent} {x : Nat}, NotesAt H as es → as.Nodup → as[x]? = some n → es[x]? = some e → NotesAt (upd H n (.lst (l.map V.str))) as (es.set x (noteE e l))
  | _, [], _, _, _, _, q => by simp at q
  | [], _ :: _, _, h, _, _, _ => h.elim
  | b :: as, f :: es, 0, h, nd, qa, qe => by
    have e1 : b = n := by simpa using qa
    subst e1
    exact ⟨upd_same, h.2.map fun a ha xs q => by rw [upd_ne fun z => (List.nodup_cons.mp nd).1 (by rw [← z]; exact ha)]; exact q⟩
  | b :: as, f :: es, x + 1, h, nd, qa, qe => by
    have ha : n ∈ as := List.mem_of_getElem? (by simpa using qa)
    exact ⟨by rw [upd_ne fun z => (List.nodup_cons.mp nd).1 (by rw [z]; exact ha)]; exact h.1, NotesAt.put h.2 (List.nodup_cons.mp nd).2 (by simpa using qa) (by simpa using qe)⟩
theorem LedAt.note {C : Addr} {H : Hp} {p : Addr} {A : LA} {ms ns : List Addr} {es : List Ent} (h : LedAt C H p A ms ns es) {x : Nat} {e : Ent} {n : Addr} (l : List Str) (he : es[x]? = some e) (hn : ns[x]? = some n) : LedAt C (upd H n (.lst (l.map V.str))) p A ms ns (es.set x (noteE e l)) := by
  have hnm : n ∈ ns := List.mem_of_getElem? hn
  obtain ⟨d1, d2, d3⟩ := List.nodup_append.mp h.nd
  have no : ∀ a ∈ A.ls, a ≠ n := fun a ha => d3 a ha n hnm
  have k : Keep [n] H (upd H n (.lst (l.map V.str))) := Keep.own in1
  obtain ⟨i1, i2, i3, i4, i5, i6⟩ := l_in A
  obtain ⟨m, hm, hmc⟩ := h.notes.at he
  have hen : H n = some (.lst (e.notes.map V.str)) := by
    rw [hm] at hn
    rw [← Option.some.inj hn]; exact hmc
  refine ⟨k.at h.ins (nin1 (ne_of h.ins hen (fun z => by cases z))), ?_, ?_, k.at h.h3 (nin1 (no _ i3)), k.at h.h4 (nin1 (no _ i4)), ?_, ?_, ?_, NotesAt.put h.notes d2 hn he, h.nd⟩
  · rw [map_put (e := e) (e' := noteE e l) (fun e => V.str e.kind) he rfl]; exact k.at h.h1 (nin1 (no _ i1))
  · rw [map_put (e := e) (e' := noteE e l) (fun e => V.str e.text) he rfl]; exact k.at h.h2 (nin1 (no _ i2))
  · rw [map_put (e := e) (e' := noteE e l) (fun e => optV e.cause) he rfl]; exact k.at h.h5 (nin1 (no _ i5))
  · rw [map_put (e := e) (e' := noteE e l) (fun e => optV e.atw) he rfl]; exact k.at h.h6 (nin1 (no _ i6))
  · exact MemsAt.congr (map_put (e := e) (e' := noteE e l) Ent.mem he rfl).symm (h.mems.map fun a xs q => k.at q (nin1 (ne_of q hen (fun z => by cases z))))
theorem NotesAt.last {H : Hp} {n n2 : Addr} {e : Ent} {l : List Str} (hl : H n2 = some (.lst (l.map V.str))) : ∀ {as : List Addr} {es : List Ent}, NotesAt H (as ++ [n]) (es ++ [e]) → NotesAt H (as ++ [n2]) (es ++ [noteE e l])
  | [], [], _ => ⟨hl, True.intro⟩
  | _ :: as, _ :: es, h => ⟨h.1, NotesAt.last hl h.2⟩
  | [], _ :: es, h => by
    have := h.2
    cases es <;> exact this.elim
  | _ :: as, [], h => by
    have := h.2
    cases as <;> exact this.elim
/-- the last one's notes are another list -/
theorem LedAt.last {C : Addr} {H : Hp} {p : Addr} {A : LA} {ms ns : List Addr} {es : List Ent} {e : Ent} {n n2 : Addr} {l : List Str} (h : LedAt C H p A ms (ns ++ [n]) (es ++ [e])) (hl : H n2 = some (.lst (l.map V.str))) (hn : n2 ∉ A.ls ++ (ns ++ [n])) : LedAt C (upd H A.l4 (.lst ((ns ++ [n2]).map V.ref))) p A ms (ns ++ [n2]) (es ++ [noteE e l]) := by
  obtain ⟨d1, d2, d3⟩ := List.nodup_append.mp h.nd
  have k : Keep [A.l4] H (upd H A.l4 (.lst ((ns ++ [n2]).map V.ref))) := Keep.own in1
  obtain ⟨i1, i2, i3, i4, i5, i6⟩ := l_in A
  obtain ⟨n12, n13, n14, n15, n16, n23, n24, n25, n26, n34, n35, n36, n45, n46, n56⟩ := ls_ne h.nd
  simp only [List.mem_append, not_or] at hn
  have o4 : ∀ a ∈ ns ++ [n2], a ≠ A.l4 := fun a ha z => by
    rcases List.mem_append.mp ha with q | q
    · exact d3 A.l4 i4 a (List.mem_append_left _ q) z.symm
    · exact hn.1 (by rw [← List.mem_singleton.mp q, z]; exact i4)
  have mp : ∀ {β : Type} (f : Ent → β), f (noteE e l) = f e → (es ++ [noteE e l]).map f = (es ++ [e]).map f := fun f q => by rw [List.map_append, List.map_append, List.map_singleton, List.map_singleton, q]
  refine ⟨k.at h.ins (nin1 (ne_of h.ins h.h4 (fun z => by cases z))), ?_, ?_, k.at h.h3 (nin1 n34), upd_same, ?_, ?_, ?_, ?_, ?_⟩
  · rw [mp (fun e => V.str e.kind) rfl]; exact k.at h.h1 (nin1 n14)
  · rw [mp (fun e => V.str e.text) rfl]; exact k.at h.h2 (nin1 n24)
  · rw [mp (fun e => optV e.cause) rfl]; exact k.at h.h5 (nin1 n45.symm)
  · rw [mp (fun e => optV e.atw) rfl]; exact k.at h.h6 (nin1 n46.symm)
  · exact MemsAt.congr (mp Ent.mem rfl).symm (h.mems.map fun a xs q => k.at q (nin1 (ne_of q h.h4 (fun z => by cases z))))
  · exact (NotesAt.last hl h.notes).map fun a ha xs q => k.at q (nin1 (o4 a ha))
  · refine List.nodup_append.mpr ⟨d1, ?_, fun a ha b hb z => ?_⟩
    · refine List.nodup_append.mpr ⟨(List.nodup_append.mp d2).1, by simp, fun a ha b hb z => hn.2.1 ?_⟩
      rw [← List.mem_singleton.mp hb, ← z]; exact ha
    · rcases List.mem_append.mp hb with q | q
      · exact d3 a ha b (List.mem_append_left _ q) z
      · exact hn.1 (by rw [← List.mem_singleton.mp q, ← z]; exact ha)
def spChkN (C : Addr) : Sp := fun vs H Q _ => ∃ (p : Addr) (A : LA) (ms ns : List Addr) (es : List Ent) (o : Option Nat), vs = [.ref p, optV o] ∧ LedAt C H p A ms ns es ∧ (∀ j, o = some j → j < es.length) ∧ Q .non H
def spBlame (C : Addr) : Sp := fun vs H Q _ => ∃ (p : Addr) (A : LA) (ms ns : List Addr) (es : List Ent) (k : Nat) (e : Ent) (o : Option Nat), vs = [.ref p, .int (k : Int), optV o] ∧ LedAt C H p A ms ns es ∧ es[k]? = some e ∧ (∀ j, o = some j → j < es.length) ∧
  ∀ H' : Hp, Keep [A.l5] H H' → LedAt C H' p A ms ns (es.set k (byE e o)) → Q .non H'

def spNote (C : Addr) : Sp := fun vs H Q _ => ∃ (p : Addr) (A : LA) (ms ns : List Addr) (es : List Ent) (k : Nat) (e : Ent) (n : Addr) (t : Str), vs = [.ref p, .int (k : Int), .str t] ∧ LedAt C H p A ms ns es ∧ es[k]? = some e ∧ ns[k]? = some n ∧ e.notes.length ≤ 1000 ∧
  ∀ H' : Hp, Keep [n] H H' → LedAt C H' p A ms ns (es.set k (noteE e (e.notes ++ [t]))) → Q .non H'
def spLike (K : PySem.W.Frag) (C : Addr) : Sp := fun vs H Q _ => ∃ (p m : Addr) (A : LA) (ms ns : List Addr) (es : List Ent) (k : Nat) (e : Ent) (mem : List Nat), vs = [.ref p, .int (k : Int), .ref m] ∧ LedAt C H p A ms ns es ∧ es[k]? = some e ∧ e.kind = sS ∧ SqL K H m (mem.map fun k : Nat => V.int (k : Int)) ∧ m ∉ A.ls ∧ mem ≠ [] ∧ (∀ k ∈ mem, k < es.length) ∧ es.length < 1000 ∧
  ∀ (H' : Hp) (t' n' : Addr), Keep A.ls H H' → LedAt C H' p A (ms ++ [t']) (ns ++ [n']) (es ++ [⟨sS, e.text, mem, e.notes, e.cause, e.atw⟩]) → H n' = none → Q (.int (es.length : Int)) H'
section
variable {P : Program} {w : World} {K : PySem.W.Frag} {mg : Str → Option Value} {base : Heap} {C fA fCF fCT fCM : Addr}
theorem ok_chkN {f : Addr} {fd fdF : FuncData} (F : Fun K "_check_fault_or_none" "Ledger._check_fault_or_none" sChkN f fd) (T : LTxt K mg C fA fCF fCT fCM) (FF : FnOk P w K mg base CX0 2 fCF fdF ["self", "k"] (spChkF C)) (bF : Binds K fdF ["self", "k"] []) : FnOk P w K mg base CX0 3 f fd ["self", "j"] (spChkN C) := by
  refine F.ok scChkN (fun vs H Q E h => ?_) (fun cdv A outer s H vs Q E hr h => ?_)
  · obtain ⟨p, L, ms, ns, es, o, rfl, _⟩ := h
    rfl
  · obtain ⟨p, L, ms, ns, es, o, rfl, hL, ho, kk⟩ := h
    refine ⟨_, pss_one (ps_if (pt_cmpR op_notN (pv 1) pe_non (nomark _)) (pss_one (ps_expr (pe_meth (pv 0) T.cl T.mF FF hr bF .nil pass0 (pa_cons (pv 1) pa_nil)))) pss_nil), ?_⟩
    refine ⟨_, rfl, rfl, _, rfl, ?_⟩
    cases o with
    | none => exact iteNS rfl kk
    | some j =>
      refine iteNN (fun z => by cases z) ?_
      exact ⟨_, rfl, p, L.dx, _, rfl, hL.ins, flno L, _, rfl, p, L, ms, ns, es, j, rfl, hL, ho j rfl, kk⟩
theorem ok_blame {f fN : Addr} {fd fdF fdN : FuncData} (F : Fun K "blame" "Ledger.blame" sBlame f fd) (T : LTxt K mg C fA fCF fCT fCM) (FF : FnOk P w K mg base CX0 2 fCF fdF ["self", "k"] (spChkF C)) (bF : Binds K fdF ["self", "k"] [])
    (mN : Meth K C "_check_fault_or_none" fN) (FN : FnOk P w K mg base CX0 3 fN fdN ["self", "j"] (spChkN C)) (bN : Binds K fdN ["self", "j"] []) : FnOk P w K mg base CX0 4 f fd ["self", "k", "j"] (spBlame C) := by
  refine F.ok scBlame (fun vs H Q E h => ?_) (fun cdv A outer s H vs Q E hr h => ?_)
  · obtain ⟨p, L, ms, ns, es, k, e, o, rfl, _⟩ := h
    rfl
  · obtain ⟨p, L, ms, ns, es, k, e, o, rfl, hL, he, ho, kk⟩ := h
    have hk := (List.getElem?_eq_some_iff.mp he).1
    have hr2 : Room 2 _ := hr.mono (by decide)
    refine ⟨_, pss_cons (ps_expr (pe_meth (pv 0) T.cl T.mF FF hr2 bF .nil pass0 (pa_cons (pv 1) pa_nil)))
      (pss_cons (ps_expr (pe_meth (pv 0) T.cl mN FN hr bN .nil pass0 (pa_cons (pv 2) pa_nil)))
      (pss_one (ps_asg (pv 2) (pg_sub (pe_fld (pv 0) rfl) (pv 1) set_list)))), ?_⟩
    refine ⟨_, rfl, p, L.dx, _, rfl, hL.ins, flno L, _, rfl, p, L, ms, ns, es, k, rfl, hL, hk, ?_⟩
    refine ⟨_, rfl, p, L.dx, _, rfl, hL.ins, flnoN L, _, rfl, p, L, ms, ns, es, o, rfl, hL, ho, ?_⟩
    refine ⟨_, rfl, _, rfl, p, C, L.dx, _, _, rfl, hL.ins, T.cl, T.n5, fl5 L, _, rfl, L.l5, _, _, k, rfl, rfl, hL.h5, ixN_nat (by rw [List.length_map]; exact hk), ?_⟩
    exact kk _ (Keep.own in1) (hL.by' o he)

theorem ok_note {f : Addr} {fd fdF fdT : FuncData} (F : Fun K "note" "Ledger.note" sNote f fd) (T : LTxt K mg C fA fCF fCT fCM) (FF : FnOk P w K mg base CX0 2 fCF fdF ["self", "k"] (spChkF C)) (bF : Binds K fdF ["self", "k"] []) (FT : FnOk P w K mg base CX0 2 fCT fdT ["self", "text"] (spChkT C)) (bT : Binds K fdT ["self", "text"] []) : FnOk P w K mg base CX0 3 f fd ["self", "k", "text"] (spNote C) := by
  refine F.ok scNote (fun vs H Q E h => ?_) (fun cdv A outer s H vs Q E hr h => ?_)
  · obtain ⟨p, L, ms, ns, es, k, e, n, t, rfl, _⟩ := h
    rfl
  · obtain ⟨p, L, ms, ns, es, k, e, n, t, rfl, hL, he, hn, hlen, kk⟩ := h
    have hk := (List.getElem?_eq_some_iff.mp he).1
    refine ⟨_, pss_cons (ps_expr (pe_meth (pv 0) T.cl T.mF FF hr bF .nil pass0 (pa_cons (pv 1) pa_nil)))
      (pss_cons (ps_expr (pe_meth (pv 0) T.cl T.mT FT hr bT .nil pass0 (pa_cons (pv 2) pa_nil)))
      (pss_one (ps_expr (pe_bm PySem.F.plainAttrs_list PySem.F.slot_list_append PySem.F.type_list_append mt_append (pe_ix ix_list (pe_fld (pv 0) rfl) (pv 1) (fun _ _ => rfl)) (pa_cons (pv 2) pa_nil))))), ?_⟩
    refine ⟨_, rfl, p, L.dx, _, rfl, hL.ins, flno L, _, rfl, p, L, ms, ns, es, k, rfl, hL, hk, ?_⟩
    refine ⟨_, rfl, p, L.dx, _, rfl, hL.ins, flnoT L, _, rfl, p, t, rfl, ?_⟩
    obtain ⟨m, hm, hmc⟩ := hL.notes.at he
    have em : m = n := by rw [hm] at hn; exact Option.some.inj hn
    subst em
    refine ⟨_, rfl, p, C, L.dx, _, _, rfl, hL.ins, T.cl, T.n4, fl4 L, _, rfl, L.l4, _, _, V.ref m, rfl, rfl, SqL.of hL.h4, atI_nat (by rw [List.getElem?_map, hm]; rfl), .inl ⟨rfl, _, SqL.of hmc⟩, _, rfl, m, _, _, rfl, rfl, hmc, Nat.lt_of_le_of_lt (by rw [List.length_map]; exact hlen : (e.notes.map V.str).length ≤ 1000) (by decide), ?_⟩
    have := hL.note (e.notes ++ [t]) he hm
    rw [List.map_append] at this
    exact kk _ (Keep.own in1) this
theorem ok_like {f : Addr} {fd fdF fdM fdA : FuncData} (F : Fun K "like" "Ledger.like" sLike f fd) (T : LTxt K mg C fA fCF fCT fCM) (FF : FnOk P w K mg base CX0 2 fCF fdF ["self", "k"] (spChkF C)) (bF : Binds K fdF ["self", "k"] []) (FM : FnOk P w K mg base CX0 3 fCM fdM ["self", "members"] (spChkM K C)) (bM : Binds K fdM ["self", "members"] [])
    (FA : FnOk P w K mg base CX0 1 fA fdA ["self", "kind", "text", "members"] (spAdd K C)) (bA : Binds K fdA ["self", "kind", "text", "members"] []) : FnOk P w K mg base CX0 4 f fd ["self", "k", "members"] (spLike K C) := by
  refine F.ok scLike (fun vs H Q E h => ?_) (fun cdv A outer s H vs Q E hr h => ?_)
  · obtain ⟨p, m, L, ms, ns, es, k, e, mem, rfl, _⟩ := h
    rfl
  · obtain ⟨p, m, L, ms, ns, es, k, e, mem, rfl, hL, he, hkd, hm, hmn, hne, hall, hlen, kk⟩ := h
    have hk := (List.getElem?_eq_some_iff.mp he).1
    have hr1 : Room 1 _ := hr.mono (by decide)
    have hr2 : Room 2 _ := hr.mono (by decide)
    refine ⟨_, pss_cons (ps_expr (pe_meth (pv 0) T.cl T.mF FF hr2 bF .nil pass0 (pa_cons (pv 1) pa_nil)))
      (pss_cons (ps_if (pt_cmpR op_ne (pe_ix ix_list (pe_fld (pv 0) rfl) (pv 1) (fun _ _ => rfl)) pe_str (nomark _)) (pss_one ps_never) pss_nil)
      (pss_cons (ps_expr (pe_meth (pv 0) T.cl T.mM FM hr bM .nil pass0 (pa_cons (pv 2) pa_nil)))
      (pss_cons (ps_set (i := 3) scLike.nd rfl (Or.inl rfl) (pe_meth (pv 0) T.cl T.mA FA hr1 bA .nil pass0 (pa_cons pe_str (pa_cons (pe_ix ix_list (pe_fld (pv 0) rfl) (pv 1) (fun _ _ => rfl)) (pa_cons (pv 2) pa_nil)))))
      (pss_cons (ps_asg (pe_callTy call_list_of (by rfl) T.lst (by decide +kernel) (pa_cons (pe_ix ix_list (pe_fld (pv 0) rfl) (pv 1) (fun _ _ => rfl)) pa_nil)) (pg_sub (pe_fld (pv 0) rfl) (pv 3) set_list))
      (pss_cons (ps_asg (pe_ix ix_list (pe_fld (pv 0) rfl) (pv 1) (fun _ _ => rfl)) (pg_sub (pe_fld (pv 0) rfl) (pv 3) set_list))
      (pss_cons (ps_asg (pe_ix ix_list (pe_fld (pv 0) rfl) (pv 1) (fun _ _ => rfl)) (pg_sub (pe_fld (pv 0) rfl) (pv 3) set_list))
      (pss_one (ps_ret (pv 3))))))))), ?_⟩
    refine ⟨_, rfl, p, L.dx, _, rfl, hL.ins, flno L, _, rfl, p, L, ms, ns, es, k, rfl, hL, hk, ?_⟩
    refine ⟨_, rfl, p, C, L.dx, _, _, rfl, hL.ins, T.cl, T.n1, fl1 L, _, rfl, L.l1, _, _, V.str e.kind, rfl, rfl, SqL.of hL.h1, atI_nat (by rw [List.getElem?_map, he]; rfl), rfl, _, rfl, ?_⟩
    refine iteNS (by rw [hkd]) ?_
    refine ⟨_, rfl, p, L.dx, _, rfl, hL.ins, flnoM L, _, rfl, p, m, L, ms, ns, es, mem, rfl, hL, hm, hne, hall, ?_⟩
    refine ⟨_, rfl, p, L.dx, _, rfl, hL.ins, flnoA L, _, rfl, p, C, L.dx, _, _, rfl, hL.ins, T.cl, T.n2, fl2 L, _, rfl, L.l2, _, _, V.str e.text, rfl, rfl, SqL.of hL.h2, atI_nat (by rw [List.getElem?_map, he]; rfl), _, rfl, ?_⟩
    refine ⟨p, m, L, ms, ns, es, sS, e.text, mem, rfl, hL, hm, hmn, hlen, fun H1 t' n' k1 hL1 hn1 => ?_⟩
    have he1 : (es ++ [(⟨sS, e.text, mem, [], none, none⟩ : Ent)])[k]? = some e := by rw [List.getElem?_append_left hk]; exact he
    have lns : ns.length = es.length := hL.notes.len
    -- notes
    obtain ⟨nk, hnk, hnc⟩ := hL1.notes.at he1
    refine ⟨_, rfl, p, C, L.dx, _, _, rfl, hL1.ins, T.cl, T.n4, fl4 L, _, rfl, L.l4, _, _, V.ref nk, rfl, rfl, SqL.of hL1.h4, atI_nat (by rw [List.getElem?_map, hnk]; rfl), nk, _, rfl, .inl (SqL.of hnc), fun l2 hl2 => ?_⟩
    have k2 : Keep [] H1 (upd H1 l2 (.lst (e.notes.map V.str))) := Keep.new hl2
    have el2 : (upd H1 l2 (.lst (e.notes.map V.str))) l2 = some (.lst (e.notes.map V.str)) := upd_same
    generalize (upd H1 l2 (.lst (e.notes.map V.str))) = H2 at k2 el2 ⊢
    have hL2 := hL1.keep k2 (fun b z => absurd z nin0) (fun b z => absurd z nin0)
    have hlo : l2 ∉ L.ls ++ (ns ++ [n']) := fun z => by
      rcases List.mem_append.mp z with z | z
      · obtain ⟨xs, q⟩ := hL1.isl l2 z
        rw [q] at hl2; cases hl2
      · obtain ⟨xs, q⟩ := hL1.notes.is l2 z
        rw [q] at hl2; cases hl2
    have l4n : ((ns ++ [n']).map V.ref).length = es.length + 1 := by rw [List.length_map, List.length_append, lns]; rfl
    refine ⟨_, rfl, p, C, L.dx, _, _, rfl, hL2.ins, T.cl, T.n4, fl4 L, _, rfl, L.l4, _, _, es.length, rfl, rfl, hL2.h4, ixN_nat (by rw [l4n]; omega), ?_⟩
    have e4 : ((ns ++ [n']).map V.ref).set es.length (.ref l2) = (ns ++ [l2]).map V.ref := by
      rw [← List.map_set, ← lns, set_last]
    rw [e4]
    have hL3 := hL2.last el2 hlo
    have k3 : Keep L.ls H2 (upd H2 L.l4 (.lst ((ns ++ [l2]).map V.ref))) := Keep.own (by simp [LA.ls])
    generalize (upd H2 L.l4 (.lst ((ns ++ [l2]).map V.ref))) = H3 at hL3 k3 ⊢
    -- cause
    have he3 : (es ++ [noteE (⟨sS, e.text, mem, [], none, none⟩ : Ent) e.notes])[k]? = some e := by rw [List.getElem?_append_left hk]; exact he
    have hx3 : (es ++ [noteE (⟨sS, e.text, mem, [], none, none⟩ : Ent) e.notes])[es.length]? = some (noteE (⟨sS, e.text, mem, [], none, none⟩ : Ent) e.notes) := by rw [List.getElem?_append_right (Nat.le_refl _), Nat.sub_self]; rfl
    refine ⟨_, rfl, p, C, L.dx, _, _, rfl, hL3.ins, T.cl, T.n5, fl5 L, _, rfl, L.l5, _, _, optV e.cause, rfl, rfl, SqL.of hL3.h5, atI_nat (by rw [List.getElem?_map, he3]; rfl), ?_⟩
    refine ⟨_, rfl, p, C, L.dx, _, _, rfl, hL3.ins, T.cl, T.n5, fl5 L, _, rfl, L.l5, _, _, es.length, rfl, rfl, hL3.h5, ixN_nat (by rw [List.length_map, List.length_append]; exact Nat.lt_succ_self _), ?_⟩
    have hL4 := hL3.by' e.cause hx3
    rw [set_last] at hL4
    have k4 : Keep L.ls H3 (upd H3 L.l5 (.lst (((es ++ [noteE (⟨sS, e.text, mem, [], none, none⟩ : Ent) e.notes]).map fun e => optV e.cause).set es.length (optV e.cause)))) := Keep.own (by simp [LA.ls])
    generalize (upd H3 L.l5 (.lst (((es ++ [noteE (⟨sS, e.text, mem, [], none, none⟩ : Ent) e.notes]).map fun e => optV e.cause).set es.length (optV e.cause)))) = H4 at hL4 k4 ⊢
    -- at work
    have he4 : (es ++ [byE (noteE (⟨sS, e.text, mem, [], none, none⟩ : Ent) e.notes) e.cause])[k]? = some e := by rw [List.getElem?_append_left hk]; exact he
    have hx4 : (es ++ [byE (noteE (⟨sS, e.text, mem, [], none, none⟩ : Ent) e.notes) e.cause])[es.length]? = some (byE (noteE (⟨sS, e.text, mem, [], none, none⟩ : Ent) e.notes) e.cause) := by rw [List.getElem?_append_right (Nat.le_refl _), Nat.sub_self]; rfl
    refine ⟨_, rfl, p, C, L.dx, _, _, rfl, hL4.ins, T.cl, T.n6, fl6 L, _, rfl, L.l6, _, _, optV e.atw, rfl, rfl, SqL.of hL4.h6, atI_nat (by rw [List.getElem?_map, he4]; rfl), ?_⟩
    refine ⟨_, rfl, p, C, L.dx, _, _, rfl, hL4.ins, T.cl, T.n6, fl6 L, _, rfl, L.l6, _, _, es.length, rfl, rfl, hL4.h6, ixN_nat (by rw [List.length_map, List.length_append]; exact Nat.lt_succ_self _), ?_⟩
    have hL5 := hL4.off e.atw hx4
    rw [set_last] at hL5
    refine ⟨_, rfl, ?_⟩
    refine kk _ t' l2 ((((k1.trans (k2.more fun b z => absurd z nin0)).trans k3).trans k4).trans (Keep.own (by simp [LA.ls]))) hL5 ?_
    exact Keep.free k1 hl2 fun z => hlo (List.mem_append_left _ z)
end
end Fs
/-! A row of those at work, cut ahead of k. -/
namespace Fs
open PySem
/-- the row from o on, cut where k stands -/
inductive Cut (k : Nat) (es : List Ent) : Option Nat → List Ent → Prop where
  | nil : Cut k es none es
  | hit {h : Nat} {e : Ent} : es[h]? = some e → e.atw = some k → Cut k es (some h) (es.set h (offE e none))
  | step {h : Nat} {e : Ent} {es' : List Ent} : es[h]? = some e → e.atw ≠ some k → Cut k es e.atw es' → Cut k es (some h) es'
/-- the row ends, and leads to faults that are there -/
structure Row (es : List Ent) : Prop where
  fell : ∃ r : Nat → Nat, ∀ (x : Nat) (e : Ent) (y : Nat), es[x]? = some e → e.atw = some y → r y < r x
  there : ∀ (x : Nat) (e : Ent) (y : Nat), es[x]? = some e → e.atw = some y → y < es.length
theorem Cut.one {k : Nat} {es : List Ent} : ∀ {o : Option Nat} {a b : List Ent}, Cut k es o a → Cut k es o b → a = b := by
  intro o a b h
  induction h generalizing b with
  | nil => intro g; cases g; rfl
  | hit h1 h2 =>
    intro g
    cases g with
    | hit g1 g2 => rw [h1] at g1; cases g1; rfl
    | step g1 g2 g3 => rw [h1] at g1; cases g1; exact absurd h2 g2
  | step h1 h2 h3 ih =>
    intro g
    cases g with
    | hit g1 g2 => rw [h1] at g1; cases g1; exact absurd g2 h2
    | step g1 g2 g3 => rw [h1] at g1; cases g1; exact ih g3
theorem Cut.some' {k : Nat} {es : List Ent} (R : Row es) : ∀ o : Option Nat, (∀ h, o = some h → h < es.length) → ∃ es', Cut k es o es' := by
  obtain ⟨r, hr⟩ := R.fell
  have main : ∀ n h, r h ≤ n → h < es.length → ∃ es', Cut k es (some h) es' := by
    intro n
    induction n with
    | zero =>
      intro h hn hl
      have he := List.getElem?_eq_getElem hl
      generalize es[h] = e at he
      cases q : e.atw with
      | none => exact ⟨es, .step he (by rw [q]; exact fun z => by cases z) (by rw [q]; exact .nil)⟩
      | some y =>
        have := hr h e y he q
        omega
    | succ n ih =>
      intro h hn hl
      have he := List.getElem?_eq_getElem hl
      generalize es[h] = e at he
      cases q : e.atw with
      | none => exact ⟨es, .step he (by rw [q]; exact fun z => by cases z) (by rw [q]; exact .nil)⟩
      | some y =>
        by_cases hk : y = k
        · exact ⟨_, .hit he (by rw [q, hk])⟩
        · have h1 := hr h e y he q
          obtain ⟨es', c⟩ := ih y (by omega) (R.there h e y he q)
          exact ⟨es', .step he (by rw [q]; exact fun z => hk (Option.some.inj z)) (by rw [q]; exact c)⟩
  intro o ho
  cases o with
  | none => exact ⟨es, .nil⟩
  | some h => exact main _ h (Nat.le_refl _) (ho h rfl)
/-- each fault is as it was, but for what is at work for it -/
def Alike (e e' : Ent) : Prop := e'.kind = e.kind ∧ e'.text = e.text ∧ e'.mem = e.mem ∧ e'.notes = e.notes ∧ e'.cause = e.cause
theorem Cut.at {k : Nat} {es : List Ent} {o : Option Nat} {es' : List Ent} (h : Cut k es o es') : es'.length = es.length ∧ ∀ (x : Nat) (e : Ent), es[x]? = some e → es'[x]? = some e ∨ es'[x]? = some (offE e none) := by
  induction h with
  | nil => exact ⟨rfl, fun x e q => .inl q⟩
  | @hit h e h1 h2 =>
    refine ⟨List.length_set .., fun x f q => ?_⟩
    by_cases z : h = x
    · subst z
      rw [h1] at q; cases q
      exact .inr (List.getElem?_set_self (List.getElem?_eq_some_iff.mp h1).1)
    · exact .inl (by rw [List.getElem?_set_ne z]; exact q)
  | step h1 h2 h3 ih => exact ih
theorem Cut.back {k : Nat} {es : List Ent} {o : Option Nat} {es' : List Ent} (h : Cut k es o es') {x : Nat} {e : Ent} (q : es'[x]? = some e) : ∃ f, es[x]? = some f ∧ (e = f ∨ e = offE f none) := by
  obtain ⟨l, c⟩ := h.at
  have hx : x < es.length := by rw [← l]; exact (List.getElem?_eq_some_iff.mp q).1
  refine ⟨es[x], List.getElem?_eq_getElem hx, ?_⟩
  rcases c x es[x] (List.getElem?_eq_getElem hx) with z | z
  · rw [z] at q; exact .inl (Option.some.inj q).symm
  · rw [z] at q; exact .inr (Option.some.inj q).symm
theorem Cut.row {k : Nat} {es : List Ent} {o : Option Nat} {es' : List Ent} (h : Cut k es o es') (R : Row es) : Row es' := by
  obtain ⟨r, hr⟩ := R.fell
  refine ⟨⟨r, fun x e y q a => ?_⟩, fun x e y q a => ?_⟩
  · obtain ⟨f, hf, z⟩ := h.back q
    rcases z with z | z
    · rw [z] at a; exact hr x f y hf a
    · rw [z] at a; cases a
  · obtain ⟨f, hf, z⟩ := h.back q
    rw [h.at.1]
    rcases z with z | z
    · rw [z] at a; exact R.there x f y hf a
    · rw [z] at a; cases a
/-- k stands on the row from o on -/
inductive On (es : List Ent) (k : Nat) : Option Nat → Prop where
  | here : On es k (some k)
  | far {h : Nat} {e : Ent} : es[h]? = some e → On es k e.atw → On es k (some h)
theorem Cut.off {k : Nat} {es : List Ent} {o : Option Nat} {es' : List Ent} (h : Cut k es o es') (n : o ≠ some k) : ¬ On es' k o := by
  have aux := h.at
  induction h with
  | nil => intro z; cases z
  | @hit h e h1 h2 =>
    intro z
    cases z with
    | here => exact n rfl
    | far q g =>
      rw [List.getElem?_set_self (List.getElem?_eq_some_iff.mp h1).1] at q
      cases q
      cases g
  | @step h e es' h1 h2 h3 ih =>
    intro z
    cases z with
    | here => exact n rfl
    | far q g =>
      rcases aux.2 h e h1 with y | y
      · rw [y] at q; cases q
        exact ih h2 aux g
      · rw [y] at q; cases q
        cases g
/-- k rises while j is at work -/
inductive Risen (es : List Ent) (k : Nat) : Option Nat → List Ent → Prop where
  | non : Risen es k none es
  | own : Risen es k (some k) es
  | new {j : Nat} {e : Ent} {es' : List Ent} : j ≠ k → Cut k es (some j) es' → es'[k]? = some e → Risen es k (some j) (es'.set k (offE e (some j)))
theorem set_row {es : List Ent} {k j : Nat} {e : Ent} (R : Row es) (hk : es[k]? = some e) (hj : j < es.length) (n : ¬ On es k (some j)) : Row (es.set k (offE e (some j))) := by
  classical
  obtain ⟨r, hr⟩ := R.fell
  have kl := (List.getElem?_eq_some_iff.mp hk).1
  refine ⟨⟨fun x => if On es k (some x) then r x + r j + 1 else r x, fun x f y q a => ?_⟩, fun x f y q a => ?_⟩
  · by_cases z : k = x
    · subst z
      rw [List.getElem?_set_self kl] at q
      cases q
      have ey : j = y := Option.some.inj a
      subst ey
      simp only [if_neg n, if_pos (On.here (es := es) (k := k))]
      omega
    · rw [List.getElem?_set_ne z] at q
      have h1 := hr x f y q a
      by_cases o : On es k (some x)
      · have oy : On es k (some y) := by
          cases o with
          | here => exact absurd rfl z
          | far q2 g => rw [q] at q2; cases q2; rw [a] at g; exact g
        simp only [if_pos o, if_pos oy]
        omega
      · have oy : ¬ On es k (some y) := fun g => o (.far q (by rw [a]; exact g))
        simp only [if_neg o, if_neg oy]
        exact h1
  · rw [List.length_set]
    by_cases z : k = x
    · subst z
      rw [List.getElem?_set_self kl] at q
      cases q
      have ey : j = y := Option.some.inj a
      rw [← ey]; exact hj
    · rw [List.getElem?_set_ne z] at q
      exact R.there x f y q a
theorem Risen.row {es es' : List Ent} {k : Nat} {o : Option Nat} (h : Risen es k o es') (R : Row es) (ho : ∀ j, o = some j → j < es.length) : Row es' := by
  cases h with
  | non => exact R
  | own => exact R
  | @new j e es' n c q => exact set_row (c.row R) q (by rw [c.at.1]; exact ho j rfl) (c.off fun z => n (Option.some.inj z))
theorem Risen.one {es a b : List Ent} {k : Nat} {o : Option Nat} (h : Risen es k o a) (g : Risen es k o b) : a = b := by
  cases h with
  | non => cases g; rfl
  | own =>
    cases g with
    | own => rfl
    | new n c q => exact absurd rfl n
  | new n c q =>
    cases g with
    | own => exact absurd rfl n
    | new n' c' q' =>
      have e := c.one c'
      subst e
      rw [q] at q'; cases q'; rfl
theorem Risen.len {es es' : List Ent} {k : Nat} {o : Option Nat} (h : Risen es k o es') : es'.length = es.length := by
  cases h with
  | non => rfl
  | own => rfl
  | new n c q => rw [List.length_set]; exact c.at.1
theorem Risen.some' {es : List Ent} {k : Nat} {o : Option Nat} (R : Row es) (hk : k < es.length) (ho : ∀ j, o = some j → j < es.length) : ∃ es', Risen es k o es' := by
  cases o with
  | none => exact ⟨es, .non⟩
  | some j =>
    by_cases z : j = k
    · subst z; exact ⟨es, .own⟩
    · obtain ⟨es', c⟩ := Cut.some' (k := k) R (some j) ho
      have hk' : k < es'.length := by rw [c.at.1]; exact hk
      exact ⟨_, .new z c (List.getElem?_eq_getElem hk')⟩
theorem Risen.all {p : Ent → Prop} {es es' : List Ent} {k : Nat} {o : Option Nat} (h : Risen es k o es') (hj : ∀ (e : Ent) (j : Nat), p e → o = some j → p (offE e (some j))) (hn : ∀ e, p e → p (offE e none)) (ha : ∀ e ∈ es, p e) : ∀ e ∈ es', p e := by
  have cut : ∀ {o a}, Cut k es o a → ∀ e ∈ a, p e := by
    intro o a c
    induction c with
    | nil => exact ha
    | hit h1 h2 =>
      intro e he
      rcases List.mem_or_eq_of_mem_set he with q | q
      · exact ha e q
      · rw [q]; exact hn _ (ha _ (List.mem_of_getElem? h1))
    | step h1 h2 h3 ih => exact ih
  cases h with
  | non => exact ha
  | own => exact ha
  | @new j e es' n c q =>
    intro f hf
    rcases List.mem_or_eq_of_mem_set hf with z | z
    · exact cut c f z
    · rw [z]; exact hj _ j (cut c e (List.mem_of_getElem? q)) rfl
end Fs
/-! The ledger's deeds: a cause, a rising. -/
namespace Fs
open PySem L2 TL
abbrev sRise : Stmt := inClass cLed 13
abbrev sCut : Stmt := inClass cLed 19
abbrev nCut : List Str := ["self", "j", "k", "number"]
theorem scRise : FnScope ["self", "k", "j"] ["self", "k", "j"] (defScope sRise) := ⟨rfl, rfl, rfl, by decide +kernel, rfl, by decide +kernel, by decide +kernel⟩
theorem scCut : FnScope nCut ["self", "j", "k"] (defScope sCut) := ⟨rfl, rfl, rfl, by decide +kernel, rfl, by decide +kernel, by decide +kernel⟩
theorem flnoC (A : LA) : (fldsL A).lookup ("_cut_row" : Str) = none := rfl
def spCut (C : Addr) : Sp := fun vs H Q _ => ∃ (p : Addr) (A : LA) (ms ns : List Addr) (es : List Ent) (j k : Nat), vs = [.ref p, .int (j : Int), .int (k : Int)] ∧ LedAt C H p A ms ns es ∧ j < es.length ∧ Row es ∧
  ∀ (H' : Hp) (es' : List Ent), Cut k es (some j) es' → Keep [A.l6] H H' → LedAt C H' p A ms ns es' → Q .non H'
def spRise (C : Addr) : Sp := fun vs H Q _ => ∃ (p : Addr) (A : LA) (ms ns : List Addr) (es : List Ent) (k : Nat) (o : Option Nat), vs = [.ref p, .int (k : Int), optV o] ∧ LedAt C H p A ms ns es ∧ k < es.length ∧ (∀ j, o = some j → j < es.length) ∧ Row es ∧
  ∀ (H' : Hp) (es' : List Ent), Risen es k o es' → Keep [A.l6] H H' → LedAt C H' p A ms ns es' → Q .non H'
section
variable {P : Program} {w : World} {K : PySem.W.Frag} {mg : Str → Option Value} {base : Heap} {C fA fCF fCT fCM : Addr}
theorem ok_cut {f : Addr} {fd : FuncData} (F : Fun K "_cut_row" "Ledger._cut_row" sCut f fd) (T : LTxt K mg C fA fCF fCT fCM) : FnOk P w K mg base CX0 1 f fd ["self", "j", "k"] (spCut C) := by
  refine F.ok scCut (fun vs H Q E h => ?_) (fun cdv A outer s H vs Q E hr h => ?_)
  · obtain ⟨p, L, ms, ns, es, j, k, rfl, _⟩ := h
    rfl
  · obtain ⟨p, L, ms, ns, es, j, k, rfl, hL, hj, R, kk⟩ := h
    refine ⟨_, pss_cons (ps_set (i := 3) scCut.nd rfl (Or.inl rfl) (pv 1))
      (pss_cons (ps_while PassesOwn.never (PW.pt (pw_and (pt_cmpR op_notN (pv 3) pe_non (nomark _)) (pw_and1 (pt_cmpR op_ne (pe_ix ix_list (pe_fld (pv 0) rfl) (pv 3) (fun _ _ => rfl)) (pv 2) (nomark _)))))
        (pss_one (ps_set (i := 3) scCut.nd rfl (Or.inl rfl) (pe_ix ix_list (pe_fld (pv 0) rfl) (pv 3) (fun _ _ => rfl)))))
      (pss_one (ps_if (pt_cmpR op_notN (pv 3) pe_non (nomark _)) (pss_one (ps_asg pe_non (pg_sub (pe_fld (pv 0) rfl) (pv 3) set_list))) pss_nil))), ?_⟩
    obtain ⟨es', c0⟩ := Cut.some' (k := k) R (some j) (fun h e => by rw [← Option.some.inj e]; exact hj)
    obtain ⟨r, hr'⟩ := R.fell
    refine ⟨_, rfl, ?_⟩
    refine ⟨fun m σ G => ∃ o : Option Nat, σ = [some (.ref p), some (.int (j : Int)), some (.int (k : Int)), some (optV o)] ∧ G = H ∧ m = (match o with | none => 0 | some h => r h + 1) ∧ Cut k es o es', ⟨_, some j, rfl, rfl, rfl, c0⟩, ?_⟩
    rintro m σ G ⟨o, rfl, rfl, rfl, c⟩
    refine ⟨_, rfl, rfl, _, rfl, ?_⟩
    cases c with
    | nil =>
      refine iteNS rfl (iteF ?_)
      refine ⟨_, rfl, rfl, _, rfl, iteNS rfl ?_⟩
      exact kk G es c0 (Keep.refl _ _) hL
    | @hit h e h1 h2 =>
      refine iteNN (fun z => by cases z) ?_
      refine ⟨_, rfl, p, C, L.dx, _, _, rfl, hL.ins, T.cl, T.n6, fl6 L, _, rfl, L.l6, _, _, optV e.atw, rfl, rfl, SqL.of hL.h6, atI_nat (by rw [List.getElem?_map, h1]; rfl), _, rfl, scal_opt _ _, _, rfl, ?_⟩
      rw [decide_eq_true (by rw [h2]; rfl)]
      refine iteF ?_
      refine ⟨_, rfl, rfl, _, rfl, iteNN (fun z => by cases z) ?_⟩
      refine ⟨_, rfl, p, C, L.dx, _, _, rfl, hL.ins, T.cl, T.n6, fl6 L, _, rfl, L.l6, _, _, h, rfl, rfl, hL.h6, ixN_nat (by rw [List.length_map]; exact (List.getElem?_eq_some_iff.mp h1).1), ?_⟩
      exact kk _ _ c0 (Keep.own in1) (hL.off none h1)
    | @step h e _ h1 h2 h3 =>
      refine iteNN (fun z => by cases z) ?_
      refine ⟨_, rfl, p, C, L.dx, _, _, rfl, hL.ins, T.cl, T.n6, fl6 L, _, rfl, L.l6, _, _, optV e.atw, rfl, rfl, SqL.of hL.h6, atI_nat (by rw [List.getElem?_map, h1]; rfl), _, rfl, scal_opt _ _, _, rfl, ?_⟩
      rw [decide_eq_false (opt_ne h2)]
      refine iteT ⟨fun σ' G' => σ' = [some (.ref p), some (.int (j : Int)), some (.int (k : Int)), some (optV e.atw)] ∧ G' = G, ?_, ?_⟩
      · rintro σ' G' ⟨rfl, rfl⟩
        refine ⟨_, ?_, e.atw, rfl, rfl, rfl, h3⟩
        cases q : e.atw with
        | none => exact Nat.succ_pos _
        | some y =>
          have := hr' h e y h1 q
          show r y + 1 < r h + 1
          omega
      · exact ⟨_, rfl, p, C, L.dx, _, _, rfl, hL.ins, T.cl, T.n6, fl6 L, _, rfl, L.l6, _, _, optV e.atw, rfl, rfl, SqL.of hL.h6, atI_nat (by rw [List.getElem?_map, h1]; rfl), rfl, rfl⟩
theorem ok_rise {f fN fC : Addr} {fd fdF fdN fdC : FuncData} (F : Fun K "rise" "Ledger.rise" sRise f fd) (T : LTxt K mg C fA fCF fCT fCM) (FF : FnOk P w K mg base CX0 2 fCF fdF ["self", "k"] (spChkF C)) (bF : Binds K fdF ["self", "k"] [])
    (mN : Meth K C "_check_fault_or_none" fN) (FN : FnOk P w K mg base CX0 3 fN fdN ["self", "j"] (spChkN C)) (bN : Binds K fdN ["self", "j"] []) (mC : Meth K C "_cut_row" fC) (FC : FnOk P w K mg base CX0 1 fC fdC ["self", "j", "k"] (spCut C)) (bC : Binds K fdC ["self", "j", "k"] []) : FnOk P w K mg base CX0 4 f fd ["self", "k", "j"] (spRise C) := by
  refine F.ok scRise (fun vs H Q E h => ?_) (fun cdv A outer s H vs Q E hr h => ?_)
  · obtain ⟨p, L, ms, ns, es, k, o, rfl, _⟩ := h
    rfl
  · obtain ⟨p, L, ms, ns, es, k, o, rfl, hL, hk, ho, R, kk⟩ := h
    have hr1 : Room 1 _ := hr.mono (by decide)
    have hr2 : Room 2 _ := hr.mono (by decide)
    refine ⟨_, pss_cons (ps_expr (pe_meth (pv 0) T.cl T.mF FF hr2 bF .nil pass0 (pa_cons (pv 1) pa_nil)))
      (pss_cons (ps_expr (pe_meth (pv 0) T.cl mN FN hr bN .nil pass0 (pa_cons (pv 2) pa_nil)))
      (pss_cons (ps_if (PW.pt (pw_or (pt_cmpR op_isN (pv 2) pe_non (nomark _)) (pw_or1 (pt_cmpR op_eq (pv 2) (pv 1) (nomark _))))) (pss_one ps_retN) pss_nil)
      (pss_cons (ps_expr (pe_meth (pv 0) T.cl mC FC hr1 bC .nil pass0 (pa_cons (pv 2) (pa_cons (pv 1) pa_nil))))
      (pss_one (ps_asg (pv 2) (pg_sub (pe_fld (pv 0) rfl) (pv 1) set_list)))))), ?_⟩
    refine ⟨_, rfl, p, L.dx, _, rfl, hL.ins, flno L, _, rfl, p, L, ms, ns, es, k, rfl, hL, hk, ?_⟩
    refine ⟨_, rfl, p, L.dx, _, rfl, hL.ins, flnoN L, _, rfl, p, L, ms, ns, es, o, rfl, hL, ho, ?_⟩
    refine ⟨_, rfl, rfl, _, rfl, ?_⟩
    cases o with
    | none =>
      rw [decide_eq_true (show optV none = V.non from rfl)]
      exact iteT (iteT (kk H es .non (Keep.refl _ _) hL))
    | some j =>
      rw [decide_eq_false (show ¬ optV (some j) = V.non from fun z => by cases z)]
      refine iteF ⟨_, rfl, _, rfl, rfl, _, rfl, ?_⟩
      by_cases z : j = k
      · rw [decide_eq_true (show optV (some j) = V.int (k : Int) by rw [z]; rfl)]
        refine iteT ?_
        rw [z] at kk
        exact kk H es .own (Keep.refl _ _) hL
      · rw [decide_eq_false (opt_ne (fun q => z (Option.some.inj q)))]
        refine iteF ?_
        refine ⟨_, rfl, p, L.dx, _, rfl, hL.ins, flnoC L, _, rfl, _, rfl, p, L, ms, ns, es, j, k, rfl, hL, ho j rfl, R, fun H1 es1 c k1 hL1 => ?_⟩
        have hk1 : k < es1.length := by rw [c.at.1]; exact hk
        refine ⟨_, rfl, _, rfl, p, C, L.dx, _, _, rfl, hL1.ins, T.cl, T.n6, fl6 L, _, rfl, L.l6, _, _, k, rfl, rfl, hL1.h6, ixN_nat (by rw [List.length_map]; exact hk1), ?_⟩
        have he := List.getElem?_eq_getElem hk1
        exact kk _ _ (.new z c he) (k1.trans (Keep.own in1)) (hL1.off (some j) he)
end
end Fs
/-! Rows of the law's written anew; what it notes of a rising. -/
namespace Fs
open PySem L2 TL
theorem fewer {l : List Nat} {n : Nat} (hn : l.Nodup) (h : ∀ x ∈ l, x < n) : l.length ≤ n := by
  have := len_le_of_sub (l := l) (ts := List.range n) hn fun x hx => List.mem_range.mpr (h x hx)
  rw [List.length_range] at this
  exact this
theorem TriAt.at {bad : List Addr} {H : Hp} : ∀ {rs mm nn : List Addr} {es : List Ent} {i : Nat} {e : Ent}, TriAt bad H rs mm nn es → es[i]? = some e → ∃ r m n, rs[i]? = some r ∧ mm[i]? = some m ∧ nn[i]? = some n ∧ r ∉ bad ∧ m ∉ bad ∧ n ∉ bad ∧ H r = some (.lst [.str e.kind, .str e.text, .ref m, .ref n, optV e.cause, optV e.atw]) ∧ H m = some (.lst (memV e.mem)) ∧ H n = some (.lst (e.notes.map V.str))
  | [], [], [], [], _, _, _, q => by simp at q
  | r :: rs, m :: mm, n :: nn, f :: es, 0, e, h, q => by
    have e' : f = e := by simpa using q
    subst e'
    exact ⟨r, m, n, rfl, rfl, rfl, h.1⟩
  | r :: rs, m :: mm, n :: nn, f :: es, i + 1, e, h, q => TriAt.at (i := i) h.2 (by simpa using q)
theorem TriAt.other {bad : List Addr} {H : Hp} {x : Addr} {o : HO} : ∀ {rs mm nn : List Addr} {es : List Ent}, TriAt bad H rs mm nn es → x ∉ rs → x ∉ mm → x ∉ nn → TriAt bad (upd H x o) rs mm nn es
  | [], [], [], [], _, _, _, _ => True.intro
  | r :: rs, m :: mm, n :: nn, e :: es, h, a, b, c => by
    obtain ⟨⟨h1, h2, h3, h4, h5, h6⟩, t⟩ := h
    have ne : ∀ {y : Addr} {l : List Addr}, x ∉ y :: l → y ≠ x := fun q z => q (by rw [z]; exact List.mem_cons_self)
    exact ⟨⟨h1, h2, h3, by rw [upd_ne (ne a)]; exact h4, by rw [upd_ne (ne b)]; exact h5, by rw [upd_ne (ne c)]; exact h6⟩, TriAt.other t (fun z => a (List.mem_cons_of_mem _ z)) (fun z => b (List.mem_cons_of_mem _ z)) (fun z => c (List.mem_cons_of_mem _ z))⟩
theorem TriAt.norow {bad : List Addr} {H : Hp} {x : Addr} {k t : Str} {m' n' : Addr} {c w : V} (hr : H x = some (.lst (rowL k t m' n' c w))) : ∀ {rs mm nn : List Addr} {es : List Ent}, TriAt bad H rs mm nn es → x ∉ mm ∧ x ∉ nn
  | [], [], [], [], _ => ⟨List.not_mem_nil, List.not_mem_nil⟩
  | r :: rs, m :: mm, n :: nn, e :: es, h => by
    obtain ⟨⟨h1, h2, h3, h4, h5, h6⟩, t⟩ := h
    obtain ⟨i1, i2⟩ := TriAt.norow hr t
    refine ⟨fun z => ?_, fun z => ?_⟩
    · rcases List.mem_cons.mp z with z | z
      · rw [← z, hr] at h5
        exact row_ints (by injection h5 with q; injection q with q; exact q.symm)
      · exact i1 z
    · rcases List.mem_cons.mp z with z | z
      · rw [← z, hr] at h6
        exact row_strs (by injection h6 with q; injection q with q; exact q.symm)
      · exact i2 z
theorem TriAt.nonote {bad : List Addr} {H : Hp} {x : Addr} {l : List Str} (hr : H x = some (.lst (l.map V.str))) : ∀ {rs mm nn : List Addr} {es : List Ent}, TriAt bad H rs mm nn es → x ∉ rs
  | [], [], [], [], _ => List.not_mem_nil
  | r :: rs, m :: mm, n :: nn, e :: es, h => fun z => by
    rcases List.mem_cons.mp z with z | z
    · have h4 := h.1.2.2.2.1
      rw [← z, hr] at h4
      exact row_strs (k := e.kind) (t := e.text) (m := m) (n := n) (c := optV e.cause) (a := optV e.atw) (by injection h4 with q; injection q)
    · exact TriAt.nonote hr h.2 z
/-- the cause of one, what was at work for it -/
theorem TriAt.sets {bad : List Addr} {H : Hp} {r m n : Addr} {e : Ent} {e' : Ent} (q1' : e'.kind = e.kind) (q2' : e'.text = e.text) (q3' : e'.mem = e.mem) (q4' : e'.notes = e.notes) (hr : H r = some (.lst (rowL e.kind e.text m n (optV e.cause) (optV e.atw)))) : ∀ {rs mm nn : List Addr} {es : List Ent} {k : Nat}, TriAt bad H rs mm nn es → rs.Nodup → rs[k]? = some r → mm[k]? = some m → nn[k]? = some n → es[k]? = some e → TriAt bad (upd H r (.lst (rowL e.kind e.text m n (optV e'.cause) (optV e'.atw)))) rs mm nn (es.set k e')
  | [], [], [], [], _, _, _, q, _, _, _ => by simp at q
  | a :: rs, b :: mm, c :: nn, f :: es, 0, h, nd, q1, q2, q3, q4 => by
    have e1 : a = r := by simpa using q1
    have e2 : b = m := by simpa using q2
    have e3 : c = n := by simpa using q3
    have e4 : f = e := by simpa using q4
    subst e1 e2 e3 e4
    obtain ⟨z1, z2⟩ := TriAt.norow hr h
    obtain ⟨⟨h1, h2, h3, h4, h5, h6⟩, t⟩ := h
    refine ⟨⟨h1, h2, h3, by rw [upd_same, q1', q2']; rfl, by rw [upd_ne fun z => z1 (by rw [← z]; exact List.mem_cons_self), q3']; exact h5, by rw [upd_ne fun z => z2 (by rw [← z]; exact List.mem_cons_self), q4']; exact h6⟩, t.other (List.nodup_cons.mp nd).1 (fun z => z1 (List.mem_cons_of_mem _ z)) (fun z => z2 (List.mem_cons_of_mem _ z))⟩
  | a :: rs, b :: mm, c :: nn, f :: es, k + 1, h, nd, q1, q2, q3, q4 => by
    obtain ⟨z1, z2⟩ := TriAt.norow hr h
    obtain ⟨⟨h1, h2, h3, h4, h5, h6⟩, t⟩ := h
    have hm : r ∈ rs := List.mem_of_getElem? (by simpa using q1)
    exact ⟨⟨h1, h2, h3, by rw [upd_ne fun z => (List.nodup_cons.mp nd).1 (by rw [z]; exact hm)]; exact h4, by rw [upd_ne fun z => z1 (by rw [← z]; exact List.mem_cons_self)]; exact h5, by rw [upd_ne fun z => z2 (by rw [← z]; exact List.mem_cons_self)]; exact h6⟩, TriAt.sets q1' q2' q3' q4' hr t (List.nodup_cons.mp nd).2 (by simpa using q1) (by simpa using q2) (by simpa using q3) (by simpa using q4)⟩
/-- the notes of one -/
theorem TriAt.note {bad : List Addr} {H : Hp} {n : Addr} {e : Ent} (l : List Str) (hn : H n = some (.lst (e.notes.map V.str))) : ∀ {rs mm nn : List Addr} {es : List Ent} {k : Nat}, TriAt bad H rs mm nn es → nn.Nodup → n ∉ mm → nn[k]? = some n → es[k]? = some e → TriAt bad (upd H n (.lst (l.map V.str))) rs mm nn (es.set k (noteE e l))
  | [], [], [], [], _, _, _, _, q, _ => by simp at q
  | a :: rs, b :: mm, c :: nn, f :: es, 0, h, nd, nm, q3, q4 => by
    have e3 : c = n := by simpa using q3
    have e4 : f = e := by simpa using q4
    subst e3 e4
    have z1 := TriAt.nonote hn h
    obtain ⟨⟨h1, h2, h3, h4, h5, h6⟩, t⟩ := h
    refine ⟨⟨h1, h2, h3, by rw [upd_ne fun z => z1 (by rw [← z]; exact List.mem_cons_self)]; exact h4, by rw [upd_ne fun z => nm (by rw [← z]; exact List.mem_cons_self)]; exact h5, upd_same⟩, t.other (fun z => z1 (List.mem_cons_of_mem _ z)) (fun z => nm (List.mem_cons_of_mem _ z)) (List.nodup_cons.mp nd).1⟩
  | a :: rs, b :: mm, c :: nn, f :: es, k + 1, h, nd, nm, q3, q4 => by
    have z1 := TriAt.nonote hn h
    obtain ⟨⟨h1, h2, h3, h4, h5, h6⟩, t⟩ := h
    have hm : n ∈ nn := List.mem_of_getElem? (by simpa using q3)
    exact ⟨⟨h1, h2, h3, by rw [upd_ne fun z => z1 (by rw [← z]; exact List.mem_cons_self)]; exact h4, by rw [upd_ne fun z => nm (by rw [← z]; exact List.mem_cons_self)]; exact h5, by rw [upd_ne fun z => (List.nodup_cons.mp nd).1 (by rw [z]; exact hm)]; exact h6⟩, TriAt.note l hn t (List.nodup_cons.mp nd).2 (fun z => nm (List.mem_cons_of_mem _ z)) (by simpa using q3) (by simpa using q4)⟩
abbrev sRisen : Stmt := top 30
abbrev nRisen : List Str := ["_law_entries_here", "_law_k", "_law_j", "_law_here", "_law_turn"]
theorem scRisen : FnScope nRisen ["_law_entries_here", "_law_k", "_law_j"] (defScope sRisen) := ⟨rfl, rfl, rfl, by decide +kernel, rfl, by decide +kernel, by decide +kernel⟩
theorem refs_row {rs : List Addr} {k t : Str} {m n : Addr} {c a : V} (h : rs.map V.ref = rowL k t m n c a) : False := by
  cases rs with
  | nil => cases h
  | cons x r => cases h
def spRisen : Sp := fun vs H Q _ => ∃ (E : Addr) (k : Nat) (o : Option Nat) (bad rs mm nn : List Addr) (es : List Ent), vs = [.ref E, .int (k : Int), optV o] ∧ H E = some (.lst (rs.map V.ref)) ∧ TriAt bad H rs mm nn es ∧ rs.Nodup ∧ k < es.length ∧ (∀ j, o = some j → j < es.length) ∧ es.length ≤ 100 ∧ Row es ∧
  ∀ (H' : Hp) (es' : List Ent), Risen es k o es' → Keep rs H H' → TriAt bad H' rs mm nn es' → Q .non H'
section
variable {P : Program} {w : World} {K : PySem.W.Frag} {mg : Str → Option Value} {base : Heap}
theorem ok_risen {f : Addr} {fd : FuncData} (F : Fun K "_law_risen" "_law_risen" sRisen f fd) (mL : mg "len" = none) (mR : mg "range" = none) : FnOk P w K mg base CX0 1 f fd ["_law_entries_here", "_law_k", "_law_j"] spRisen := by
  refine F.ok scRisen (fun vs H Q E h => ?_) (fun cdv A outer s H vs Q Es hr h => ?_)
  · obtain ⟨E, k, o, bad, rs, mm, nn, es, rfl, _⟩ := h
    rfl
  · obtain ⟨E, k, o, bad, rs, mm, nn, es, rfl, hE, hR, hnd, hk, ho, h100, R, kk⟩ := h
    refine ⟨_, pss_cons (ps_if (PW.pt (pw_or (pt_cmpR op_isN (pv 2) pe_non (nomark _)) (pw_or1 (pt_cmpR op_eq (pv 2) (pv 1) (nomark _))))) (pss_one ps_retN) pss_nil)
      (pss_cons (ps_set (i := 3) scRisen.nd rfl (Or.inl rfl) (pv 2))
      (pss_cons (ps_for PassesOwn.never rfl (pi_range1 rfl mR (pa_cons (pe_op op_add (pe_callB call_len_seq (by rfl) mL PySem.boot_len (pa_cons (pv 0) pa_nil)) pe_int) pa_nil)) (pg_name (i := 4) scRisen.nd rfl (Or.inl rfl))
        (pss_cons (ps_if (PW.pt (pw_and (pt_cmpR op_notN (pv 3) pe_non (nomark _)) (pw_and1 (pt_cmpR op_eq (pe_ix ix_list (pe_ix ix_list (pv 0) (pv 3) (fun _ _ => rfl)) pe_int (fun _ _ => rfl)) (pv 1) (nomark _)))))
          (pss_one (ps_asg pe_non (pg_sub (pe_ix ix_list (pv 0) (pv 3) (fun _ _ => rfl)) pe_int set_list))) pss_nil)
        (pss_one (ps_if (pt_cmpR op_notN (pv 3) pe_non (nomark _)) (pss_one (ps_set (i := 3) scRisen.nd rfl (Or.inl rfl) (pe_ix ix_list (pe_ix ix_list (pv 0) (pv 3) (fun _ _ => rfl)) pe_int (fun _ _ => rfl)))) pss_nil))))
      (pss_one (ps_asg (pv 2) (pg_sub (pe_ix ix_list (pv 0) (pv 1) (fun _ _ => rfl)) pe_int set_list))))), ?_⟩
    refine ⟨_, rfl, rfl, _, rfl, ?_⟩
    cases o with
    | none =>
      rw [decide_eq_true (show optV none = V.non from rfl)]
      exact iteT (iteT (kk H es .non (Keep.refl _ _) hR))
    | some j =>
      rw [decide_eq_false (show ¬ optV (some j) = V.non from fun z => by cases z)]
      refine iteF ⟨_, rfl, _, rfl, rfl, _, rfl, ?_⟩
      by_cases z : j = k
      · rw [decide_eq_true (show optV (some j) = V.int (k : Int) by rw [z]; rfl)]
        refine iteT ?_
        rw [z] at kk
        exact kk H es .own (Keep.refl _ _) hR
      · rw [decide_eq_false (opt_ne (fun q => z (Option.some.inj q)))]
        refine iteF ?_
        obtain ⟨es', c0⟩ := Cut.some' (k := k) R (some j) (fun h e => by rw [← Option.some.inj e]; exact ho j rfl)
        obtain ⟨r, hr'⟩ := R.fell
        have nE : ∀ {q : Addr} {e : Ent} {m n : Addr}, ∀ G : Hp, G E = some (.lst (rs.map V.ref)) → G q = some (.lst (rowL e.kind e.text m n (optV e.cause) (optV e.atw))) → E ≠ q := fun G g1 g2 y => by
          rw [y, g2] at g1
          exact refs_row (by injection g1 with q; injection q with q; exact q.symm)
        refine ⟨_, rfl, _, rfl, E, _, rfl, .inl (SqL.of hE), _, _, rfl, rfl, _, rfl, by rw [List.length_map, hR.rows.len]; omega, by rw [List.length_map, hR.rows.len]; omega, ?_⟩
        rw [List.length_map, hR.rows.len, show ((es.length : Nat) : Int) + 1 = ((es.length + 1 : Nat) : Int) by omega, Int.toNat_natCast]
        refine for_range (lo := 0) (n := es.length + 1) (fun i σ G => ∃ (v4 : Option V) (o : Option Nat) (es1 : List Ent), σ = [some (.ref E), some (.int (k : Int)), some (.int (j : Int)), some (optV o), v4] ∧ Keep rs H G ∧ G E = some (.lst (rs.map V.ref)) ∧ TriAt bad G rs mm nn es1 ∧
            ((o = none ∧ es1 = es') ∨ (es1 = es ∧ ∃ (h : Nat) (l : List Nat), o = some h ∧ Cut k es (some h) es' ∧ l.length = i ∧ (h :: l).Nodup ∧ (∀ x ∈ h :: l, x < es.length) ∧ ∀ x ∈ l, r h < r x)))
          ⟨none, some j, es, rfl, Keep.refl _ _, hE, hR, .inr ⟨rfl, j, [], rfl, c0, rfl, by simp, fun x hx => by rw [List.mem_singleton.mp hx]; exact ho j rfl, fun x hx => absurd hx List.not_mem_nil⟩⟩ ?_ ?_
        · rintro i σ G hi ⟨v4, o, es1, rfl, kG, eE, hRG, hcase⟩
          rcases hcase with ⟨rfl, rfl⟩ | ⟨rfl, h, l, rfl, c, hl, hnl, hlt, hdec⟩
          · refine ⟨_, rfl, rfl, _, rfl, iteNS rfl (iteF ?_)⟩
            refine ⟨_, rfl, rfl, _, rfl, iteNS rfl ?_⟩
            exact ⟨_, none, _, rfl, kG, eE, hRG, .inl ⟨rfl, rfl⟩⟩
          · have hh : h < es1.length := hlt h List.mem_cons_self
            have he := List.getElem?_eq_getElem hh
            generalize es1[h] = e at he
            obtain ⟨q, m, n, hq, hqm, hqn, b1, b2, b3, g4, g5, g6⟩ := hRG.at he
            refine ⟨_, rfl, rfl, _, rfl, iteNN (fun z => by cases z) ?_⟩
            refine ⟨_, rfl, _, rfl, E, _, _, V.ref q, rfl, rfl, SqL.of eE, atI_nat (by rw [List.getElem?_map, hq]; rfl), q, _, _, optV e.atw, rfl, rfl, SqL.of g4, rfl, _, rfl, scal_opt _ _, _, rfl, ?_⟩
            by_cases hit : e.atw = some k
            · rw [decide_eq_true (show optV e.atw = V.int (k : Int) by rw [hit]; rfl)]
              refine iteT ?_
              have ec : es' = es1.set h (offE e none) := c.one (.hit he hit)
              refine ⟨_, rfl, _, rfl, E, _, _, V.ref q, rfl, rfl, SqL.of eE, atI_nat (by rw [List.getElem?_map, hq]; rfl), q, _, _, 5, rfl, rfl, g4, rfl, ?_⟩
              have hq' : q ∈ rs := List.mem_of_getElem? hq
              have R2 : TriAt bad (upd G q (.lst (rowL e.kind e.text m n (optV e.cause) .non))) rs mm nn es' := by
                rw [ec]
                exact TriAt.sets (e := e) (e' := offE e none) rfl rfl rfl rfl g4 hRG hnd hq hqm hqn he
              have k2 : Keep rs G (upd G q (.lst (rowL e.kind e.text m n (optV e.cause) .non))) := Keep.own hq'
              have e2 : (upd G q (.lst (rowL e.kind e.text m n (optV e.cause) .non))) E = some (.lst (rs.map V.ref)) := by rw [upd_ne (nE G eE g4)]; exact eE
              have g42 : (upd G q (.lst (rowL e.kind e.text m n (optV e.cause) .non))) q = some (.lst (rowL e.kind e.text m n (optV e.cause) .non)) := upd_same
              refine ⟨_, rfl, rfl, _, rfl, iteNN (fun z => by cases z) ?_⟩
              refine ⟨_, rfl, _, rfl, E, _, _, V.ref q, rfl, rfl, SqL.of e2, atI_nat (by rw [List.getElem?_map, hq]; rfl), q, _, _, V.non, rfl, rfl, SqL.of g42, rfl, ?_⟩
              exact ⟨_, none, es', rfl, kG.trans k2, e2, R2, .inl ⟨rfl, rfl⟩⟩
            · rw [decide_eq_false (opt_ne hit)]
              refine iteF ?_
              refine ⟨_, rfl, rfl, _, rfl, iteNN (fun z => by cases z) ?_⟩
              refine ⟨_, rfl, _, rfl, E, _, _, V.ref q, rfl, rfl, SqL.of eE, atI_nat (by rw [List.getElem?_map, hq]; rfl), q, _, _, optV e.atw, rfl, rfl, SqL.of g4, rfl, ?_⟩
              refine ⟨_, e.atw, es1, rfl, kG, eE, hRG, ?_⟩
              have c2 : Cut k es1 e.atw es' := by
                cases c with
                | hit a1 a2 => rw [he] at a1; cases a1; exact absurd a2 hit
                | step a1 a2 a3 => rw [he] at a1; cases a1; exact a3
              cases q2 : e.atw with
              | none =>
                rw [q2] at c2
                cases c2
                exact .inl ⟨rfl, rfl⟩
              | some y =>
                rw [q2] at c2
                have hy := hr' h e y he q2
                have hyl := R.there h e y he q2
                have dec2 : ∀ x ∈ h :: l, r y < r x := fun x hx => by
                  rcases List.mem_cons.mp hx with z | z
                  · rw [z]; exact hy
                  · have := hdec x z; omega
                refine .inr ⟨rfl, y, h :: l, rfl, c2, by rw [List.length_cons, hl], List.nodup_cons.mpr ⟨fun z => absurd (dec2 y z) (Nat.lt_irrefl _), hnl⟩, fun x hx => ?_, dec2⟩
                rcases List.mem_cons.mp hx with z | z
                · rw [z]; exact hyl
                · exact hlt x z
        · rintro σ G ⟨v4, o, es1, rfl, kG, eE, hRG, hcase⟩
          rcases hcase with ⟨rfl, rfl⟩ | ⟨rfl, h, l, rfl, c, hl, hnl, hlt, hdec⟩
          · have hk1 : k < es1.length := by rw [c0.at.1]; exact hk
            have he := List.getElem?_eq_getElem hk1
            generalize es1[k] = e at he
            obtain ⟨q, m, n, hq, hqm, hqn, b1, b2, b3, g4, g5, g6⟩ := hRG.at he
            have hq' : q ∈ rs := List.mem_of_getElem? hq
            refine ⟨_, rfl, _, rfl, _, rfl, E, _, _, V.ref q, rfl, rfl, SqL.of eE, atI_nat (by rw [List.getElem?_map, hq]; rfl), q, _, _, 5, rfl, rfl, g4, rfl, ?_⟩
            exact kk _ _ (.new z c0 he) (kG.trans (Keep.own hq')) (TriAt.sets (e := e) (e' := offE e (some j)) rfl rfl rfl rfl g4 hRG hnd hq hqm hqn he)
          · have := fewer hnl hlt
            rw [List.length_cons, hl] at this
            omega
end
end Fs
/-! Where a ledger and its entries stand. -/
namespace Fs
open PySem L2 TL
theorem Cut.mems {k : Nat} {es es' : List Ent} {o : Option Nat} (h : Cut k es o es') : es'.map Ent.mem = es.map Ent.mem := by
  induction h with
  | nil => rfl
  | @hit h e h1 h2 => exact map_put (e := e) (e' := offE e none) Ent.mem h1 rfl
  | step h1 h2 h3 ih => exact ih
theorem Risen.mems {es es' : List Ent} {k : Nat} {o : Option Nat} (h : Risen es k o es') : es'.map Ent.mem = es.map Ent.mem := by
  cases h with
  | non => rfl
  | own => rfl
  | @new j e es2 n c q => rw [map_put (e := e) (e' := offE e (some j)) Ent.mem q rfl, c.mems]
theorem Row.put {es : List Ent} (R : Row es) {k : Nat} {e e' : Ent} (he : es[k]? = some e) (h : e'.atw = e.atw) : Row (es.set k e') := by
  obtain ⟨r, hr⟩ := R.fell
  have hk := (List.getElem?_eq_some_iff.mp he).1
  have back : ∀ (x : Nat) (f : Ent), (es.set k e')[x]? = some f → ∃ g, es[x]? = some g ∧ g.atw = f.atw := fun x f q => by
    by_cases z : k = x
    · subst z
      rw [List.getElem?_set_self hk] at q
      exact ⟨e, he, by rw [← Option.some.inj q, h]⟩
    · rw [List.getElem?_set_ne z] at q
      exact ⟨f, q, rfl⟩
  refine ⟨⟨r, fun x f y q a => ?_⟩, fun x f y q a => ?_⟩
  · obtain ⟨g, q2, w⟩ := back x f q
    exact hr x g y q2 (by rw [w]; exact a)
  · obtain ⟨g, q2, w⟩ := back x f q
    rw [List.length_set]
    exact R.there x g y q2 (by rw [w]; exact a)
theorem set_mem {α : Type} {l : List α} {i : Nat} {a b : α} (h : b ∈ l.set i a) : b ∈ l ∨ b = a := List.mem_or_eq_of_mem_set h
theorem Sm.le {n m : Nat} {e : Ent} (h : Sm n e) (l : n ≤ m) : Sm m e := by
  obtain ⟨h1, h2, h3, h5, h6, h7, h8, h9⟩ := h
  exact ⟨h1, h2, h3, h5, fun k hk => Nat.lt_of_lt_of_le (h6 k hk) l, h7, fun y q => Nat.lt_of_lt_of_le (h8 y q) l, fun y q => Nat.lt_of_lt_of_le (h9 y q) l⟩
/-- a fault, its notes counted -/
def SmC (ps : List (Str × Str)) (n cap : Nat) (e : Ent) : Prop := Sm n e ∧ e.notes.length ≤ cap ∧ KindOk ps e.mem e.kind
structure St (C : Addr) (ps : List (Str × Str)) (cap : Nat) (p : Addr) (H : Hp) (q E : Addr) (A : LA) (es : List Ent) (ms ns rs mm nn : List Addr) (Lf Df Nf : Nat → Nat) : Prop where
  led : LedAt C H q A ms ns es
  ent : H E = some (.lst (rs.map V.ref))
  tri : TriAt (p :: E :: (A.ls ++ ns)) H rs mm nn es
  rnd : rs.Nodup
  sep : (mm ++ nn).Nodup
  tree : Tree es Lf Df Nf
  sm : ∀ e ∈ es, SmC ps es.length cap e
  row : Row es
  nE : E ∉ A.ls ++ ns
  np : p ∉ E :: (A.ls ++ ns)
theorem St.keepP {C : Addr} {ps : List (Str × Str)} {cap : Nat} {p : Addr} {H H' : Hp} {q E : Addr} {A : LA} {es : List Ent} {ms ns rs mm nn : List Addr} {Lf Df Nf : Nat → Nat} (S : St C ps cap p H q E A es ms ns rs mm nn Lf Df Nf) (hp : ∃ xs, H p = some (.lst xs)) (k : Keep [p] H H') : St C ps cap p H' q E A es ms ns rs mm nn Lf Df Nf := by
  refine ⟨S.led.keep k (fun b hb z => ?_) (fun b hb => ?_), k.at S.ent (nin1 fun z => S.np (by rw [← z]; exact List.mem_cons_self)), S.tri.keep (k.more fun b hb => by rw [List.mem_singleton.mp hb]; exact List.mem_cons_self), S.rnd, S.sep, S.tree, S.sm, S.row, S.nE, S.np⟩
  · rw [List.mem_singleton.mp hb] at z
    exact S.np (List.mem_cons_of_mem _ z)
  · rw [List.mem_singleton.mp hb]; exact hp
theorem St.keep0 {C : Addr} {ps : List (Str × Str)} {cap : Nat} {p : Addr} {H H' : Hp} {q E : Addr} {A : LA} {es : List Ent} {ms ns rs mm nn : List Addr} {Lf Df Nf : Nat → Nat} (S : St C ps cap p H q E A es ms ns rs mm nn Lf Df Nf) (k : Keep [] H H') : St C ps cap p H' q E A es ms ns rs mm nn Lf Df Nf :=
  ⟨S.led.keep k (fun b z => absurd z nin0) (fun b z => absurd z nin0), k.at S.ent nin0, S.tri.keep (k.more fun b z => absurd z nin0), S.rnd, S.sep, S.tree, S.sm, S.row, S.nE, S.np⟩
abbrev Mut (p : Addr) (A : LA) (ns nn rs : List Addr) : List Addr := p :: (A.ls ++ (ns ++ (nn ++ rs)))
theorem Fresh.sm {ps : List (Str × Str)} (hw : Wf ps) {i n : Nat} {e : Ent} (h : Fresh ps i e) (hk : e.kind.cps.toList.length ≤ 8 ∧ ∀ c ∈ e.kind.cps.toList, c < 128) (hi : i ≤ n) : Sm n e ∧ e.notes.length ≤ 0 := by
  obtain ⟨f1, f2, f3, f4, f5, f6, f7⟩ := h
  exact ⟨⟨hk.1, hk.2, f1, f2, fun k hk => Nat.lt_of_lt_of_le (f3 k hk) hi, by rw [f4]; exact ⟨Nat.zero_le _, fun z h => absurd h List.not_mem_nil⟩, (fun y q => by rw [f5] at q; cases q), (fun y q => by rw [f6] at q; cases q)⟩, by rw [f4]; exact Nat.le_refl _⟩
theorem Wf.kind_ok {ps : List (Str × Str)} (h : Wf ps) : ∀ z ∈ sF :: ps.map Prod.fst, z.cps.toList.length ≤ 8 ∧ ∀ c ∈ z.cps.toList, c < 128 := by
  induction h with
  | nil =>
    intro z hz
    rw [List.mem_singleton.mp hz]
    decide +kernel
  | @snoc ps z y hw hz hn hy ih =>
    intro x hx
    rcases List.mem_cons.mp hx with q | q
    · exact ih x (by rw [q]; exact List.mem_cons_self)
    · rw [List.map_append] at q
      rcases List.mem_append.mp q with q | q
      · exact ih x (List.mem_cons_of_mem _ q)
      · have e2 : x = z := by simpa using q
        rw [e2]
        refine ⟨hz.2.1, fun c hc => ?_⟩
        have := hz.2.2 c hc
        unfold small at this
        simp only [Bool.and_eq_true, decide_eq_true_eq] at this
        omega
theorem KindOk.small {ps : List (Str × Str)} (hw : Wf ps) {mem : List Nat} {z : Str} (h : KindOk ps mem z) : z.cps.toList.length ≤ 8 ∧ ∀ c ∈ z.cps.toList, c < 128 := by
  by_cases q : mem = []
  · exact hw.kind_ok z (h.1 q)
  · rw [h.2 q]; decide +kernel
theorem TriAt.rebad {bad bad' : List Addr} {H : Hp} : ∀ {rs mm nn : List Addr} {es : List Ent}, TriAt bad H rs mm nn es → (∀ a ∈ rs ++ (mm ++ nn), a ∉ bad') → TriAt bad' H rs mm nn es
  | [], [], [], [], _, _ => True.intro
  | r :: rs, m :: mm, n :: nn, e :: es, h, k => by
    obtain ⟨⟨h1, h2, h3, h4⟩, t⟩ := h
    refine ⟨⟨k r (by simp), k m (by simp), k n (by simp), h4⟩, TriAt.rebad t fun a ha => k a ?_⟩
    simp only [List.mem_append, List.mem_cons] at ha ⊢
    rcases ha with q | q | q <;> simp [q]
theorem TriAt.offM {bad M : List Addr} {H H' : Hp} (k : Keep M H H') : ∀ {rs mm nn : List Addr} {es : List Ent}, TriAt bad H rs mm nn es → (∀ a ∈ rs ++ (mm ++ nn), a ∉ M) → TriAt bad H' rs mm nn es
  | [], [], [], [], _, _ => True.intro
  | r :: rs, m :: mm, n :: nn, e :: es, h, q => by
    obtain ⟨⟨h1, h2, h3, h4, h5, h6⟩, t⟩ := h
    refine ⟨⟨h1, h2, h3, k.at h4 (q r (by simp)), k.at h5 (q m (by simp)), k.at h6 (q n (by simp))⟩, TriAt.offM k t fun a ha => q a ?_⟩
    simp only [List.mem_append, List.mem_cons] at ha ⊢
    rcases ha with z | z | z <;> simp [z]
theorem TriAt.nbad {bad : List Addr} {H : Hp} : ∀ {rs mm nn : List Addr} {es : List Ent}, TriAt bad H rs mm nn es → ∀ a ∈ rs ++ (mm ++ nn), a ∉ bad
  | [], [], [], [], _, a, h => by simp at h
  | r :: rs, m :: mm, n :: nn, e :: es, h, a, q => by
    have q' : a = r ∨ a = m ∨ a = n ∨ a ∈ rs ++ (mm ++ nn) := by
      simp only [List.mem_append, List.mem_cons] at q ⊢
      rcases q with (q | q) | (q | q) | (q | q) <;> simp [q]
    rcases q' with z | z | z | z
    · rw [z]; exact h.1.1
    · rw [z]; exact h.1.2.1
    · rw [z]; exact h.1.2.2.1
    · exact TriAt.nbad h.2 a z
/-- where a ledger and its entries stand -/
structure LD where
  q : Addr
  F : Addr
  A : LA
  ms : List Addr
  ns : List Addr
  rs : List Addr
  mm : List Addr
  nn : List Addr
  Lf : Nat → Nat
  Df : Nat → Nat
  Nf : Nat → Nat
abbrev StX (C : Addr) (ps : List (Str × Str)) (cap : Nat) (p : Addr) (H : Hp) (X : LD) (es : List Ent) : Prop := St C ps cap p H X.q X.F X.A es X.ms X.ns X.rs X.mm X.nn X.Lf X.Df X.Nf
def LD.zs (X : LD) : List Addr := X.F :: (X.A.ls ++ (X.ns ++ (X.rs ++ (X.mm ++ X.nn))))
def LD.mu (X : LD) (p : Addr) : List Addr := Mut p X.A X.ns X.nn X.rs
theorem LD.mu_in {X : LD} {p b : Addr} (h : b ∈ X.mu p) : b = p ∨ b ∈ X.zs := by
  simp only [LD.mu, Mut, LD.zs, List.mem_cons, List.mem_append] at h ⊢
  rcases h with h | h | h | h | h <;> simp [h]
theorem St.all {C : Addr} {ps : List (Str × Str)} {cap : Nat} {p : Addr} {H : Hp} {X : LD} {es : List Ent} (S : StX C ps cap p H X es) : ∀ b ∈ X.zs, ∃ xs, H b = some (.lst xs) := fun b h => by
  simp only [LD.zs, List.mem_cons, List.mem_append] at h
  rcases h with h | h | h | h | h | h
  · rw [h]; exact ⟨_, S.ent⟩
  · exact S.led.isl b h
  · exact S.led.notes.is b h
  · exact S.tri.is b (List.mem_append_left _ h)
  · exact S.tri.is b (List.mem_append_right _ (List.mem_append_left _ h))
  · exact S.tri.is b (List.mem_append_right _ (List.mem_append_right _ h))
theorem St.nop {C : Addr} {ps : List (Str × Str)} {cap : Nat} {p : Addr} {H : Hp} {X : LD} {es : List Ent} (S : StX C ps cap p H X es) : p ∉ X.zs := fun h => by
  simp only [LD.zs, List.mem_cons, List.mem_append] at h
  have out : p ∉ X.rs ++ (X.mm ++ X.nn) := fun z => S.tri.nbad p z List.mem_cons_self
  simp only [List.mem_append, not_or] at out
  rcases h with h | h | h | h | h | h
  · exact S.np (by rw [h]; exact List.mem_cons_self)
  · exact S.np (List.mem_cons_of_mem _ (List.mem_append_left _ h))
  · exact S.np (List.mem_cons_of_mem _ (List.mem_append_right _ h))
  · exact out.1 h
  · exact out.2.1 h
  · exact out.2.2 h
/-- what another ledger writes anew -/
theorem St.away {C : Addr} {ps : List (Str × Str)} {cap : Nat} {p : Addr} {H H' : Hp} {X : LD} {es : List Ent} {M : List Addr} (S : StX C ps cap p H X es) (k : Keep M H H') (hM : ∀ b ∈ M, b ∉ X.zs) (hl : ∀ b ∈ M, ∃ xs, H b = some (.lst xs)) : StX C ps cap p H' X es := by
  have out : ∀ b, b ∈ X.zs → b ∉ M := fun b hb z => hM b z hb
  refine ⟨S.led.keep k (fun b hb z => hM b hb ?_) hl, k.at S.ent (out _ (by simp [LD.zs])), S.tri.offM k fun a ha => out a ?_, S.rnd, S.sep, S.tree, S.sm, S.row, S.nE, S.np⟩
  · simp only [LD.zs, List.mem_cons, List.mem_append] at z ⊢
    rcases z with z | z <;> simp [z]
  · simp only [LD.zs, List.mem_cons, List.mem_append] at ha ⊢
    rcases ha with z | z | z <;> simp [z]
theorem St.keepT {C : Addr} {ps : List (Str × Str)} {cap : Nat} {p Pt : Addr} {H H' : Hp} {X : LD} {es : List Ent} {tb : Array Value} (S : StX C ps cap p H X es) (hT : H Pt = some (.tbl tb)) (k : Keep [Pt] H H') : StX C ps cap p H' X es := by
  have no : ∀ {b : Addr} {o : HO}, H b = some o → o ≠ .tbl tb → b ∉ [Pt] := fun e n => nin1 fun z => n (by rw [z, hT] at e; exact (Option.some.inj e).symm)
  have L := S.led
  refine ⟨⟨k.at L.ins (no L.ins (fun z => by cases z)), k.at L.h1 (no L.h1 (fun z => by cases z)), k.at L.h2 (no L.h2 (fun z => by cases z)), k.at L.h3 (no L.h3 (fun z => by cases z)), k.at L.h4 (no L.h4 (fun z => by cases z)), k.at L.h5 (no L.h5 (fun z => by cases z)), k.at L.h6 (no L.h6 (fun z => by cases z)),
    L.mems.map fun a xs e => k.at e (no e (fun z => by cases z)), L.notes.map fun a _ xs e => k.at e (no e (fun z => by cases z)), L.nd⟩, k.at S.ent (no S.ent (fun z => by cases z)), S.tri.offM k fun a ha => ?_, S.rnd, S.sep, S.tree, S.sm, S.row, S.nE, S.np⟩
  obtain ⟨xs, e⟩ := S.tri.is a ha
  exact no e fun z => by cases z
theorem St.cap {C : Addr} {ps : List (Str × Str)} {c c' : Nat} {p : Addr} {H : Hp} {X : LD} {es : List Ent} (S : StX C ps c p H X es) (h : c ≤ c') : StX C ps c' p H X es :=
  ⟨S.led, S.ent, S.tri, S.rnd, S.sep, S.tree, fun e he => ⟨(S.sm e he).1, Nat.le_trans (S.sm e he).2.1 h, (S.sm e he).2.2⟩, S.row, S.nE, S.np⟩
/-- a ledger as the law makes it -/
theorem st_start {C : Addr} {ps : List (Str × Str)} {p Pt q F : Addr} {G3 G4 : Hp} {A : LA} {es : List Ent} {ms ns rs mm nn : List Addr} {Lf Df Nf : Nat → Nat} {tb0 : Array Value} (hT3 : G3 Pt = some (.tbl tb0)) (ep3 : ∃ xs, G3 p = some (.lst xs)) (eE : G3 F = some (.lst (rs.map V.ref))) (nFp : F ≠ p) (t3 : TriAt [p, F] G3 rs mm nn es) (rnd : rs.Nodup) (sep : (mm ++ nn).Nodup) (tree : Tree es Lf Df Nf) (hw : Wf ps) (B3 : Built ps es)
    (k4 : Keep [Pt] G3 G4) (hA3 : ∀ b ∈ A.ls, G3 b = none) (led4 : LedAt C G4 q A ms ns es) (hns3 : ∀ b ∈ ns, G3 b = none) : StX C ps 0 p G4 ⟨q, F, A, ms, ns, rs, mm, nn, Lf, Df, Nf⟩ es := by
  obtain ⟨x3, ep3⟩ := ep3
  have nFT : F ≠ Pt := fun z => by rw [z, hT3] at eE; cases eE
  refine ⟨led4, k4.at eE (nin1 nFT), (t3.more (p := Pt) (fun xs z => by rw [hT3] at z; cases z)).imp (k4.more fun b hb => by rw [List.mem_singleton.mp hb]; exact List.mem_cons_self) fun x hx ⟨xs, e⟩ z => ?_, rnd, sep, tree, fun e he => ?_, ?_, fun z => ?_, fun z => ?_⟩
  · rcases List.mem_cons.mp z with z | z
    · exact hx (by rw [z]; simp)
    · rcases List.mem_cons.mp z with z | z
      · exact hx (by rw [z]; simp)
      · rcases List.mem_append.mp z with z | z
        · rw [hA3 x z] at e; cases e
        · rw [hns3 x z] at e; cases e
  · obtain ⟨j, hj⟩ := List.mem_iff_getElem?.mp he
    have hjl := (List.getElem?_eq_some_iff.mp hj).1
    have fr := B3 j e hj
    obtain ⟨s1, s2⟩ := fr.sm hw (KindOk.small hw fr.2.2.2.2.2.2) (Nat.le_of_lt hjl)
    exact ⟨s1, s2, fr.2.2.2.2.2.2⟩
  · have still : ∀ (x : Nat) (e : Ent), es[x]? = some e → e.atw = none := fun x e q => (B3 x e q).2.2.2.2.2.1
    exact ⟨⟨fun _ => 0, fun x e y q a => by rw [still x e q] at a; cases a⟩, fun x e y q a => by rw [still x e q] at a; cases a⟩
  · rcases List.mem_append.mp z with z | z
    · have := hA3 F z
      rw [eE] at this; cases this
    · have := hns3 F z
      rw [eE] at this; cases this
  · rcases List.mem_cons.mp z with z | z
    · exact nFp z.symm
    · rcases List.mem_append.mp z with z | z
      · have := hA3 p z
        rw [ep3] at this; cases this
      · have := hns3 p z
        rw [ep3] at this; cases this
end Fs
/-! Marks on a ledger. -/
namespace Fs
open PySem L2 TL
abbrev sMkd : Stmt := top 31
abbrev nMkd : List Str := ["_law_pot_here", "_law_ledger_here", "_law_entries_here", "_law_many", "_law_turn", "_law_way", "_law_k", "_law_j", "_law_text_here"]
theorem scMkd : FnScope nMkd ["_law_pot_here", "_law_ledger_here", "_law_entries_here"] (defScope sMkd) := ⟨rfl, rfl, rfl, by decide +kernel, rfl, by decide +kernel, by decide +kernel⟩
structure DTx (K : PySem.W.Frag) (mg : Str → Option Value) (C fDg fTx fRi fBl fNo fRs : Addr) : Prop where
  cl : Cls K C
  mB : Meth K C "blame" fBl
  mN : Meth K C "note" fNo
  mR : Meth K C "rise" fRs
  gD : mg "_law_digit" = some (.ref fDg)
  kD : PySem.W.keepIn K (.ref fDg) = true
  gN : mg "_law_text" = some (.ref fTx)
  kN : PySem.W.keepIn K (.ref fTx) = true
  gR : mg "_law_risen" = some (.ref fRi)
  kR : PySem.W.keepIn K (.ref fRi) = true
  len : mg "len" = none
  int : mg "int" = none
  range : mg "range" = none
theorem flb (A : LA) : (fldsL A).lookup ("blame" : Str) = none := rfl
theorem fln (A : LA) : (fldsL A).lookup ("note" : Str) = none := rfl
theorem flr (A : LA) : (fldsL A).lookup ("rise" : Str) = none := rfl
def spMkd (C : Addr) : Sp := fun vs H Q _ => ∃ (ps : List (Str × Str)) (p : Addr) (X : LD) (es : List Ent) (n : Nat), vs = [.ref p, .ref X.q, .ref X.F] ∧ PotAt H p n ∧ n < 2 ^ 20 ∧ StX C ps 0 p H X es ∧ es.length ≤ 12 ∧
  ∀ (H' : Hp) (es' : List Ent) (c : Nat), c ≤ 24 → Keep (X.mu p) H H' → StX C ps c p H' X es' → es'.length = es.length → PotAt H' p (n + 3000) → Q .non H'
section
variable {P : Program} {w : World} {K : PySem.W.Frag} {mg : Str → Option Value} {base : Heap} {C fDg fTx fRi fBl fNo fRs : Addr}
theorem ok_mkd {dD dN dR dB dNo dRs fd : FuncData} {f : Addr} (F : Fun K "_law_marked" "_law_marked" sMkd f fd) (T : DTx K mg C fDg fTx fRi fBl fNo fRs) (FD : FnOk P w K mg base CX0 1 fDg dD ["_law_pot_here", "_law_many"] spDigit) (bD : Binds K dD ["_law_pot_here", "_law_many"] []) (FN : FnOk P w K mg base CX0 2 fTx dN ["_law_pot_here"] spText) (bN : Binds K dN ["_law_pot_here"] [])
    (FR : FnOk P w K mg base CX0 1 fRi dR ["_law_entries_here", "_law_k", "_law_j"] spRisen) (bR : Binds K dR ["_law_entries_here", "_law_k", "_law_j"] []) (FB : FnOk P w K mg base CX0 4 fBl dB ["self", "k", "j"] (spBlame C)) (bB : Binds K dB ["self", "k", "j"] []) (FNo : FnOk P w K mg base CX0 3 fNo dNo ["self", "k", "text"] (spNote C)) (bNo : Binds K dNo ["self", "k", "text"] [])
    (FRs : FnOk P w K mg base CX0 4 fRs dRs ["self", "k", "j"] (spRise C)) (bRs : Binds K dRs ["self", "k", "j"] []) : FnOk P w K mg base CX0 5 f fd ["_law_pot_here", "_law_ledger_here", "_law_entries_here"] (spMkd C) := by
  refine F.ok scMkd (fun vs H Q E h => ?_) (fun cdv A0 outer s H vs Q Es hr h => ?_)
  · obtain ⟨ps, p, X, es, n, rfl, _⟩ := h
    rfl
  · obtain ⟨ps, p, ⟨q, E, A, ms, ns, rs, mm, nn, Lf, Df, Nf⟩, es0, n, rfl, pot, hn, S0, h12, kk⟩ := h
    simp only [StX] at S0 kk
    have hr1 : Room 1 _ := hr.mono (by decide)
    have hr2 : Room 2 _ := hr.mono (by decide)
    have hr3 : Room 3 _ := hr.mono (by decide)
    refine ⟨_, pss_cons (ps_set (i := 3) scMkd.nd rfl (Or.inl rfl) (pe_callB call_len_seq (by rfl) T.len PySem.boot_len (pa_cons (pv 2) pa_nil)))
      (pss_one (ps_for PassesOwn.never rfl (pi_range1 rfl T.range (pa_cons (pe_op op_mul (pe_call FD hr1 rfl T.gD T.kD bD .nil pass0 (pa_cons (pv 0) (pa_cons (pe_op op_add (pe_op op_mul pe_int (pv 3)) pe_int) pa_nil))) (pe_callTy call_int1 (by rfl) T.int (by decide +kernel) (pa_cons (pe_cmpR op_gt (pv 3) pe_int (nomark _)) pa_nil))) pa_nil)) (pg_name (i := 4) scMkd.nd rfl (Or.inl rfl))
        (pss_cons (ps_set (i := 5) scMkd.nd rfl (Or.inl rfl) (pe_call FD hr1 rfl T.gD T.kD bD .nil pass0 (pa_cons (pv 0) (pa_cons pe_int pa_nil))))
        (pss_cons (ps_set (i := 6) scMkd.nd rfl (Or.inl rfl) (pe_call FD hr1 rfl T.gD T.kD bD .nil pass0 (pa_cons (pv 0) (pa_cons (pv 3) pa_nil))))
        (pss_cons (ps_set (i := 7) scMkd.nd rfl (Or.inl rfl) (pe_ix ix_list (pe_lst (pa_cons pe_non (pa_cons (pe_call FD hr1 rfl T.gD T.kD bD .nil pass0 (pa_cons (pv 0) (pa_cons (pv 3) pa_nil))) pa_nil))) (pe_callTy call_int1 (by rfl) T.int (by decide +kernel) (pa_cons (pe_cmpR op_gt (pe_call FD hr1 rfl T.gD T.kD bD .nil pass0 (pa_cons (pv 0) (pa_cons pe_int pa_nil))) pe_int (nomark _)) pa_nil)) (fun _ _ => rfl)))
        (pss_one (ps_if (pt_cmpR op_eq (pv 5) pe_int (nomark _))
          (pss_cons (ps_set (i := 8) scMkd.nd rfl (Or.inl rfl) (pe_call FN hr2 rfl T.gN T.kN bN .nil pass0 (pa_cons (pv 0) pa_nil)))
          (pss_cons (ps_expr (pe_meth (pv 1) T.cl T.mN FNo hr3 bNo .nil pass0 (pa_cons (pv 6) (pa_cons (pv 8) pa_nil))))
          (pss_one (ps_expr (pe_bm PySem.F.plainAttrs_list PySem.F.slot_list_append PySem.F.type_list_append mt_append (pe_ix ix_list (pe_ix ix_list (pv 2) (pv 6) (fun _ _ => rfl)) pe_int (fun _ _ => rfl)) (pa_cons (pv 8) pa_nil))))))
          (pss_one (ps_if (pt_cmpR op_eq (pv 5) pe_int (nomark _))
            (pss_cons (ps_expr (pe_meth (pv 1) T.cl T.mB FB hr bB .nil pass0 (pa_cons (pv 6) (pa_cons (pv 7) pa_nil))))
            (pss_one (ps_asg (pv 7) (pg_sub (pe_ix ix_list (pv 2) (pv 6) (fun _ _ => rfl)) pe_int set_list))))
            (pss_cons (ps_expr (pe_meth (pv 1) T.cl T.mR FRs hr bRs .nil pass0 (pa_cons (pv 6) (pa_cons (pv 7) pa_nil))))
            (pss_one (ps_expr (pe_call FR hr1 rfl T.gR T.kR bR .nil pass0 (pa_cons (pv 2) (pa_cons (pv 6) (pa_cons (pv 7) pa_nil)))))))))))))))), ?_⟩
    have lr0 : rs.length = es0.length := S0.tri.rows.len
    refine ⟨_, rfl, E, _, rfl, .inl (SqL.of S0.ent), ?_⟩
    rw [List.length_map, lr0]
    refine ⟨_, rfl, _, rfl, _, _, rfl, rfl, .inl ⟨by decide, by decide⟩, _, _, rfl, rfl, p, n, _, rfl, pot, by omega, by omega, by omega, fun dt Ht t0 t1 hkt pott => ?_⟩
    have St0 := S0.keepP pot.some (keep_of_dig hkt)
    refine ⟨_, rfl, _, _, rfl, rfl, .inr ⟨_, rfl, ?_⟩⟩
    obtain ⟨t, ht, ht24, htn⟩ : ∃ t : Nat, dt * (if (decide (0 < ((es0.length : Nat) : Int))) = true then 1 else 0) = (t : Int) ∧ t ≤ 24 ∧ (0 < t → 1 ≤ es0.length) := by
      by_cases z : 0 < ((es0.length : Nat) : Int)
      · rw [decide_eq_true z, if_pos rfl]
        exact ⟨dt.toNat, by omega, by omega, fun _ => by omega⟩
      · rw [decide_eq_false z, if_neg (by decide)]
        exact ⟨0, by omega, by omega, fun h => absurd h (Nat.lt_irrefl _)⟩
    refine ⟨_, _, rfl, rfl, .inl ⟨by omega, by omega⟩, (t : Int), ?_, by omega, by omega, ?_⟩
    · show [V.int (dt * (if (decide (0 < ((es0.length : Nat) : Int))) = true then 1 else 0))] = [V.int (t : Int)]
      rw [ht]
    rw [Int.toNat_natCast]
    let Pv : Nat → L2.St → Hp → Prop := fun j σ G => ∃ (v4 v5 v6 v7 v8 : Option V) (es : List Ent), σ = [some (.ref p), some (.ref q), some (.ref E), some (.int (es0.length : Int)), v4, v5, v6, v7, v8] ∧ St C ps j p G q E A es ms ns rs mm nn Lf Df Nf ∧ es.length = es0.length ∧ PotAt G p (n + 1 + 100 * j) ∧ Keep (Mut p A ns nn rs) H G
    refine for_range (lo := 0) (n := t) Pv ⟨none, none, none, none, none, es0, rfl, St0, rfl, pott, (keep_of_dig hkt).more fun b hb => by rw [List.mem_singleton.mp hb]; exact List.mem_cons_self⟩ ?_ ?_
    · rintro cap σ G0 hj ⟨v4, v5, v6, v7, v8, es, rfl, S, hle, potS, kS⟩
      have hn1 : 1 ≤ es0.length := htn (by omega)
      refine ⟨_, rfl, p, _, _, rfl, potS, by omega, by decide, by decide, fun wy H1 w0 w1 hk1 pot1 => ?_⟩
      have S1 := S.keepP potS.some (keep_of_dig hk1)
      refine ⟨_, rfl, _, rfl, p, _, _, rfl, pot1, by omega, by omega, by omega, fun k H2 d0 d1 hk2 pot2 => ?_⟩
      obtain ⟨k, rfl⟩ : ∃ m : Nat, k = (m : Int) := ⟨k.toNat, by omega⟩
      have hk : k < es.length := by omega
      have S2 := S1.keepP pot1.some (keep_of_dig hk2)
      refine ⟨_, rfl, _, rfl, p, _, _, rfl, pot2, by omega, by omega, by omega, fun d H3 f0 f1 hk3 pot3 => ?_⟩
      obtain ⟨d, rfl⟩ : ∃ m : Nat, d = (m : Int) := ⟨d.toNat, by omega⟩
      have S3 := S2.keepP pot2.some (keep_of_dig hk3)
      refine ⟨(by show 2 ≤ sizeLine; decide), fun a ha => ?_⟩
      have ka : Keep [] H3 (upd H3 a (.lst [.non, .int (d : Int)])) := Keep.new ha
      have ea : (upd H3 a (.lst [.non, .int (d : Int)])) a = some (.lst [.non, .int (d : Int)]) := upd_same
      obtain ⟨x3, ep3⟩ := pot3.some
      have nap : a ≠ p := Ne.symm (ne_of_none ep3 ha)
      generalize (upd H3 a (.lst [.non, .int (d : Int)])) = H4 at ka ea ⊢
      have pot4 := pot3.keep ka nin0
      have S4 := S3.keep0 ka
      refine ⟨_, rfl, p, _, 5, rfl, pot4, by omega, by decide, by decide, fun d2 G g0 g1 hk5 potG => ?_⟩
      have eaG : G a = some (.lst [.non, .int (d : Int)]) := by rw [hk5 a nap]; exact ea
      have SG := S4.keepP pot4.some (keep_of_dig hk5)
      have kG : Keep [p] G0 G := ((((keep_of_dig hk1).trans (keep_of_dig hk2)).trans (keep_of_dig hk3)).trans (ka.more fun b z => absurd z nin0)).trans (keep_of_dig hk5)
      refine ⟨_, _, rfl, rfl, .inr ⟨_, rfl, ?_⟩⟩
      obtain ⟨o, hat, ho⟩ : ∃ o : Option Nat, atI ([.non, .int (d : Int)] : List V) (if (decide (0 < d2)) = true then 1 else 0) = some (optV o) ∧ ∀ j, o = some j → j < es.length := by
        by_cases z : 0 < d2
        · rw [decide_eq_true z]
          exact ⟨some d, rfl, fun j h => by rw [← Option.some.inj h]; omega⟩
        · rw [decide_eq_false z]
          exact ⟨none, rfl, fun j h => by cases h⟩
      refine ⟨a, _, _, optV o, rfl, rfl, SqL.of eaG, hat, ?_⟩
      clear hk1 hk2 hk3 hk5 S1 S2 S3 S4 pot1 pot2 pot3 pot4 ka ea
      have fin : ∀ (v : Option V) (H' : Hp) (es' : List Ent), Keep (Mut p A ns nn rs) G0 H' → St C ps (cap + 1) p H' q E A es' ms ns rs mm nn Lf Df Nf → es'.length = es.length → PotAt H' p (n + 1 + 100 * (cap + 1)) → Pv (cap + 1) [some (.ref p), some (.ref q), some (.ref E), some (.int (es0.length : Int)), some (.int (0 + (cap : Int))), some (.int wy), some (.int (k : Int)), some (optV o), v] H' := fun v H' es' kH S' l' pot' =>
        ⟨_, _, _, _, _, es', rfl, S', by omega, pot', kS.trans kH⟩
      have lr : rs.length = es.length := S.tri.rows.len
      have isA : p ∉ A.ls := fun z => S.np (List.mem_cons_of_mem _ (List.mem_append_left _ z))
      have pns : p ∉ ns := fun z => S.np (List.mem_cons_of_mem _ (List.mem_append_right _ z))
      have sA : ∀ b, b ∈ A.ls → b ∈ Mut p A ns nn rs := fun b hb => List.mem_cons_of_mem _ (List.mem_append_left _ hb)
      have sN : ∀ b, b ∈ ns → b ∈ Mut p A ns nn rs := fun b hb => List.mem_cons_of_mem _ (List.mem_append_right _ (List.mem_append_left _ hb))
      have sNN : ∀ b, b ∈ nn → b ∈ Mut p A ns nn rs := fun b hb => List.mem_cons_of_mem _ (List.mem_append_right _ (List.mem_append_right _ (List.mem_append_left _ hb)))
      have sR : ∀ b, b ∈ rs → b ∈ Mut p A ns nn rs := fun b hb => List.mem_cons_of_mem _ (List.mem_append_right _ (List.mem_append_right _ (List.mem_append_right _ hb)))
      have sp : ∀ b, b ∈ [p] → b ∈ Mut p A ns nn rs := fun b hb => by rw [List.mem_singleton.mp hb]; exact List.mem_cons_self
      have he := List.getElem?_eq_getElem hk
      generalize es[k] = e at he
      have hem := List.mem_of_getElem? he
      obtain ⟨⟨s1, s2, s3, s4, s5, s6, s7, s8⟩, sc, sk⟩ := S.sm e hem
      have same : ∀ {e' : Ent}, SmC ps es.length (cap + 1) e' → ∀ f ∈ es.set k e', SmC ps (es.set k e').length (cap + 1) f := fun {e'} h f hf => by
        rw [List.length_set]
        rcases set_mem hf with z | z
        · exact ⟨(S.sm f z).1, Nat.le_succ_of_le (S.sm f z).2.1, (S.sm f z).2.2⟩
        · rw [z]; exact h
      refine ⟨_, rfl, rfl, _, rfl, ?_⟩
      refine ite2 (fun _ => ?_) (fun _ => ?_)
      · -- note
        refine ⟨_, rfl, p, _, rfl, potG, by omega, fun t G3 ht k3 pot5 => ?_⟩
        have S3 := SG.keepP potG.some k3
        have hkl : k < ns.length := by rw [S.led.notes.len]; exact hk
        have hnk := List.getElem?_eq_getElem hkl
        generalize ns[k] = l at hnk
        have hlm := List.mem_of_getElem? hnk
        refine ⟨_, rfl, q, A.dx, _, rfl, S3.led.ins, fln A, _, rfl, _, rfl, q, A, ms, ns, es, k, e, l, t, rfl, S3.led, he, hnk, by omega, fun G4 k4 led4 => ?_⟩
        have nl : (e.notes ++ [t]).length ≤ cap + 1 := by rw [List.length_append]; show e.notes.length + 1 ≤ cap + 1; omega
        have tri4 := S3.tri.keep (k4.more fun b hb => by rw [List.mem_singleton.mp hb]; exact List.mem_cons_of_mem _ (List.mem_cons_of_mem _ (List.mem_append_right _ hlm)))
        have nEl : E ≠ l := fun z => S.nE (by rw [z]; exact List.mem_append_right _ hlm)
        have ent4 := k4.at S3.ent (nin1 nEl)
        obtain ⟨r, m, nk, q1, q2, q3, b1, b2, b3, g4, g5, g6⟩ := tri4.at he
        have hnn : nk ∈ nn := List.mem_of_getElem? q3
        refine ⟨_, rfl, _, rfl, E, _, _, V.ref r, rfl, rfl, SqL.of ent4, atI_nat (by rw [List.getElem?_map, q1]; rfl), r, _, _, V.ref nk, rfl, rfl, SqL.of g4, rfl, .inl ⟨rfl, _, SqL.of g6⟩, _, rfl, nk, _, _, rfl, rfl, g6, Nat.lt_of_le_of_lt (by rw [List.length_map]; omega : (e.notes.map V.str).length ≤ 1000) (by decide), ?_⟩
        rw [show e.notes.map V.str ++ [V.str t] = (e.notes ++ [t]).map V.str by rw [List.map_append]; rfl]
        have kn : Keep [nk] G4 (upd G4 nk (.lst ((e.notes ++ [t]).map V.str))) := Keep.own in1
        obtain ⟨sp1, sp2, sp3⟩ := List.nodup_append.mp S.sep
        have tri5 := TriAt.note (e.notes ++ [t]) g6 tri4 sp2 (fun z => sp3 nk z nk hnn rfl) q3 he
        have led5 := led4.keep kn (fun b hb => by
          rw [List.mem_singleton.mp hb]
          exact fun z => b3 (List.mem_cons_of_mem _ (List.mem_cons_of_mem _ z))) (fun b hb => by rw [List.mem_singleton.mp hb]; exact ⟨_, g6⟩)
        have nEn : E ≠ nk := fun z => b3 (by rw [← z]; exact List.mem_cons_of_mem _ List.mem_cons_self)
        have npn : p ≠ nk := fun z => b3 (by rw [← z]; exact List.mem_cons_self)
        have npl : p ≠ l := fun z => pns (by rw [z]; exact hlm)
        refine fin _ _ _ (((kG.more sp).trans (k3.more sp)).trans ((k4.more fun b hb => by rw [List.mem_singleton.mp hb]; exact sN l hlm).trans (kn.more fun b hb => by rw [List.mem_singleton.mp hb]; exact sNN nk hnn)))
          ⟨led5, kn.at ent4 (nin1 nEn), tri5, S.rnd, S.sep, S.tree.congr (map_put (e := e) (e' := noteE e (e.notes ++ [t])) Ent.mem he rfl).symm, same ⟨⟨s1, s2, s3, s4, s5, ⟨by show (e.notes ++ [t]).length ≤ 60; omega, fun y hy => ?_⟩, s7, s8⟩, nl, sk⟩, S.row.put he rfl, S.nE, S.np⟩ (List.length_set ..) (((pot5.keep k4 (nin1 npl)).keep kn (nin1 npn)).le (by omega))
        rcases List.mem_append.mp hy with z | z
        · exact s6.2 y z
        · rw [List.mem_singleton.mp z]; exact ht
      · refine ⟨_, rfl, rfl, _, rfl, ?_⟩
        refine ite2 (fun _ => ?_) (fun _ => ?_)
        · -- blame
          refine ⟨_, rfl, q, A.dx, _, rfl, SG.led.ins, flb A, _, rfl, _, rfl, q, A, ms, ns, es, k, e, o, rfl, SG.led, he, ho, fun G6 k6 led6 => ?_⟩
          have l5 : ∀ b, b ∈ [A.l5] → b ∈ A.ls := fun b hb => by rw [List.mem_singleton.mp hb]; simp [LA.ls]
          have tri6 := SG.tri.keep (k6.more fun b hb => List.mem_cons_of_mem _ (List.mem_cons_of_mem _ (List.mem_append_left _ (l5 b hb))))
          have ent6 := k6.at SG.ent (fun z => S.nE (List.mem_append_left _ (l5 E z)))
          obtain ⟨r, m, nk, q1, q2, q3, b1, b2, b3, g4, g5, g6⟩ := tri6.at he
          have hr' : r ∈ rs := List.mem_of_getElem? q1
          refine ⟨_, rfl, _, rfl, _, rfl, E, _, _, V.ref r, rfl, rfl, SqL.of ent6, atI_nat (by rw [List.getElem?_map, q1]; rfl), r, _, _, 4, rfl, rfl, g4, rfl, ?_⟩
          have kr : Keep [r] G6 (upd G6 r (.lst (rowL e.kind e.text m nk (optV o) (optV e.atw)))) := Keep.own in1
          have tri7 : TriAt (p :: E :: (A.ls ++ ns)) (upd G6 r (.lst (rowL e.kind e.text m nk (optV o) (optV e.atw)))) rs mm nn (es.set k (byE e o)) := TriAt.sets (e := e) (e' := byE e o) rfl rfl rfl rfl g4 tri6 S.rnd q1 q2 q3 he
          have nEr : E ≠ r := fun z => b1 (by rw [← z]; exact List.mem_cons_of_mem _ List.mem_cons_self)
          have npr : p ≠ r := fun z => b1 (by rw [← z]; exact List.mem_cons_self)
          have led7 := led6.keep kr (fun b hb => by
            rw [List.mem_singleton.mp hb]
            exact fun z => b1 (List.mem_cons_of_mem _ (List.mem_cons_of_mem _ z))) (fun b hb => by rw [List.mem_singleton.mp hb]; exact ⟨_, g4⟩)
          exact fin _ _ _ (((kG.more sp).trans (k6.more fun b hb => sA b (l5 b hb))).trans (kr.more fun b hb => by rw [List.mem_singleton.mp hb]; exact sR r hr'))
            ⟨led7, kr.at ent6 (nin1 nEr), tri7, S.rnd, S.sep, S.tree.congr (map_put (e := e) (e' := byE e o) Ent.mem he rfl).symm, same ⟨⟨s1, s2, s3, s4, s5, s6, ho, s8⟩, Nat.le_succ_of_le sc, sk⟩, S.row.put he rfl, S.nE, S.np⟩ (List.length_set ..) (((potG.keep k6 (fun z => isA (l5 p z))).keep kr (nin1 npr)).le (by omega))
        · -- rise
          refine ⟨_, rfl, q, A.dx, _, rfl, SG.led.ins, flr A, _, rfl, _, rfl, q, A, ms, ns, es, k, o, rfl, SG.led, hk, ho, S.row, fun G6 es1 ris k6 led6 => ?_⟩
          have l6 : ∀ b, b ∈ [A.l6] → b ∈ A.ls := fun b hb => by rw [List.mem_singleton.mp hb]; simp [LA.ls]
          have tri6 := SG.tri.keep (k6.more fun b hb => List.mem_cons_of_mem _ (List.mem_cons_of_mem _ (List.mem_append_left _ (l6 b hb))))
          have ent6 := k6.at SG.ent (fun z => S.nE (List.mem_append_left _ (l6 E z)))
          refine ⟨_, rfl, _, rfl, _, rfl, E, k, o, _, rs, mm, nn, es, rfl, ent6, tri6, S.rnd, hk, ho, by omega, S.row, fun G7 es2 ris2 k7 tri7 => ?_⟩
          have e21 : es2 = es1 := ris2.one ris
          subst e21
          have out : ∀ b ∈ rs, b ∉ p :: E :: (A.ls ++ ns) := fun b hb => tri6.nbad b (List.mem_append_left _ hb)
          have led7 := led6.keep k7 (fun b hb z => out b hb (List.mem_cons_of_mem _ (List.mem_cons_of_mem _ z))) (fun b hb => tri6.is b (List.mem_append_left _ hb))
          have ent7 := k7.at ent6 (fun z => out E z (List.mem_cons_of_mem _ List.mem_cons_self))
          have len2 := ris2.len
          have sm2 : ∀ e ∈ es2, SmC ps es.length (cap + 1) e := Risen.all (p := SmC ps es.length (cap + 1)) ris2 (fun e j he hj => ⟨⟨he.1.1, he.1.2.1, he.1.2.2.1, he.1.2.2.2.1, he.1.2.2.2.2.1, he.1.2.2.2.2.2.1, he.1.2.2.2.2.2.2.1, fun y hy => by rw [← Option.some.inj hy]; exact ho j hj⟩, he.2⟩)
            (fun e he => ⟨⟨he.1.1, he.1.2.1, he.1.2.2.1, he.1.2.2.2.1, he.1.2.2.2.2.1, he.1.2.2.2.2.2.1, he.1.2.2.2.2.2.2.1, fun y hy => by cases hy⟩, he.2⟩) fun f hf => ⟨(S.sm f hf).1, Nat.le_succ_of_le (S.sm f hf).2.1, (S.sm f hf).2.2⟩
          exact fin _ _ _ (((kG.more sp).trans (k6.more fun b hb => sA b (l6 b hb))).trans (k7.more sR))
            ⟨led7, ent7, tri7, S.rnd, S.sep, S.tree.congr ris2.mems.symm, fun e he => by rw [len2]; exact sm2 e he, ris2.row S.row ho, S.nE, S.np⟩ len2 (((potG.keep k6 (fun z => isA (l6 p z))).keep k7 (fun z => out p z List.mem_cons_self)).le (by omega))
    · rintro σ G ⟨v4, v5, v6, v7, v8, es, rfl, S, hle, potS, kS⟩
      exact kk G es t ht24 kS S hle (potS.le (by omega))
end
end Fs
/-! One fault more. -/
namespace Fs
open PySem L2 TL
theorem Row.snoc {es : List Ent} (R : Row es) {e : Ent} (h : ∀ y, e.atw = some y → y < es.length) : Row (es ++ [e]) := by
  obtain ⟨r, hr⟩ := R.fell
  have split : ∀ (i : Nat) (f : Ent), (es ++ [e])[i]? = some f → (i < es.length ∧ es[i]? = some f) ∨ (i = es.length ∧ f = e) := fun i f q => by
    by_cases hi : i < es.length
    · rw [List.getElem?_append_left hi] at q
      exact .inl ⟨hi, q⟩
    · rw [List.getElem?_append_right (by omega)] at q
      have hl : i - es.length < 1 := (List.getElem?_eq_some_iff.mp q).1
      have hi2 : i = es.length := by omega
      rw [hi2, Nat.sub_self] at q
      exact .inr ⟨hi2, (Option.some.inj q).symm⟩
  refine ⟨⟨fun i => if i = es.length then (match e.atw with | some y => r y + 1 | none => 0) else r i, fun x f y q a => ?_⟩, fun x f y q a => ?_⟩
  · show (if y = es.length then _ else r y) < (if x = es.length then _ else r x)
    rcases split x f q with ⟨hi, q⟩ | ⟨rfl, rfl⟩
    · have hy := R.there x f y q a
      rw [if_neg (by omega), if_neg (by omega)]
      exact hr x f y q a
    · have hy := h y a
      rw [if_neg (by omega), if_pos rfl, a]
      exact Nat.lt_succ_self _
  · rw [List.length_append]
    show y < es.length + 1
    rcases split x f q with ⟨hi, q⟩ | ⟨rfl, rfl⟩
    · exact Nat.lt_succ_of_lt (R.there x f y q a)
    · exact Nat.lt_succ_of_lt (h y a)
/-- one fault more, in the ledger and in the law's rows -/
theorem st_grow {C : Addr} {ps : List (Str × Str)} {cap : Nat} {p : Addr} {G0 G7 : Hp} {q E : Addr} {A : LA} {es : List Ent} {ms ns rs mm nn : List Addr} {Lf Df Nf : Nat → Nat} {e : Ent} {t' n' r' B l2 : Addr} {a d : Nat} (S : St C ps cap p G0 q E A es ms ns rs mm nn Lf Df Nf)
    (hb : ∀ m ∈ e.mem, m < es.length) (ha : a = (if e.mem = [] then 1 else (e.mem.map Lf).sum)) (h60 : a ≤ 60) (hd : d ≤ 12) (hd0 : e.mem = [] → d = 0) (hd1 : ∀ m ∈ e.mem, Df m + 1 ≤ d) (hd2 : e.mem ≠ [] → ∃ m ∈ e.mem, d = Df m + 1) (hs : SmC ps es.length cap e)
    (k : Keep (p :: E :: A.ls) G0 G7) (hp : ∃ xs, G0 p = some (.lst xs)) (led7 : LedAt C G7 q A (ms ++ [t']) (ns ++ [n']) (es ++ [e])) (e7 : G7 E = some (.lst ((rs ++ [r']).map V.ref)))
    (er7 : G7 r' = some (.lst [.str e.kind, .str e.text, .ref B, .ref l2, optV e.cause, optV e.atw])) (eB7 : G7 B = some (.lst (memV e.mem))) (el7 : G7 l2 = some (.lst (e.notes.map V.str)))
    (hB0 : G0 B = none) (hr0 : G0 r' = none) (hl0 : G0 l2 = none) (hn0 : G0 n' = none) (nBl : B ≠ l2) (x1 : B ≠ n') (x2 : r' ≠ n') (x3 : l2 ≠ n') :
    St C ps cap p G7 q E A (es ++ [e]) (ms ++ [t']) (ns ++ [n']) (rs ++ [r']) (mm ++ [B]) (nn ++ [l2]) (put Lf es.length a) (put Df es.length d) (put Nf es.length (if e.mem = [] then 1 else 1 + (e.mem.map Nf).sum)) := by
  obtain ⟨px, hp⟩ := hp
  have isA : ∀ b, G0 b = none → b ≠ n' → b ∉ p :: E :: (A.ls ++ (ns ++ [n'])) := fun b hb nb z => by
    rcases List.mem_cons.mp z with z | z
    · rw [z, hp] at hb; cases hb
    rcases List.mem_cons.mp z with z | z
    · rw [z, S.ent] at hb; cases hb
    · rcases List.mem_append.mp z with z | z
      · obtain ⟨xs, q⟩ := S.led.isl b z
        rw [q] at hb; cases hb
      · rcases List.mem_append.mp z with z | z
        · obtain ⟨xs, q⟩ := S.led.notes.is b z
          rw [q] at hb; cases hb
        · exact nb (List.mem_singleton.mp z)
  have out : ∀ b, G0 b = none → b ∉ rs ++ (mm ++ nn) := fun b hb z => by
    obtain ⟨xs, e⟩ := S.tri.is b z
    rw [e] at hb; cases hb
  have tri7 : TriAt (p :: E :: (A.ls ++ (ns ++ [n']))) G7 rs mm nn es := by
    have h1 : TriAt (n' :: p :: E :: (A.ls ++ ns)) G7 rs mm nn es := (S.tri.more (fun xs z => by rw [hn0] at z; cases z)).keep (k.more fun b hb => by
      simp only [List.mem_cons, List.mem_append] at hb ⊢
      rcases hb with z | z | z <;> simp [z])
    exact h1.less fun b hb => by
      simp only [List.mem_cons, List.mem_append, List.not_mem_nil, or_false] at hb ⊢
      rcases hb with z | z | z | z | z <;> simp [z]
  refine ⟨led7, e7, TriAt.snoc ⟨isA r' hr0 x2, isA B hB0 x1, isA l2 hl0 x3, er7, eB7, el7⟩ tri7, ?_, two_more S.sep (fun z => out B hB0 (List.mem_append_right _ z)) (fun z => out l2 hl0 (List.mem_append_right _ z)) nBl, S.tree.snoc hb ha h60 hd hd0 hd1 hd2, fun f hf => ?_, S.row.snoc hs.1.2.2.2.2.2.2.2, fun z => ?_, fun z => ?_⟩
  · refine List.nodup_append.mpr ⟨S.rnd, by simp, fun a ha b hb z => out r' hr0 (List.mem_append_left _ ?_)⟩
    rw [← List.mem_singleton.mp hb, ← z]; exact ha
  · have l1 : es.length ≤ (es ++ [e]).length := by rw [List.length_append]; exact Nat.le_add_right _ _
    rcases List.mem_append.mp hf with z | z
    · exact ⟨(S.sm f z).1.le l1, (S.sm f z).2⟩
    · rw [List.mem_singleton.mp z]
      exact ⟨hs.1.le l1, hs.2⟩
  · rcases List.mem_append.mp z with z | z
    · exact S.nE (List.mem_append_left _ z)
    · rcases List.mem_append.mp z with z | z
      · exact S.nE (List.mem_append_right _ z)
      · rw [← List.mem_singleton.mp z, S.ent] at hn0; cases hn0
  · rcases List.mem_cons.mp z with z | z
    · exact S.np (by rw [z]; exact List.mem_cons_self)
    · rcases List.mem_append.mp z with z | z
      · exact S.np (List.mem_cons_of_mem _ (List.mem_append_left _ z))
      · rcases List.mem_append.mp z with z | z
        · exact S.np (List.mem_cons_of_mem _ (List.mem_append_right _ z))
        · rw [← List.mem_singleton.mp z, hp] at hn0; cases hn0
end Fs
/-! Whether a thing is a whole number; where a way leads. -/
namespace Fs
open PySem L2 TL
/-- a thing of one of these six types -/
def Six (K : PySem.W.Frag) (H : Hp) (v : V) (t : String) : Prop := TyX K H v (.type t) ∧ (t = "int" ∨ t = "bool" ∨ t = "str" ∨ t = "NoneType" ∨ t = "tuple" ∨ t = "list")
def spWholeG (K : PySem.W.Frag) : Sp := fun vs H Q _ => ∃ (v : V) (t : String), vs = [v] ∧ Six K H v t ∧ Q (.bl (decide (t = "int"))) H
section
variable {P : Program} {w : World} {K : PySem.W.Frag} {mg : Str → Option Value} {base : Heap}
theorem ok_wholeG {f : Addr} {fd : FuncData} (F : Fun K "is_whole" "is_whole" sWhole f fd) (mI : mg "isinstance" = none) (mT : mg "int" = none) (mB : mg "bool" = none) : FnOk P w K mg base CX0 1 f fd ["thing"] (spWholeG K) := by
  refine F.ok scWhole (fun vs H Q E h => ?_) (fun cdv A outer s H vs Q E hr h => ?_)
  · obtain ⟨v, t, rfl, _⟩ := h
    rfl
  · obtain ⟨v, t, rfl, ⟨ty, ht⟩, kk⟩ := h
    refine ⟨_, pss_one (ps_ret (pe_and (pe_callB call_isi (by rfl) mI (by decide +kernel) (pa_cons (pv 0) (pa_cons (pe_bltn (v := .ty "int") (u := .type "int") (by rfl) mT (by decide +kernel) rfl) pa_nil)))
      (pe_one (pe_not (pe_callB call_isi (by rfl) mI (by decide +kernel) (pa_cons (pv 0) (pa_cons (pe_bltn (v := .ty "bool") (u := .type "bool") (by rfl) mB (by decide +kernel) rfl) pa_nil))))))), ?_⟩
    rcases ht with rfl | rfl | rfl | rfl | rfl | rfl
    · refine ⟨_, rfl, _, _, _, _, _, rfl, .ty "int", ty, kit_ty (r := true) (by decide +kernel), true, rfl, iteT ?_⟩
      exact ⟨_, rfl, _, _, _, _, _, rfl, .ty "bool", ty, kit_ty (r := false) (by decide +kernel), false, rfl, kk⟩
    · refine ⟨_, rfl, _, _, _, _, _, rfl, .ty "int", ty, kit_ty (r := true) (by decide +kernel), true, rfl, iteT ?_⟩
      exact ⟨_, rfl, _, _, _, _, _, rfl, .ty "bool", ty, kit_ty (r := true) (by decide +kernel), true, rfl, kk⟩
    · exact ⟨_, rfl, _, _, _, _, _, rfl, .ty "int", ty, kit_ty (r := false) (by decide +kernel), false, rfl, iteF kk⟩
    · exact ⟨_, rfl, _, _, _, _, _, rfl, .ty "int", ty, kit_ty (r := false) (by decide +kernel), false, rfl, iteF kk⟩
    · exact ⟨_, rfl, _, _, _, _, _, rfl, .ty "int", ty, kit_ty (r := false) (by decide +kernel), false, rfl, iteF kk⟩
    · exact ⟨_, rfl, _, _, _, _, _, rfl, .ty "int", ty, kit_ty (r := false) (by decide +kernel), false, rfl, iteF kk⟩
end
/-- a place in a way -/
inductive Pl where
  | int (i : Int)
  | odd
def plOk (K : PySem.W.Frag) (H : Hp) (v : V) : Pl → Prop
  | .int i => v = .int i
  | .odd => ∃ t, Six K H v t ∧ t ≠ "int"
/-- one step -/
def stp (es : List Ent) (n : Nat) : Pl → Option Nat
  | .int i => if 0 ≤ i ∧ i < ((es.getD n ⟨sF, sF, [], [], none, none⟩).mem.length : Int) then (es.getD n ⟨sF, sF, [], [], none, none⟩).mem[i.toNat]? else none
  | .odd => none
def goes (es : List Ent) : Nat → List Pl → Option Nat
  | n, [] => some n
  | n, p :: r => match stp es n p with
    | some m => goes es m r
    | none => none
end Fs
/-! Where a way leads, by the program. -/
namespace Fs
open PySem L2 TL
abbrev sLed : Stmt := inClass cLed 15
abbrev nLed : List Str := ["self", "k", "way", "number", "place", "members"]
theorem scLed : FnScope nLed ["self", "k", "way"] (defScope sLed) := ⟨rfl, rfl, rfl, by decide +kernel, rfl, by decide +kernel, by decide +kernel⟩
structure NWx (K : PySem.W.Frag) (mg : Str → Option Value) (CN : Addr) : Prop where
  gN : mg "NoWay" = some (.ref CN)
  xN : PySem.W.excIn K CN [.type "ValueError", .type "Exception", .type "BaseException", .type "object"] "ValueError.__new__" = true
  kN : PySem.W.keepIn K (.ref CN) = true
  bN : PySem.W.subIn K (.ref CN) (.type "BaseException") = some true
  tN : PySem.W.typeIn K (.ref CN) = some (.type "type")
def PlsOk (K : PySem.W.Frag) (H : Hp) : List V → List Pl → Prop
  | [], [] => True
  | v :: vs, p :: ps => plOk K H v p ∧ PlsOk K H vs ps
  | _, _ => False
theorem PlsOk.len {K : PySem.W.Frag} {H : Hp} : ∀ {vs : List V} {ps : List Pl}, PlsOk K H vs ps → vs.length = ps.length
  | [], [], _ => rfl
  | _ :: _, _ :: _, h => by rw [List.length_cons, List.length_cons, PlsOk.len h.2]
  | [], _ :: _, h => h.elim
  | _ :: _, [], h => h.elim
theorem PlsOk.at {K : PySem.W.Frag} {H : Hp} : ∀ {vs : List V} {ps : List Pl} {i : Nat} {v : V}, PlsOk K H vs ps → vs[i]? = some v → ∃ p, ps[i]? = some p ∧ plOk K H v p
  | [], _, _, _, _, e => by simp at e
  | _ :: _, [], _, _, h, _ => h.elim
  | a :: vs, p :: ps, 0, v, h, e => by
    have e' : a = v := by simpa using e
    subst e'
    exact ⟨p, rfl, h.1⟩
  | a :: vs, p :: ps, i + 1, v, h, e => PlsOk.at (i := i) h.2 (by simpa using e)
theorem goes_drop {es : List Ent} {n : Nat} {ps : List Pl} {i : Nat} {p : Pl} (h : ps[i]? = some p) : goes es n (ps.drop i) = match stp es n p with
    | some m => goes es m (ps.drop (i + 1))
    | none => none := by
  have hi := (List.getElem?_eq_some_iff.mp h).1
  rw [List.drop_eq_getElem_cons hi, (List.getElem?_eq_some_iff.mp h).2]
  rfl
def spLed (K : PySem.W.Frag) (C CN : Addr) : Sp := fun vs H Q E => ∃ (p : Addr) (A : LA) (ms ns : List Addr) (es : List Ent) (k : Nat) (W : V), vs = [.ref p, .int (k : Int), W] ∧ LedAt C H p A ms ns es ∧ k < es.length ∧ (∀ e ∈ es, ∀ m ∈ e.mem, m < es.length) ∧ (∀ e ∈ es, e.mem.length ≤ 6) ∧
  ((∃ (a : Addr) (ys : List V) (ps : List Pl), W = .ref a ∧ H a = some (.tup ys) ∧ PlsOk K H ys ps ∧ (∀ n, n < es.length → goes es k ps = some n → Q (.int (n : Int)) H) ∧ (goes es k ps = none → E (.ref CN) none H)) ∨ (∃ t, Six K H W t ∧ t ≠ "tuple" ∧ E (.ref CN) none H))
section
variable {P : Program} {w : World} {K : PySem.W.Frag} {mg : Str → Option Value} {base : Heap} {C CN fA fCF fCT fCM fW : Addr}
theorem ok_led {f : Addr} {fd fdF fdW : FuncData} (F : Fun K "led" "Ledger.led" sLed f fd) (T : LTxt K mg C fA fCF fCT fCM) (N : NWx K mg CN) (FF : FnOk P w K mg base CX0 2 fCF fdF ["self", "k"] (spChkF C)) (bF : Binds K fdF ["self", "k"] []) (FW : FnOk P w K mg base CX0 1 fW fdW ["thing"] (spWholeG K)) (mW : mg "is_whole" = some (.ref fW)) (kW : PySem.W.keepIn K (.ref fW) = true) (bW : Binds K fdW ["thing"] []) (mI : mg "isinstance" = none) :
    FnOk P w K mg base (L2.CX P w) 3 f fd ["self", "k", "way"] (spLed K C CN) := by
  refine F.okX scLed (fun vs H Q E h => ?_) (fun cdv A0 outer s H vs Q E hr h => ?_)
  · obtain ⟨p, A, ms, ns, es, k, W, rfl, _⟩ := h
    rfl
  · obtain ⟨p, A, ms, ns, es, k, W, rfl, hL, hk, inn, six, hW⟩ := h
    have hr1 : Room 1 _ := hr.mono (by decide)
    refine ⟨_, pss_cons (ps_expr (pe_meth (pv 0) T.cl T.mF FF hr bF .nil pass0 (pa_cons (pv 1) pa_nil)))
      (pss_cons (ps_if (pt_not (pt_val (pe_callB call_isi (by rfl) mI (by decide +kernel) (pa_cons (pv 2) (pa_cons (pe_bltn (v := .ty "tuple") (u := .type "tuple") (by rfl) T.tup (by decide +kernel) rfl) pa_nil))))) (pss_one (ps_raise rfl (takes_of rfl rfl rfl rfl) (pmk_own PySem.F.excBase_ValueError N.xN N.gN N.kN (raises_own N.bN N.tN) (by exact rfl)))) pss_nil)
      (pss_cons (ps_set (i := 3) scLed.nd rfl (Or.inl rfl) (pv 1))
      (pss_cons (ps_for (passes_of rfl) rfl (pi_tup (pv 2)) (pg_name (i := 4) scLed.nd rfl (Or.inl rfl))
        (pss_cons (ps_set (i := 5) scLed.nd rfl (Or.inl rfl) (pe_ix ix_list (pe_fld (pv 0) rfl) (pv 3) (fun _ _ => rfl)))
        (pss_cons (ps_if (PW.pt (pw_or (pt_not (pt_val (pe_call FW hr1 rfl mW kW bW .nil pass0 (pa_cons (pv 4) pa_nil)))) (pw_or1 (pt_not (pt_chain op_le op_lt pe_int (pv 4) (pe_callB call_len_seq (by rfl) T.len PySem.boot_len (pa_cons (pv 5) pa_nil))))))) (pss_one (ps_raise rfl (takes_of rfl rfl rfl rfl) (pmk_own PySem.F.excBase_ValueError N.xN N.gN N.kN (raises_own N.bN N.tN) (by exact rfl)))) pss_nil)
        (pss_one (ps_set (i := 3) scLed.nd rfl (Or.inl rfl) (pe_ix ix_tup (pv 5) (pv 4) (fun _ _ => rfl)))))))
      (pss_one (ps_ret (pv 3)))))), ?_⟩
    refine ⟨_, rfl, p, A.dx, _, rfl, hL.ins, flno A, _, rfl, p, A, ms, ns, es, k, rfl, hL, hk, ?_⟩
    rcases hW with ⟨a, ys, ps, rfl, ea, pk, kq, ke⟩ | ⟨t, ⟨ty, ht⟩, hne, ke⟩
    · refine ⟨_, rfl, _, _, _, _, _, rfl, .ty "tuple", .base (.tup ea), kit_ty (r := true) (by decide +kernel), true, rfl, iteF ?_⟩
      refine ⟨_, rfl, ?_⟩
      refine ⟨_, rfl, a, rfl, ⟨_, SqT.of ea⟩, ?_⟩
      refine for_tup (K := K) (a := a) (xs := ys) (fun i σ H' => H' = H ∧ ∃ (n : Nat) (v4 v5 : Option V), σ = [some (.ref p), some (.int (k : Int)), some (.ref a), some (.int (n : Int)), v4, v5] ∧ n < es.length ∧ goes es n (ps.drop i) = goes es k ps)
        ⟨rfl, k, none, none, rfl, hk, rfl⟩ (fun i σ H' _ hI => by rw [hI.1]; exact SqT.of ea) ?_ ?_
      · rintro i v σ H' hv ⟨rfl, n, v4, v5, rfl, hn, hg⟩
        obtain ⟨pl, hpl, ok⟩ := pk.at hv
        rw [goes_drop hpl] at hg
        have he := List.getElem?_eq_getElem hn
        generalize hee : es[n] = e at he
        have hgd : es.getD n ⟨sF, sF, [], [], none, none⟩ = e := by rw [List.getD_eq_getElem?_getD, he]; rfl
        have hem := List.mem_of_getElem? he
        obtain ⟨mm, hq, g5⟩ := hL.mems.at he
        refine ⟨_, rfl, p, C, A.dx, _, _, rfl, hL.ins, T.cl, T.n3, fl3 A, _, rfl, A.l3, _, _, V.ref mm, rfl, rfl, SqL.of hL.h3, atI_nat (by rw [List.getElem?_map, hq]; rfl), ?_⟩
        cases pl with
        | odd =>
          obtain ⟨t, s6, hti⟩ := ok
          refine ⟨_, rfl, v, t, rfl, s6, false, by rw [decide_eq_false hti], iteT ?_⟩
          exact ke hg.symm
        | int j =>
          have ev : v = .int j := ok
          subst ev
          refine ⟨_, rfl, .int j, "int", rfl, ⟨.base (.int j), .inl rfl⟩, true, rfl, iteF ?_⟩
          refine ⟨_, rfl, _, _, rfl, rfl, _, rfl, ?_⟩
          by_cases h0 : 0 ≤ j
          · rw [decide_eq_true h0]
            refine iteT ⟨_, rfl, mm, _, rfl, .inr (SqT.of g5), _, _, rfl, rfl, _, rfl, ?_⟩
            rw [List.length_map]
            by_cases h1 : j < (e.mem.length : Int)
            · rw [decide_eq_true h1]
              refine iteF ?_
              have hjl : j.toNat < e.mem.length := by omega
              have hm := List.getElem?_eq_getElem hjl
              generalize e.mem[j.toNat] = m at hm
              have hst : stp es n (.int j) = some m := by
                simp only [stp, hgd]
                rw [if_pos ⟨h0, h1⟩, hm]
              rw [hst] at hg
              have hj : ((j.toNat : Nat) : Int) = j := Int.toNat_of_nonneg h0
              exact ⟨_, rfl, _, rfl, mm, _, j, V.int (m : Int), rfl, rfl, SqT.of g5, by rw [← hj]; exact atI_nat (by rw [List.getElem?_map, hm]; rfl), rfl, m, _, _, rfl, inn e hem m (List.mem_of_getElem? hm), hg⟩
            · rw [decide_eq_false h1]
              refine iteT ?_
              have hst : stp es n (.int j) = none := by
                simp only [stp, hgd]
                rw [if_neg (fun z => h1 z.2)]
              rw [hst] at hg
              exact ke hg.symm
          · rw [decide_eq_false h0]
            have hst : stp es n (.int j) = none := by
              simp only [stp]
              rw [if_neg (fun z => h0 z.1)]
            rw [hst] at hg
            exact iteF ⟨false, rfl, iteT (ke hg.symm)⟩
      · rintro σ H' ⟨rfl, n, v4, v5, rfl, hn, hg⟩
        have el : ps.drop ys.length = [] := by rw [pk.len]; exact List.drop_length
        rw [el] at hg
        exact ⟨_, rfl, kq n hn hg.symm⟩
    · have kf : PySem.W.kitOne K (.type t) (.type "tuple") = some false := by
        rcases ht with rfl | rfl | rfl | rfl | rfl | rfl
        · exact kit_ty (by decide +kernel)
        · exact kit_ty (by decide +kernel)
        · exact kit_ty (by decide +kernel)
        · exact kit_ty (by decide +kernel)
        · exact absurd rfl hne
        · exact kit_ty (by decide +kernel)
      exact ⟨_, rfl, _, _, _, _, _, rfl, .ty "tuple", ty, kf, false, rfl, iteT ke⟩
end
end Fs
/-! A def that an except suite hands its caught error. -/
namespace Fs
open PySem L2 TL PySem.Spec PyProof.Rows
/-- told: where the error stands, its class, its dict -/
abbrev SpE := Addr → Value → Option Addr → Sp
structure FnE (P : Program) (w : World) (K : PySem.W.Frag) (mg : Str → Option Value) (base : Heap) (k : Nat) (f : Addr) (fd : FuncData) (ps : List Str) (sp : SpE) : Prop where
  many : ∀ a cls d vs H Q E, sp a cls d vs H Q E → vs.length = ps.length
  go : ∀ (A : Around) (outer : List Env) (s : Shared) (H : Hp) (us : List Value) (vs : List V) (Q : VK) (E : XK) (a : Addr) (oe : Obj) (cls : Value) (d : Option Addr), L2H.RoomH k A → Zc cls d oe → (∃ xs, oe.data = .fields xs) → L2H.PinOk outer H s (a, oe) → Env0 P w K mg base A outer s H →
    BindsTo s fd ⟨us, []⟩ (ps.zip us) → Vals vs us → sp a cls d vs H Q E → codeAny (model P w) A (.call (.ref f) ⟨us, []⟩) (CR CX0 outer P w H s Q E) s
section
variable {P : Program} {w : World} {K : PySem.W.Frag} {mg : Str → Option Value} {base : Heap}
theorem okE {x q : Str} {st : Stmt} {f : Addr} {fd : FuncData} {N ps : List Str} {k : Nat} {sp : SpE} (F : Fun K x q st f fd) (S : FnScope N ps (defScope st)) (len : ∀ a cls d vs H Q E, sp a cls d vs H Q E → vs.length = ps.length)
    (body : ∀ (cdv : Value) (A : Around) (outer : List Env) (s : Shared) (H : Hp) (vs : List V) (Q : VK) (E : XK) (a : Addr) (oe : Obj) (cls : Value) (d : Option Addr), L2H.RoomH k (A.deeper (PyProof.Rows.envOfC q (defScope st) s.heap.objs.size f cdv)) → Zc cls d oe → (∃ xs, oe.data = .fields xs) → sp a cls d vs H Q E →
      ∃ t, PSs (L2H.cxH CX0 P w K mg base N q (defScope st) f cdv A outer s H E (a, oe)).nox (defBody st) t ∧ t { nx := fun _ H' => Q .non H', rt := Q } (L2.start N vs) H) : FnE P w K mg base (k + 1) f fd ps sp := by
  obtain ⟨oc, od, kV, doc, pm, an, cdv, ct, osl, rfl, lk, hcd⟩ := F.ex
  refine ⟨len, fun A outer s H us vs Q E a oe cls d hr hz hf hp e0 bd rv hsp => ?_⟩
  have now : K.In s.heap := e0.mod.kin.keeps fun b o e => (e0.bs b o e).1
  have hl := len _ _ _ _ _ _ _ hsp
  refine codeAny_call_function hr.depth (now f _ lk) rfl S.co S.gen rfl (PySem.W.codeRec_of now hcd) (bd _ _ _ _ (wpAny_newFunctionEnv_cells S.kind (fun z hz => ?_) fun env he s1 entered => ?_))
  · obtain ⟨n, v⟩ := z
    exact (S.par n (List.of_mem_zip hz).1).imp id fun c => ⟨c, PySem.W.cellsFrom_some _ _ _ (.inl c)⟩
  · cases he
    have free : s1.heap.NoLimit := (e0.mod.nolimit.keeps fun b o e => (e0.bs b o e).1).keeps entered.toInCall.keep
    obtain ⟨t, ht, hq⟩ := body cdv A outer s H vs Q E a oe cls d (hr.deeper _) hz hf hsp
    have at1 := L2H.inv_startH (CX := CX0) (E := E) (ps := ps) (us := us) (vs := vs) S hp e0 hl rv entered
    refine ⟨free, codeAny_func (wpAny_mono (ht.nox.run [] s1 _ H _ at1 hq) (fun fl s' end_ => ?_) fun e s' bad => ?_)⟩
    · cases fl with
      | ret u' =>
        obtain ⟨v', _, H', J, rv', q'⟩ := end_
        exact ⟨v', H', J.os, J.bare, J.base, J.hok, rv', q'⟩
      | next =>
        obtain ⟨_, H', J, q'⟩ := end_
        exact ⟨.non, H', J.os, J.bare, J.base, J.hok, rfl, q'⟩
      | brk => obtain ⟨_, _, _, no⟩ := end_; exact no.elim
      | cont => obtain ⟨_, _, _, no⟩ := end_; exact no.elim
    · exact wpAny_mono bad (fun _ _ no => False.elim no) fun _ _ no => False.elim no
end
section
variable {X : Cx} {k : Nat} {f : Addr} {fd : FuncData} {ps : List Str} {sp : SpE} {x : Str} {p pos : Pos} {e : Expr} {es : List Expr} {t : TA}
theorem pe_callE {a : Addr} {oe : Obj} {cls : Value} {d : Option Addr} {pn : List (Addr × Obj)} (F : FnE X.prog X.w X.K X.mg X.base k f fd ps sp) (hz : Zc cls d oe) (hf : ∃ vs, oe.data = .fields vs) (hr : Room k X.A) (gl : Gl (X.suite a ((a, oe) :: pn)) x) (hm : X.mg x = some (.ref f)) (hk : PySem.W.keepIn X.K (.ref f) = true) (hb : Binds X.K fd ps [])
    (ha : PA (X.suite a ((a, oe) :: pn)) (e :: es) t) (hdb : (x == ("__debug__" : Str)) = false := by decide) (he : starEach (e :: es) X.env = (false, eval e X.env) :: starEach es X.env := by rfl) (hpl : (backTo pos (starEach es X.env)).any (·.1) = false := by rfl) :
    PE (X.suite a ((a, oe) :: pn)) (.Call (.Name x p) (e :: es) [] pos) (fun σ H Q => t σ H fun vs H1 => sp a cls d vs H1 Q E0) := by
  refine ⟨fun pins s σ H Q I h => wpAny_Call_Name_kw (ld_glob I gl hm ?_ hdb)⟩
  refine PySem.W.callWith_K (h₀ := X.base) I.ok.mod.kin hk (thn (ha.run pos pins s σ H _ I h) fun us s1 ⟨vs, H1, I1, r, q⟩ => ⟨I1.kIn, ?_⟩) he hpl
  have hl : us.length = ps.length := by rw [← r.length]; exact F.many _ _ _ _ _ _ _ q
  have b1 := hb s1 us I1.kIn (by rw [List.append_nil]; exact hl)
  rw [List.append_nil] at b1
  obtain ⟨g1, g2, g3, g4, g5⟩ := I1.pin (a, oe) (List.mem_append.mpr (.inl List.mem_cons_self))
  have hpin : L2H.PinOk X.stack H1 s1 (a, oe) := ⟨g1, g2, fun hm => (List.mem_cons.mp (I1.stkSub a hm)).elim g3 g4, g5⟩
  refine wpAny_call (codeAny_mono (F.go (X.A.mark (some (.ref a))) X.stack s1 H1 us vs Q E0 a oe cls d ⟨hr.dp, hr.un⟩ hz hf hpin I1.env0 b1 r q) fun r s' hq => ?_)
  cases r with
  | error e => exact False.elim hq
  | ok fl =>
    cases fl with
    | ret u => exact I1.after hq
    | next => exact False.elim hq
    | brk => exact False.elim hq
    | cont => exact False.elim hq
/-- isinstance of an error that is pinned: one class -/
theorem inst_pin {a D : Addr} {oe : Obj} {h : Heap} (hz : Zc (.ref D) none oe) (hf : ∃ vs, oe.data = .fields vs) (hget : h.get? a = some oe) : PySem.W.InstAt h a oe D none := by
  obtain ⟨vs, hv⟩ := hf
  obtain ⟨oc, od, oda, osl⟩ := oe
  obtain ⟨h1, h2⟩ := hz
  dsimp only at h1 h2 hv
  subst h1 h2 hv
  exact ⟨hget, rfl, rfl, trivial⟩
def rIsP (K : PySem.W.Frag) (cls : Value) (d : Option Addr) (a : Addr) : List V → Hp → VK → Prop := fun xs H Q => ∃ D, cls = .ref D ∧ d = none ∧ ExcC K D ∧
  ((∃ (c : V) (cv : Value) (b : Bool), xs = [.ref a, c] ∧ (∀ u, RelV c u → u = cv) ∧ PySem.W.kitOne K (.ref D) cv = some b ∧ Q (.bl b) H) ∨
   (∃ (tp : Addr) (cs : List V) (us : List Value) (b : Bool), xs = [.ref a, .ref tp] ∧ H tp = some (.tup cs) ∧ Paired ClsV cs us ∧ PySem.W.kitAny K (.ref D) us = some b ∧ Q (.bl b) H))
theorem call_isP {a : Addr} {cls : Value} {d : Option Addr} {oe : Obj} (hp : (a, oe) ∈ X.pn) (hz : Zc cls d oe) (hf : ∃ vs, oe.data = .fields vs) : CallR X (.builtin "isinstance") (rIsP X.K cls d a) := by
  intro pins s σ H xs us Q I r h
  obtain ⟨D, rfl, rfl, C, h⟩ := h
  have J := inst_pin hz hf (I.pin (a, oe) (List.mem_append.mpr (.inl hp))).1
  have KX := PySem.W.handS_kitx_exc C.hg C.hk C.hs C.hd C.ha C.hn C.ht C.hm (x := a) (ox := oe)
  rcases h with ⟨c, cv, b, rfl, hcv, e, q⟩ | ⟨tp, cs, ws, b, rfl, hT, k, e, q⟩
  · obtain ⟨u1, u2, rfl, r1, r2⟩ := vals2 r
    cases (show u1 = Value.ref a from r1)
    have ec := hcv _ r2
    subst ec
    exact PySem.W.kia_one KX I.kIn J e (fun z => nomatch z) fun tk => ⟨.bl b, H, I.kept (t' := tk) fun _ _ z => z, rfl, q⟩
  · obtain ⟨u1, u2, rfl, r1, r2⟩ := vals2 r
    cases (show u2 = Value.ref tp from r2)
    cases (show u1 = Value.ref a from r1)
    obtain ⟨_, its, rv, o, h1, h2, n, h3⟩ := (show ObjOk X.prog X.w H s.heap tp (.tup cs) from I.hok tp _ hT)
    have e3 := ClsV.all k rv
    subst e3
    obtain ⟨oc, od, dt, sl⟩ := o
    simp only at h2 h3
    subst h2 h3
    exact PySem.W.kia_tup KX I.kIn J h1 e (fun z => nomatch z) fun tk => ⟨.bl b, H, I.kept (t' := tk) fun _ _ z => z, rfl, q⟩
/-- a method that may raise; what leaves is wished for where the slots stand -/
def tMethE (C : Addr) (m : Str) (sp : Sp) (E : L2.St → XK) (ta : TE) (t : TA) : TE := fun σ H Q => ta σ H fun y G => ∃ q dx gs, y = .ref q ∧ G q = some (.ins C dx gs) ∧ gs.lookup m = none ∧ t σ G fun ws G2 => sp (y :: ws) G2 Q (E σ)
theorem pe_methE {X : Cx} {CX : CXT} {k : Nat} {g C : Addr} {gd : FuncData} {ns : List Str} {sp : Sp} {E : L2.St → XK} {m : Str} {pos apos : Pos} {e o : Expr} {es : List Expr} {ta : TE} {t : TA} {pl : Sem Bool} (ho : PE X o ta) (cl : Cls X.K C) (mm : Meth X.K C m g)
    (G : FnOk X.prog X.w X.K X.mg X.base CX k g gd ns sp) (room : Room k X.A) (bi : Binds X.K gd ns []) (out : ∀ σ, PassesAt CX X σ (E σ)) (args : PA X (e :: es) t)
    (h1 : starEach (e :: es) X.env = (false, eval e X.env) :: starEach es X.env := by rfl) (h2 : (backTo pos (starEach es X.env)).any (·.1) = false := by rfl)
    (h3 : eval (.Call (.Attribute o m apos) (e :: es) [] pos) X.env = (do
      let obj ← eval o X.env
      standAt apos.atName
      let (fn, fst) ← holding [obj] (getMethod obj m pl)
      callWith pos fn fst (backTo pos (starEach (e :: es) X.env)) (backToKw pos (keywordEach [] X.env))) := by rfl) :
    PE X (.Call (.Attribute o m apos) (e :: es) [] pos) (tMethE C m sp E ta t) := ⟨fun pins s σ H Q I h => by
  refine PySem.W.methodCall_KW (pl := pl) (thn (ho.run pins s σ H _ I h) fun u s1 ⟨y, H1, I1, ry, q, dx, gs, ey, eq, l, z⟩ => ?_) h3
  subst ey
  cases (show u = Value.ref q from ry)
  refine getmeth_ok I1 eq cl mm l (PySem.W.callWith_K (first := [.ref q]) (h₀ := X.base) I.ok.mod.kin mm.kp (thn (args.run pos pins s1 σ H1 _ I1 z) fun us s2 ⟨ws, H2, I2, r, z2⟩ => ⟨I2.kIn, ?_⟩) h1 h2)
  exact run_fnS (us := .ref q :: us) (vs := .ref q :: ws) G room bi (out σ) I2 (.cons rfl r) z2⟩
/-- an object made, whose start may raise -/
def tMakeE (C : Addr) (sp : Sp) (E : L2.St → XK) (t : TA) : TE := fun σ H Q => t σ H fun ws G => ∀ y dx, G y = none → G dx = none → dx ≠ y → sp (.ref y :: ws) (upd (upd G dx (.own y)) y (.ins C dx [])) (fun v G2 => v = .non ∧ Q (.ref y) G2) (E σ)
theorem pe_makeE {X : Cx} {CX : CXT} {k : Nat} {g C : Addr} {gd : FuncData} {ns : List Str} {sp : Sp} {E : L2.St → XK} {x : Str} {p pos : Pos} {e : Expr} {es : List Expr} {t : TA} (M : Mk X.K C g) (G : FnOk X.prog X.w X.K X.mg X.base CX k g gd ns sp) (room : Room (k + 1) X.A) (gl : Gl X x) (hm : X.mg x = some (.ref C)) (bi : Binds X.K gd ns [])
    (out : ∀ σ, PassesAt CX X σ (E σ)) (args : PA X (e :: es) t) (hdb : (x == ("__debug__" : Str)) = false := by decide) (h1 : starEach (e :: es) X.env = (false, eval e X.env) :: starEach es X.env := by rfl) (h2 : (backTo pos (starEach es X.env)).any (·.1) = false := by rfl) :
    PE X (.Call (.Name x p) (e :: es) [] pos) (tMakeE C sp E t) := ⟨fun pins s0 σ H Q I h => by
  refine wpAny_Call_Name_kw (ld_glob I gl hm ?_ hdb)
  refine PySem.W.callWith_K (h₀ := X.base) I.ok.mod.kin M.kp (thn (args.run pos pins s0 σ H _ I h) fun us s ⟨ws, G0, I1, r, z⟩ => ⟨I1.kIn, ?_⟩) h1 h2
  let n := s.heap.objs.size
  have wish := z (n + 1) n (I1.hok.fresh (Nat.le_succ _)) (I1.hok.fresh (Nat.le_refl _)) (Nat.ne_of_lt (Nat.lt_succ_self _))
  have J := Inv.made (C := C) I1
  have rr : Vals (V.ref (n + 1) :: ws) (Value.ref (n + 1) :: us) := .cons rfl r
  have hl : (Value.ref (n + 1) :: us).length = ns.length := by rw [← rr.length]; exact G.len _ _ _ _ wish
  have b := bi _ (Value.ref (n + 1) :: us) J.kIn (by rw [List.append_nil]; exact hl)
  rw [List.append_nil] at b
  refine wpAny_call (make_map (f := g) I1.kIn M.makes M.init (beq_iff_eq.mp M.fn) (codeAny_mono (G.run _ X.stack _ _ ⟨Value.ref (n + 1) :: us, []⟩ (Value.ref (n + 1) :: us) _ _ (E σ) (room.make C us []) (J.env0.make C us []) b rr wish) fun res s' q => ?_))
  cases res with
  | error e => exact out σ pins _ _ e s' J q
  | ok fl =>
    cases fl with
    | ret u =>
      obtain ⟨v, H', I3, rv, ev, q3⟩ := J.after q
      cases ev
      exact ⟨rv, ⟨V.ref (n + 1), H', I3, rfl, q3⟩⟩
    | next => exact q.elim
    | brk => exact q.elim
    | cont => exact q.elim⟩
end
end Fs
/-! A text is no dict. -/
namespace Fs
open PySem PySem.Spec PyProof.Rows PySem.SeqAt
open MeetsSeq MeetsSeq2 MeetsSeq3 SeqRoads2
theorem subt_dict_str : isSubtype (.type "dict") (.type "str") = pure false := by
  rw [isSubtype_type]
  kernel_rfl
theorem str_no_dict (z : Str) (u : Tok) (a : Addr) (es : Array DictEntry) (k : Nat) (dd : Option Addr) (sl : Array (Option Value)) :
    Meets (Builtin.«str.__eq__» ⟨[.str z u, .ref a], []⟩) (fun _ R s => s.heap.get? a = some { cls := .type "dict", dict := dd, data := .dict es k, slots := sl } ∧ R (.ok (.ret .notImplemented)) s) :=
  .of_wp fun prog w A R s h => by
    obtain ⟨hp, g, d, tk, os⟩ := s
    obtain ⟨ha, h⟩ := h
    wp_walk using wpAny_loadPart' ha, wpAny_load ha
    exact ⟨_, rfl, h⟩
theorem dict_no_str (a : Addr) (es : Array DictEntry) (k : Nat) (dd : Option Addr) (sl : Array (Option Value)) (z : Str) (u : Tok) :
    Meets (Builtin.«dict.__eq__» ⟨[.ref a, .str z u], []⟩) (fun _ R s => s.heap.get? a = some { cls := .type "dict", dict := dd, data := .dict es k, slots := sl } ∧ R (.ok (.ret .notImplemented)) s) :=
  .of_wp fun prog w A R s h => by
    obtain ⟨hp, g, d, tk, os⟩ := s
    obtain ⟨ha, h⟩ := h
    have f1 := F.sub_str_dict
    wp_walk using wpAny_loadPart' ha
    exact ⟨_, rfl, h⟩
theorem eqAt_str_dict {A : Around} {s : Shared} {a : Addr} {o : Obj} {es : Array DictEntry} {k : Nat} (z : Str) (u : Tok) (ho : s.heap.get? a = some o) (hc : o.cls = .type "dict") (hd : o.data = .dict es k) (hu : A.units < cLine) : EqAt A s (.str z u) (.ref a) false := fun prog w E Q h => by
  obtain ⟨cls, dd, data, sl⟩ := o
  simp only at hc hd
  subst hc hd
  unfold eqBool
  refine wpAny_holding (wpAny_ite_split (fun hab => absurd (eq_of_beq hab) nofun) fun _ => wpAny_bind ?_)
  exact rc_eq_decline_or (k := false) (typeIs_str s z u) ⟨_, ho, rfl⟩ (by decide) subt_dict_str F.slot_str_eq F.slot_dict_eq_refl
    (fun _ hq => call_meets F.slot_str_eq (typeIs_str s z u) F.entry_str_eq (F.args_str_eq_2 _ _) (str_no_dict z u a es k dd sl) ⟨ho, hq⟩)
    (fun _ hq => call_meets F.slot_dict_eq_refl ⟨_, ho, rfl⟩ F.entry_dict_eq (F.args_dict_eq_2 _ _) (dict_no_str a es k dd sl z u) ⟨ho, hq⟩)
    (fun _ hq => wpAny_of_eq (rfl : isSame (.str z u) (.ref a) = pure false) hq) (.inr hu) (wpAny_truthy_bool h)
end Fs
/-! Things of any sort. -/
namespace Fs
open PySem L2 TL
inductive Tg where
  | non
  | bl (b : Bool)
  | int (i : Int)
  | str (z : Str)
  | lst (l : List Tg)
  | tup (l : List Tg)
  | dic
mutual
def TgAt (p : List Addr) (H : Hp) : Tg → V → Prop
  | .non, v => v = .non
  | .bl b, v => v = .bl b
  | .int i, v => v = .int i
  | .str z, v => v = .str z ∧ IsTx z
  | .lst l, v => ∃ a ys, v = .ref a ∧ a ∉ p ∧ H a = some (.lst ys) ∧ TgsAt p H l ys
  | .tup l, v => ∃ a ys, v = .ref a ∧ H a = some (.tup ys) ∧ TgsAt p H l ys
  | .dic, v => ∃ a, v = .ref a ∧ H a = some (.dK [])
def TgsAt (p : List Addr) (H : Hp) : List Tg → List V → Prop
  | [], [] => True
  | x :: l, y :: ys => TgAt p H x y ∧ TgsAt p H l ys
  | [], _ :: _ => False
  | _ :: _, [] => False
end
mutual
theorem TgAt.map {p : List Addr} {H H' : Hp} (k1 : ∀ a xs, H a = some (.tup xs) → H' a = some (.tup xs)) (k2 : ∀ a xs, a ∉ p → H a = some (.lst xs) → H' a = some (.lst xs)) (k3 : ∀ a xs, H a = some (.dK xs) → H' a = some (.dK xs)) : ∀ {t : Tg} {v : V}, TgAt p H t v → TgAt p H' t v
  | .non, v, h => by simp only [TgAt] at h ⊢; exact h
  | .bl b, v, h => by simp only [TgAt] at h ⊢; exact h
  | .int i, v, h => by simp only [TgAt] at h ⊢; exact h
  | .str z, v, h => by simp only [TgAt] at h ⊢; exact h
  | .lst l, v, h => by
    simp only [TgAt] at h ⊢
    obtain ⟨a, ys, e, n, g, t⟩ := h
    exact ⟨a, ys, e, n, k2 _ _ n g, TgsAt.map k1 k2 k3 t⟩
  | .tup l, v, h => by
    simp only [TgAt] at h ⊢
    obtain ⟨a, ys, e, g, t⟩ := h
    exact ⟨a, ys, e, k1 _ _ g, TgsAt.map k1 k2 k3 t⟩
  | .dic, v, h => by
    simp only [TgAt] at h ⊢
    obtain ⟨a, e, g⟩ := h
    exact ⟨a, e, k3 _ _ g⟩
theorem TgsAt.map {p : List Addr} {H H' : Hp} (k1 : ∀ a xs, H a = some (.tup xs) → H' a = some (.tup xs)) (k2 : ∀ a xs, a ∉ p → H a = some (.lst xs) → H' a = some (.lst xs)) (k3 : ∀ a xs, H a = some (.dK xs) → H' a = some (.dK xs)) : ∀ {l : List Tg} {ys : List V}, TgsAt p H l ys → TgsAt p H' l ys
  | [], [], _ => by simp only [TgsAt]
  | x :: l, y :: ys, h => by
    simp only [TgsAt] at h ⊢
    exact ⟨TgAt.map k1 k2 k3 h.1, TgsAt.map k1 k2 k3 h.2⟩
  | [], _ :: _, h => by simp only [TgsAt] at h
  | _ :: _, [], h => by simp only [TgsAt] at h
end
/-- lists of these addresses change -/
theorem TgAt.keep {p ex : List Addr} {H H' : Hp} {t : Tg} {v : V} (h : TgAt p H t v) (k : Keep ex H H') (sub : ∀ b ∈ ex, b ∈ p) (ls : ∀ b ∈ ex, ∃ xs, H b = some (.lst xs)) : TgAt p H' t v :=
  h.map (fun a ys e => k.at e fun z => by obtain ⟨xs, q⟩ := ls a z; rw [e] at q; cases q) (fun a ys n e => k.at e fun z => n (sub a z)) (fun a ys e => k.at e fun z => by obtain ⟨xs, q⟩ := ls a z; rw [e] at q; cases q)
theorem TgAt.keep0 {p : List Addr} {H H' : Hp} {t : Tg} {v : V} (h : TgAt p H t v) (k : Keep [] H H') : TgAt p H' t v := h.keep k (fun b z => absurd z nin0) fun b z => absurd z nin0
theorem TgsAt.keep0 {p : List Addr} {H H' : Hp} {l : List Tg} {ys : List V} (h : TgsAt p H l ys) (k : Keep [] H H') : TgsAt p H' l ys := h.map (fun a xs e => k.at e nin0) (fun a xs _ e => k.at e nin0) (fun a xs e => k.at e nin0)
theorem TgsAt.len {p : List Addr} {H : Hp} : ∀ {l : List Tg} {ys : List V}, TgsAt p H l ys → ys.length = l.length
  | [], [], _ => rfl
  | x :: l, y :: ys, h => by
    simp only [TgsAt] at h
    rw [List.length_cons, List.length_cons, TgsAt.len h.2]
  | [], _ :: _, h => by simp only [TgsAt] at h
  | _ :: _, [], h => by simp only [TgsAt] at h
theorem TgsAt.at {p : List Addr} {H : Hp} : ∀ {l : List Tg} {ys : List V} {i : Nat} {y : V}, TgsAt p H l ys → ys[i]? = some y → ∃ t, l[i]? = some t ∧ TgAt p H t y
  | [], [], i, y, _, e => by simp at e
  | x :: l, z :: ys, 0, y, h, e => by
    simp only [TgsAt] at h
    have e' : z = y := by simpa using e
    subst e'
    exact ⟨x, rfl, h.1⟩
  | x :: l, z :: ys, i + 1, y, h, e => by
    simp only [TgsAt] at h
    exact TgsAt.at (i := i) h.2 (by simpa using e)
  | [], _ :: _, _, _, h, _ => by simp only [TgsAt] at h
  | _ :: _, [], _, _, h, _ => by simp only [TgsAt] at h
def tgT : Tg → String
  | .non => "NoneType"
  | .bl _ => "bool"
  | .int _ => "int"
  | .str _ => "str"
  | .lst _ => "list"
  | .tup _ => "tuple"
  | .dic => "dict"
theorem tg_ty {K : PySem.W.Frag} {p : List Addr} {H : Hp} {t : Tg} {v : V} (h : TgAt p H t v) : TyX K H v (.type (tgT t)) := by
  cases t with
  | non => simp only [TgAt] at h; subst h; exact .base .non
  | bl b => simp only [TgAt] at h; subst h; exact .base (.bl b)
  | int i => simp only [TgAt] at h; subst h; exact .base (.int i)
  | str z => simp only [TgAt] at h; obtain ⟨rfl, _⟩ := h; exact .base (.str z)
  | lst l => simp only [TgAt] at h; obtain ⟨a, ys, rfl, _, e, _⟩ := h; exact .base (.lst e)
  | tup l => simp only [TgAt] at h; obtain ⟨a, ys, rfl, e, _⟩ := h; exact .base (.tup e)
  | dic => simp only [TgAt] at h; obtain ⟨a, rfl, e⟩ := h; exact .base (.dK e)
def Tg.isS : Tg → Bool
  | .str _ => true
  | _ => false
def Tg.isI : Tg → Bool
  | .int _ => true
  | _ => false
/-- a number of a fault -/
def Tg.isF (many : Nat) : Tg → Bool
  | .int i => decide (0 ≤ i) && decide (i < (many : Int))
  | _ => false
theorem kb_str (t : Tg) : kitB (tgT t) "str" = some t.isS := by
  cases t with
  | non => exact (show kitB "NoneType" "str" = some false by decide +kernel)
  | bl b => exact (show kitB "bool" "str" = some false by decide +kernel)
  | int i => exact (show kitB "int" "str" = some false by decide +kernel)
  | str z => exact (show kitB "str" "str" = some true by decide +kernel)
  | lst l => exact (show kitB "list" "str" = some false by decide +kernel)
  | tup l => exact (show kitB "tuple" "str" = some false by decide +kernel)
  | dic => exact (show kitB "dict" "str" = some false by decide +kernel)
theorem kb_int (t : Tg) : kitB (tgT t) "int" = some (match t with | .int _ => true | .bl _ => true | _ => false) := by
  cases t with
  | non => exact (show kitB "NoneType" "int" = some false by decide +kernel)
  | bl b => exact (show kitB "bool" "int" = some true by decide +kernel)
  | int i => exact (show kitB "int" "int" = some true by decide +kernel)
  | str z => exact (show kitB "str" "int" = some false by decide +kernel)
  | lst l => exact (show kitB "list" "int" = some false by decide +kernel)
  | tup l => exact (show kitB "tuple" "int" = some false by decide +kernel)
  | dic => exact (show kitB "dict" "int" = some false by decide +kernel)
theorem kb_bool (t : Tg) : kitB (tgT t) "bool" = some (match t with | .bl _ => true | _ => false) := by
  cases t with
  | non => exact (show kitB "NoneType" "bool" = some false by decide +kernel)
  | bl b => exact (show kitB "bool" "bool" = some true by decide +kernel)
  | int i => exact (show kitB "int" "bool" = some false by decide +kernel)
  | str z => exact (show kitB "str" "bool" = some false by decide +kernel)
  | lst l => exact (show kitB "list" "bool" = some false by decide +kernel)
  | tup l => exact (show kitB "tuple" "bool" = some false by decide +kernel)
  | dic => exact (show kitB "dict" "bool" = some false by decide +kernel)
theorem kb_tup (t : Tg) : kitB (tgT t) "tuple" = some (match t with | .tup _ => true | _ => false) := by
  cases t with
  | non => exact (show kitB "NoneType" "tuple" = some false by decide +kernel)
  | bl b => exact (show kitB "bool" "tuple" = some false by decide +kernel)
  | int i => exact (show kitB "int" "tuple" = some false by decide +kernel)
  | str z => exact (show kitB "str" "tuple" = some false by decide +kernel)
  | lst l => exact (show kitB "list" "tuple" = some false by decide +kernel)
  | tup l => exact (show kitB "tuple" "tuple" = some true by decide +kernel)
  | dic => exact (show kitB "dict" "tuple" = some false by decide +kernel)
def spTxG : Sp := fun vs H Q _ => ∃ (p : List Addr) (t : Tg) (v : V), vs = [v] ∧ TgAt p H t v ∧ Q (.bl t.isS) H
def spWhT : Sp := fun vs H Q _ => ∃ (p : List Addr) (t : Tg) (v : V), vs = [v] ∧ TgAt p H t v ∧ Q (.bl t.isI) H
abbrev allK' (ps : List (Str × Str)) : List Str := sF :: sS :: ps.map Prod.fst
def Tg.isK (ps : List (Str × Str)) : Tg → Bool
  | .str z => decide (z ∈ allK' ps)
  | _ => false
def spKdG (C : Addr) : Sp := fun vs H Q _ => ∃ (p : List Addr) (kd : Addr) (t : Tg) (v : V) (ps : List (Str × Str)), vs = [.ref kd, v] ∧ KindsAt C H kd ps ∧ TgAt p H t v ∧ Q (.bl (t.isK ps)) H
section
variable {P : Program} {w : World} {K : PySem.W.Frag} {mg : Str → Option Value} {base : Heap} {CK fI fK fN : Addr}
theorem ok_txG {f : Addr} {fd : FuncData} (F : Fun K "is_text" "is_text" sIsText f fd) (mI : mg "isinstance" = none) (mS : mg "str" = none) : FnOk P w K mg base CX0 1 f fd ["thing"] spTxG := by
  refine F.ok scIsText (fun vs H Q E h => ?_) (fun cdv A outer s H vs Q E hr h => ?_)
  · obtain ⟨p, t, v, rfl, _⟩ := h
    rfl
  · obtain ⟨p, t, v, rfl, th, kk⟩ := h
    refine ⟨_, pss_one (ps_ret (pe_callB call_isi (by rfl) mI (by decide +kernel) (pa_cons (pv 0) (pa_cons (pe_bltn (v := .ty "str") (u := .type "str") (by rfl) mS (by decide +kernel) rfl) pa_nil)))), ?_⟩
    exact ⟨_, rfl, _, _, _, _, _, rfl, .ty "str", tg_ty (K := K) th, kit_ty (kb_str t), kk⟩
theorem ok_whT {f : Addr} {fd : FuncData} (F : Fun K "is_whole" "is_whole" sWhole f fd) (mI : mg "isinstance" = none) (mT : mg "int" = none) (mB : mg "bool" = none) : FnOk P w K mg base CX0 1 f fd ["thing"] spWhT := by
  refine F.ok scWhole (fun vs H Q E h => ?_) (fun cdv A outer s H vs Q E hr h => ?_)
  · obtain ⟨p, t, v, rfl, _⟩ := h
    rfl
  · obtain ⟨p, t, v, rfl, th, kk⟩ := h
    refine ⟨_, pss_one (ps_ret (pe_and (pe_callB call_isi (by rfl) mI (by decide +kernel) (pa_cons (pv 0) (pa_cons (pe_bltn (v := .ty "int") (u := .type "int") (by rfl) mT (by decide +kernel) rfl) pa_nil)))
      (pe_one (pe_not (pe_callB call_isi (by rfl) mI (by decide +kernel) (pa_cons (pv 0) (pa_cons (pe_bltn (v := .ty "bool") (u := .type "bool") (by rfl) mB (by decide +kernel) rfl) pa_nil))))))), ?_⟩
    refine ⟨_, rfl, _, _, _, _, _, rfl, .ty "int", tg_ty (K := K) th, kit_ty (kb_int t), _, rfl, ?_⟩
    cases t with
    | int i => exact iteT ⟨_, rfl, _, _, _, _, _, rfl, .ty "bool", tg_ty (K := K) th, kit_ty (kb_bool _), false, rfl, kk⟩
    | bl b => exact iteT ⟨_, rfl, _, _, _, _, _, rfl, .ty "bool", tg_ty (K := K) th, kit_ty (kb_bool _), true, rfl, kk⟩
    | _ => exact iteF kk
theorem ok_kdG {fd fdT : FuncData} {fT : Addr} (F : Fun K "is_kind" "Kinds.is_kind" sIsKind fK fd) (T : KTxt K mg CK fI fK fN) (FT : FnOk P w K mg base CX0 1 fT fdT ["thing"] spTxG) (mT : mg "is_text" = some (.ref fT)) (kT : PySem.W.keepIn K (.ref fT) = true) (bT : Binds K fdT ["thing"] []) : FnOk P w K mg base CX0 2 fK fd ["self", "thing"] (spKdG CK) := by
  refine F.ok scIsKind (fun vs H Q E h => ?_) (fun cdv A outer s H vs Q E hr h => ?_)
  · obtain ⟨p, kd, t, v, ps, rfl, _⟩ := h
    rfl
  · obtain ⟨p, kd, t, v, ps, rfl, ⟨dx, d, e1, e2⟩, th, kk⟩ := h
    refine ⟨_, pss_one (ps_ret (pe_and (pe_call FT hr rfl mT kT bT .nil pass0 (pa_cons (pv 1) pa_nil)) (pe_one (pe_cmp (pc_din (hu_of hr) (pv 1) (pe_fld (pv 0) rfl)) rfl)))), ?_⟩
    refine ⟨_, rfl, p, t, v, rfl, th, _, rfl, ?_⟩
    cases t with
    | str z =>
      simp only [TgAt] at th
      obtain ⟨rfl, _⟩ := th
      refine iteT ⟨_, rfl, _, rfl, kd, CK, dx, _, _, rfl, e1, T.cl, T.nA, ab_look _, d, _, rfl, DGet.k (k := Sum.inr z) e2, ?_⟩
      rw [kvs_is]
      exact kk
    | _ => exact iteF kk
end
end Fs
/-! Things as data: shown, looked for, compared with nothing. -/
namespace Fs
open PySem PySem.Spec PyProof.Rows L2 TL
mutual
def tgD : Tg → PyData
  | .non => .none
  | .bl b => .bool b
  | .int i => .int i
  | .str z => .str z
  | .lst l => .list (tgDs l)
  | .tup l => .tuple (tgDs l)
  | .dic => .dict []
def tgDs : List Tg → List PyData
  | [] => []
  | x :: r => tgD x :: tgDs r
end
mutual
/-- no dict within -/
def Tg.nd : Tg → Bool
  | .dic => false
  | .lst l => Tg.nds l
  | .tup l => Tg.nds l
  | _ => true
def Tg.nds : List Tg → Bool
  | [] => true
  | x :: r => x.nd && Tg.nds r
end
theorem tg_txOk {z : Str} (h : IsTx z) : PyData.strOk z = true := by
  unfold PyData.strOk
  rw [← Array.all_toList, List.all_eq_true]
  intro c hc
  have := h.2 c hc
  exact decide_eq_true (by omega)
mutual
theorem tg_dp {K : PySem.W.Frag} {p : List Addr} {H : Hp} : ∀ {t : Tg} {v : V}, t.nd = true → TgAt p H t v → Dp K H v (tgD t) ∧ (tgD t).canLay0 = true
  | .non, v, _, h => by simp only [TgAt] at h; subst h; exact ⟨.non, rfl⟩
  | .bl b, v, _, h => by simp only [TgAt] at h; subst h; exact ⟨.bl b, rfl⟩
  | .int i, v, _, h => by simp only [TgAt] at h; subst h; exact ⟨.int i, rfl⟩
  | .str z, v, _, h => by simp only [TgAt] at h; obtain ⟨rfl, tx⟩ := h; exact ⟨.str z, tg_txOk tx⟩
  | .lst l, v, n, h => by
    simp only [TgAt] at h
    obtain ⟨a, ys, rfl, _, e, t⟩ := h
    simp only [Tg.nd] at n
    obtain ⟨x, y⟩ := tg_dps n t
    simp only [tgD]
    exact ⟨.lst (SqL.of e) x, y⟩
  | .tup l, v, n, h => by
    simp only [TgAt] at h
    obtain ⟨a, ys, rfl, e, t⟩ := h
    simp only [Tg.nd] at n
    obtain ⟨x, y⟩ := tg_dps n t
    simp only [tgD]
    exact ⟨.tup (SqT.of e) x, y⟩
  | .dic, v, n, h => by simp [Tg.nd] at n
theorem tg_dps {K : PySem.W.Frag} {p : List Addr} {H : Hp} : ∀ {l : List Tg} {ys : List V}, Tg.nds l = true → TgsAt p H l ys → DpAll K H ys (tgDs l) ∧ PyData.canLayAll0 (tgDs l) = true
  | [], [], _, _ => by simp only [tgDs]; exact ⟨.nil, rfl⟩
  | x :: r, y :: ys, n, h => by
    simp only [TgsAt] at h
    simp only [Tg.nds, Bool.and_eq_true] at n
    obtain ⟨a, b⟩ := tg_dp n.1 h.1
    obtain ⟨a', b'⟩ := tg_dps n.2 h.2
    simp only [tgDs]
    refine ⟨.cons a a', ?_⟩
    show (PyData.canLay0 _ && PyData.canLayAll0 _) = true
    rw [b, b']; rfl
  | [], _ :: _, _, h => by simp only [TgsAt] at h
  | _ :: _, [], _, h => by simp only [TgsAt] at h
end
section
variable {X : Cx} {pins : List (Addr × Obj)} {σ : L2.St} {H : Hp} {s : Shared} {p : List Addr}
mutual
/-- how a thing is read, and shown -/
theorem tg_rep (I : Inv X pins σ H s) : ∀ (t : Tg) (v : V) (u : Value), TgAt p H t v → RelV v u → (tgD t).showable = true → (tgD t).shown.length ≤ sizeLine → ∃ as bs, Reads s.heap u (tgD t) as ∧ ReadAtMost s.heap (tgD t).depth bs ∧ ReprK X.prog X.w bs s.heap (tgD t).depth u (tgD t).shown
  | .non, v, u, h, r, hs, hz => by
    simp only [TgAt] at h; subst h; cases r
    simp only [tgD, PyData.shown]
    exact ⟨[], [], .none, (fun _ h => nomatch h), .of_is ReprIs.none _ _ _⟩
  | .bl b, v, u, h, r, hs, hz => by
    simp only [TgAt] at h; subst h; cases r
    simp only [tgD, PyData.shown]
    exact ⟨[], [], .bool b, (fun _ h => nomatch h), .of_is (ReprIs.bool b) _ _ _⟩
  | .int i, v, u, h, r, hs, hz => by
    simp only [TgAt] at h; subst h
    obtain ⟨t, rfl⟩ := r
    simp only [tgD, PyData.shown]
    exact ⟨[], [], .int i t, (fun _ h => nomatch h), .of_is (ReprIs.int t (by simpa [tgD, PyData.showable] using hs)) _ _ _⟩
  | .str z, v, u, h, r, hs, hz => by
    simp only [TgAt] at h; obtain ⟨rfl, _⟩ := h
    obtain ⟨t, rfl⟩ := r
    simp only [tgD, PyData.shown]
    exact ⟨[], [], .str z t, (fun _ h => nomatch h), .of_is (ReprIs.str z t (by simpa only [tgD, PyData.shown] using hz)) _ _ _⟩
  | .lst l, v, u, h, r, hs, hz => by
    simp only [TgAt] at h
    obtain ⟨a, ys, rfl, _, e, ts⟩ := h
    obtain rfl : u = Value.ref a := r
    obtain ⟨its, rv, ⟨o, n, ho, hc, _, hd⟩, _⟩ := I.list (SqL.of (K := X.K) e)
    simp only [tgD] at hs hz ⊢
    have hz' : (listText (PyData.shownAll (tgDs l))).length ≤ sizeLine := by simpa only [PyData.shown] using hz
    obtain ⟨as, bs, r4, hb, hk⟩ := tg_reps I l ys its ts rv (by simpa [PyData.showable] using hs) (fun t ht => Nat.le_trans (listText_mem_le ht) hz')
    have rd : Reads s.heap (.ref a) (.list (tgDs l)) _ := .list ho hc hd (by simpa using r4)
    have hna : a ∉ bs := not_mem_of_deeper rd (by simp only [PyData.depth]; omega) hb
    refine ⟨_, a :: bs, rd, ReadAtMost.cons rd (by simp only [PyData.depth]; omega) hb, ?_⟩
    simp only [PyData.depth, PyData.shown]
    cases its with
    | nil =>
      generalize tgDs l = ds at r4 ⊢
      cases r4
      simp only [PyData.shownAll, listText_nil]
      exact ReprK.listEmpty ho hc hd
    | cons x l' => exact ReprK.list ho hc hd hna (by simpa using hk.length_eq) (fun i y e => hk.item i y (by simpa using e))
  | .tup l, v, u, h, r, hs, hz => by
    simp only [TgAt] at h
    obtain ⟨a, ys, rfl, e, ts⟩ := h
    obtain rfl : u = Value.ref a := r
    obtain ⟨its, rv, ⟨o, ho, hc, n, hd⟩, _⟩ := I.tuple (SqT.of (K := X.K) e)
    simp only [tgD] at hs hz ⊢
    have hz' : (tupleText (PyData.shownAll (tgDs l))).length ≤ sizeLine := by simpa only [PyData.shown] using hz
    obtain ⟨as, bs, r4, hb, hk⟩ := tg_reps I l ys its ts rv (by simpa [PyData.showable] using hs) (fun t ht => Nat.le_trans (tupleText_mem_le ht) hz')
    have rd : Reads s.heap (.ref a) (.tuple (tgDs l)) _ := .tuple ho hc hd (by simpa using r4)
    have hna : a ∉ bs := not_mem_of_deeper rd (by simp only [PyData.depth]; omega) hb
    refine ⟨_, a :: bs, rd, ReadAtMost.cons rd (by simp only [PyData.depth]; omega) hb, ?_⟩
    simp only [PyData.depth, PyData.shown]
    exact ReprK.tuple ho hc hd hna (by simpa using hk)
  | .dic, v, u, h, r, hs, hz => by
    simp only [TgAt] at h
    obtain ⟨a, rfl, e⟩ := h
    obtain rfl : u = Value.ref a := r
    obtain ⟨_, hsys, kvs, kv, o, es, k, ho, hx, hdt, ko, pr, _⟩ := (show ObjOk X.prog X.w H s.heap a (.dK []) from I.hok a _ e)
    cases kv
    have he : es.toList = [] := by
      generalize es.toList = l at pr ⊢
      cases pr
      rfl
    simp only [tgD]
    have rd : Reads s.heap (.ref a) (.dict []) _ := .dict ho hx.1 hdt (by rw [he]; exact .nil) (by rw [he]; exact .nil)
    refine ⟨_, [a], rd, ReadAtMost.cons rd (n := 0) (Nat.zero_le _) (fun _ h => nomatch h), ?_⟩
    simp only [PyData.depth, PyData.shown]
    exact ReprK.dict ho hx.1 hdt hsys (by simp) (by rw [he]; exact .nil)
theorem tg_reps (I : Inv X pins σ H s) : ∀ (l : List Tg) (ys : List V) (us : List Value), TgsAt p H l ys → Vals ys us → PyData.showableAll (tgDs l) = true → (∀ t ∈ PyData.shownAll (tgDs l), t.length ≤ sizeLine) → ∃ as bs, ReadsAll s.heap us (tgDs l) as ∧ ReadAtMost s.heap (PyData.depthAll (tgDs l)) bs ∧ ReprAllK X.prog X.w bs s.heap (PyData.depthAll (tgDs l)) us (PyData.shownAll (tgDs l))
  | [], [], us, _, r, _, _ => by
    cases r
    simp only [tgDs, PyData.shownAll]
    exact ⟨[], [], .nil, (fun _ h => nomatch h), .nil⟩
  | x :: l, y :: ys, us, h, r, hs, hz => by
    simp only [TgsAt] at h
    cases r with
    | cons r1 r2 =>
      simp only [tgDs] at hs hz ⊢
      have hs' : (tgD x).showable = true ∧ PyData.showableAll (tgDs l) = true := by simpa [PyData.showableAll] using hs
      obtain ⟨a1, b1, q1, hb1, k1⟩ := tg_rep I x y _ h.1 r1 hs'.1 (hz _ (by simp only [PyData.shownAll]; exact List.mem_cons_self ..))
      obtain ⟨a2, b2, q2, hb2, k2⟩ := tg_reps I l ys _ h.2 r2 hs'.2 (fun t ht => hz t (by simp only [PyData.shownAll]; exact List.mem_cons_of_mem _ ht))
      refine ⟨_, b1 ++ b2, .cons q1 q2, ?_, ?_⟩
      · intro b hm
        simp only [PyData.depthAll]
        rcases List.mem_append.mp hm with hm | hm
        · obtain ⟨d', as', r', hd'⟩ := hb1 b hm
          exact ⟨d', as', r', Nat.le_trans hd' (Nat.le_max_left _ _)⟩
        · obtain ⟨d', as', r', hd'⟩ := hb2 b hm
          exact ⟨d', as', r', Nat.le_trans hd' (Nat.le_max_right _ _)⟩
      · simp only [PyData.depthAll, PyData.shownAll]
        exact .cons ((k1.more fun b hb => List.mem_append_left _ hb).level_le (Nat.le_max_left _ _)) (k2.more_le (fun b hb => List.mem_append_right _ hb) (Nat.le_max_right _ _))
  | [], _ :: _, _, h, _, _, _ => by simp only [TgsAt] at h
  | _ :: _, [], _, h, _, _, _ => by simp only [TgsAt] at h
end
end
end Fs
/-! Rules for things. -/
namespace Fs
open PySem PySem.Spec PyProof.Rows L2 TL
def rReprT : List V → Hp → VK → Prop := fun xs H Q => ∃ (a : Addr) (p : List Addr) (x : Tg) (l : List Tg), xs = [.ref a] ∧ TgAt p H (.lst (x :: l)) (.ref a) ∧ (tgD (.lst (x :: l))).showable = true ∧ (tgD (.lst (x :: l))).depth ≤ 60 ∧ (tgD (.lst (x :: l))).shown.length ≤ sizeLine ∧ Q (.str (tgD (.lst (x :: l))).shown) H
theorem call_reprT {X : Cx} (hg : X.A.guards = some []) (hu : X.A.units + 64 < cLine) : CallR X (.builtin "repr") rReprT := by
  intro pins s σ H xs us Q I r h
  obtain ⟨a, p, x, l, rfl, ht, hs, hd, hz, q⟩ := h
  obtain ⟨u, rfl, ru⟩ := vals1 r
  obtain rfl : u = Value.ref a := ru
  simp only [TgAt] at ht
  obtain ⟨a', ys, ea, _, e, ts⟩ := ht
  cases ea
  obtain ⟨its, rv, ⟨o, n, ho, hc, _, hdt⟩, _⟩ := I.list (SqL.of (K := X.K) e)
  simp only [tgD] at hs hz hd q
  have hz' : (listText (PyData.shownAll (tgDs (x :: l)))).length ≤ sizeLine := by simpa only [PyData.shown] using hz
  obtain ⟨as, bs, r4, hb, hk⟩ := tg_reps I (x :: l) ys its ts rv (by simpa [PyData.showable] using hs) (fun t ht => Nat.le_trans (listText_mem_le ht) hz')
  have rd : Reads s.heap (.ref a) (.list (tgDs (x :: l))) _ := .list ho hc hdt (by simpa using r4)
  have hna : a ∉ bs := not_mem_of_deeper rd (by simp only [PyData.depth]; omega) hb
  have hdd : PyData.depthAll (tgDs (x :: l)) + 1 ≤ 60 := by simpa only [PyData.depth] using hd
  simp only [PyData.shown] at q
  cases its with
  | nil =>
    simp only [tgDs] at r4
    cases r4
  | cons y l' =>
    exact call_repr_slot (by omega) (T := "list") ⟨o, ho, hc⟩ F.slot_list_repr.toG (call_list_reprK ho hc hdt hna (by simpa using hk.length_eq) (fun i y e => hk.item i y (by simpa using e)) hg (fun b _ => Clear.nil b) (by show X.A.units + 1 + (PyData.depthAll (tgDs (x :: l)) + 1) < cLine; omega) (fun _ _ e => e)
      (fun h' u tk hk => ⟨_, _, rfl, ⟨.str _, H, I.kept hk, ⟨_, rfl⟩, q⟩⟩) hz')
def inG (zs : List Str) : Tg → Bool
  | .str z => decide (z ∈ zs)
  | _ => false
theorem g_eqS (a b : Str) : PyData.eqv (.str a) (.str b) = decide (a = b) := by
  show (a == b) = _
  rw [Bool.eq_iff_iff, beq_iff_eq, decide_eq_true_eq]
theorem g_any (zs : List Str) (z : Str) : ((zs.map PyData.str).any fun y => PyData.eqv y (.str z)) = decide (z ∈ zs) := by
  induction zs with
  | nil => rfl
  | cons y r ih =>
    rw [List.map_cons, List.any_cons, ih, g_eqS]
    by_cases h : y = z
    · rw [decide_eq_true h, decide_eq_true (show z ∈ y :: r by rw [h]; exact List.mem_cons_self)]; rfl
    · rw [decide_eq_false h, Bool.false_or]
      exact decide_eq_decide.mpr ⟨List.mem_cons_of_mem _, fun q => (List.mem_cons.mp q).elim (fun e => absurd e.symm h) id⟩
theorem g_no (zs : List Str) {d : PyData} (h : ∀ z, PyData.eqv (.str z) d = false) : ((zs.map PyData.str).any fun y => PyData.eqv y d) = false := by
  rw [List.any_eq_false]
  intro y hy
  obtain ⟨z, _, rfl⟩ := List.mem_map.mp hy
  rw [h z]
  exact Bool.false_ne_true
theorem g_inG (t : Tg) (hn : t.nd = true) (zs : List Str) : ((zs.map PyData.str).any fun y => PyData.eqv y (tgD t)) = inG zs t := by
  cases t with
  | str z => exact g_any zs z
  | dic => simp [Tg.nd] at hn
  | _ => simp only [tgD]; exact g_no zs fun z => rfl
theorem g_strs {K : PySem.W.Frag} {H : Hp} : ∀ zs : List Str, DpAll K H (zs.map V.str) (zs.map PyData.str)
  | [] => .nil
  | z :: r => .cons (.str z) (g_strs r)
theorem g_lay : ∀ zs : List Str, (∀ z ∈ zs, IsTx z) → PyData.canLayAll0 (zs.map PyData.str) = true ∧ PyData.depthAll (zs.map PyData.str) ≤ 1
  | [], _ => ⟨rfl, Nat.zero_le _⟩
  | z :: r, h => by
    obtain ⟨a, b⟩ := g_lay r fun y hy => h y (List.mem_cons_of_mem _ hy)
    rw [List.map_cons]
    refine ⟨?_, ?_⟩
    · show (PyData.canLay0 _ && PyData.canLayAll0 _) = true
      rw [a, show PyData.canLay0 (.str z) = true from tg_txOk (h z List.mem_cons_self)]; rfl
    · show max (PyData.depth _) (PyData.depthAll _) ≤ 1
      have : PyData.depth (.str z) = 0 := rfl
      omega
theorem g_sh {zs : List Str} (h : ∀ z ∈ zs, IsTx z) : SeqAt.shaped (.list (zs.map PyData.str)) = true := by
  obtain ⟨a, b⟩ := g_lay zs h
  unfold SeqAt.shaped
  rw [show PyData.canLay0 (.list (zs.map PyData.str)) = true from a, Bool.true_and]
  refine decide_eq_true ?_
  show PyData.depthAll _ + 1 ≤ 64
  omega
def rNotInT : R2 := fun x y H Q => ∃ (p : List Addr) (t : Tg) (l : Addr) (zs : List Str), TgAt p H t x ∧ (t = .dic ∨ t.nd = true ∧ (tgD t).depth ≤ 60) ∧ y = .ref l ∧ H l = some (.lst (zs.map V.str)) ∧ (∀ z ∈ zs, IsTx z) ∧ Q (.bl (!inG zs t)) H
theorem op_notInT {X : Cx} (hu : X.A.units + 65 < cLine) : OpR X (compareOp .NotIn) rNotInT := by
  intro pins s σ H x y v u Q I rx ry h
  obtain ⟨p, t, l, zs, th, hor, rfl, el, tx, q⟩ := h
  rcases hor with rfl | ⟨hn, hd⟩
  · simp only [TgAt] at th
    obtain ⟨a, rfl, ea⟩ := th
    cases rx
    cases ry
    obtain ⟨_, _, kvs, _, o, es, k, ho, hx, hdt, _⟩ := (show ObjOk X.prog X.w H s.heap a (.dK []) from I.hok a _ ea)
    obtain ⟨its, rv, hl, _⟩ := I.list (SqL.of el)
    have hu1 : X.A.in1.units < cLine := by show X.A.units + 1 < cLine; omega
    have areS : ∀ (zs : List Str) (us : List Value), Vals (zs.map V.str) us → ∀ y ∈ us, ∃ z t, y = Value.str z t := by
      intro zs
      induction zs with
      | nil => intro us r y hy; cases r; cases hy
      | cons z r ih =>
        intro us rr y hy
        cases rr with
        | cons r1 r2 =>
          rcases List.mem_cons.mp hy with q | q
          · obtain ⟨t, e⟩ := r1
            exact ⟨z, t, by rw [q, e]⟩
          · exact ih _ r2 y q
    refine SeqAt.notIn_listAt (fun _ => false) hl.isList (fun y hy => ?_) ⟨.bl _, H, I, rfl, ?_⟩
    · obtain ⟨z, t, rfl⟩ := areS zs its rv y (by simpa using hy)
      exact eqAt_str_dict z t ho hx.1 hdt hu1
    · rw [show its.toArray.any (fun _ => false) = false by simp]
      exact q
  · obtain ⟨d1, d2⟩ := tg_dp (K := X.K) hn th
    refine op_notInD hu pins s σ H _ _ v u Q I rx ry ⟨tgD t, zs.map PyData.str, d1, .lst (SqL.of el) (g_strs zs), ?_, g_sh tx, ?_⟩
    · unfold SeqAt.shaped
      rw [d2, Bool.true_and]
      exact decide_eq_true (by omega)
    · rw [g_inG t hn]
      exact q
/-- a list against [] -/
def rEqNil : R2 := fun x y H Q => ∃ (a b : Addr) (ys : List V), x = .ref a ∧ y = .ref b ∧ H a = some (.lst ys) ∧ H b = some (.lst []) ∧ Q (.bl ys.isEmpty) H
theorem op_eqNil {X : Cx} (hu : X.A.units + 64 < cLine) : OpR X (compareOp .Eq) rEqNil := by
  intro pins s σ H x y v u Q I rx ry h
  obtain ⟨a, b, ys, rfl, rfl, ea, eb, q⟩ := h
  cases ys with
  | nil => exact op_eqD hu pins s σ H _ _ v u Q I rx ry ⟨.list [], .list [], .lst (SqL.of ea) .nil, .lst (SqL.of eb) .nil, rfl, rfl, q⟩
  | cons y r =>
    cases rx
    cases ry
    obtain ⟨its, rv, hl, _⟩ := I.list (SqL.of (K := X.K) ea)
    obtain ⟨its2, rv2, hl2, _⟩ := I.list (SqL.of (K := X.K) eb)
    cases rv2
    cases rv with
    | cons r1 r2 => exact SeqAt.RcAt.lists_lengths hl.isList hl2.isList (by simp) (by omega) X.prog X.w _ _ ⟨.bl _, H, I, rfl, q⟩
def eB : Value → Bool
  | .bool b => b
  | _ => false
theorem bools_of {bs : List Bool} : ∀ {us : List Value}, Vals (bs.map V.bl) us → us = bs.map Value.bool := by
  induction bs with
  | nil => intro us r; cases r; rfl
  | cons b r ih =>
    intro us rr
    cases rr with
    | cons r1 r2 =>
      have e1 := ih r2
      cases r1
      rw [e1]; rfl
theorem count_bools (bs : List Bool) : (bs.map Value.bool).countP eB = bs.count true := by
  induction bs with
  | nil => rfl
  | cons b r ih => rw [List.map_cons, List.countP_cons, ih, List.count_cons]; cases b <;> rfl
/-- l.count(True), l of truths -/
def rCntB (K : PySem.W.Frag) : V → List V → Hp → VK → Prop := fun x xs H Q => ∃ (p : Addr) (bs : List Bool), x = .ref p ∧ xs = [.bl true] ∧ SqL K H p (bs.map V.bl) ∧ Q (.int (bs.count true : Nat)) H
theorem mt_countB {X : Cx} : MtR X "list.count" (rCntB X.K) := by
  intro pins s σ H x xs v us Q I rx rxs h
  obtain ⟨p, bs, rfl, rfl, hp, q⟩ := h
  cases rx
  obtain ⟨u, rfl, ru⟩ := vals1 rxs
  cases ru
  obtain ⟨its, rv, ⟨⟨cls, dd, data, sl⟩, n, ho, hc, hdn, hd⟩, hlen⟩ := I.list hp
  simp only at hc hd
  subst hc hd
  have hb := bools_of rv
  refine call_meets PySem.F.slot_list_count ⟨_, ho, rfl⟩ PySem.F.entry_list_count (PySem.F.args_list_count_2 _ _)
    (SeqAt.list_countAt p its.toArray n dd sl (.bool true) eB) ⟨ho, fun y hy => ?_, ?_⟩
  · have hy' : y ∈ bs.map Value.bool := by rw [← hb]; simpa using hy
    obtain ⟨b, _, rfl⟩ := List.mem_map.mp hy'
    have := SeqAt.EqAt.bool_bool (A := X.A.in1) (s := s) b true
    rw [show (b == true) = eB (.bool b) by cases b <;> rfl] at this
    exact this
  · have ec : its.toArray.toList.countP eB = bs.count true := by
      show its.countP eB = _
      rw [hb, count_bools]
    refine ⟨.int (bs.count true : Nat), H, I.tok _, ⟨s.toks, ?_⟩, q⟩
    show Value.int ((its.toArray.toList.countP eB : Nat) : Int) s.toks = Value.int ((bs.count true : Nat) : Int) s.toks
    rw [ec]
end Fs
/-! The program's doors, closed. -/
namespace Fs
open PySem L2 TL
/-- a class that is raised -/
structure Rz (K : PySem.W.Frag) (mg : Str → Option Value) (x : Str) (CN : Addr) : Prop where
  g : mg x = some (.ref CN)
  x : PySem.W.excIn K CN [.type "ValueError", .type "Exception", .type "BaseException", .type "object"] "ValueError.__new__" = true
  k : PySem.W.keepIn K (.ref CN) = true
  b : PySem.W.subIn K (.ref CN) (.type "BaseException") = some true
  t : PySem.W.typeIn K (.ref CN) = some (.type "type")
theorem pss_dead {X : Cx} {st : List Stmt} : PSs X st (fun _ _ _ => False) := ⟨fun _ _ _ _ _ _ h => h.elim⟩
theorem flnT (A : LA) : (fldsL A).lookup ("_check_text" : Str) = none := rfl
theorem flnM (A : LA) : (fldsL A).lookup ("_check_members" : Str) = none := rfl
theorem flnN (A : LA) : (fldsL A).lookup ("_check_fault_or_none" : Str) = none := rfl
def spChkFT (C CF : Addr) : Sp := fun vs H Q E => ∃ (p : Addr) (A : LA) (ms ns : List Addr) (es : List Ent) (ex : List Addr) (t : Tg) (v : V), vs = [.ref p, v] ∧ LedAt C H p A ms ns es ∧ TgAt ex H t v ∧ (t.isF es.length = true → Q .non H) ∧ (t.isF es.length = false → E (.ref CF) none H)
def Tg.isFN (many : Nat) : Tg → Bool
  | .non => true
  | t => t.isF many
def spChkNT (C CF : Addr) : Sp := fun vs H Q E => ∃ (p : Addr) (A : LA) (ms ns : List Addr) (es : List Ent) (ex : List Addr) (t : Tg) (v : V), vs = [.ref p, v] ∧ LedAt C H p A ms ns es ∧ TgAt ex H t v ∧ (t.isFN es.length = true → Q .non H) ∧ (t.isFN es.length = false → E (.ref CF) none H)
def spChkTT (C CT : Addr) : Sp := fun vs H Q E => ∃ (p : Addr) (ex : List Addr) (t : Tg) (v : V), vs = [.ref p, v] ∧ TgAt ex H t v ∧ (t.isS = true → Q .non H) ∧ (t.isS = false → E (.ref CT) none H)
def spChkMT (C CF CE : Addr) : Sp := fun vs H Q E => ∃ (p : Addr) (A : LA) (ms ns : List Addr) (es : List Ent) (ex : List Addr) (l : List Tg) (v : V), vs = [.ref p, v] ∧ LedAt C H p A ms ns es ∧ TgAt ex H (.lst l) v ∧ (l = [] → E (.ref CE) none H) ∧ (l ≠ [] → l.all (Tg.isF es.length) = true → Q .non H) ∧ (l ≠ [] → l.all (Tg.isF es.length) = false → E (.ref CF) none H)
/-- a number that is no fault's -/
def spBadK (C CF : Addr) (n : Nat) : Sp := fun vs H Q E => ∃ (p : Addr) (A : LA) (ms ns : List Addr) (es : List Ent) (ex : List Addr) (t : Tg) (v : V) (r : List V), vs = .ref p :: v :: r ∧ r.length = n ∧ LedAt C H p A ms ns es ∧ TgAt ex H t v ∧ t.isF es.length = false ∧ E (.ref CF) none H
theorem iteNot {c A B : Prop} [Decidable c] (hc : ¬ c) (h : A) : if (!decide c) = true then A else B := by
  rw [decide_eq_false hc]
  exact iteT h
theorem tg_non {ex : List Addr} {H : Hp} {t : Tg} {v : V} (h : TgAt ex H t v) : v = .non ↔ t = .non := by
  cases t with
  | non => simp only [TgAt] at h; subst h; exact ⟨fun _ => rfl, fun _ => rfl⟩
  | bl b => simp only [TgAt] at h; subst h; exact ⟨fun z => (by cases z), fun z => (by cases z)⟩
  | int b => simp only [TgAt] at h; subst h; exact ⟨fun z => (by cases z), fun z => (by cases z)⟩
  | str b => simp only [TgAt] at h; obtain ⟨rfl, _⟩ := h; exact ⟨fun z => (by cases z), fun z => (by cases z)⟩
  | lst b => simp only [TgAt] at h; obtain ⟨a, ys, rfl, _⟩ := h; exact ⟨fun z => (by cases z), fun z => (by cases z)⟩
  | tup b => simp only [TgAt] at h; obtain ⟨a, ys, rfl, _⟩ := h; exact ⟨fun z => (by cases z), fun z => (by cases z)⟩
  | dic => simp only [TgAt] at h; obtain ⟨a, rfl, _⟩ := h; exact ⟨fun z => (by cases z), fun z => (by cases z)⟩
def spLikeT (C CF CE : Addr) : Sp := fun vs H Q E => ∃ (p : Addr) (A : LA) (ms ns : List Addr) (es : List Ent) (ex : List Addr) (t : Tg) (l : List Tg) (v u : V), vs = [.ref p, v, u] ∧ LedAt C H p A ms ns es ∧ TgAt ex H t v ∧ TgAt ex H (.lst l) u ∧
  ((∃ k e, t = .int ((k : Nat) : Int) ∧ es[k]? = some e ∧ (e.kind ≠ sS ∧ E (.ref CF) none H ∨ e.kind = sS ∧ (l = [] ∧ E (.ref CE) none H ∨ l ≠ [] ∧ l.all (Tg.isF es.length) = false ∧ E (.ref CF) none H))) ∨ (t.isF es.length = false ∧ E (.ref CF) none H))
def spNoteT (C CF CT : Addr) : Sp := fun vs H Q E => ∃ (p : Addr) (A : LA) (ms ns : List Addr) (es : List Ent) (ex : List Addr) (t r : Tg) (v u : V), vs = [.ref p, v, u] ∧ LedAt C H p A ms ns es ∧ TgAt ex H t v ∧ TgAt ex H r u ∧ ((t.isF es.length = false ∧ E (.ref CF) none H) ∨ (t.isF es.length = true ∧ r.isS = false ∧ E (.ref CT) none H))
def spBlameT (C CF : Addr) : Sp := fun vs H Q E => ∃ (p : Addr) (A : LA) (ms ns : List Addr) (es : List Ent) (ex : List Addr) (t r : Tg) (v u : V), vs = [.ref p, v, u] ∧ LedAt C H p A ms ns es ∧ TgAt ex H t v ∧ TgAt ex H r u ∧ (t.isF es.length = false ∨ r.isFN es.length = false) ∧ E (.ref CF) none H
def spPlainT (C CK CNK CT : Addr) : Sp := fun vs H Q E => ∃ (p : Addr) (A : LA) (ms ns : List Addr) (es : List Ent) (ps : List (Str × Str)) (ex : List Addr) (t r : Tg) (v u : V), vs = [.ref p, v, u] ∧ LedAt C H p A ms ns es ∧ KindsAt CK H A.kd ps ∧ TgAt ex H t v ∧ TgAt ex H r u ∧
  (((t.isK ps = false ∨ t = .str sS) ∧ E (.ref CNK) none H) ∨ (t.isK ps = true ∧ t ≠ .str sS ∧ r.isS = false ∧ E (.ref CT) none H))
def spSheafT (C CT CF CE : Addr) : Sp := fun vs H Q E => ∃ (p : Addr) (A : LA) (ms ns : List Addr) (es : List Ent) (ex : List Addr) (t : Tg) (l : List Tg) (v u : V), vs = [.ref p, v, u] ∧ LedAt C H p A ms ns es ∧ TgAt ex H t v ∧ TgAt ex H (.lst l) u ∧
  ((t.isS = false ∧ E (.ref CT) none H) ∨ (t.isS = true ∧ (l = [] ∧ E (.ref CE) none H ∨ l ≠ [] ∧ l.all (Tg.isF es.length) = false ∧ E (.ref CF) none H)))
section
variable {P : Program} {w : World} {K : PySem.W.Frag} {mg : Str → Option Value} {base : Heap} {C fA fCF fCT fCM CF CT CE CK CNK : Addr}
theorem ok_chkFT {fW : Addr} {fd fdW : FuncData} (F : Fun K "_check_fault" "Ledger._check_fault" sChkF fCF fd) (T : LTxt K mg C fA fCF fCT fCM) (N : Rz K mg "NoFault" CF) (FW : FnOk P w K mg base CX0 1 fW fdW ["thing"] spWhT) (mW : mg "is_whole" = some (.ref fW)) (kW : PySem.W.keepIn K (.ref fW) = true) (bW : Binds K fdW ["thing"] []) :
    FnOk P w K mg base (L2.CX P w) 2 fCF fd ["self", "k"] (spChkFT C CF) := by
  refine F.okX scChkF (fun vs H Q E h => ?_) (fun cdv A0 outer s H vs Q E hr h => ?_)
  · obtain ⟨p, A, ms, ns, es, ex, t, v, rfl, _⟩ := h
    rfl
  · obtain ⟨p, A, ms, ns, es, ex, t, v, rfl, hL, th, kk, ke⟩ := h
    refine ⟨_, pss_one (ps_if (PW.pt (pw_or (pt_not (pt_val (pe_call FW hr rfl mW kW bW .nil pass0 (pa_cons (pv 1) pa_nil)))) (pw_or1 (pt_not (pt_chain op_le op_lt pe_int (pv 1) (pe_callB call_len_seq (by rfl) T.len PySem.boot_len (pa_cons (pe_fld (pv 0) rfl) pa_nil))))))) (pss_one (ps_raise rfl (takes_of rfl rfl rfl rfl) (pmk_own PySem.F.excBase_ValueError N.x N.g N.k (raises_own N.b N.t) (by exact rfl)))) pss_nil), ?_⟩
    refine ⟨_, rfl, ex, t, v, rfl, th, t.isI, rfl, ?_⟩
    cases t with
    | int i =>
      have ev : v = .int i := by simp only [TgAt] at th; exact th
      subst ev
      refine iteF ?_
      refine ⟨_, rfl, _, _, rfl, rfl, _, rfl, ?_⟩
      have e0 : Tg.isF es.length (.int i) = (decide (0 ≤ i) && decide (i < (es.length : Int))) := rfl
      rw [e0] at kk ke
      by_cases h0 : 0 ≤ i
      · rw [decide_eq_true h0]
        rw [decide_eq_true h0] at kk ke
        refine iteT ⟨_, rfl, p, C, A.dx, _, _, rfl, hL.ins, T.cl, T.n1, fl1 A, A.l1, _, rfl, .inl (SqL.of hL.h1), _, _, rfl, rfl, _, rfl, ?_⟩
        rw [List.length_map]
        by_cases h1 : i < (es.length : Int)
        · rw [decide_eq_true h1] at kk ⊢
          exact iteF (kk rfl)
        · rw [decide_eq_false h1] at ke ⊢
          exact iteT (ke rfl)
      · rw [decide_eq_false h0] at ke ⊢
        exact iteF ⟨false, rfl, iteT (ke rfl)⟩
    | _ => exact iteT (ke rfl)
theorem ok_chkNT {f : Addr} {fd fdF : FuncData} (F : Fun K "_check_fault_or_none" "Ledger._check_fault_or_none" sChkN f fd) (T : LTxt K mg C fA fCF fCT fCM) (FF : FnOk P w K mg base (L2.CX P w) 2 fCF fdF ["self", "k"] (spChkFT C CF)) (bF : Binds K fdF ["self", "k"] []) : FnOk P w K mg base (L2.CX P w) 3 f fd ["self", "j"] (spChkNT C CF) := by
  refine F.okX scChkN (fun vs H Q E h => ?_) (fun cdv A0 outer s H vs Q E hr h => ?_)
  · obtain ⟨p, A, ms, ns, es, ex, t, v, rfl, _⟩ := h
    rfl
  · obtain ⟨p, A, ms, ns, es, ex, t, v, rfl, hL, th, kk, ke⟩ := h
    refine ⟨_, pss_one (ps_if (pt_cmpR op_notN (pv 1) pe_non (nomark _)) (pss_one (ps_expr (pe_methE (E := fun _ => E) (pv 0) T.cl T.mF FF hr bF (fun σ => passAt (takes_of rfl rfl rfl rfl) σ) (pa_cons (pv 1) pa_nil)))) pss_nil), ?_⟩
    refine ⟨_, rfl, rfl, _, rfl, ?_⟩
    by_cases hv : v = .non
    · have et := (tg_non th).mp hv
      subst et
      exact iteNS hv (kk rfl)
    · have et : t ≠ .non := fun z => hv ((tg_non th).mpr z)
      have e : t.isFN es.length = t.isF es.length := by cases t <;> first | rfl | exact absurd rfl et
      rw [e] at kk ke
      exact iteNot hv ⟨_, rfl, p, A.dx, _, rfl, hL.ins, flno A, _, rfl, p, A, ms, ns, es, ex, t, v, rfl, hL, th, kk, ke⟩
theorem ok_chkTT {fX : Addr} {fd fdX : FuncData} (F : Fun K "_check_text" "Ledger._check_text" sChkT fCT fd) (N : Rz K mg "NoText" CT) (FX : FnOk P w K mg base CX0 1 fX fdX ["thing"] spTxG) (mX : mg "is_text" = some (.ref fX)) (kX : PySem.W.keepIn K (.ref fX) = true) (bX : Binds K fdX ["thing"] []) :
    FnOk P w K mg base (L2.CX P w) 2 fCT fd ["self", "text"] (spChkTT C CT) := by
  refine F.okX scChkT (fun vs H Q E h => ?_) (fun cdv A0 outer s H vs Q E hr h => ?_)
  · obtain ⟨p, ex, t, v, rfl, _⟩ := h
    rfl
  · obtain ⟨p, ex, t, v, rfl, th, kk, ke⟩ := h
    refine ⟨_, pss_one (ps_if (pt_not (pt_val (pe_call FX hr rfl mX kX bX .nil pass0 (pa_cons (pv 1) pa_nil)))) (pss_one (ps_raise rfl (takes_of rfl rfl rfl rfl) (pmk_own PySem.F.excBase_ValueError N.x N.g N.k (raises_own N.b N.t) (by exact rfl)))) pss_nil), ?_⟩
    refine ⟨_, rfl, ex, t, v, rfl, th, t.isS, rfl, ?_⟩
    cases h : t.isS with
    | true => exact iteF (kk h)
    | false => exact iteT (ke h)
theorem ok_chkMT {fd fdF : FuncData} (F : Fun K "_check_members" "Ledger._check_members" sChkM fCM fd) (T : LTxt K mg C fA fCF fCT fCM) (N : Rz K mg "Empty" CE) (FF : FnOk P w K mg base (L2.CX P w) 2 fCF fdF ["self", "k"] (spChkFT C CF)) (bF : Binds K fdF ["self", "k"] []) : FnOk P w K mg base (L2.CX P w) 3 fCM fd ["self", "members"] (spChkMT C CF CE) := by
  refine F.okX scChkM (fun vs H Q E h => ?_) (fun cdv A0 outer s H vs Q E hr h => ?_)
  · obtain ⟨p, A, ms, ns, es, ex, l, v, rfl, _⟩ := h
    rfl
  · obtain ⟨p, A, ms, ns, es, ex, l, v, rfl, hL, th, k0, kk, ke⟩ := h
    refine ⟨_, pss_cons (ps_if (pt_not (pt_truth (pv 1) (fun _ => rfl))) (pss_one (ps_raise rfl (takes_of rfl rfl rfl rfl) (pmk_own PySem.F.excBase_ValueError N.x N.g N.k (raises_own N.b N.t) (by exact rfl)))) pss_nil)
      (pss_one (ps_for (passes_of rfl) rfl (pi_list (pv 1)) (pg_name (i := 2) scChkM.nd rfl (Or.inl rfl)) (pss_one (ps_expr (pe_methE (E := fun _ => E) (pv 0) T.cl T.mF FF hr bF (fun σ => passAt (takes_of rfl rfl rfl rfl) σ) (pa_cons (pv 2) pa_nil)))))), ?_⟩
    simp only [TgAt] at th
    obtain ⟨a, ys, rfl, nx, ea, ts⟩ := th
    have hl := ts.len
    cases hle : l with
    | nil =>
      have ey : ys = [] := List.eq_nil_of_length_eq_zero (by rw [hl, hle]; rfl)
      subst ey
      exact ⟨_, rfl, false, .inl ⟨_, SqL.of ea, rfl⟩, iteT (k0 hle)⟩
    | cons x r =>
    have hne : l ≠ [] := by rw [hle]; exact fun z => nomatch z
    obtain ⟨y, yr, rfl⟩ : ∃ y yr, ys = y :: yr := by
      cases ys with
      | nil => rw [hle] at hl; cases hl
      | cons y yr => exact ⟨y, yr, rfl⟩
    refine ⟨_, rfl, true, .inl ⟨_, SqL.of ea, rfl⟩, iteF ?_⟩
    refine ⟨_, rfl, a, rfl, ⟨_, SqL.of ea⟩, for_list (K := K) (a := a) (xs := y :: yr) (fun i σ H' => H' = H ∧ (∃ v2 : Option V, σ = [some (.ref p), some (.ref a), v2]) ∧ (l.take i).all (Tg.isF es.length) = true) ⟨rfl, ⟨none, rfl⟩, by rw [List.take_zero]; rfl⟩ (fun i σ H' _ hh => by rw [hh.1]; exact SqL.of ea) ?_ ?_⟩
    · rintro i x' σ H' hx ⟨rfl, ⟨v2, rfl⟩, hall⟩
      obtain ⟨t, ht, tx⟩ := ts.at hx
      refine ⟨_, rfl, p, A.dx, _, rfl, hL.ins, flno A, _, rfl, p, A, ms, ns, es, ex, t, x', rfl, hL, tx, fun hy => ?_, fun hn => ke hne ?_⟩
      · refine ⟨rfl, ⟨_, rfl⟩, ?_⟩
        rw [List.take_add_one, ht, List.all_append, hall]
        show (true && ((some t).toList.all (Tg.isF es.length))) = true
        simp [hy]
      · rw [Bool.eq_false_iff]
        intro q
        rw [List.all_eq_true] at q
        have := q t (List.mem_of_getElem? ht)
        rw [hn] at this
        cases this
    · rintro σ H' ⟨rfl, ⟨v2, rfl⟩, hall⟩
      refine kk hne ?_
      rw [hl, List.take_length] at hall
      exact hall
theorem bad_kind {f : Addr} {fd fdF : FuncData} (F : Fun K "kind" "Ledger.kind" sKind f fd) (T : LTxt K mg C fA fCF fCT fCM) (FF : FnOk P w K mg base (L2.CX P w) 2 fCF fdF ["self", "k"] (spChkFT C CF)) (bF : Binds K fdF ["self", "k"] []) : FnOk P w K mg base (L2.CX P w) 3 f fd ["self", "k"] (spBadK C CF 0) := by
  refine F.okX scKind (fun vs H Q E h => ?_) (fun cdv A0 outer s H vs Q E hr h => ?_)
  · obtain ⟨p, A, ms, ns, es, ex, t, v, r, rfl, hl, _⟩ := h
    show r.length + 1 + 1 = _
    rw [hl]; rfl
  · obtain ⟨p, A, ms, ns, es, ex, t, v, r, rfl, hl, hL, th, hb, ke⟩ := h
    refine ⟨_, pss_cons (ps_expr (pe_methE (E := fun _ => E) (pv 0) T.cl T.mF FF hr bF (fun σ => passAt (takes_of rfl rfl rfl rfl) σ) (pa_cons (pv 1) pa_nil))) pss_dead, ?_⟩
    exact ⟨_, rfl, p, A.dx, _, rfl, hL.ins, flno A, _, rfl, p, A, ms, ns, es, ex, t, v, rfl, hL, th, (fun h => by rw [hb] at h; cases h), fun _ => ke⟩
theorem bad_text {f : Addr} {fd fdF : FuncData} (F : Fun K "text" "Ledger.text" sTextM f fd) (T : LTxt K mg C fA fCF fCT fCM) (FF : FnOk P w K mg base (L2.CX P w) 2 fCF fdF ["self", "k"] (spChkFT C CF)) (bF : Binds K fdF ["self", "k"] []) : FnOk P w K mg base (L2.CX P w) 3 f fd ["self", "k"] (spBadK C CF 0) := by
  refine F.okX scTextM (fun vs H Q E h => ?_) (fun cdv A0 outer s H vs Q E hr h => ?_)
  · obtain ⟨p, A, ms, ns, es, ex, t, v, r, rfl, hl, _⟩ := h
    show r.length + 1 + 1 = _
    rw [hl]; rfl
  · obtain ⟨p, A, ms, ns, es, ex, t, v, r, rfl, hl, hL, th, hb, ke⟩ := h
    refine ⟨_, pss_cons (ps_expr (pe_methE (E := fun _ => E) (pv 0) T.cl T.mF FF hr bF (fun σ => passAt (takes_of rfl rfl rfl rfl) σ) (pa_cons (pv 1) pa_nil))) pss_dead, ?_⟩
    exact ⟨_, rfl, p, A.dx, _, rfl, hL.ins, flno A, _, rfl, p, A, ms, ns, es, ex, t, v, rfl, hL, th, (fun h => by rw [hb] at h; cases h), fun _ => ke⟩
theorem bad_members {f : Addr} {fd fdF : FuncData} (F : Fun K "members" "Ledger.members" sMembers f fd) (T : LTxt K mg C fA fCF fCT fCM) (FF : FnOk P w K mg base (L2.CX P w) 2 fCF fdF ["self", "k"] (spChkFT C CF)) (bF : Binds K fdF ["self", "k"] []) : FnOk P w K mg base (L2.CX P w) 3 f fd ["self", "k"] (spBadK C CF 0) := by
  refine F.okX scMembers (fun vs H Q E h => ?_) (fun cdv A0 outer s H vs Q E hr h => ?_)
  · obtain ⟨p, A, ms, ns, es, ex, t, v, r, rfl, hl, _⟩ := h
    show r.length + 1 + 1 = _
    rw [hl]; rfl
  · obtain ⟨p, A, ms, ns, es, ex, t, v, r, rfl, hl, hL, th, hb, ke⟩ := h
    refine ⟨_, pss_cons (ps_expr (pe_methE (E := fun _ => E) (pv 0) T.cl T.mF FF hr bF (fun σ => passAt (takes_of rfl rfl rfl rfl) σ) (pa_cons (pv 1) pa_nil))) pss_dead, ?_⟩
    exact ⟨_, rfl, p, A.dx, _, rfl, hL.ins, flno A, _, rfl, p, A, ms, ns, es, ex, t, v, rfl, hL, th, (fun h => by rw [hb] at h; cases h), fun _ => ke⟩
theorem bad_notes {f : Addr} {fd fdF : FuncData} (F : Fun K "notes" "Ledger.notes" sNotes f fd) (T : LTxt K mg C fA fCF fCT fCM) (FF : FnOk P w K mg base (L2.CX P w) 2 fCF fdF ["self", "k"] (spChkFT C CF)) (bF : Binds K fdF ["self", "k"] []) : FnOk P w K mg base (L2.CX P w) 3 f fd ["self", "k"] (spBadK C CF 0) := by
  refine F.okX scNotes (fun vs H Q E h => ?_) (fun cdv A0 outer s H vs Q E hr h => ?_)
  · obtain ⟨p, A, ms, ns, es, ex, t, v, r, rfl, hl, _⟩ := h
    show r.length + 1 + 1 = _
    rw [hl]; rfl
  · obtain ⟨p, A, ms, ns, es, ex, t, v, r, rfl, hl, hL, th, hb, ke⟩ := h
    refine ⟨_, pss_cons (ps_expr (pe_methE (E := fun _ => E) (pv 0) T.cl T.mF FF hr bF (fun σ => passAt (takes_of rfl rfl rfl rfl) σ) (pa_cons (pv 1) pa_nil))) pss_dead, ?_⟩
    exact ⟨_, rfl, p, A.dx, _, rfl, hL.ins, flno A, _, rfl, p, A, ms, ns, es, ex, t, v, rfl, hL, th, (fun h => by rw [hb] at h; cases h), fun _ => ke⟩
theorem bad_cause {f : Addr} {fd fdF : FuncData} (F : Fun K "cause" "Ledger.cause" sCause f fd) (T : LTxt K mg C fA fCF fCT fCM) (FF : FnOk P w K mg base (L2.CX P w) 2 fCF fdF ["self", "k"] (spChkFT C CF)) (bF : Binds K fdF ["self", "k"] []) : FnOk P w K mg base (L2.CX P w) 3 f fd ["self", "k"] (spBadK C CF 0) := by
  refine F.okX scCause (fun vs H Q E h => ?_) (fun cdv A0 outer s H vs Q E hr h => ?_)
  · obtain ⟨p, A, ms, ns, es, ex, t, v, r, rfl, hl, _⟩ := h
    show r.length + 1 + 1 = _
    rw [hl]; rfl
  · obtain ⟨p, A, ms, ns, es, ex, t, v, r, rfl, hl, hL, th, hb, ke⟩ := h
    refine ⟨_, pss_cons (ps_expr (pe_methE (E := fun _ => E) (pv 0) T.cl T.mF FF hr bF (fun σ => passAt (takes_of rfl rfl rfl rfl) σ) (pa_cons (pv 1) pa_nil))) pss_dead, ?_⟩
    exact ⟨_, rfl, p, A.dx, _, rfl, hL.ins, flno A, _, rfl, p, A, ms, ns, es, ex, t, v, rfl, hL, th, (fun h => by rw [hb] at h; cases h), fun _ => ke⟩
theorem bad_at_work {f : Addr} {fd fdF : FuncData} (F : Fun K "at_work" "Ledger.at_work" sAtWork f fd) (T : LTxt K mg C fA fCF fCT fCM) (FF : FnOk P w K mg base (L2.CX P w) 2 fCF fdF ["self", "k"] (spChkFT C CF)) (bF : Binds K fdF ["self", "k"] []) : FnOk P w K mg base (L2.CX P w) 3 f fd ["self", "k"] (spBadK C CF 0) := by
  refine F.okX scAtWork (fun vs H Q E h => ?_) (fun cdv A0 outer s H vs Q E hr h => ?_)
  · obtain ⟨p, A, ms, ns, es, ex, t, v, r, rfl, hl, _⟩ := h
    show r.length + 1 + 1 = _
    rw [hl]; rfl
  · obtain ⟨p, A, ms, ns, es, ex, t, v, r, rfl, hl, hL, th, hb, ke⟩ := h
    refine ⟨_, pss_cons (ps_expr (pe_methE (E := fun _ => E) (pv 0) T.cl T.mF FF hr bF (fun σ => passAt (takes_of rfl rfl rfl rfl) σ) (pa_cons (pv 1) pa_nil))) pss_dead, ?_⟩
    exact ⟨_, rfl, p, A.dx, _, rfl, hL.ins, flno A, _, rfl, p, A, ms, ns, es, ex, t, v, rfl, hL, th, (fun h => by rw [hb] at h; cases h), fun _ => ke⟩
theorem bad_leaves {f : Addr} {fd fdF : FuncData} (F : Fun K "leaves" "Ledger.leaves" sLvp f fd) (T : LTxt K mg C fA fCF fCT fCM) (FF : FnOk P w K mg base (L2.CX P w) 2 fCF fdF ["self", "k"] (spChkFT C CF)) (bF : Binds K fdF ["self", "k"] []) : FnOk P w K mg base (L2.CX P w) 3 f fd ["self", "k"] (spBadK C CF 0) := by
  refine F.okX scLvp (fun vs H Q E h => ?_) (fun cdv A0 outer s H vs Q E hr h => ?_)
  · obtain ⟨p, A, ms, ns, es, ex, t, v, r, rfl, hl, _⟩ := h
    show r.length + 1 + 1 = _
    rw [hl]; rfl
  · obtain ⟨p, A, ms, ns, es, ex, t, v, r, rfl, hl, hL, th, hb, ke⟩ := h
    refine ⟨_, pss_cons (ps_expr (pe_methE (E := fun _ => E) (pv 0) T.cl T.mF FF hr bF (fun σ => passAt (takes_of rfl rfl rfl rfl) σ) (pa_cons (pv 1) pa_nil))) pss_dead, ?_⟩
    exact ⟨_, rfl, p, A.dx, _, rfl, hL.ins, flno A, _, rfl, p, A, ms, ns, es, ex, t, v, rfl, hL, th, (fun h => by rw [hb] at h; cases h), fun _ => ke⟩
theorem bad_led {f : Addr} {fd fdF : FuncData} (F : Fun K "led" "Ledger.led" sLed f fd) (T : LTxt K mg C fA fCF fCT fCM) (FF : FnOk P w K mg base (L2.CX P w) 2 fCF fdF ["self", "k"] (spChkFT C CF)) (bF : Binds K fdF ["self", "k"] []) : FnOk P w K mg base (L2.CX P w) 3 f fd ["self", "k", "way"] (spBadK C CF 1) := by
  refine F.okX scLed (fun vs H Q E h => ?_) (fun cdv A0 outer s H vs Q E hr h => ?_)
  · obtain ⟨p, A, ms, ns, es, ex, t, v, r, rfl, hl, _⟩ := h
    show r.length + 1 + 1 = _
    rw [hl]; rfl
  · obtain ⟨p, A, ms, ns, es, ex, t, v, r, rfl, hl, hL, th, hb, ke⟩ := h
    refine ⟨_, pss_cons (ps_expr (pe_methE (E := fun _ => E) (pv 0) T.cl T.mF FF hr bF (fun σ => passAt (takes_of rfl rfl rfl rfl) σ) (pa_cons (pv 1) pa_nil))) pss_dead, ?_⟩
    exact ⟨_, rfl, p, A.dx, _, rfl, hL.ins, flno A, _, rfl, p, A, ms, ns, es, ex, t, v, rfl, hL, th, (fun h => by rw [hb] at h; cases h), fun _ => ke⟩
theorem bad_like {f : Addr} {fd fdF fdM : FuncData} (F : Fun K "like" "Ledger.like" sLike f fd) (T : LTxt K mg C fA fCF fCT fCM) (N : Rz K mg "NoFault" CF) (FF : FnOk P w K mg base (L2.CX P w) 2 fCF fdF ["self", "k"] (spChkFT C CF)) (bF : Binds K fdF ["self", "k"] []) (FM : FnOk P w K mg base (L2.CX P w) 3 fCM fdM ["self", "members"] (spChkMT C CF CE)) (bM : Binds K fdM ["self", "members"] []) : FnOk P w K mg base (L2.CX P w) 4 f fd ["self", "k", "members"] (spLikeT C CF CE) := by
  refine F.okX scLike (fun vs H Q E h => ?_) (fun cdv A0 outer s H vs Q E hr h => ?_)
  · obtain ⟨p, A, ms, ns, es, ex, t, l, v, u, rfl, _⟩ := h
    rfl
  · obtain ⟨p, A, ms, ns, es, ex, t, l, v, u, rfl, hL, th, lh, hor⟩ := h
    have hr2 : Room 2 _ := hr.mono (by decide)
    refine ⟨_, pss_cons (ps_expr (pe_methE (E := fun _ => E) (pv 0) T.cl T.mF FF hr2 bF (fun σ => passAt (takes_of rfl rfl rfl rfl) σ) (pa_cons (pv 1) pa_nil)))
      (pss_cons (ps_if (pt_cmpR op_ne (pe_ix ix_list (pe_fld (pv 0) rfl) (pv 1) (fun _ _ => rfl)) pe_str (nomark _)) (pss_one (ps_raise rfl (takes_of rfl rfl rfl rfl) (pmk_own PySem.F.excBase_ValueError N.x N.g N.k (raises_own N.b N.t) (by exact rfl)))) pss_nil)
      (pss_cons (ps_expr (pe_methE (E := fun _ => E) (pv 0) T.cl T.mM FM hr bM (fun σ => passAt (takes_of rfl rfl rfl rfl) σ) (pa_cons (pv 2) pa_nil))) pss_dead)), ?_⟩
    refine ⟨_, rfl, p, A.dx, _, rfl, hL.ins, flno A, _, rfl, p, A, ms, ns, es, ex, t, v, rfl, hL, th, fun h1 => ?_, fun h1 => ?_⟩
    · rcases hor with ⟨k, e, rfl, he, hor⟩ | ⟨h, _⟩
      · have ev : v = .int ((k : Nat) : Int) := by simp only [TgAt] at th; exact th
        subst ev
        refine ⟨_, rfl, p, C, A.dx, _, _, rfl, hL.ins, T.cl, T.n1, fl1 A, _, rfl, A.l1, _, _, V.str e.kind, rfl, rfl, SqL.of hL.h1, atI_nat (by rw [List.getElem?_map, he]; rfl), ?_⟩
        refine ⟨rfl, _, rfl, ?_⟩
        rcases hor with ⟨hk, ke⟩ | ⟨hk, hor⟩
        · exact iteNot (fun z => hk (V.str.inj z)) ke
        · refine iteNS (by rw [hk]) ?_
          refine ⟨_, rfl, p, A.dx, _, rfl, hL.ins, flnM A, _, rfl, p, A, ms, ns, es, ex, l, u, rfl, hL, lh, ?_⟩
          rcases hor with ⟨rfl, ke⟩ | ⟨hne, ha, ke⟩
          · exact ⟨fun _ => ke, fun z => absurd rfl z, fun z => absurd rfl z⟩
          · exact ⟨fun z => absurd z hne, (fun _ z => by rw [ha] at z; cases z), fun _ _ => ke⟩
      · rw [h] at h1; cases h1
    · rcases hor with ⟨k, e, rfl, he, hor⟩ | ⟨h, ke⟩
      · have hk := (List.getElem?_eq_some_iff.mp he).1
        have h2 : Tg.isF es.length (.int ((k : Nat) : Int)) = true := by
          show (decide (0 ≤ ((k : Nat) : Int)) && decide (((k : Nat) : Int) < (es.length : Int))) = true
          rw [decide_eq_true (by omega), decide_eq_true (by omega)]; rfl
        rw [h2] at h1; cases h1
      · exact ke
theorem bad_note {f : Addr} {fd fdF fdT : FuncData} (F : Fun K "note" "Ledger.note" sNote f fd) (T : LTxt K mg C fA fCF fCT fCM) (FF : FnOk P w K mg base (L2.CX P w) 2 fCF fdF ["self", "k"] (spChkFT C CF)) (bF : Binds K fdF ["self", "k"] []) (FT : FnOk P w K mg base (L2.CX P w) 2 fCT fdT ["self", "text"] (spChkTT C CT)) (bT : Binds K fdT ["self", "text"] []) : FnOk P w K mg base (L2.CX P w) 4 f fd ["self", "k", "text"] (spNoteT C CF CT) := by
  refine F.okX scNote (fun vs H Q E h => ?_) (fun cdv A0 outer s H vs Q E hr h => ?_)
  · obtain ⟨p, A, ms, ns, es, ex, t, r, v, u, rfl, _⟩ := h
    rfl
  · obtain ⟨p, A, ms, ns, es, ex, t, r, v, u, rfl, hL, th, rh, hor⟩ := h
    have hr2 : Room 2 _ := hr.mono (by decide)
    refine ⟨_, pss_cons (ps_expr (pe_methE (E := fun _ => E) (pv 0) T.cl T.mF FF hr2 bF (fun σ => passAt (takes_of rfl rfl rfl rfl) σ) (pa_cons (pv 1) pa_nil)))
      (pss_cons (ps_expr (pe_methE (E := fun _ => E) (pv 0) T.cl T.mT FT hr2 bT (fun σ => passAt (takes_of rfl rfl rfl rfl) σ) (pa_cons (pv 2) pa_nil))) pss_dead), ?_⟩
    refine ⟨_, rfl, p, A.dx, _, rfl, hL.ins, flno A, _, rfl, p, A, ms, ns, es, ex, t, v, rfl, hL, th, fun h1 => ?_, fun h1 => ?_⟩
    · rcases hor with ⟨h, _⟩ | ⟨_, h, ke⟩
      · rw [h] at h1; cases h1
      · exact ⟨_, rfl, p, A.dx, _, rfl, hL.ins, flnT A, _, rfl, p, ex, r, u, rfl, rh, (fun z => by rw [h] at z; cases z), fun _ => ke⟩
    · rcases hor with ⟨_, ke⟩ | ⟨h, _⟩
      · exact ke
      · rw [h] at h1; cases h1
theorem bad_blame {f : Addr} {fd fdF fdN : FuncData} (F : Fun K "blame" "Ledger.blame" sBlame f fd) (T : LTxt K mg C fA fCF fCT fCM) (FF : FnOk P w K mg base (L2.CX P w) 2 fCF fdF ["self", "k"] (spChkFT C CF)) (bF : Binds K fdF ["self", "k"] []) {fN : Addr} (mN : Meth K C "_check_fault_or_none" fN) (FN : FnOk P w K mg base (L2.CX P w) 3 fN fdN ["self", "j"] (spChkNT C CF)) (bN : Binds K fdN ["self", "j"] []) : FnOk P w K mg base (L2.CX P w) 4 f fd ["self", "k", "j"] (spBlameT C CF) := by
  refine F.okX scBlame (fun vs H Q E h => ?_) (fun cdv A0 outer s H vs Q E hr h => ?_)
  · obtain ⟨p, A, ms, ns, es, ex, t, r, v, u, rfl, _⟩ := h
    rfl
  · obtain ⟨p, A, ms, ns, es, ex, t, r, v, u, rfl, hL, th, rh, hor, ke⟩ := h
    have hr2 : Room 2 _ := hr.mono (by decide)
    refine ⟨_, pss_cons (ps_expr (pe_methE (E := fun _ => E) (pv 0) T.cl T.mF FF hr2 bF (fun σ => passAt (takes_of rfl rfl rfl rfl) σ) (pa_cons (pv 1) pa_nil)))
      (pss_cons (ps_expr (pe_methE (E := fun _ => E) (pv 0) T.cl mN FN hr bN (fun σ => passAt (takes_of rfl rfl rfl rfl) σ) (pa_cons (pv 2) pa_nil))) pss_dead), ?_⟩
    refine ⟨_, rfl, p, A.dx, _, rfl, hL.ins, flno A, _, rfl, p, A, ms, ns, es, ex, t, v, rfl, hL, th, fun h1 => ?_, fun h1 => ke⟩
    rcases hor with h | h
    · rw [h] at h1; cases h1
    · exact ⟨_, rfl, p, A.dx, _, rfl, hL.ins, flnN A, _, rfl, p, A, ms, ns, es, ex, r, u, rfl, hL, rh, (fun z => by rw [h] at z; cases z), fun _ => ke⟩
theorem bad_rise {f : Addr} {fd fdF fdN : FuncData} (F : Fun K "rise" "Ledger.rise" sRise f fd) (T : LTxt K mg C fA fCF fCT fCM) (FF : FnOk P w K mg base (L2.CX P w) 2 fCF fdF ["self", "k"] (spChkFT C CF)) (bF : Binds K fdF ["self", "k"] []) {fN : Addr} (mN : Meth K C "_check_fault_or_none" fN) (FN : FnOk P w K mg base (L2.CX P w) 3 fN fdN ["self", "j"] (spChkNT C CF)) (bN : Binds K fdN ["self", "j"] []) : FnOk P w K mg base (L2.CX P w) 4 f fd ["self", "k", "j"] (spBlameT C CF) := by
  refine F.okX scRise (fun vs H Q E h => ?_) (fun cdv A0 outer s H vs Q E hr h => ?_)
  · obtain ⟨p, A, ms, ns, es, ex, t, r, v, u, rfl, _⟩ := h
    rfl
  · obtain ⟨p, A, ms, ns, es, ex, t, r, v, u, rfl, hL, th, rh, hor, ke⟩ := h
    have hr2 : Room 2 _ := hr.mono (by decide)
    refine ⟨_, pss_cons (ps_expr (pe_methE (E := fun _ => E) (pv 0) T.cl T.mF FF hr2 bF (fun σ => passAt (takes_of rfl rfl rfl rfl) σ) (pa_cons (pv 1) pa_nil)))
      (pss_cons (ps_expr (pe_methE (E := fun _ => E) (pv 0) T.cl mN FN hr bN (fun σ => passAt (takes_of rfl rfl rfl rfl) σ) (pa_cons (pv 2) pa_nil))) pss_dead), ?_⟩
    refine ⟨_, rfl, p, A.dx, _, rfl, hL.ins, flno A, _, rfl, p, A, ms, ns, es, ex, t, v, rfl, hL, th, fun h1 => ?_, fun h1 => ke⟩
    rcases hor with h | h
    · rw [h] at h1; cases h1
    · exact ⟨_, rfl, p, A.dx, _, rfl, hL.ins, flnN A, _, rfl, p, A, ms, ns, es, ex, r, u, rfl, hL, rh, (fun z => by rw [h] at z; cases z), fun _ => ke⟩
theorem bad_plain {f : Addr} {fd fdT fdK : FuncData} (F : Fun K "plain" "Ledger.plain" sPlain f fd) (T : LTxt K mg C fA fCF fCT fCM) {fKI fKK fKN : Addr} (TK : KTxt K mg CK fKI fKK fKN) (N : Rz K mg "NoKind" CNK) (FK : FnOk P w K mg base CX0 2 fKK fdK ["self", "thing"] (spKdG CK)) (bK : Binds K fdK ["self", "thing"] []) (FT : FnOk P w K mg base (L2.CX P w) 2 fCT fdT ["self", "text"] (spChkTT C CT)) (bT : Binds K fdT ["self", "text"] []) : FnOk P w K mg base (L2.CX P w) 4 f fd ["self", "kind", "text"] (spPlainT C CK CNK CT) := by
  refine F.okX scPlain (fun vs H Q E h => ?_) (fun cdv A0 outer s H vs Q E hr h => ?_)
  · obtain ⟨p, A, ms, ns, es, ps, ex, t, r, v, u, rfl, _⟩ := h
    rfl
  · obtain ⟨p, A, ms, ns, es, ps, ex, t, r, v, u, rfl, hL, hK, th, rh, hor⟩ := h
    have hr2 : Room 2 _ := hr.mono (by decide)
    obtain ⟨dk, dd, g1, g2⟩ := id hK
    have noK : ([(("_above" : Str), V.ref dd)] : List (Str × V)).lookup ("is_kind" : Str) = none := ab_no _ (by decide +kernel)
    refine ⟨_, pss_cons (ps_if (PW.pt (pw_or (pt_not (pt_val (pe_meth (pe_fld (pv 0) rfl) TK.cl TK.mK FK hr2 bK .nil pass0 (pa_cons (pv 1) pa_nil)))) (pw_or1 (pt_cmpR op_eq (pv 1) pe_str (nomark _))))) (pss_one (ps_raise rfl (takes_of rfl rfl rfl rfl) (pmk_own PySem.F.excBase_ValueError N.x N.g N.k (raises_own N.b N.t) (by exact rfl)))) pss_nil)
      (pss_cons (ps_expr (pe_methE (E := fun _ => E) (pv 0) T.cl T.mT FT hr2 bT (fun σ => passAt (takes_of rfl rfl rfl rfl) σ) (pa_cons (pv 2) pa_nil))) pss_dead), ?_⟩
    refine ⟨_, rfl, p, C, A.dx, _, _, rfl, hL.ins, T.cl, T.n0, fl0 A, A.kd, dk, _, rfl, g1, noK, _, rfl, ex, A.kd, t, v, ps, rfl, hK, th, t.isK ps, rfl, ?_⟩
    cases hk : t.isK ps with
    | false =>
      refine iteT ?_
      rcases hor with ⟨_, ke⟩ | ⟨h, _⟩
      · exact ke
      · rw [hk] at h; cases h
    | true =>
    refine iteF ?_
    obtain ⟨z, rfl⟩ : ∃ z, t = .str z := by
      cases t with
      | str z => exact ⟨z, rfl⟩
      | _ => simp [Tg.isK] at hk
    have ev : v = .str z := by simp only [TgAt] at th; exact th.1
    subst ev
    refine ⟨_, rfl, rfl, _, rfl, ?_⟩
    rcases hor with ⟨h | h, ke⟩ | ⟨_, hne, hs, ke⟩
    · rw [hk] at h; cases h
    · rw [decide_eq_true (show V.str z = V.str sS by cases h; rfl)]
      exact iteT ke
    · rw [decide_eq_false (show ¬ V.str z = V.str sS from fun e => hne (by cases e; rfl))]
      exact iteF ⟨_, rfl, p, A.dx, _, rfl, hL.ins, flnT A, _, rfl, p, ex, r, u, rfl, rh, (fun z => by rw [hs] at z; cases z), fun _ => ke⟩
theorem bad_sheaf {f : Addr} {fd fdT fdM : FuncData} (F : Fun K "sheaf" "Ledger.sheaf" sSheaf f fd) (T : LTxt K mg C fA fCF fCT fCM) (FT : FnOk P w K mg base (L2.CX P w) 2 fCT fdT ["self", "text"] (spChkTT C CT)) (bT : Binds K fdT ["self", "text"] []) (FM : FnOk P w K mg base (L2.CX P w) 3 fCM fdM ["self", "members"] (spChkMT C CF CE)) (bM : Binds K fdM ["self", "members"] []) : FnOk P w K mg base (L2.CX P w) 4 f fd ["self", "text", "members"] (spSheafT C CT CF CE) := by
  refine F.okX scSheaf (fun vs H Q E h => ?_) (fun cdv A0 outer s H vs Q E hr h => ?_)
  · obtain ⟨p, A, ms, ns, es, ex, t, l, v, u, rfl, _⟩ := h
    rfl
  · obtain ⟨p, A, ms, ns, es, ex, t, l, v, u, rfl, hL, th, lh, hor⟩ := h
    have hr2 : Room 2 _ := hr.mono (by decide)
    refine ⟨_, pss_cons (ps_expr (pe_methE (E := fun _ => E) (pv 0) T.cl T.mT FT hr2 bT (fun σ => passAt (takes_of rfl rfl rfl rfl) σ) (pa_cons (pv 1) pa_nil)))
      (pss_cons (ps_expr (pe_methE (E := fun _ => E) (pv 0) T.cl T.mM FM hr bM (fun σ => passAt (takes_of rfl rfl rfl rfl) σ) (pa_cons (pv 2) pa_nil))) pss_dead), ?_⟩
    refine ⟨_, rfl, p, A.dx, _, rfl, hL.ins, flnT A, _, rfl, p, ex, t, v, rfl, th, fun h1 => ?_, fun h1 => ?_⟩
    · rcases hor with ⟨h, _⟩ | ⟨_, hor⟩
      · rw [h] at h1; cases h1
      · refine ⟨_, rfl, p, A.dx, _, rfl, hL.ins, flnM A, _, rfl, p, A, ms, ns, es, ex, l, u, rfl, hL, lh, ?_⟩
        rcases hor with ⟨rfl, ke⟩ | ⟨hne, ha, ke⟩
        · exact ⟨fun _ => ke, fun z => absurd rfl z, fun z => absurd rfl z⟩
        · exact ⟨fun z => absurd z hne, (fun _ z => by rw [ha] at z; cases z), fun _ _ => ke⟩
    · rcases hor with ⟨_, ke⟩ | ⟨h, _⟩
      · exact ke
      · rw [h] at h1; cases h1
end
end Fs
/-! The law: of which class a refusal is; what is due of members. -/
namespace Fs
open PySem L2 TL
inductive Cl where | kind | text | fault | empty | way
deriving DecidableEq
def Cl.word : Cl → Str
  | .kind => "kind"
  | .text => "text"
  | .fault => "fault"
  | .empty => "empty"
  | .way => "way"
structure CA where
  k : Addr
  t : Addr
  f : Addr
  e : Addr
  w : Addr
def CA.at (A : CA) : Cl → Addr
  | .kind => A.k
  | .text => A.t
  | .fault => A.f
  | .empty => A.e
  | .way => A.w
structure RfE (K : PySem.W.Frag) (mg : Str → Option Value) (A : CA) (CF C1 C2 C3 C4 : Addr) : Prop where
  gF : mg "FaultError" = some (.ref CF)
  gk : mg "NoKind" = some (.ref A.k)
  gt : mg "NoText" = some (.ref A.t)
  gf : mg "NoFault" = some (.ref A.f)
  ge : mg "Empty" = some (.ref A.e)
  gw : mg "NoWay" = some (.ref A.w)
  g1 : mg "NoBody" = some (.ref C1)
  g2 : mg "NoProgram" = some (.ref C2)
  g3 : mg "NoRow" = some (.ref C3)
  g4 : mg "NoTest" = some (.ref C4)
  eF : ∀ c, PySem.W.exmOne K (.ref (A.at c)) (.ref CF) = some true
  exc : ∀ c, ExcC K (A.at c)
  no : ∀ c, PySem.W.kitAny K (.ref (A.at c)) [.ref C1, .ref C2, .ref C3, .ref C4] = some false
  is : ∀ c d, PySem.W.kitOne K (.ref (A.at c)) (.ref (A.at d)) = some (decide (c = d))
  val : ∀ c, PySem.W.kitOne K (.ref (A.at c)) (.type "ValueError") = some true
abbrev sWrd : Stmt := top 44 --def _law_word
abbrev sIsN : Stmt := top 39 --def _law_is_number
abbrev sDoM : Stmt := top 40 --def _law_due_of_members
abbrev nWrd : List Str := ["_law_e", "_law_some", "_law_others"]
abbrev nDoM : List Str := ["_law_members_here", "_law_many", "_law_one"]
theorem scWrd : FnScope nWrd ["_law_e"] (defScope sWrd) := ⟨rfl, rfl, rfl, by decide +kernel, rfl, by decide +kernel, by decide +kernel⟩
theorem scIsN : FnScope ["_law_thing", "_law_many"] ["_law_thing", "_law_many"] (defScope sIsN) := ⟨rfl, rfl, rfl, by decide +kernel, rfl, by decide +kernel, by decide +kernel⟩
theorem scDoM : FnScope nDoM ["_law_members_here", "_law_many"] (defScope sDoM) := ⟨rfl, rfl, rfl, by decide +kernel, rfl, by decide +kernel, by decide +kernel⟩
def spWrd (A : CA) : SpE := fun a cls d vs H Q _ => ∃ c : Cl, vs = [.ref a] ∧ cls = .ref (A.at c) ∧ d = none ∧ ∀ H', Keep [] H H' → Q (.str c.word) H'
def spIsN : Sp := fun vs H Q _ => ∃ (ex : List Addr) (t : Tg) (v : V) (many : Nat), vs = [v, .int (many : Int)] ∧ TgAt ex H t v ∧ Q (.bl (t.isF many)) H
def dueM (many : Nat) (l : List Tg) : Option Cl := if l = [] then some .empty else if l.all (Tg.isF many) = true then none else some .fault
def dueV : Option Cl → V
  | none => .non
  | some c => .str c.word
def spDoM : Sp := fun vs H Q _ => ∃ (ex : List Addr) (l : List Tg) (v : V) (many : Nat), vs = [v, .int (many : Int)] ∧ TgAt ex H (.lst l) v ∧ l.length ≤ 100 ∧ ∀ H', Keep [] H H' → Q (dueV (dueM many l)) H'
section
variable {P : Program} {w : World} {K : PySem.W.Frag} {mg : Str → Option Value} {base : Heap}
theorem ok_isN {f : Addr} {fd : FuncData} (F : Fun K "_law_is_number" "_law_is_number" sIsN f fd) (mI : mg "isinstance" = none) (mT : mg "int" = none) (mB : mg "bool" = none) : FnOk P w K mg base CX0 1 f fd ["_law_thing", "_law_many"] spIsN := by
  refine F.ok scIsN (fun vs H Q E h => ?_) (fun cdv A outer s H vs Q E hr h => ?_)
  · obtain ⟨ex, t, v, many, rfl, _⟩ := h
    rfl
  · obtain ⟨ex, t, v, many, rfl, th, kk⟩ := h
    refine ⟨_, pss_one (ps_ret (pe_and (pe_callB call_isi (by rfl) mI (by decide +kernel) (pa_cons (pv 0) (pa_cons (pe_bltn (v := .ty "int") (u := .type "int") (by rfl) mT (by decide +kernel) rfl) pa_nil)))
      (pe_and (pe_not (pe_callB call_isi (by rfl) mI (by decide +kernel) (pa_cons (pv 0) (pa_cons (pe_bltn (v := .ty "bool") (u := .type "bool") (by rfl) mB (by decide +kernel) rfl) pa_nil))))
      (pe_and (pe_cmpR op_le pe_int (pv 0) (nomark _)) (pe_one (pe_cmpR op_lt (pv 0) (pv 1) (nomark _))))))), ?_⟩
    refine ⟨_, rfl, _, _, _, _, _, rfl, .ty "int", tg_ty (K := K) th, kit_ty (kb_int t), _, rfl, ?_⟩
    cases t with
    | int i =>
      have ev : v = .int i := by simp only [TgAt] at th; exact th
      subst ev
      refine iteT ⟨_, rfl, _, _, _, _, _, rfl, .ty "bool", .base (.int i), kit_ty (r := false) (by decide +kernel), false, rfl, true, rfl, iteT ?_⟩
      have e0 : Tg.isF many (.int i) = (decide (0 ≤ i) && decide (i < (many : Int))) := rfl
      rw [e0] at kk
      refine ⟨_, rfl, _, _, rfl, rfl, _, rfl, ?_⟩
      by_cases h0 : 0 ≤ i
      · rw [decide_eq_true h0] at kk ⊢
        exact iteT ⟨_, rfl, _, rfl, _, _, rfl, rfl, kk⟩
      · rw [decide_eq_false h0] at kk ⊢
        exact iteF kk
    | bl b =>
      have ev : v = .bl b := by simp only [TgAt] at th; exact th
      subst ev
      exact iteT ⟨_, rfl, _, _, _, _, _, rfl, .ty "bool", .base (.bl b), kit_ty (r := true) (by decide +kernel), true, rfl, false, rfl, iteF kk⟩
    | _ => exact iteF kk
theorem ok_doM {f fN : Addr} {fd dN : FuncData} (F : Fun K "_law_due_of_members" "_law_due_of_members" sDoM f fd) (FN : FnOk P w K mg base CX0 1 fN dN ["_law_thing", "_law_many"] spIsN) (gN : mg "_law_is_number" = some (.ref fN)) (kN : PySem.W.keepIn K (.ref fN) = true) (bN : Binds K dN ["_law_thing", "_law_many"] []) (mA : mg "all" = none) (mT : mg "int" = none) :
    FnOk P w K mg base CX0 2 f fd ["_law_members_here", "_law_many"] spDoM := by
  refine F.ok scDoM (fun vs H Q E h => ?_) (fun cdv A outer s H vs Q E hr h => ?_)
  · obtain ⟨ex, l, v, many, rfl, _⟩ := h
    rfl
  · obtain ⟨ex, l, v, many, rfl, th, hlen, kk⟩ := h
    have hu := hr.units
    refine ⟨_, pss_cons (ps_if (pt_cmpR (op_eqNil hu) (pv 0) (pe_lst pa_nil) (nomark _)) (pss_one (ps_ret pe_str)) pss_nil)
      (pss_one (ps_ret (pe_ix ix_list (pe_lst (pa_cons pe_non (pa_cons pe_str pa_nil))) (pe_callTy call_int1 (by rfl) mT (by decide +kernel) (pa_cons (pe_not (pe_callB (cr_all rfl) (by rfl) mA (by decide +kernel) (pa_cons (pe_lc (own := [("_law_one", 2)]) (g := gName 2) (tt := tYes) (te := tCall spIsN [] E0 (tCons (tVar 2) (tCons (tVar 1) tNil))) rfl scDoM.nd (pi_list (pv 0))
        (blkOk_by (N := nDoM) (sc := defScope sDoM) (by decide +kernel)) (fun _ _ _ _ _ => pg_name (i := 2) scDoM.nd rfl (Or.inl rfl)) (fun _ _ _ _ _ => pts_nil)
        (fun _ _ _ _ _ => by exact (pe_call FN hr rfl gN kN bN .nil pass0 (pa_cons (pv 2) (pa_cons (pv 1) pa_nil))))) pa_nil))) pa_nil)) (fun _ _ => rfl)))), ?_⟩
    simp only [TgAt] at th
    obtain ⟨a, ys, rfl, nx, ea, ts⟩ := th
    have hl := ts.len
    refine ⟨_, rfl, (by show 0 ≤ sizeLine; decide), fun b hb => ?_⟩
    have k1 : Keep [] H (upd H b (.lst [])) := Keep.new hb
    have e1 : (upd H b (.lst [])) b = some (.lst []) := upd_same
    generalize (upd H b (.lst [])) = H1 at k1 e1 ⊢
    refine ⟨a, b, ys, rfl, rfl, k1.at ea nin0, e1, _, rfl, ?_⟩
    by_cases h0 : l = []
    · have ey : ys = [] := List.eq_nil_of_length_eq_zero (by rw [hl, h0]; rfl)
      rw [ey]
      refine iteT ?_
      have := kk H1 k1
      unfold dueM at this
      rw [if_pos h0] at this
      exact this
    · have ey : ys.isEmpty = false := by
        cases ys with
        | nil => exact absurd (List.eq_nil_of_length_eq_zero hl.symm) h0
        | cons y r => rfl
      rw [ey]
      refine iteF ?_
      refine ⟨(by show 2 ≤ sizeLine; decide), fun L hL => ?_⟩
      have k2 : Keep [] H1 (upd H1 L (.lst [.non, .str "fault"])) := Keep.new hL
      have e2 : (upd H1 L (.lst [.non, .str "fault"])) L = some (.lst [.non, .str "fault"]) := upd_same
      generalize (upd H1 L (.lst [.non, .str "fault"])) = H2 at k2 e2 ⊢
      have k02 := k1.trans k2
      refine ⟨_, rfl, a, rfl, ⟨_, SqL.of (k02.at ea nin0)⟩, fun D hD => ?_⟩
      have nD : ∀ {b o}, H2 b = some o → b ≠ D := fun e => ne_of_none e hD
      refine lc_list (K := K) (a := a) (xs := ys) (fun i G => Keep [] H2 G ∧ G D = some (.lst (((l.take i).map (Tg.isF many)).map V.bl))) ⟨Keep.new hD, by rw [upd_same]; rfl⟩ (fun i G _ hI => SqL.of (hI.1.at (k02.at ea nin0) nin0)) (fun i x G hx hI => ?_) (fun G hI => ?_)
      · obtain ⟨t, ht, tx⟩ := ts.at hx
        have hil := (List.getElem?_eq_some_iff.mp ht).1
        refine ⟨rfl, tyes ?_⟩
        refine ⟨_, rfl, _, rfl, ex, t, x, many, rfl, (tx.keep0 k02).keep0 hI.1, ?_⟩
        refine ⟨_, hI.2, ?_, hI.1.freshTo hD, ?_⟩
        · rw [List.length_map, List.length_map, List.length_take]
          exact Nat.lt_of_le_of_lt (by omega : min i l.length ≤ 1000) (by decide)
        · rw [upd_same, List.take_add_one, ht, List.map_append, List.map_append]
          rfl
      · rw [hl, List.take_length] at hI
        refine ⟨D, l.map (Tg.isF many), rfl, SqL.of hI.2, ?_⟩
        have eall : (l.map (Tg.isF many)).all id = l.all (Tg.isF many) := by rw [List.all_map]; rfl
        rw [eall]
        have := kk G (k02.trans hI.1)
        unfold dueM at this
        rw [if_neg h0] at this
        cases hall : l.all (Tg.isF many) with
        | true =>
          rw [hall, if_pos rfl] at this
          exact ⟨true, rfl, .inr ⟨_, rfl, L, _, 0, .non, rfl, rfl, SqL.of (hI.1.at e2 nin0), rfl, this⟩⟩
        | false =>
          rw [hall, if_neg Bool.false_ne_true] at this
          exact ⟨false, rfl, .inr ⟨_, rfl, L, _, 1, .str "fault", rfl, rfl, SqL.of (hI.1.at e2 nin0), rfl, this⟩⟩
theorem ok_wrd {f : Addr} {fd : FuncData} {A : CA} {CF C1 C2 C3 C4 : Addr} (F : Fun K "_law_word" "_law_word" sWrd f fd) (T : RfE K mg A CF C1 C2 C3 C4) (mI : mg "isinstance" = none) (mV : mg "ValueError" = none) : FnE P w K mg base 1 f fd ["_law_e"] (spWrd A) := by
  refine okE F scWrd (fun a cls d vs H Q E h => ?_) (fun cdv A0 outer s H vs Q E a oe cls d hr hz hf h => ?_)
  · obtain ⟨c, rfl, _⟩ := h
    rfl
  · obtain ⟨c, rfl, rfl, rfl, kk⟩ := h
    refine ⟨_, pss_cons (ps_set (i := 1) scWrd.nd rfl (Or.inl rfl) (pe_lst (pa_cons (pe_callB (call_isP List.mem_cons_self hz hf) (by rfl) mI (by decide +kernel) (pa_cons (pv 0) (pa_cons (pe_glob (v := .ref A.k) rfl T.gk rfl) pa_nil))) (pa_cons (pe_callB (call_isP List.mem_cons_self hz hf) (by rfl) mI (by decide +kernel) (pa_cons (pv 0) (pa_cons (pe_glob (v := .ref A.t) rfl T.gt rfl) pa_nil))) (pa_cons (pe_callB (call_isP List.mem_cons_self hz hf) (by rfl) mI (by decide +kernel) (pa_cons (pv 0) (pa_cons (pe_glob (v := .ref A.f) rfl T.gf rfl) pa_nil))) (pa_cons (pe_callB (call_isP List.mem_cons_self hz hf) (by rfl) mI (by decide +kernel) (pa_cons (pv 0) (pa_cons (pe_glob (v := .ref A.e) rfl T.ge rfl) pa_nil))) pa_nil))))))
      (pss_cons (ps_expr (pe_bm PySem.F.plainAttrs_list PySem.F.slot_list_append PySem.F.type_list_append mt_append (pv 1) (pa_cons (pe_callB (call_isP List.mem_cons_self hz hf) (by rfl) mI (by decide +kernel) (pa_cons (pv 0) (pa_cons (pe_glob (v := .ref A.w) rfl T.gw rfl) pa_nil))) pa_nil)))
      (pss_cons (ps_set (i := 2) scWrd.nd rfl (Or.inl rfl) (pe_callB (call_isP List.mem_cons_self hz hf) (by rfl) mI (by decide +kernel) (pa_cons (pv 0) (pa_cons (pe_tup (pa_cons (pe_glob (v := .ref C1) rfl T.g1 rfl) (pa_cons (pe_glob (v := .ref C2) rfl T.g2 rfl) (pa_cons (pe_glob (v := .ref C3) rfl T.g3 rfl) (pa_cons (pe_glob (v := .ref C4) rfl T.g4 rfl) pa_nil))))) pa_nil))))
      (pss_cons (ps_if (PW.pt (pw_or (pt_val (pv 2)) (pw_or (pt_not (pt_val (pe_callB (call_isP List.mem_cons_self hz hf) (by rfl) mI (by decide +kernel) (pa_cons (pv 0) (pa_cons (pe_bltn (v := .ty "ValueError") (u := .type "ValueError") (by rfl) mV (by decide +kernel) rfl) pa_nil))))) (pw_or1 (pt_cmpR op_ne (pe_bm PySem.F.plainAttrs_list PySem.F.slot_list_count PySem.F.type_list_count mt_countB (pv 1) (pa_cons pe_bl pa_nil)) pe_int (nomark _)))))) (pss_one (ps_ret pe_str)) pss_nil)
      (pss_one (ps_ret (pe_ix ix_list (pe_lst (pa_cons pe_str (pa_cons pe_str (pa_cons pe_str (pa_cons pe_str (pa_cons pe_str pa_nil)))))) (pe_bm PySem.F.plainAttrs_list PySem.F.slot_list_index PySem.F.type_list_index mt_index (pv 1) (pa_cons pe_bl pa_nil)) (fun _ _ => rfl))))))), ?_⟩
    refine ⟨_, rfl, A.at c, rfl, rfl, T.exc c, .inl ⟨.ref A.k, .ref A.k, _, rfl, (fun u q => q), T.is c .kind, ?_⟩⟩
    refine ⟨_, rfl, A.at c, rfl, rfl, T.exc c, .inl ⟨.ref A.t, .ref A.t, _, rfl, (fun u q => q), T.is c .text, ?_⟩⟩
    refine ⟨_, rfl, A.at c, rfl, rfl, T.exc c, .inl ⟨.ref A.f, .ref A.f, _, rfl, (fun u q => q), T.is c .fault, ?_⟩⟩
    refine ⟨_, rfl, A.at c, rfl, rfl, T.exc c, .inl ⟨.ref A.e, .ref A.e, _, rfl, (fun u q => q), T.is c .empty, ?_⟩⟩
    refine ⟨(by show 4 ≤ sizeLine; decide), fun L hL => ?_⟩
    have k1 : Keep [] H (upd H L (.lst [.bl (decide (c = .kind)), .bl (decide (c = .text)), .bl (decide (c = .fault)), .bl (decide (c = .empty))])) := Keep.new hL
    have e1 : (upd H L (.lst [.bl (decide (c = .kind)), .bl (decide (c = .text)), .bl (decide (c = .fault)), .bl (decide (c = .empty))])) L = some (.lst [.bl (decide (c = .kind)), .bl (decide (c = .text)), .bl (decide (c = .fault)), .bl (decide (c = .empty))]) := upd_same
    generalize (upd H L (.lst [.bl (decide (c = .kind)), .bl (decide (c = .text)), .bl (decide (c = .fault)), .bl (decide (c = .empty))])) = H1 at k1 e1 ⊢
    refine ⟨_, rfl, .inl ⟨rfl, _, SqL.of e1⟩, _, rfl, A.at c, rfl, rfl, T.exc c, .inl ⟨.ref A.w, .ref A.w, _, rfl, (fun u q => q), T.is c .way, ?_⟩⟩
    refine ⟨L, _, _, rfl, rfl, e1, (by show 4 < sizeLine; decide), ?_⟩
    have k2 : Keep [] H (upd H1 L (.lst ([.bl (decide (c = .kind)), .bl (decide (c = .text)), .bl (decide (c = .fault)), .bl (decide (c = .empty))] ++ [.bl (decide (c = .way))]))) := k1.freshTo hL
    have e2 : (upd H1 L (.lst ([.bl (decide (c = .kind)), .bl (decide (c = .text)), .bl (decide (c = .fault)), .bl (decide (c = .empty))] ++ [.bl (decide (c = .way))]))) L = some (.lst ([decide (c = .kind), decide (c = .text), decide (c = .fault), decide (c = .empty), decide (c = .way)].map V.bl)) := upd_same
    generalize (upd H1 L (.lst ([.bl (decide (c = .kind)), .bl (decide (c = .text)), .bl (decide (c = .fault)), .bl (decide (c = .empty))] ++ [.bl (decide (c = .way))]))) = H2 at k2 e2 ⊢
    refine ⟨_, rfl, (by show 4 ≤ sizeLine; decide), fun tp htp => ?_⟩
    have k3 : Keep [] H2 (upd H2 tp (.tup [.ref C1, .ref C2, .ref C3, .ref C4])) := Keep.new htp
    have e3 : (upd H2 tp (.tup [.ref C1, .ref C2, .ref C3, .ref C4])) tp = some (.tup [.ref C1, .ref C2, .ref C3, .ref C4]) := upd_same
    generalize (upd H2 tp (.tup [.ref C1, .ref C2, .ref C3, .ref C4])) = H3 at k3 e3 ⊢
    refine ⟨A.at c, rfl, rfl, T.exc c, .inr ⟨tp, _, [.ref C1, .ref C2, .ref C3, .ref C4], false, rfl, e3, .cons (.own _) (.cons (.own _) (.cons (.own _) (.cons (.own _) .nil))), T.no c, ?_⟩⟩
    refine ⟨_, rfl, false, rfl, iteF ?_⟩
    refine ⟨_, rfl, A.at c, rfl, rfl, T.exc c, .inl ⟨.ty "ValueError", .type "ValueError", true, rfl, (fun u q => q), T.val c, true, rfl, iteF ?_⟩⟩
    refine ⟨_, rfl, .inl ⟨rfl, _, SqL.of (k3.at e2 nin0)⟩, L, _, rfl, rfl, SqL.of (k3.at e2 nin0), rfl, _, rfl, ?_⟩
    have cnt : ([decide (c = .kind), decide (c = .text), decide (c = .fault), decide (c = .empty), decide (c = .way)] : List Bool).count true = 1 := by cases c <;> rfl
    rw [cnt]
    refine iteNS rfl ?_
    refine ⟨(by show 5 ≤ sizeLine; decide), fun W hW => ?_⟩
    have k4 : Keep [] H3 (upd H3 W (.lst [.str "kind", .str "text", .str "fault", .str "empty", .str "way"])) := Keep.new hW
    have e4 : (upd H3 W (.lst [.str "kind", .str "text", .str "fault", .str "empty", .str "way"])) W = some (.lst [.str "kind", .str "text", .str "fault", .str "empty", .str "way"]) := upd_same
    generalize (upd H3 W (.lst [.str "kind", .str "text", .str "fault", .str "empty", .str "way"])) = H4 at k4 e4 ⊢
    have e5 := k4.at (k3.at e2 nin0) nin0
    have fin := kk H4 ((k2.trans k3).trans k4)
    refine ⟨_, rfl, .inl ⟨rfl, _, SqL.of e5⟩, ?_⟩
    cases c with
    | kind => exact ⟨L, _, _, 0, .bl true, rfl, rfl, SqL.of e5, rfl, rfl, rfl, rfl, (fun m z' h _ => absurd h (Nat.not_lt_zero _)), W, _, 0, .str "kind", rfl, rfl, SqL.of e4, rfl, fin⟩
    | text => exact ⟨L, _, _, 1, .bl true, rfl, rfl, SqL.of e5, rfl, rfl, rfl, rfl, (fun m z' h e => by
        obtain rfl : m = 0 := by omega
        cases e; rfl), W, _, 1, .str "text", rfl, rfl, SqL.of e4, rfl, fin⟩
    | fault => exact ⟨L, _, _, 2, .bl true, rfl, rfl, SqL.of e5, rfl, rfl, rfl, rfl, (fun m z' h e => by
        have hm : m = 0 ∨ m = 1 := by omega
        rcases hm with rfl | rfl <;> (cases e; rfl)), W, _, 2, .str "fault", rfl, rfl, SqL.of e4, rfl, fin⟩
    | empty => exact ⟨L, _, _, 3, .bl true, rfl, rfl, SqL.of e5, rfl, rfl, rfl, rfl, (fun m z' h e => by
        have hm : m = 0 ∨ m = 1 ∨ m = 2 := by omega
        rcases hm with rfl | rfl | rfl <;> (cases e; rfl)), W, _, 3, .str "empty", rfl, rfl, SqL.of e4, rfl, fin⟩
    | way => exact ⟨L, _, _, 4, .bl true, rfl, rfl, SqL.of e5, rfl, rfl, rfl, rfl, (fun m z' h e => by
        have hm : m = 0 ∨ m = 1 ∨ m = 2 ∨ m = 3 := by omega
        rcases hm with rfl | rfl | rfl | rfl <;> (cases e; rfl)), W, _, 4, .str "way", rfl, rfl, SqL.of e4, rfl, fin⟩
end
end Fs
/-! The law: a call that is refused. -/
namespace Fs
open PySem L2 TL
theorem FnOk.or2 {P : Program} {w : World} {K : PySem.W.Frag} {mg : Str → Option Value} {base : Heap} {CX : CXT} {k : Nat} {f : Addr} {fd : FuncData} {ps : List Str} {sp sp' : Sp} (F : FnOk P w K mg base CX k f fd ps sp) (G : FnOk P w K mg base CX k f fd ps sp') :
    FnOk P w K mg base CX k f fd ps (fun vs H Q E => sp vs H Q E ∨ sp' vs H Q E) :=
  ⟨fun vs H Q E h => h.elim (F.len vs H Q E) (G.len vs H Q E), fun A outer s H args us vs Q E hr e0 hb r h => h.elim (F.run A outer s H args us vs Q E hr e0 hb r) (G.run A outer s H args us vs Q E hr e0 hb r)⟩
def plT : Tg → Pl
  | .int i => .int i
  | _ => .odd
def isTup : Tg → Bool
  | .tup _ => true
  | _ => false
theorem kb_notup : ∀ r : Tg, isTup r = false → kitB (tgT r) "tuple" = some false := fun r h => by
  cases r with
  | tup l => cases h
  | _ => exact kb_tup _
def badW (es : List Ent) (k : Nat) : Tg → Prop
  | .tup l => (∀ x ∈ l, x ≠ .dic) ∧ goes es k (l.map plT) = none
  | _ => True
def spBadW (C CW : Addr) : Sp := fun vs H Q E => ∃ (p : Addr) (A : LA) (ms ns : List Addr) (es : List Ent) (ex : List Addr) (t r : Tg) (v u : V), vs = [.ref p, v, u] ∧ LedAt C H p A ms ns es ∧ TgAt ex H t v ∧ t.isF es.length = true ∧ TgAt ex H r u ∧ isTup r = false ∧ E (.ref CW) none H
abbrev spLedX (K : PySem.W.Frag) (C CF CW : Addr) : Sp := fun vs H Q E => spBadK C CF 1 vs H Q E ∨ (spBadW C CW vs H Q E ∨ spLed K C CW vs H Q E)
theorem pls_of {K : PySem.W.Frag} {p : List Addr} {H : Hp} : ∀ {l : List Tg} {ys : List V}, TgsAt p H l ys → (∀ x ∈ l, x ≠ .dic) → PlsOk K H ys (l.map plT)
  | [], [], _, _ => True.intro
  | x :: l, y :: ys, h, n => by
    simp only [TgsAt] at h
    refine ⟨?_, pls_of h.2 fun z hz => n z (List.mem_cons_of_mem _ hz)⟩
    have ty := tg_ty (K := K) h.1
    have n1 := n x List.mem_cons_self
    cases x with
    | int i => have := h.1; simp only [TgAt] at this; exact this
    | non => exact ⟨"NoneType", ⟨ty, by simp⟩, by decide⟩
    | bl b => exact ⟨"bool", ⟨ty, by simp⟩, by decide⟩
    | str z => exact ⟨"str", ⟨ty, by simp⟩, by decide⟩
    | lst l => exact ⟨"list", ⟨ty, by simp⟩, by decide⟩
    | tup l => exact ⟨"tuple", ⟨ty, by simp⟩, by decide⟩
    | dic => exact absurd rfl n1
  | [], _ :: _, h, _ => by simp only [TgsAt] at h
  | _ :: _, [], h, _ => by simp only [TgsAt] at h
section
variable {P : Program} {w : World} {K : PySem.W.Frag} {mg : Str → Option Value} {base : Heap} {C fA fCF fCT fCM CF CW : Addr}
theorem bad_ledW {f : Addr} {fd fdF : FuncData} (F : Fun K "led" "Ledger.led" sLed f fd) (T : LTxt K mg C fA fCF fCT fCM) (N : Rz K mg "NoWay" CW) (FF : FnOk P w K mg base (L2.CX P w) 2 fCF fdF ["self", "k"] (spChkFT C CF)) (bF : Binds K fdF ["self", "k"] []) (mI : mg "isinstance" = none) : FnOk P w K mg base (L2.CX P w) 3 f fd ["self", "k", "way"] (spBadW C CW) := by
  refine F.okX scLed (fun vs H Q E h => ?_) (fun cdv A0 outer s H vs Q E hr h => ?_)
  · obtain ⟨p, A, ms, ns, es, ex, t, r, v, u, rfl, _⟩ := h
    rfl
  · obtain ⟨p, A, ms, ns, es, ex, t, r, v, u, rfl, hL, th, hg, rh, hn, ke⟩ := h
    refine ⟨_, pss_cons (ps_expr (pe_methE (E := fun _ => E) (pv 0) T.cl T.mF FF hr bF (fun σ => passAt (takes_of rfl rfl rfl rfl) σ) (pa_cons (pv 1) pa_nil)))
      (pss_cons (ps_if (pt_not (pt_val (pe_callB call_isi (by rfl) mI (by decide +kernel) (pa_cons (pv 2) (pa_cons (pe_bltn (v := .ty "tuple") (u := .type "tuple") (by rfl) T.tup (by decide +kernel) rfl) pa_nil))))) (pss_one (ps_raise rfl (takes_of rfl rfl rfl rfl) (pmk_own PySem.F.excBase_ValueError N.x N.g N.k (raises_own N.b N.t) (by exact rfl)))) pss_nil) pss_dead), ?_⟩
    refine ⟨_, rfl, p, A.dx, _, rfl, hL.ins, flno A, _, rfl, p, A, ms, ns, es, ex, t, v, rfl, hL, th, fun _ => ?_, fun h => by rw [hg] at h; cases h⟩
    have kb := kb_notup r hn
    exact ⟨_, rfl, _, _, _, _, _, rfl, .ty "tuple", tg_ty (K := K) rh, kit_ty kb, false, rfl, iteT ke⟩
end
abbrev sLkd : Stmt := top 42 --def _law_looked
abbrev sCld : Stmt := top 43 --def _law_called
abbrev sRfs : Stmt := top 45 --def _law_refusal
abbrev aLkd : List Str := ["_law_ledger_here", "_law_door", "_law_k", "_law_way"]
abbrev aCld : List Str := ["_law_ledger_here", "_law_door", "_law_a", "_law_b"]
abbrev nRfs : List Str := ["_law_ledger_here", "_law_door", "_law_a", "_law_b", "_law_found", "_law_e"]
theorem scLkd : FnScope aLkd aLkd (defScope sLkd) := ⟨rfl, rfl, rfl, by decide +kernel, rfl, by decide +kernel, by decide +kernel⟩
theorem scCld : FnScope aCld aCld (defScope sCld) := ⟨rfl, rfl, rfl, by decide +kernel, rfl, by decide +kernel, by decide +kernel⟩
theorem scRfs : FnScope nRfs aCld (defScope sRfs) := ⟨rfl, rfl, rfl, by decide +kernel, rfl, by decide +kernel, by decide +kernel⟩
def spLkd (C : Addr) (AA : CA) : Sp := fun vs H Q E => ∃ (q : Addr) (A : LA) (ms ns : List Addr) (es : List Ent) (ex : List Addr) (d : Nat) (t r : Tg) (v u : V), vs = [.ref q, .int (d : Int), v, u] ∧ 6 ≤ d ∧ d ≤ 14 ∧ LedAt C H q A ms ns es ∧ TgAt ex H t v ∧ TgAt ex H r u ∧ (∀ e ∈ es, ∀ m ∈ e.mem, m < es.length) ∧ (∀ e ∈ es, e.mem.length ≤ 6) ∧
  ((t.isF es.length = false ∧ E (.ref AA.f) none H) ∨ (d = 14 ∧ (∃ k : Nat, t = .int (k : Int) ∧ k < es.length ∧ badW es k r) ∧ E (.ref AA.w) none H))
structure DTx15 (K : PySem.W.Frag) (C f6 f7 f8 f9 f10 f11 f12 f14 : Addr) : Prop where
  cl : Cls K C
  m6 : Meth K C "kind" f6
  m7 : Meth K C "text" f7
  m8 : Meth K C "members" f8
  m9 : Meth K C "notes" f9
  m10 : Meth K C "cause" f10
  m11 : Meth K C "at_work" f11
  m12 : Meth K C "leaves" f12
  m14 : Meth K C "led" f14
section
variable {P : Program} {w : World} {K : PySem.W.Frag} {mg : Str → Option Value} {base : Heap} {C f6 f7 f8 f9 f10 f11 f12 f14 : Addr} {AA : CA}
theorem ok_lkd {f : Addr} {fd d6 d7 d8 d9 d10 d11 d12 d14 : FuncData} (F : Fun K "_law_looked" "_law_looked" sLkd f fd) (T : DTx15 K C f6 f7 f8 f9 f10 f11 f12 f14)
    (F6 : FnOk P w K mg base (L2.CX P w) 3 f6 d6 ["self", "k"] (spBadK C AA.f 0)) (b6 : Binds K d6 ["self", "k"] [])
    (F7 : FnOk P w K mg base (L2.CX P w) 3 f7 d7 ["self", "k"] (spBadK C AA.f 0)) (b7 : Binds K d7 ["self", "k"] [])
    (F8 : FnOk P w K mg base (L2.CX P w) 3 f8 d8 ["self", "k"] (spBadK C AA.f 0)) (b8 : Binds K d8 ["self", "k"] [])
    (F9 : FnOk P w K mg base (L2.CX P w) 3 f9 d9 ["self", "k"] (spBadK C AA.f 0)) (b9 : Binds K d9 ["self", "k"] [])
    (F10 : FnOk P w K mg base (L2.CX P w) 3 f10 d10 ["self", "k"] (spBadK C AA.f 0)) (b10 : Binds K d10 ["self", "k"] [])
    (F11 : FnOk P w K mg base (L2.CX P w) 3 f11 d11 ["self", "k"] (spBadK C AA.f 0)) (b11 : Binds K d11 ["self", "k"] [])
    (F12 : FnOk P w K mg base (L2.CX P w) 3 f12 d12 ["self", "k"] (spBadK C AA.f 0)) (b12 : Binds K d12 ["self", "k"] [])
    (F14 : FnOk P w K mg base (L2.CX P w) 3 f14 d14 ["self", "k", "way"] (spLedX K C AA.f AA.w)) (b14 : Binds K d14 ["self", "k", "way"] []) : FnOk P w K mg base (L2.CX P w) 4 f fd aLkd (spLkd C AA) := by
  refine F.okX scLkd (fun vs H Q E h => ?_) (fun cdv A0 outer s H vs Q E hr h => ?_)
  · obtain ⟨q, A, ms, ns, es, ex, d, t, r, v, u, rfl, _⟩ := h
    rfl
  · obtain ⟨q, A, ms, ns, es, ex, d, t, r, v, u, rfl, d6', d14', hL, th, rh, inn, six, hor⟩ := h
    refine ⟨_, pss_cons (ps_if (pt_cmpR op_eq (pv 1) pe_int (nomark _)) (pss_one (ps_ret (pe_methE (E := fun _ => E) (pv 0) T.cl T.m6 F6 hr b6 (fun σ => passAt (takes_of rfl rfl rfl rfl) σ) (pa_cons (pv 2) pa_nil)))) pss_nil)
      (pss_cons (ps_if (pt_cmpR op_eq (pv 1) pe_int (nomark _)) (pss_one (ps_ret (pe_methE (E := fun _ => E) (pv 0) T.cl T.m7 F7 hr b7 (fun σ => passAt (takes_of rfl rfl rfl rfl) σ) (pa_cons (pv 2) pa_nil)))) pss_nil)
      (pss_cons (ps_if (pt_cmpR op_eq (pv 1) pe_int (nomark _)) (pss_one (ps_ret (pe_methE (E := fun _ => E) (pv 0) T.cl T.m8 F8 hr b8 (fun σ => passAt (takes_of rfl rfl rfl rfl) σ) (pa_cons (pv 2) pa_nil)))) pss_nil)
      (pss_cons (ps_if (pt_cmpR op_eq (pv 1) pe_int (nomark _)) (pss_one (ps_ret (pe_methE (E := fun _ => E) (pv 0) T.cl T.m9 F9 hr b9 (fun σ => passAt (takes_of rfl rfl rfl rfl) σ) (pa_cons (pv 2) pa_nil)))) pss_nil)
      (pss_cons (ps_if (pt_cmpR op_eq (pv 1) pe_int (nomark _)) (pss_one (ps_ret (pe_methE (E := fun _ => E) (pv 0) T.cl T.m10 F10 hr b10 (fun σ => passAt (takes_of rfl rfl rfl rfl) σ) (pa_cons (pv 2) pa_nil)))) pss_nil)
      (pss_cons (ps_if (pt_cmpR op_eq (pv 1) pe_int (nomark _)) (pss_one (ps_ret (pe_methE (E := fun _ => E) (pv 0) T.cl T.m11 F11 hr b11 (fun σ => passAt (takes_of rfl rfl rfl rfl) σ) (pa_cons (pv 2) pa_nil)))) pss_nil)
      (pss_cons (ps_if (pt_cmpR op_eq (pv 1) pe_int (nomark _)) (pss_one (ps_ret (pe_methE (E := fun _ => E) (pv 0) T.cl T.m12 F12 hr b12 (fun σ => passAt (takes_of rfl rfl rfl rfl) σ) (pa_cons (pv 2) pa_nil)))) pss_nil)
      (pss_one (ps_ret (pe_methE (E := fun _ => E) (pv 0) T.cl T.m14 F14 hr b14 (fun σ => passAt (takes_of rfl rfl rfl rfl) σ) (pa_cons (pv 2) (pa_cons (pv 3) pa_nil))))))))))), ?_⟩
    refine ⟨_, rfl, rfl, _, rfl, ?_⟩
    by_cases h6 : d = 6
    · rw [decide_eq_true (show V.int (d : Int) = V.int 6 by rw [h6]; rfl)]
      refine iteT ?_
      have hb : t.isF es.length = false ∧ E (.ref AA.f) none H := by
        rcases hor with z | ⟨z, _⟩
        · exact z
        · omega
      exact ⟨_, rfl, q, A.dx, _, rfl, hL.ins, rfl, _, rfl, q, A, ms, ns, es, ex, t, v, [], rfl, rfl, hL, th, hb.1, hb.2⟩
    rw [decide_eq_false (show ¬ V.int (d : Int) = V.int 6 from fun z => h6 (by have := V.int.inj z; omega))]
    refine iteF ?_
    refine ⟨_, rfl, rfl, _, rfl, ?_⟩
    by_cases h7 : d = 7
    · rw [decide_eq_true (show V.int (d : Int) = V.int 7 by rw [h7]; rfl)]
      refine iteT ?_
      have hb : t.isF es.length = false ∧ E (.ref AA.f) none H := by
        rcases hor with z | ⟨z, _⟩
        · exact z
        · omega
      exact ⟨_, rfl, q, A.dx, _, rfl, hL.ins, rfl, _, rfl, q, A, ms, ns, es, ex, t, v, [], rfl, rfl, hL, th, hb.1, hb.2⟩
    rw [decide_eq_false (show ¬ V.int (d : Int) = V.int 7 from fun z => h7 (by have := V.int.inj z; omega))]
    refine iteF ?_
    refine ⟨_, rfl, rfl, _, rfl, ?_⟩
    by_cases h8 : d = 8
    · rw [decide_eq_true (show V.int (d : Int) = V.int 8 by rw [h8]; rfl)]
      refine iteT ?_
      have hb : t.isF es.length = false ∧ E (.ref AA.f) none H := by
        rcases hor with z | ⟨z, _⟩
        · exact z
        · omega
      exact ⟨_, rfl, q, A.dx, _, rfl, hL.ins, rfl, _, rfl, q, A, ms, ns, es, ex, t, v, [], rfl, rfl, hL, th, hb.1, hb.2⟩
    rw [decide_eq_false (show ¬ V.int (d : Int) = V.int 8 from fun z => h8 (by have := V.int.inj z; omega))]
    refine iteF ?_
    refine ⟨_, rfl, rfl, _, rfl, ?_⟩
    by_cases h9 : d = 9
    · rw [decide_eq_true (show V.int (d : Int) = V.int 9 by rw [h9]; rfl)]
      refine iteT ?_
      have hb : t.isF es.length = false ∧ E (.ref AA.f) none H := by
        rcases hor with z | ⟨z, _⟩
        · exact z
        · omega
      exact ⟨_, rfl, q, A.dx, _, rfl, hL.ins, rfl, _, rfl, q, A, ms, ns, es, ex, t, v, [], rfl, rfl, hL, th, hb.1, hb.2⟩
    rw [decide_eq_false (show ¬ V.int (d : Int) = V.int 9 from fun z => h9 (by have := V.int.inj z; omega))]
    refine iteF ?_
    refine ⟨_, rfl, rfl, _, rfl, ?_⟩
    by_cases h10 : d = 10
    · rw [decide_eq_true (show V.int (d : Int) = V.int 10 by rw [h10]; rfl)]
      refine iteT ?_
      have hb : t.isF es.length = false ∧ E (.ref AA.f) none H := by
        rcases hor with z | ⟨z, _⟩
        · exact z
        · omega
      exact ⟨_, rfl, q, A.dx, _, rfl, hL.ins, rfl, _, rfl, q, A, ms, ns, es, ex, t, v, [], rfl, rfl, hL, th, hb.1, hb.2⟩
    rw [decide_eq_false (show ¬ V.int (d : Int) = V.int 10 from fun z => h10 (by have := V.int.inj z; omega))]
    refine iteF ?_
    refine ⟨_, rfl, rfl, _, rfl, ?_⟩
    by_cases h11 : d = 11
    · rw [decide_eq_true (show V.int (d : Int) = V.int 11 by rw [h11]; rfl)]
      refine iteT ?_
      have hb : t.isF es.length = false ∧ E (.ref AA.f) none H := by
        rcases hor with z | ⟨z, _⟩
        · exact z
        · omega
      exact ⟨_, rfl, q, A.dx, _, rfl, hL.ins, rfl, _, rfl, q, A, ms, ns, es, ex, t, v, [], rfl, rfl, hL, th, hb.1, hb.2⟩
    rw [decide_eq_false (show ¬ V.int (d : Int) = V.int 11 from fun z => h11 (by have := V.int.inj z; omega))]
    refine iteF ?_
    refine ⟨_, rfl, rfl, _, rfl, ?_⟩
    by_cases h12 : d = 12
    · rw [decide_eq_true (show V.int (d : Int) = V.int 12 by rw [h12]; rfl)]
      refine iteT ?_
      have hb : t.isF es.length = false ∧ E (.ref AA.f) none H := by
        rcases hor with z | ⟨z, _⟩
        · exact z
        · omega
      exact ⟨_, rfl, q, A.dx, _, rfl, hL.ins, rfl, _, rfl, q, A, ms, ns, es, ex, t, v, [], rfl, rfl, hL, th, hb.1, hb.2⟩
    rw [decide_eq_false (show ¬ V.int (d : Int) = V.int 12 from fun z => h12 (by have := V.int.inj z; omega))]
    refine iteF ?_
    -- the last door
    refine ⟨_, rfl, q, A.dx, _, rfl, hL.ins, rfl, _, rfl, _, rfl, ?_⟩
    rcases hor with ⟨hb, ke⟩ | ⟨_, ⟨k, rfl, hk, bw⟩, ke⟩
    · exact .inl ⟨q, A, ms, ns, es, ex, t, v, [u], rfl, rfl, hL, th, hb, ke⟩
    · have ev : v = .int ((k : Nat) : Int) := by simp only [TgAt] at th; exact th
      subst ev
      have hF : Tg.isF es.length (.int ((k : Nat) : Int)) = true := by
        show (decide (0 ≤ ((k : Nat) : Int)) && decide (((k : Nat) : Int) < (es.length : Int))) = true
        rw [decide_eq_true (by omega), decide_eq_true (by omega)]; rfl
      refine .inr ?_
      cases r with
      | tup l =>
        have rh' := rh
        simp only [TgAt] at rh'
        obtain ⟨a, ys, rfl, ea, ts⟩ := rh'
        obtain ⟨nd, gn⟩ := bw
        exact .inr ⟨q, A, ms, ns, es, k, .ref a, rfl, hL, hk, inn, six, .inl ⟨a, ys, l.map plT, rfl, ea, pls_of ts nd, (fun n _ g => by rw [gn] at g; cases g), fun _ => ke⟩⟩
      | _ => exact .inl ⟨q, A, ms, ns, es, ex, _, _, _, _, rfl, hL, th, hF, rh, rfl, ke⟩
end
end Fs
/-! The law: what is due of a call, and the call. -/
namespace Fs
open PySem L2 TL
def inKinds (ps : List (Str × Str)) : Tg → Bool
  | .str z => decide (z ∈ sF :: ps.map Prod.fst)
  | _ => false
def dueMT (many : Nat) : Tg → Option Cl
  | .lst l => dueM many l
  | _ => none
def sheafAt (es : List Ent) : Tg → Bool
  | .int i => decide ((es[i.toNat]?).map Ent.kind = some sS)
  | _ => false
def dueG (ps : List (Str × Str)) (es : List Ent) (d : Nat) (a b : Tg) : Option Cl :=
  if d = 0 then (if inKinds ps a = true then (if b.isS = true then none else some .text) else some .kind)
  else if d = 1 then (if a.isS = true then dueMT es.length b else some .text)
  else if a.isF es.length = false ∨ (d = 2 ∧ sheafAt es a = false) then some .fault
  else if d = 2 then dueMT es.length b
  else if d = 14 then some .way
  else if d = 3 then (if b.isS = true then none else some .text)
  else if d < 6 ∧ b.isFN es.length = false then some .fault else none
theorem isF_int {many : Nat} {t : Tg} (h : t.isF many = true) : ∃ k : Nat, t = .int ((k : Nat) : Int) ∧ k < many := by
  cases t with
  | int i =>
    have h' : (decide (0 ≤ i) && decide (i < (many : Int))) = true := h
    rw [Bool.and_eq_true, decide_eq_true_eq, decide_eq_true_eq] at h'
    exact ⟨i.toNat, by rw [Int.toNat_of_nonneg h'.1], by omega⟩
  | _ => cases h
theorem dueM_cases {many : Nat} {l : List Tg} {c : Cl} (h : dueM many l = some c) : (l = [] ∧ c = .empty) ∨ (l ≠ [] ∧ l.all (Tg.isF many) = false ∧ c = .fault) := by
  unfold dueM at h
  by_cases h0 : l = []
  · rw [if_pos h0] at h; exact .inl ⟨h0, (Option.some.inj h).symm⟩
  · rw [if_neg h0] at h
    by_cases h1 : l.all (Tg.isF many) = true
    · rw [if_pos h1] at h; cases h
    · rw [if_neg h1] at h
      exact .inr ⟨h0, by simpa using h1, (Option.some.inj h).symm⟩
def spCld (C CK : Addr) (AA : CA) : Sp := fun vs H Q E => ∃ (q : Addr) (A : LA) (ms ns : List Addr) (es : List Ent) (ps : List (Str × Str)) (ex : List Addr) (d : Nat) (a b : Tg) (va vb : V) (c : Cl), vs = [.ref q, .int (d : Int), va, vb] ∧ d ≤ 14 ∧ LedAt C H q A ms ns es ∧ KindsAt CK H A.kd ps ∧ Wf ps ∧ (∀ e ∈ es, ∀ m ∈ e.mem, m < es.length) ∧ (∀ e ∈ es, e.mem.length ≤ 6) ∧ TgAt ex H a va ∧ TgAt ex H b vb ∧ dueG ps es d a b = some c ∧
  (d = 1 ∨ d = 2 → ∃ l, b = .lst l) ∧ (d = 14 → ∀ k, badW es k b) ∧ ∀ H', Keep [] H H' → E (.ref (AA.at c)) none H'
structure CTx15 (K : PySem.W.Frag) (mg : Str → Option Value) (C f0 f1 f2 f3 f4 f5 fL : Addr) : Prop where
  cl : Cls K C
  m0 : Meth K C "plain" f0
  m1 : Meth K C "sheaf" f1
  m2 : Meth K C "like" f2
  m3 : Meth K C "note" f3
  m4 : Meth K C "blame" f4
  m5 : Meth K C "rise" f5
  gL : mg "_law_looked" = some (.ref fL)
  kL : PySem.W.keepIn K (.ref fL) = true
  int : mg "int" = none
section
variable {P : Program} {w : World} {K : PySem.W.Frag} {mg : Str → Option Value} {base : Heap} {C CK f0 f1 f2 f3 f4 f5 fL : Addr} {AA : CA}
theorem ok_cld {f : Addr} {fd d0 d1 d2 d3 d4 d5 dL : FuncData} (F : Fun K "_law_called" "_law_called" sCld f fd) (T : CTx15 K mg C f0 f1 f2 f3 f4 f5 fL)
    (F0 : FnOk P w K mg base (L2.CX P w) 4 f0 d0 ["self", "kind", "text"] (spPlainT C CK AA.k AA.t)) (b0 : Binds K d0 ["self", "kind", "text"] []) (F1 : FnOk P w K mg base (L2.CX P w) 4 f1 d1 ["self", "text", "members"] (spSheafT C AA.t AA.f AA.e)) (b1 : Binds K d1 ["self", "text", "members"] [])
    (F2 : FnOk P w K mg base (L2.CX P w) 4 f2 d2 ["self", "k", "members"] (spLikeT C AA.f AA.e)) (b2 : Binds K d2 ["self", "k", "members"] []) (F3 : FnOk P w K mg base (L2.CX P w) 4 f3 d3 ["self", "k", "text"] (spNoteT C AA.f AA.t)) (b3 : Binds K d3 ["self", "k", "text"] [])
    (F4 : FnOk P w K mg base (L2.CX P w) 4 f4 d4 ["self", "k", "j"] (spBlameT C AA.f)) (b4 : Binds K d4 ["self", "k", "j"] []) (F5 : FnOk P w K mg base (L2.CX P w) 4 f5 d5 ["self", "k", "j"] (spBlameT C AA.f)) (b5 : Binds K d5 ["self", "k", "j"] [])
    (FL : FnOk P w K mg base (L2.CX P w) 4 fL dL aLkd (spLkd C AA)) (bL : Binds K dL aLkd []) : FnOk P w K mg base (L2.CX P w) 5 f fd aCld (spCld C CK AA) := by
  refine F.okX scCld (fun vs H Q E h => ?_) (fun cdv A0 outer s H vs Q E hr h => ?_)
  · obtain ⟨q, A, ms, ns, es, ps, ex, d, a, b, va, vb, c, rfl, _⟩ := h
    rfl
  · obtain ⟨q, A, ms, ns, es, ps, ex, d, a, b, va, vb, c, rfl, d14, hL, hK, hw, inn, six, ah, bh, hdue, hsh, hbw, ke⟩ := h
    refine ⟨_, pss_one (ps_if (pt_cmpR op_eq (pv 1) pe_int (nomark _)) (pss_one (ps_expr (pe_methE (E := fun _ => E) (pv 0) T.cl T.m0 F0 hr b0 (fun σ => passAt (takes_of rfl rfl rfl rfl) σ) (pa_cons (pv 2) (pa_cons (pv 3) pa_nil)))))
      (pss_one (ps_if (pt_cmpR op_eq (pv 1) pe_int (nomark _)) (pss_one (ps_expr (pe_methE (E := fun _ => E) (pv 0) T.cl T.m1 F1 hr b1 (fun σ => passAt (takes_of rfl rfl rfl rfl) σ) (pa_cons (pv 2) (pa_cons (pv 3) pa_nil)))))
      (pss_one (ps_if (pt_cmpR op_eq (pv 1) pe_int (nomark _)) (pss_one (ps_expr (pe_methE (E := fun _ => E) (pv 0) T.cl T.m2 F2 hr b2 (fun σ => passAt (takes_of rfl rfl rfl rfl) σ) (pa_cons (pv 2) (pa_cons (pv 3) pa_nil)))))
      (pss_one (ps_if (pt_cmpR op_eq (pv 1) pe_int (nomark _)) (pss_one (ps_expr (pe_methE (E := fun _ => E) (pv 0) T.cl T.m3 F3 hr b3 (fun σ => passAt (takes_of rfl rfl rfl rfl) σ) (pa_cons (pv 2) (pa_cons (pv 3) pa_nil)))))
      (pss_one (ps_if (pt_cmpR op_eq (pv 1) pe_int (nomark _)) (pss_one (ps_expr (pe_methE (E := fun _ => E) (pv 0) T.cl T.m4 F4 hr b4 (fun σ => passAt (takes_of rfl rfl rfl rfl) σ) (pa_cons (pv 2) (pa_cons (pv 3) pa_nil)))))
      (pss_one (ps_if (pt_cmpR op_eq (pv 1) pe_int (nomark _)) (pss_one (ps_expr (pe_methE (E := fun _ => E) (pv 0) T.cl T.m5 F5 hr b5 (fun σ => passAt (takes_of rfl rfl rfl rfl) σ) (pa_cons (pv 2) (pa_cons (pv 3) pa_nil)))))
      (pss_one (ps_expr (pe_callS (E := fun _ => E) FL hr rfl T.gL T.kL bL (fun σ => passAt (takes_of rfl rfl rfl rfl) σ) (pa_cons (pv 0) (pa_cons (pv 1) (pa_cons (pv 2) (pa_cons (pe_ix ix_list (pe_lst (pa_cons (pe_tup pa_nil) (pa_cons (pv 3) pa_nil))) (pe_callTy call_int1 (by rfl) T.int (by decide +kernel) (pa_cons (pe_cmpR op_eq (pv 1) pe_int (nomark _)) pa_nil)) (fun _ _ => rfl)) pa_nil)))))))))))))))))), ?_⟩
    unfold dueG at hdue
    refine ⟨_, rfl, rfl, _, rfl, ?_⟩
    by_cases h0 : d = 0
    · rw [decide_eq_true (show V.int (d : Int) = V.int 0 by rw [h0]; rfl)]
      refine iteT ?_
      rw [if_pos h0] at hdue
      refine ⟨_, rfl, q, A.dx, _, rfl, hL.ins, rfl, _, rfl, _, rfl, ?_⟩
      refine ⟨q, A, ms, ns, es, ps, ex, a, b, va, vb, rfl, hL, hK, ah, bh, ?_⟩
      by_cases hi : inKinds ps a = true
      · rw [if_pos hi] at hdue
        cases a with
        | str z =>
          have hz : z ∈ sF :: ps.map Prod.fst := of_decide_eq_true hi
          by_cases hb : b.isS = true
          · rw [if_pos hb] at hdue; cases hdue
          · rw [if_neg hb] at hdue
            cases hdue
            refine .inr ⟨decide_eq_true ?_, fun e => hw.not_sheaf z hz (by cases e; rfl), by simpa using hb, ke H (Keep.refl _ _)⟩
            rcases List.mem_cons.mp hz with q' | q'
            · rw [q']; exact List.mem_cons_self
            · exact List.mem_cons_of_mem _ (List.mem_cons_of_mem _ q')
        | _ => cases hi
      · rw [if_neg hi] at hdue
        cases hdue
        refine .inl ⟨?_, ke H (Keep.refl _ _)⟩
        cases a with
        | str z =>
          by_cases hz : z = sS
          · exact .inr (by rw [hz])
          · refine .inl (decide_eq_false fun hm => hi (decide_eq_true ?_))
            rcases List.mem_cons.mp hm with m | m
            · rw [m]; exact List.mem_cons_self
            · rcases List.mem_cons.mp m with m | m
              · exact absurd m hz
              · exact List.mem_cons_of_mem _ m
        | _ => exact .inl rfl
    rw [decide_eq_false (show ¬ V.int (d : Int) = V.int 0 from fun z => h0 (by have := V.int.inj z; omega))]
    refine iteF ?_
    refine ⟨_, rfl, rfl, _, rfl, ?_⟩
    by_cases h1 : d = 1
    · rw [decide_eq_true (show V.int (d : Int) = V.int 1 by rw [h1]; rfl)]
      refine iteT ?_
      rw [if_neg h0, if_pos h1] at hdue
      obtain ⟨l, rfl⟩ := hsh (.inl h1)
      refine ⟨_, rfl, q, A.dx, _, rfl, hL.ins, rfl, _, rfl, _, rfl, ?_⟩
      refine ⟨q, A, ms, ns, es, ex, a, l, va, vb, rfl, hL, ah, bh, ?_⟩
      by_cases hb : a.isS = true
      · rw [if_pos hb] at hdue
        refine .inr ⟨hb, ?_⟩
        rcases dueM_cases hdue with ⟨e, rfl⟩ | ⟨e, e2, rfl⟩
        · exact .inl ⟨e, ke H (Keep.refl _ _)⟩
        · exact .inr ⟨e, e2, ke H (Keep.refl _ _)⟩
      · rw [if_neg hb] at hdue
        cases hdue
        exact .inl ⟨by simpa using hb, ke H (Keep.refl _ _)⟩
    rw [decide_eq_false (show ¬ V.int (d : Int) = V.int 1 from fun z => h1 (by have := V.int.inj z; omega))]
    refine iteF ?_
    refine ⟨_, rfl, rfl, _, rfl, ?_⟩
    by_cases h2 : d = 2
    · rw [decide_eq_true (show V.int (d : Int) = V.int 2 by rw [h2]; rfl)]
      refine iteT ?_
      rw [if_neg h0, if_neg h1] at hdue
      obtain ⟨l, rfl⟩ := hsh (.inr h2)
      refine ⟨_, rfl, q, A.dx, _, rfl, hL.ins, rfl, _, rfl, _, rfl, ?_⟩
      refine ⟨q, A, ms, ns, es, ex, a, l, va, vb, rfl, hL, ah, bh, ?_⟩
      cases hF : a.isF es.length with
      | false =>
        rw [if_pos (.inl hF)] at hdue
        cases hdue
        exact .inr ⟨rfl, ke H (Keep.refl _ _)⟩
      | true =>
        obtain ⟨k, rfl, hk⟩ := isF_int hF
        have he := List.getElem?_eq_getElem hk
        have es1 : sheafAt es (.int ((k : Nat) : Int)) = decide (es[k].kind = sS) := by
          show decide ((es[((k : Nat) : Int).toNat]?).map Ent.kind = some sS) = _
          rw [Int.toNat_natCast, he]
          exact decide_eq_decide.mpr ⟨fun e => Option.some.inj e, fun e => congrArg some e⟩
        refine .inl ⟨k, es[k], rfl, he, ?_⟩
        by_cases hs : es[k].kind = sS
        · rw [if_neg (by rw [hF, es1, decide_eq_true hs]; simp), if_pos h2] at hdue
          refine .inr ⟨hs, ?_⟩
          rcases dueM_cases hdue with ⟨e, rfl⟩ | ⟨e, e2, rfl⟩
          · exact .inl ⟨e, ke H (Keep.refl _ _)⟩
          · exact .inr ⟨e, e2, ke H (Keep.refl _ _)⟩
        · rw [if_pos (.inr ⟨h2, by rw [es1, decide_eq_false hs]⟩)] at hdue
          cases hdue
          exact .inl ⟨hs, ke H (Keep.refl _ _)⟩
    rw [decide_eq_false (show ¬ V.int (d : Int) = V.int 2 from fun z => h2 (by have := V.int.inj z; omega))]
    refine iteF ?_
    refine ⟨_, rfl, rfl, _, rfl, ?_⟩
    by_cases h3 : d = 3
    · rw [decide_eq_true (show V.int (d : Int) = V.int 3 by rw [h3]; rfl)]
      refine iteT ?_
      rw [if_neg h0, if_neg h1] at hdue
      refine ⟨_, rfl, q, A.dx, _, rfl, hL.ins, rfl, _, rfl, _, rfl, ?_⟩
      refine ⟨q, A, ms, ns, es, ex, a, b, va, vb, rfl, hL, ah, bh, ?_⟩
      cases hF : a.isF es.length with
      | false =>
        rw [if_pos (.inl hF)] at hdue
        cases hdue
        exact .inl ⟨rfl, ke H (Keep.refl _ _)⟩
      | true =>
        rw [if_neg (by rw [hF]; simp; intro z; exact absurd z h2), if_neg h2, if_neg (by omega), if_pos h3] at hdue
        by_cases hb : b.isS = true
        · rw [if_pos hb] at hdue; cases hdue
        · rw [if_neg hb] at hdue
          cases hdue
          exact .inr ⟨rfl, by simpa using hb, ke H (Keep.refl _ _)⟩
    rw [decide_eq_false (show ¬ V.int (d : Int) = V.int 3 from fun z => h3 (by have := V.int.inj z; omega))]
    refine iteF ?_
    refine ⟨_, rfl, rfl, _, rfl, ?_⟩
    by_cases h4 : d = 4
    · rw [decide_eq_true (show V.int (d : Int) = V.int 4 by rw [h4]; rfl)]
      refine iteT ?_
      rw [if_neg h0, if_neg h1] at hdue
      refine ⟨_, rfl, q, A.dx, _, rfl, hL.ins, rfl, _, rfl, _, rfl, ?_⟩
      refine ⟨q, A, ms, ns, es, ex, a, b, va, vb, rfl, hL, ah, bh, ?_⟩
      cases hF : a.isF es.length with
      | false =>
        rw [if_pos (.inl hF)] at hdue
        cases hdue
        exact ⟨.inl rfl, ke H (Keep.refl _ _)⟩
      | true =>
        rw [if_neg (by rw [hF]; simp; intro z; exact absurd z h2), if_neg h2, if_neg (by omega), if_neg h3] at hdue
        by_cases hb : b.isFN es.length = false
        · rw [if_pos ⟨by omega, hb⟩] at hdue
          cases hdue
          exact ⟨.inr hb, ke H (Keep.refl _ _)⟩
        · rw [if_neg (fun z => hb z.2)] at hdue; cases hdue
    rw [decide_eq_false (show ¬ V.int (d : Int) = V.int 4 from fun z => h4 (by have := V.int.inj z; omega))]
    refine iteF ?_
    refine ⟨_, rfl, rfl, _, rfl, ?_⟩
    by_cases h5 : d = 5
    · rw [decide_eq_true (show V.int (d : Int) = V.int 5 by rw [h5]; rfl)]
      refine iteT ?_
      rw [if_neg h0, if_neg h1] at hdue
      refine ⟨_, rfl, q, A.dx, _, rfl, hL.ins, rfl, _, rfl, _, rfl, ?_⟩
      refine ⟨q, A, ms, ns, es, ex, a, b, va, vb, rfl, hL, ah, bh, ?_⟩
      cases hF : a.isF es.length with
      | false =>
        rw [if_pos (.inl hF)] at hdue
        cases hdue
        exact ⟨.inl rfl, ke H (Keep.refl _ _)⟩
      | true =>
        rw [if_neg (by rw [hF]; simp; intro z; exact absurd z h2), if_neg h2, if_neg (by omega), if_neg h3] at hdue
        by_cases hb : b.isFN es.length = false
        · rw [if_pos ⟨by omega, hb⟩] at hdue
          cases hdue
          exact ⟨.inr hb, ke H (Keep.refl _ _)⟩
        · rw [if_neg (fun z => hb z.2)] at hdue; cases hdue
    rw [decide_eq_false (show ¬ V.int (d : Int) = V.int 5 from fun z => h5 (by have := V.int.inj z; omega))]
    refine iteF ?_
    rw [if_neg h0, if_neg h1] at hdue
    -- looked
    refine ⟨_, rfl, _, rfl, _, rfl, (by show 0 ≤ sizeLine; decide), fun e1 he1 => ?_⟩
    have k1 : Keep [] H (upd H e1 (.tup [])) := Keep.new he1
    have f1 : (upd H e1 (.tup [])) e1 = some (.tup []) := upd_same
    generalize (upd H e1 (.tup [])) = H1 at k1 f1 ⊢
    refine ⟨_, rfl, (by show 2 ≤ sizeLine; decide), fun L hLn => ?_⟩
    have k2 : Keep [] H1 (upd H1 L (.lst [.ref e1, vb])) := Keep.new hLn
    have f2 : (upd H1 L (.lst [.ref e1, vb])) L = some (.lst [.ref e1, vb]) := upd_same
    generalize (upd H1 L (.lst [.ref e1, vb])) = H2 at k2 f2 ⊢
    have k02 := k1.trans k2
    have hL2 := hL.keep k02 (fun b z => absurd z nin0) (fun b z => absurd z nin0)
    have a2 := ah.keep0 k02
    have b2' := bh.keep0 k02
    refine ⟨_, rfl, rfl, .inr ⟨_, rfl, ?_⟩⟩
    by_cases h14 : d = 14
    · rw [decide_eq_true (show V.int (d : Int) = V.int 14 by rw [h14]; rfl)]
      refine ⟨L, _, 1, vb, rfl, rfl, SqL.of f2, rfl, ?_⟩
      refine ⟨q, A, ms, ns, es, ex, d, a, b, va, vb, rfl, by omega, d14, hL2, a2, b2', inn, six, ?_⟩
      cases hF : a.isF es.length with
      | false =>
        rw [if_pos (.inl hF)] at hdue
        cases hdue
        exact .inl ⟨rfl, ke H2 k02⟩
      | true =>
        rw [if_neg (by rw [hF]; simp; intro z; exact absurd z h2), if_neg h2, if_pos h14] at hdue
        cases hdue
        obtain ⟨k, rfl, hk⟩ := isF_int hF
        exact .inr ⟨h14, ⟨k, rfl, hk, hbw h14 k⟩, ke H2 k02⟩
    · rw [decide_eq_false (show ¬ V.int (d : Int) = V.int 14 from fun z => h14 (by have := V.int.inj z; omega))]
      refine ⟨L, _, 0, .ref e1, rfl, rfl, SqL.of f2, rfl, ?_⟩
      refine ⟨q, A, ms, ns, es, ex, d, a, .tup [], va, .ref e1, rfl, by omega, d14, hL2, a2, ?_, inn, six, ?_⟩
      · simp only [TgAt, TgsAt]
        exact ⟨e1, [], rfl, k2.at f1 nin0, True.intro⟩
      · cases hF : a.isF es.length with
        | false =>
          rw [if_pos (.inl hF)] at hdue
          cases hdue
          exact .inl ⟨rfl, ke H2 k02⟩
        | true =>
          rw [if_neg (by rw [hF]; simp; intro z; exact absurd z h2), if_neg h2, if_neg h14, if_neg h3, if_neg (by omega)] at hdue
          cases hdue
/-- what is told of a call that is refused -/
def spRfs (C CK : Addr) (AA : CA) : Sp := fun vs H Q _ => ∃ (q : Addr) (A : LA) (ms ns : List Addr) (es : List Ent) (ps : List (Str × Str)) (ex : List Addr) (d : Nat) (a b : Tg) (va vb : V) (c : Cl), vs = [.ref q, .int (d : Int), va, vb] ∧ d ≤ 14 ∧ LedAt C H q A ms ns es ∧ KindsAt CK H A.kd ps ∧ Wf ps ∧ (∀ e ∈ es, ∀ m ∈ e.mem, m < es.length) ∧ (∀ e ∈ es, e.mem.length ≤ 6) ∧ TgAt ex H a va ∧ TgAt ex H b vb ∧ dueG ps es d a b = some c ∧
  (d = 1 ∨ d = 2 → ∃ l, b = .lst l) ∧ (d = 14 → ∀ k, badW es k b) ∧ ∀ (t : Addr) (H' : Hp), Keep [] H H' → H t = none → H' t = some (.tup [.str "refused", .str c.word]) → Q (.ref t) H'
theorem ok_rfs {f fC fW : Addr} {fd dC dW : FuncData} {CF C1 C2 C3 C4 : Addr} (F : Fun K "_law_refusal" "_law_refusal" sRfs f fd) (T : RfE K mg AA CF C1 C2 C3 C4) (FC : FnOk P w K mg base (L2.CX P w) 5 fC dC aCld (spCld C CK AA)) (gC : mg "_law_called" = some (.ref fC)) (kC : PySem.W.keepIn K (.ref fC) = true) (bC : Binds K dC aCld [])
    (FW : FnE P w K mg base 1 fW dW ["_law_e"] (spWrd AA)) (gW : mg "_law_word" = some (.ref fW)) (kW : PySem.W.keepIn K (.ref fW) = true) (bW : Binds K dW ["_law_e"] []) : FnOk P w K mg base CX0 6 f fd aCld (spRfs C CK AA) := by
  refine F.ok scRfs (fun vs H Q E h => ?_) (fun cdv A0 outer s H vs Q Es hr h => ?_)
  · obtain ⟨q, A, ms, ns, es, ps, ex, d, a, b, va, vb, c, rfl, _⟩ := h
    rfl
  · obtain ⟨q, A, ms, ns, es, ps, ex, d, a, b, va, vb, c, rfl, d14, hL, hK, hw, inn, six, ah, bh, hdue, hsh, hbw, kk⟩ := h
    have hr1 : Room 1 _ := hr.mono (by decide)
    refine ⟨_, pss_cons (ps_set (i := 4) scRfs.nd rfl (Or.inl rfl) (pe_tup (pa_cons pe_str (pa_cons pe_str pa_nil))))
      (pss_cons (ps_try_as (i := 5) (tb := fun W => tDrop (tCallS (spCld C CK AA) (WE W) (tCons (tVar 0) (tCons (tVar 1) (tCons (tVar 2) (tCons (tVar 3) tNil)))))) (Wout := fun _ _ _ _ => False) rfl rfl scRfs.nd rfl rfl ⟨rfl, by decide, Or.inl T.gF⟩ takes0
        (fun W pn xe tk _ => pss_one (ps_expr (pe_callS FC hr rfl gC kC bC (fun σ => passAt tk σ) (by exact (pa_cons (pv 0) (pa_cons (pv 1) (pa_cons (pv 2) (pa_cons (pv 3) pa_nil))))))))
        (fun a oe cls d pn hz hf => pss_one (ps_set (i := 4) scRfs.nd rfl (Or.inl rfl) (pe_tup (pa_cons pe_str (pa_cons (pe_callE FW hz hf hr1 rfl gW kW bW (pa_cons (pv 5) pa_nil)) pa_nil))))))
      (pss_one (ps_ret (pv 4)))), ?_⟩
    refine ⟨(by show 2 ≤ sizeLine; decide), fun t0 ht0 => ?_⟩
    have k1 : Keep [] H (upd H t0 (.tup [.str "done", .str ""])) := Keep.new ht0
    generalize (upd H t0 (.tup [.str "done", .str ""])) = H1 at k1 ⊢
    refine ⟨_, rfl, _, rfl, _, rfl, _, rfl, ?_⟩
    dsimp only [tNil]
    refine ⟨q, A, ms, ns, es, ps, ex, d, a, b, va, vb, c, rfl, d14, hL.keep k1 (fun b z => absurd z nin0) (fun b z => absurd z nin0), hK.keep k1 (fun b z => absurd z nin0), hw, inn, six, ah.keep0 k1, bh.keep0 k1, hdue, hsh, hbw, fun H2 k2 => ?_⟩
    refine ⟨true, T.eF c, fun _ b' hb' => ?_, fun z => nomatch z⟩
    refine ⟨_, rfl, c, rfl, rfl, rfl, fun H3 k3 => ?_⟩
    refine ⟨(by show 2 ≤ sizeLine; decide), fun t ht => ?_⟩
    have k13 := (k1.trans k2).trans k3
    exact ⟨_, rfl, kk t _ (k13.newTo ht) (Keep.free k13 ht nin0) upd_same⟩
end
end Fs
/-! The law: odd things. -/
namespace Fs
open PySem L2 TL
/-- it can be shown, in no more signs than that -/
def Shw (n : Nat) (t : Tg) : Prop := (tgD t).showable = true ∧ (tgD t).depth ≤ 5 ∧ (tgD t).shown.length ≤ n
theorem Shw.le {n m : Nat} {t : Tg} (h : Shw n t) (l : n ≤ m) : Shw m t := ⟨h.1, h.2.1, Nat.le_trans h.2.2 l⟩
theorem shw_str {z : Str} (h : IsTx z) : Shw 402 (.str z) := ⟨rfl, Nat.zero_le _, str_short (n := 40) h.1 h.2⟩
theorem shw_int {i : Int} (h : (decide (i.natAbs.log2 < 1920) && decide ((PyData.int i).shown.length ≤ 100)) = true) : Shw 402 (.int i) := by
  rw [Bool.and_eq_true, decide_eq_true_eq, decide_eq_true_eq] at h
  exact ⟨by simpa [tgD, PyData.showable] using h.1, Nat.zero_le _, Nat.le_trans h.2 (by decide)⟩
theorem small_ints : ∀ m, m ≤ 60 → (decide (((m : Nat) : Int).natAbs.log2 < 1920) && decide ((PyData.int ((m : Nat) : Int)).shown.length ≤ 100)) = true ∧ (decide ((-((m : Nat) : Int)).natAbs.log2 < 1920) && decide ((PyData.int (-((m : Nat) : Int))).shown.length ≤ 100)) = true := by
  intro m hm
  have q : ∀ m, m < 61 → (decide (((m : Nat) : Int).natAbs.log2 < 1920) && decide ((PyData.int ((m : Nat) : Int)).shown.length ≤ 100)) = true ∧ (decide ((-((m : Nat) : Int)).natAbs.log2 < 1920) && decide ((PyData.int (-((m : Nat) : Int))).shown.length ≤ 100)) = true := by decide +kernel
  exact q m (by omega)
theorem sum_le {ts : List Str} {n : Nat} (h : ∀ t ∈ ts, t.length ≤ n) : (ts.map (·.length)).sum ≤ ts.length * n := by
  induction ts with
  | nil => exact Nat.zero_le _
  | cons t r ih =>
    rw [List.map_cons, List.sum_cons, List.length_cons, Nat.succ_mul]
    have := h t List.mem_cons_self
    have := ih fun u hu => h u (List.mem_cons_of_mem _ hu)
    omega
theorem shw_all {l : List Tg} {n d : Nat} (h : ∀ t ∈ l, (tgD t).showable = true ∧ (tgD t).depth ≤ d ∧ (tgD t).shown.length ≤ n) : PyData.showableAll (tgDs l) = true ∧ PyData.depthAll (tgDs l) ≤ d ∧ (∀ t ∈ PyData.shownAll (tgDs l), t.length ≤ n) ∧ (PyData.shownAll (tgDs l)).length = l.length := by
  induction l with
  | nil =>
    simp only [tgDs, PyData.showableAll, PyData.depthAll, PyData.shownAll]
    exact ⟨by trivial, Nat.zero_le _, fun t ht => absurd ht List.not_mem_nil, by rfl⟩
  | cons x r ih =>
    obtain ⟨i1, i2, i3, i4⟩ := ih fun t ht => h t (List.mem_cons_of_mem _ ht)
    obtain ⟨a1, a2, a3⟩ := h x List.mem_cons_self
    simp only [tgDs, PyData.showableAll, PyData.depthAll, PyData.shownAll]
    refine ⟨by rw [a1, i1]; rfl, by omega, fun t ht => ?_, by rw [List.length_cons, List.length_cons, i4]⟩
    rcases List.mem_cons.mp ht with q | q
    · rw [q]; exact a3
    · exact i3 t q
theorem shw_lst {l : List Tg} {n d k : Nat} (hk : l.length ≤ k) (h : ∀ t ∈ l, (tgD t).showable = true ∧ (tgD t).depth ≤ d ∧ (tgD t).shown.length ≤ n) : (tgD (.lst l)).showable = true ∧ (tgD (.lst l)).depth ≤ d + 1 ∧ (tgD (.lst l)).shown.length ≤ k * (n + 2) + 2 := by
  obtain ⟨a, b, c, e⟩ := shw_all h
  simp only [tgD, PyData.showable, PyData.depth, PyData.shown]
  refine ⟨a, by omega, ?_⟩
  have h1 := listText_le (PyData.shownAll (tgDs l))
  have h2 := piled_le c
  rw [e] at h2
  have h3 : l.length * (n + 2) ≤ k * (n + 2) := Nat.mul_le_mul_right _ hk
  omega
theorem tgF {ex : List Addr} {G : Hp} {z : Str} (h : IsTx z) : TgAt ex G (.str z) (.str z) := by simp only [TgAt]; exact ⟨True.intro, h⟩
theorem tgI {ex : List Addr} {G : Hp} (i : Int) : TgAt ex G (.int i) (.int i) := by simp only [TgAt]
theorem tgB {ex : List Addr} {G : Hp} (b : Bool) : TgAt ex G (.bl b) (.bl b) := by simp only [TgAt]
theorem tgN {ex : List Addr} {G : Hp} : TgAt ex G .non .non := by simp only [TgAt]
/-- a thing that came into being behind H -/
def New15 (H H' : Hp) (t : Tg) (v : V) : Prop := ∀ ex : List Addr, (∀ b ∈ ex, H b ≠ none) → TgAt ex H' t v
theorem tx_c (z : Str) (h : (decide (z.cps.toList.length ≤ 40) && z.cps.toList.all fun c => decide (c < 128)) = true) : IsTx z := by
  rw [Bool.and_eq_true, List.all_eq_true] at h
  exact ⟨of_decide_eq_true h.1, fun c hc => of_decide_eq_true (h.2 c hc)⟩
/-- looked for in a list of texts -/
def Lk (t : Tg) : Prop := t = .dic ∨ t.nd = true ∧ (tgD t).depth ≤ 60
theorem getm {vs : List V} {d : Int} (d0 : 0 ≤ d) (d1 : d < vs.length) : ∃ v, v ∈ vs ∧ atI vs d = some v := by
  obtain ⟨k, rfl⟩ := Int.eq_ofNat_of_zero_le d0
  have hl : k < vs.length := by omega
  exact ⟨vs[k], List.getElem_mem hl, atI_nat (List.getElem?_eq_getElem hl)⟩
abbrev sOdN : Stmt := top 33 --def _law_odd_number
abbrev sOdT : Stmt := top 34 --def _law_odd_text
abbrev sOdK : Stmt := top 35 --def _law_odd_kind
abbrev sOdW : Stmt := top 37 --def _law_odd_way
abbrev nOdN : List Str := ["_law_pot_here", "_law_many", "_law_some"]
abbrev nOdK : List Str := ["_law_pot_here", "_law_pairs_here", "_law_fresh_here", "_law_some", "_law_name_here", "_law_above"]
abbrev nOdW : List Str := ["_law_pot_here", "_law_some"]
theorem scOdN : FnScope nOdN ["_law_pot_here", "_law_many"] (defScope sOdN) := ⟨rfl, rfl, rfl, by decide +kernel, rfl, by decide +kernel, by decide +kernel⟩
theorem scOdT : FnScope ["_law_pot_here"] ["_law_pot_here"] (defScope sOdT) := ⟨rfl, rfl, rfl, by decide +kernel, rfl, by decide +kernel, by decide +kernel⟩
theorem scOdK : FnScope nOdK ["_law_pot_here", "_law_pairs_here"] (defScope sOdK) := ⟨rfl, rfl, rfl, by decide +kernel, rfl, by decide +kernel, by decide +kernel⟩
theorem scOdW : FnScope nOdW ["_law_pot_here"] (defScope sOdW) := ⟨rfl, rfl, rfl, by decide +kernel, rfl, by decide +kernel, by decide +kernel⟩
def spOdN : Sp := fun vs H Q _ => ∃ (p : Addr) (n many : Nat), vs = [.ref p, .int (many : Int)] ∧ PotAt H p n ∧ n < 2 ^ 38 ∧ many ≤ 40 ∧
  ∀ (t : Tg) (v : V) (H' : Hp), New15 H H' t v → Shw 402 t → (tgD t).depth ≤ 2 → Lk t → Keep [p] H H' → PotAt H' p (n + 1) → Q v H'
def spOdT : Sp := fun vs H Q _ => ∃ (p : Addr) (n : Nat), vs = [.ref p] ∧ PotAt H p n ∧ n < 2 ^ 38 ∧
  ∀ (t : Tg) (v : V) (H' : Hp), New15 H H' t v → Shw 402 t → Lk t → Keep [p] H H' → PotAt H' p (n + 1) → Q v H'
def spOdK : Sp := fun vs H Q _ => ∃ (p l : Addr) (n : Nat) (ps : List (Str × Str)), vs = [.ref p, .ref l] ∧ PotAt H p n ∧ n < 2 ^ 36 ∧ PairsAt H l ps ∧ Wf ps ∧ ps.length ≤ 30 ∧ l ≠ p ∧
  ∀ (t : Tg) (v : V) (H' : Hp), New15 H H' t v → Shw 402 t → Lk t → Keep [p] H H' → PotAt H' p (n + 10) → Q v H'
def spOdW : Sp := fun vs H Q _ => ∃ (p : Addr) (n : Nat), vs = [.ref p] ∧ PotAt H p n ∧ n < 2 ^ 38 ∧
  ∀ (t : Tg) (v : V) (H' : Hp), New15 H H' t v → Shw 402 t → (∀ es : List Ent, (∀ e ∈ es, e.mem.length ≤ 6) → ∀ k, badW es k t) → Keep [p] H H' → PotAt H' p (n + 1) → Q v H'
end Fs
/-! The law: odd numbers, texts. -/
namespace Fs
open PySem L2 TL
theorem new_str {H G : Hp} {z : Str} (h : IsTx z) : New15 H G (.str z) (.str z) := fun ex _ => tgF h
def okC (t : Tg) : Bool := (tgD t).showable && (decide ((tgD t).depth ≤ 2) && (decide ((tgD t).shown.length ≤ 402) && ((match t with | .dic => true | _ => false) || t.nd)))
theorem okC_get {t : Tg} (h : okC t = true) : Shw 402 t ∧ (tgD t).depth ≤ 2 ∧ Lk t := by
  unfold okC at h
  simp only [Bool.and_eq_true, decide_eq_true_eq, Bool.or_eq_true] at h
  obtain ⟨h1, h2, h3, h4⟩ := h
  refine ⟨⟨h1, by omega, h3⟩, h2, ?_⟩
  rcases h4 with q | q
  · cases t with
    | dic => exact .inl rfl
    | _ => cases q
  · exact .inr ⟨q, by omega⟩
section
variable {P : Program} {w : World} {K : PySem.W.Frag} {mg : Str → Option Value} {base : Heap}
theorem ok_odN {f fD : Addr} {fd fdD : FuncData} (F : Fun K "_law_odd_number" "_law_odd_number" sOdN f fd) (FD : FnOk P w K mg base CX0 1 fD fdD ["_law_pot_here", "_law_many"] spDigit) (mD : mg "_law_digit" = some (.ref fD)) (kD : PySem.W.keepIn K (.ref fD) = true) (bD : Binds K fdD ["_law_pot_here", "_law_many"] []) (mL : mg "len" = none) :
    FnOk P w K mg base CX0 2 f fd ["_law_pot_here", "_law_many"] spOdN := by
  refine F.ok scOdN (fun vs H Q E h => ?_) (fun cdv A outer s H vs Q E hr h => ?_)
  · obtain ⟨p, n, many, rfl, _⟩ := h
    rfl
  · obtain ⟨p, n, many, rfl, hp, hn, hm, kk⟩ := h
    refine ⟨_, pss_cons (ps_set (i := 2) scOdN.nd rfl (Or.inl rfl) (pe_lst (pa_cons pe_non (pa_cons pe_bl (pa_cons pe_bl (pa_cons pe_str (pa_cons (pe_tup (pa_cons pe_int pa_nil)) (pa_cons (pe_lst (pa_cons pe_int pa_nil)) (pa_cons pe_dnewK (pa_cons (pe_un un_neg pe_int) (pa_cons (pe_un un_neg (pv 1)) (pa_cons (pv 1) (pa_cons (pe_op op_add (pv 1) pe_int) (pa_cons (pe_op op_pow pe_int pe_int) (pa_cons pe_str (pa_cons (pe_tup (pa_cons pe_str (pa_cons pe_int pa_nil))) pa_nil))))))))))))))))
      (pss_one (ps_ret (pe_ix ix_list (pv 2) (pe_call FD hr rfl mD kD bD .nil pass0 (pa_cons (pv 0) (pa_cons (pe_callB call_len_seq (by rfl) mL PySem.boot_len (pa_cons (pv 2) pa_nil)) pa_nil))) (fun _ _ => rfl)))), ?_⟩
    refine ⟨(by show 1 ≤ sizeLine; decide), fun a ha => ?_⟩
    have k1 : Keep [] H (upd H a (.tup [.int 0])) := Keep.new ha
    have e1 : (upd H a (.tup [.int 0])) a = some (.tup [.int 0]) := upd_same
    generalize (upd H a (.tup [.int 0])) = H1 at k1 e1 ⊢
    refine ⟨(by show 1 ≤ sizeLine; decide), fun b hb => ?_⟩
    have k2 : Keep [] H1 (upd H1 b (.lst [.int 0])) := Keep.new hb
    have e2 : (upd H1 b (.lst [.int 0])) b = some (.lst [.int 0]) := upd_same
    have hb0 : H b = none := Keep.free k1 hb nin0
    generalize (upd H1 b (.lst [.int 0])) = H2 at k2 e2 ⊢
    intro c hc
    have k3 : Keep [] H2 (upd H2 c (.dK [])) := Keep.new hc
    have e3 : (upd H2 c (.dK [])) c = some (.dK []) := upd_same
    have hc0 : H c = none := Keep.free (k1.trans k2) hc nin0
    generalize (upd H2 c (.dK [])) = H3 at k3 e3 ⊢
    refine ⟨1, rfl, _, rfl, _, rfl, _, rfl, _, rfl, _, _, rfl, rfl, 10, 59, rfl, rfl, ⟨by decide, by decide, by decide⟩, (by show 2 ≤ sizeLine; decide), fun d hd => ?_⟩
    have k4 : Keep [] H3 (upd H3 d (.tup [.str "at", .int 0])) := Keep.new hd
    have e4 : (upd H3 d (.tup [.str "at", .int 0])) d = some (.tup [.str "at", .int 0]) := upd_same
    generalize (upd H3 d (.tup [.str "at", .int 0])) = H4 at k4 e4 ⊢
    refine ⟨(by show 14 ≤ sizeLine; decide), fun l hl => ?_⟩
    have k04 : Keep [] H H4 := ((k1.trans k2).trans k3).trans k4
    have k5 : Keep [] H4 (upd H4 l (.lst [.non, .bl true, .bl false, .str "0", .ref a, .ref b, .ref c, .int (-1), .int (-(many : Int)), .int (many : Int), .int ((many : Int) + 7), .int (10 ^ (59 : Int).toNat), .str "", .ref d])) := Keep.new hl
    have e5 : (upd H4 l (.lst [.non, .bl true, .bl false, .str "0", .ref a, .ref b, .ref c, .int (-1), .int (-(many : Int)), .int (many : Int), .int ((many : Int) + 7), .int (10 ^ (59 : Int).toNat), .str "", .ref d])) l = some (.lst [.non, .bl true, .bl false, .str "0", .ref a, .ref b, .ref c, .int (-1), .int (-(many : Int)), .int (many : Int), .int ((many : Int) + 7), .int (10 ^ (59 : Int).toNat), .str "", .ref d]) := upd_same
    generalize (upd H4 l (.lst [.non, .bl true, .bl false, .str "0", .ref a, .ref b, .ref c, .int (-1), .int (-(many : Int)), .int (many : Int), .int ((many : Int) + 7), .int (10 ^ (59 : Int).toNat), .str "", .ref d])) = H5 at k5 e5 ⊢
    have k05 := k04.trans k5
    obtain ⟨xs, ep⟩ := hp.some
    have nap : a ≠ p := fun z => by rw [z, ep] at ha; cases ha
    have nbp : b ≠ p := fun z => by rw [z, ep] at hb0; cases hb0
    have ncp : c ≠ p := fun z => by rw [z, ep] at hc0; cases hc0
    have ndp : d ≠ p := fun z => by rw [z, ((k1.trans k2).trans k3).at ep nin0] at hd; cases hd
    have nlp : l ≠ p := fun z => by rw [z, k04.at ep nin0] at hl; cases hl
    refine ⟨_, rfl, _, rfl, _, rfl, l, _, rfl, .inl (SqL.of e5), p, n, 14, rfl, hp.keep k05 nin0, by omega, by decide, by decide, fun i H6 d0 d1 hk6 hp6 => ?_⟩
    have k6 : Keep [p] H5 H6 := keep_of_dig hk6
    have ea := k6.at (k5.at (k4.at (k3.at (k2.at e1 nin0) nin0) nin0) nin0) (nin1 nap)
    have eb := k6.at (k5.at (k4.at (k3.at e2 nin0) nin0) nin0) (nin1 nbp)
    have ec := k6.at (k5.at (k4.at e3 nin0) nin0) (nin1 ncp)
    have ed := k6.at (k5.at e4 nin0) (nin1 ndp)
    obtain ⟨i1, i2⟩ := small_ints many (by omega)
    have i3 := (small_ints (many + 7) (by omega)).1
    have all : ∀ v ∈ ([.non, .bl true, .bl false, .str "0", .ref a, .ref b, .ref c, .int (-1), .int (-(many : Int)), .int (many : Int), .int ((many : Int) + 7), .int (10 ^ (59 : Int).toNat), .str "", .ref d] : List V), ∃ t, New15 H H6 t v ∧ Shw 402 t ∧ (tgD t).depth ≤ 2 ∧ Lk t := by
      simp only [List.forall_mem_cons]
      refine ⟨⟨.non, fun ex h => tgN, okC_get (by decide +kernel)⟩, ⟨.bl true, fun ex h => tgB _, okC_get (by decide +kernel)⟩, ⟨.bl false, fun ex h => tgB _, okC_get (by decide +kernel)⟩, ⟨.str "0", new_str (tx_c _ (by decide +kernel)), okC_get (by decide +kernel)⟩,
        ⟨.tup [.int 0], fun ex h => ?_, okC_get (by decide +kernel)⟩, ⟨.lst [.int 0], fun ex h => ?_, okC_get (by decide +kernel)⟩, ⟨.dic, fun ex h => ?_, okC_get (by decide +kernel)⟩,
        ⟨.int (-1), fun ex h => tgI _, okC_get (by decide +kernel)⟩, ⟨.int (-(many : Int)), fun ex h => tgI _, shw_int i2, Nat.zero_le _, .inr ⟨rfl, Nat.zero_le _⟩⟩, ⟨.int (many : Int), fun ex h => tgI _, shw_int i1, Nat.zero_le _, .inr ⟨rfl, Nat.zero_le _⟩⟩, ⟨.int ((many : Int) + 7), fun ex h => tgI _, shw_int i3, Nat.zero_le _, .inr ⟨rfl, Nat.zero_le _⟩⟩,
        ⟨.int (10 ^ (59 : Int).toNat), fun ex h => tgI _, okC_get (by decide +kernel)⟩, ⟨.str "", new_str (tx_c _ (by decide +kernel)), okC_get (by decide +kernel)⟩, ⟨.tup [.str "at", .int 0], fun ex h => ?_, okC_get (by decide +kernel)⟩, fun x hx => absurd hx List.not_mem_nil⟩
      · simp only [TgAt, TgsAt]
        exact ⟨a, _, rfl, ea, ⟨rfl, True.intro⟩⟩
      · simp only [TgAt, TgsAt]
        exact ⟨b, _, rfl, fun z => h b z hb0, eb, ⟨rfl, True.intro⟩⟩
      · simp only [TgAt]
        exact ⟨c, rfl, ec⟩
      · simp only [TgAt, TgsAt]
        exact ⟨d, _, rfl, ed, ⟨⟨rfl, tx_c "at" (by decide +kernel)⟩, rfl, True.intro⟩⟩
    obtain ⟨v, hv, ev⟩ := getm (vs := [.non, .bl true, .bl false, .str "0", .ref a, .ref b, .ref c, .int (-1), .int (-(many : Int)), .int (many : Int), .int ((many : Int) + 7), .int (10 ^ (59 : Int).toNat), .str "", .ref d]) d0 d1
    obtain ⟨t, h1, h2, h3, h4⟩ := all v hv
    exact ⟨l, _, i, v, rfl, rfl, SqL.of (k6.at e5 (nin1 nlp)), ev, kk t v H6 h1 h2 h3 h4 ((k05.more fun b z => absurd z nin0).trans k6) hp6⟩
end
end Fs
/-! The law: odd texts, kinds, ways. -/
namespace Fs
open PySem L2 TL
theorem okC1 {t : Tg} (h : okC t = true) : Shw 402 t ∧ Lk t := ⟨(okC_get h).1, (okC_get h).2.2⟩
theorem nm_tx15 {z : Str} (h : IsNm z) : IsTx z := by
  obtain ⟨_, a, b⟩ := h
  refine ⟨by omega, fun c hc => ?_⟩
  have := b c hc
  unfold small at this
  simp only [Bool.and_eq_true, decide_eq_true_eq] at this
  omega
section
variable {P : Program} {w : World} {K : PySem.W.Frag} {mg : Str → Option Value} {base : Heap}
theorem ok_odT {f fD : Addr} {fd fdD : FuncData} (F : Fun K "_law_odd_text" "_law_odd_text" sOdT f fd) (FD : FnOk P w K mg base CX0 1 fD fdD ["_law_pot_here", "_law_many"] spDigit) (mD : mg "_law_digit" = some (.ref fD)) (kD : PySem.W.keepIn K (.ref fD) = true) (bD : Binds K fdD ["_law_pot_here", "_law_many"] []) :
    FnOk P w K mg base CX0 2 f fd ["_law_pot_here"] spOdT := by
  refine F.ok scOdT (fun vs H Q E h => ?_) (fun cdv A outer s H vs Q E hr h => ?_)
  · obtain ⟨p, n, rfl, _⟩ := h
    rfl
  · obtain ⟨p, n, rfl, hp, hn, kk⟩ := h
    refine ⟨_, pss_one (ps_ret (pe_ix ix_list (pe_lst (pa_cons pe_non (pa_cons pe_int (pa_cons pe_bl (pa_cons (pe_lst (pa_cons pe_str pa_nil)) (pa_cons (pe_tup (pa_cons pe_str pa_nil)) (pa_cons pe_dnewK (pa_cons pe_int (pa_cons (pe_un un_neg pe_int) pa_nil))))))))) (pe_call FD hr rfl mD kD bD .nil pass0 (pa_cons (pv 0) (pa_cons pe_int pa_nil))) (fun _ _ => rfl))), ?_⟩
    refine ⟨(by show 1 ≤ sizeLine; decide), fun a0 ha0 => ?_⟩
    have ka0 : Keep [] H (upd H a0 (.lst [.str "a"])) := Keep.new ha0
    have ea0 : (upd H a0 (.lst [.str "a"])) a0 = some (.lst [.str "a"]) := upd_same
    have za0 : H a0 = none := ha0
    generalize (upd H a0 (.lst [.str "a"])) = B1 at ka0 ea0 ⊢
    have kkB1 : Keep [] H B1 := ka0
    refine ⟨(by show 1 ≤ sizeLine; decide), fun a1 ha1 => ?_⟩
    have ka1 : Keep [] B1 (upd B1 a1 (.tup [.str "a"])) := Keep.new ha1
    have ea1 : (upd B1 a1 (.tup [.str "a"])) a1 = some (.tup [.str "a"]) := upd_same
    have za1 : H a1 = none := Keep.free kkB1 ha1 nin0
    generalize (upd B1 a1 (.tup [.str "a"])) = B2 at ka1 ea1 ⊢
    have kkB2 : Keep [] H B2 := kkB1.trans ka1
    intro a2 ha2
    have ka2 : Keep [] B2 (upd B2 a2 (.dK [])) := Keep.new ha2
    have ea2 : (upd B2 a2 (.dK [])) a2 = some (.dK []) := upd_same
    have za2 : H a2 = none := Keep.free kkB2 ha2 nin0
    generalize (upd B2 a2 (.dK [])) = B3 at ka2 ea2 ⊢
    have kkB3 : Keep [] H B3 := kkB2.trans ka2
    refine ⟨1, rfl, (by show 8 ≤ sizeLine; decide), fun l hl => ?_⟩
    have k5 : Keep [] B3 (upd B3 l (.lst [.non, .int 5, .bl true, .ref a0, .ref a1, .ref a2, .int 0, .int (-1)])) := Keep.new hl
    have e5 : (upd B3 l (.lst [.non, .int 5, .bl true, .ref a0, .ref a1, .ref a2, .int 0, .int (-1)])) l = some (.lst [.non, .int 5, .bl true, .ref a0, .ref a1, .ref a2, .int 0, .int (-1)]) := upd_same
    generalize (upd B3 l (.lst [.non, .int 5, .bl true, .ref a0, .ref a1, .ref a2, .int 0, .int (-1)])) = H5 at k5 e5 ⊢
    have k05 : Keep [] H H5 := kkB3.trans k5
    obtain ⟨xs, ep⟩ := hp.some
    have na0 : a0 ≠ p := fun z => by rw [z, ep] at za0; cases za0
    have na1 : a1 ≠ p := fun z => by rw [z, ep] at za1; cases za1
    have na2 : a2 ≠ p := fun z => by rw [z, ep] at za2; cases za2
    have nlp : l ≠ p := fun z => by rw [z, kkB3.at ep nin0] at hl; cases hl
    refine ⟨_, rfl, p, n, 8, rfl, hp.keep k05 nin0, by omega, by decide, by decide, fun i H6 d0 d1 hk6 hp6 => ?_⟩
    have k6 : Keep [p] H5 H6 := keep_of_dig hk6
    have fa0 := k6.at (k5.at (ka2.at (ka1.at ea0 nin0) nin0) nin0) (nin1 na0)
    have fa1 := k6.at (k5.at (ka2.at ea1 nin0) nin0) (nin1 na1)
    have fa2 := k6.at (k5.at ea2 nin0) (nin1 na2)
    have all : ∀ v ∈ ([.non, .int 5, .bl true, .ref a0, .ref a1, .ref a2, .int 0, .int (-1)] : List V), ∃ t, New15 H H6 t v ∧ Shw 402 t ∧ Lk t := by
      simp only [List.forall_mem_cons]
      refine ⟨⟨.non, fun ex h => tgN, okC1 (by decide +kernel)⟩,
        ⟨.int 5, fun ex h => tgI _, okC1 (by decide +kernel)⟩,
        ⟨.bl true, fun ex h => tgB _, okC1 (by decide +kernel)⟩,
        ⟨.lst [.str "a"], fun ex h => ?_, okC1 (by decide +kernel)⟩,
        ⟨.tup [.str "a"], fun ex h => ?_, okC1 (by decide +kernel)⟩,
        ⟨.dic, fun ex h => ?_, okC1 (by decide +kernel)⟩,
        ⟨.int 0, fun ex h => tgI _, okC1 (by decide +kernel)⟩,
        ⟨.int (-1), fun ex h => tgI _, okC1 (by decide +kernel)⟩, fun x hx => absurd hx List.not_mem_nil⟩
      · simp only [TgAt, TgsAt]
        exact ⟨a0, _, rfl, fun z => h a0 z za0, fa0, ⟨⟨rfl, tx_c "a" (by decide +kernel)⟩, True.intro⟩⟩
      · simp only [TgAt, TgsAt]
        exact ⟨a1, _, rfl, fa1, ⟨⟨rfl, tx_c "a" (by decide +kernel)⟩, True.intro⟩⟩
      · simp only [TgAt, TgsAt]
        exact ⟨a2, rfl, fa2⟩
    obtain ⟨v, hv, ev⟩ := getm (vs := [.non, .int 5, .bl true, .ref a0, .ref a1, .ref a2, .int 0, .int (-1)]) d0 d1
    obtain ⟨t, h1, h2, h3⟩ := all v hv
    exact ⟨l, _, i, v, rfl, rfl, SqL.of (k6.at e5 (nin1 nlp)), ev, kk t v H6 h1 h2 h3 ((k05.more fun b z => absurd z nin0).trans k6) hp6⟩
/-- a place at which no member stands -/
def farP : Pl → Bool
  | .int i => decide (i < 0) || decide (6 ≤ i)
  | .odd => true
theorem stp_far {es : List Ent} (h6 : ∀ e ∈ es, e.mem.length ≤ 6) {n : Nat} {p : Pl} (h : farP p = true) : stp es n p = none := by
  cases p with
  | odd => rfl
  | int i =>
    have h' : (decide (i < 0) || decide (6 ≤ i)) = true := h
    rw [Bool.or_eq_true, decide_eq_true_eq, decide_eq_true_eq] at h'
    simp only [stp]
    refine if_neg fun z => ?_
    have hl : (es.getD n ⟨sF, sF, [], [], none, none⟩).mem.length ≤ 6 := by
      by_cases hn : n < es.length
      · rw [List.getD_eq_getElem?_getD, List.getElem?_eq_getElem hn]
        exact h6 _ (List.getElem_mem hn)
      · rw [List.getD_eq_getElem?_getD, List.getElem?_eq_none (by omega)]
        exact Nat.zero_le _
    omega
theorem bw1 {x : Tg} (h : farP (plT x) = true) : ∀ es : List Ent, (∀ e ∈ es, e.mem.length ≤ 6) → ∀ k, goes es k ([x].map plT) = none := fun es h6 k => by
  show (match stp es k (plT x) with | some m => goes es m [] | none => none) = none
  rw [stp_far h6 h]
theorem bw06 : ∀ es : List Ent, (∀ e ∈ es, e.mem.length ≤ 6) → ∀ k, goes es k ([Tg.int 0, Tg.int 6].map plT) = none := fun es h6 k => by
  show (match stp es k (.int 0) with | some m => goes es m [.int 6] | none => none) = none
  cases stp es k (.int 0) with
  | none => rfl
  | some m =>
    show (match stp es m (.int 6) with | some m => goes es m [] | none => none) = none
    rw [stp_far h6 (p := .int 6) (by decide +kernel)]
def noDic : List Tg → Bool
  | [] => true
  | .dic :: _ => false
  | _ :: r => noDic r
theorem noDic_get : ∀ {l : List Tg}, noDic l = true → ∀ x ∈ l, x ≠ .dic
  | [], _, x, h => absurd h List.not_mem_nil
  | y :: r, h, x, hx => by
    cases y <;> first | (cases h) | (
      rcases List.mem_cons.mp hx with q | q
      · rw [q]; exact fun z => nomatch z
      · exact noDic_get (l := r) h x q)
theorem bw_tup {l : List Tg} (h : noDic l = true) (g : ∀ es : List Ent, (∀ e ∈ es, e.mem.length ≤ 6) → ∀ k, goes es k (l.map plT) = none) : ∀ es : List Ent, (∀ e ∈ es, e.mem.length ≤ 6) → ∀ k, badW es k (.tup l) := fun es h6 k => ⟨noDic_get h, g es h6 k⟩
theorem ok_odW {f fD : Addr} {fd fdD : FuncData} (F : Fun K "_law_odd_way" "_law_odd_way" sOdW f fd) (FD : FnOk P w K mg base CX0 1 fD fdD ["_law_pot_here", "_law_many"] spDigit) (mD : mg "_law_digit" = some (.ref fD)) (kD : PySem.W.keepIn K (.ref fD) = true) (bD : Binds K fdD ["_law_pot_here", "_law_many"] []) (mL : mg "len" = none) :
    FnOk P w K mg base CX0 2 f fd ["_law_pot_here"] spOdW := by
  refine F.ok scOdW (fun vs H Q E h => ?_) (fun cdv A outer s H vs Q E hr h => ?_)
  · obtain ⟨p, n, rfl, _⟩ := h
    rfl
  · obtain ⟨p, n, rfl, hp, hn, kk⟩ := h
    refine ⟨_, pss_cons (ps_set (i := 1) scOdW.nd rfl (Or.inl rfl) (pe_lst (pa_cons (pe_lst pa_nil) (pa_cons (pe_lst (pa_cons pe_int pa_nil)) (pa_cons pe_non (pa_cons pe_str (pa_cons pe_int (pa_cons (pe_tup (pa_cons (pe_un un_neg pe_int) pa_nil)) (pa_cons (pe_tup (pa_cons pe_bl pa_nil)) (pa_cons (pe_tup (pa_cons pe_int pa_nil)) (pa_cons (pe_tup (pa_cons pe_str pa_nil)) (pa_cons (pe_tup (pa_cons pe_non pa_nil)) (pa_cons (pe_tup (pa_cons (pe_tup (pa_cons pe_int pa_nil)) pa_nil)) (pa_cons (pe_tup (pa_cons pe_int (pa_cons pe_int pa_nil))) (pa_cons (pe_tup (pa_cons (pe_op op_pow pe_int pe_int) pa_nil)) (pa_cons pe_dnewK pa_nil))))))))))))))))
      (pss_one (ps_ret (pe_ix ix_list (pv 1) (pe_call FD hr rfl mD kD bD .nil pass0 (pa_cons (pv 0) (pa_cons (pe_callB call_len_seq (by rfl) mL PySem.boot_len (pa_cons (pv 1) pa_nil)) pa_nil))) (fun _ _ => rfl)))), ?_⟩
    refine ⟨(by show 0 ≤ sizeLine; decide), fun a0 ha0 => ?_⟩
    have ka0 : Keep [] H (upd H a0 (.lst [])) := Keep.new ha0
    have ea0 : (upd H a0 (.lst [])) a0 = some (.lst []) := upd_same
    have za0 : H a0 = none := ha0
    generalize (upd H a0 (.lst [])) = B1 at ka0 ea0 ⊢
    have kkB1 : Keep [] H B1 := ka0
    refine ⟨(by show 1 ≤ sizeLine; decide), fun a1 ha1 => ?_⟩
    have ka1 : Keep [] B1 (upd B1 a1 (.lst [.int 0])) := Keep.new ha1
    have ea1 : (upd B1 a1 (.lst [.int 0])) a1 = some (.lst [.int 0]) := upd_same
    have za1 : H a1 = none := Keep.free kkB1 ha1 nin0
    generalize (upd B1 a1 (.lst [.int 0])) = B2 at ka1 ea1 ⊢
    have kkB2 : Keep [] H B2 := kkB1.trans ka1
    refine ⟨1, rfl, (by show 1 ≤ sizeLine; decide), fun a2 ha2 => ?_⟩
    have ka2 : Keep [] B2 (upd B2 a2 (.tup [.int (-1)])) := Keep.new ha2
    have ea2 : (upd B2 a2 (.tup [.int (-1)])) a2 = some (.tup [.int (-1)]) := upd_same
    have za2 : H a2 = none := Keep.free kkB2 ha2 nin0
    generalize (upd B2 a2 (.tup [.int (-1)])) = B3 at ka2 ea2 ⊢
    have kkB3 : Keep [] H B3 := kkB2.trans ka2
    refine ⟨(by show 1 ≤ sizeLine; decide), fun a3 ha3 => ?_⟩
    have ka3 : Keep [] B3 (upd B3 a3 (.tup [.bl true])) := Keep.new ha3
    have ea3 : (upd B3 a3 (.tup [.bl true])) a3 = some (.tup [.bl true]) := upd_same
    have za3 : H a3 = none := Keep.free kkB3 ha3 nin0
    generalize (upd B3 a3 (.tup [.bl true])) = B4 at ka3 ea3 ⊢
    have kkB4 : Keep [] H B4 := kkB3.trans ka3
    refine ⟨(by show 1 ≤ sizeLine; decide), fun a4 ha4 => ?_⟩
    have ka4 : Keep [] B4 (upd B4 a4 (.tup [.int 6])) := Keep.new ha4
    have ea4 : (upd B4 a4 (.tup [.int 6])) a4 = some (.tup [.int 6]) := upd_same
    have za4 : H a4 = none := Keep.free kkB4 ha4 nin0
    generalize (upd B4 a4 (.tup [.int 6])) = B5 at ka4 ea4 ⊢
    have kkB5 : Keep [] H B5 := kkB4.trans ka4
    refine ⟨(by show 1 ≤ sizeLine; decide), fun a5 ha5 => ?_⟩
    have ka5 : Keep [] B5 (upd B5 a5 (.tup [.str "0"])) := Keep.new ha5
    have ea5 : (upd B5 a5 (.tup [.str "0"])) a5 = some (.tup [.str "0"]) := upd_same
    have za5 : H a5 = none := Keep.free kkB5 ha5 nin0
    generalize (upd B5 a5 (.tup [.str "0"])) = B6 at ka5 ea5 ⊢
    have kkB6 : Keep [] H B6 := kkB5.trans ka5
    refine ⟨(by show 1 ≤ sizeLine; decide), fun a6 ha6 => ?_⟩
    have ka6 : Keep [] B6 (upd B6 a6 (.tup [.non])) := Keep.new ha6
    have ea6 : (upd B6 a6 (.tup [.non])) a6 = some (.tup [.non]) := upd_same
    have za6 : H a6 = none := Keep.free kkB6 ha6 nin0
    generalize (upd B6 a6 (.tup [.non])) = B7 at ka6 ea6 ⊢
    have kkB7 : Keep [] H B7 := kkB6.trans ka6
    refine ⟨(by show 1 ≤ sizeLine; decide), fun a7 ha7 => ?_⟩
    have ka7 : Keep [] B7 (upd B7 a7 (.tup [.int 0])) := Keep.new ha7
    have ea7 : (upd B7 a7 (.tup [.int 0])) a7 = some (.tup [.int 0]) := upd_same
    have za7 : H a7 = none := Keep.free kkB7 ha7 nin0
    generalize (upd B7 a7 (.tup [.int 0])) = B8 at ka7 ea7 ⊢
    have kkB8 : Keep [] H B8 := kkB7.trans ka7
    refine ⟨(by show 1 ≤ sizeLine; decide), fun a8 ha8 => ?_⟩
    have ka8 : Keep [] B8 (upd B8 a8 (.tup [.ref a7])) := Keep.new ha8
    have ea8 : (upd B8 a8 (.tup [.ref a7])) a8 = some (.tup [.ref a7]) := upd_same
    have za8 : H a8 = none := Keep.free kkB8 ha8 nin0
    generalize (upd B8 a8 (.tup [.ref a7])) = B9 at ka8 ea8 ⊢
    have kkB9 : Keep [] H B9 := kkB8.trans ka8
    refine ⟨(by show 2 ≤ sizeLine; decide), fun a9 ha9 => ?_⟩
    have ka9 : Keep [] B9 (upd B9 a9 (.tup [.int 0, .int 6])) := Keep.new ha9
    have ea9 : (upd B9 a9 (.tup [.int 0, .int 6])) a9 = some (.tup [.int 0, .int 6]) := upd_same
    have za9 : H a9 = none := Keep.free kkB9 ha9 nin0
    generalize (upd B9 a9 (.tup [.int 0, .int 6])) = B10 at ka9 ea9 ⊢
    have kkB10 : Keep [] H B10 := kkB9.trans ka9
    refine ⟨10, 59, rfl, rfl, ⟨by decide, by decide, by decide⟩, (by show 1 ≤ sizeLine; decide), fun a10 ha10 => ?_⟩
    have ka10 : Keep [] B10 (upd B10 a10 (.tup [.int (10 ^ (59 : Int).toNat)])) := Keep.new ha10
    have ea10 : (upd B10 a10 (.tup [.int (10 ^ (59 : Int).toNat)])) a10 = some (.tup [.int (10 ^ (59 : Int).toNat)]) := upd_same
    have za10 : H a10 = none := Keep.free kkB10 ha10 nin0
    generalize (upd B10 a10 (.tup [.int (10 ^ (59 : Int).toNat)])) = B11 at ka10 ea10 ⊢
    have kkB11 : Keep [] H B11 := kkB10.trans ka10
    intro a11 ha11
    have ka11 : Keep [] B11 (upd B11 a11 (.dK [])) := Keep.new ha11
    have ea11 : (upd B11 a11 (.dK [])) a11 = some (.dK []) := upd_same
    have za11 : H a11 = none := Keep.free kkB11 ha11 nin0
    generalize (upd B11 a11 (.dK [])) = B12 at ka11 ea11 ⊢
    have kkB12 : Keep [] H B12 := kkB11.trans ka11
    refine ⟨(by show 14 ≤ sizeLine; decide), fun l hl => ?_⟩
    have k5 : Keep [] B12 (upd B12 l (.lst [.ref a0, .ref a1, .non, .str "", .int 0, .ref a2, .ref a3, .ref a4, .ref a5, .ref a6, .ref a8, .ref a9, .ref a10, .ref a11])) := Keep.new hl
    have e5 : (upd B12 l (.lst [.ref a0, .ref a1, .non, .str "", .int 0, .ref a2, .ref a3, .ref a4, .ref a5, .ref a6, .ref a8, .ref a9, .ref a10, .ref a11])) l = some (.lst [.ref a0, .ref a1, .non, .str "", .int 0, .ref a2, .ref a3, .ref a4, .ref a5, .ref a6, .ref a8, .ref a9, .ref a10, .ref a11]) := upd_same
    generalize (upd B12 l (.lst [.ref a0, .ref a1, .non, .str "", .int 0, .ref a2, .ref a3, .ref a4, .ref a5, .ref a6, .ref a8, .ref a9, .ref a10, .ref a11])) = H5 at k5 e5 ⊢
    have k05 : Keep [] H H5 := kkB12.trans k5
    obtain ⟨xs, ep⟩ := hp.some
    have na0 : a0 ≠ p := fun z => by rw [z, ep] at za0; cases za0
    have na1 : a1 ≠ p := fun z => by rw [z, ep] at za1; cases za1
    have na2 : a2 ≠ p := fun z => by rw [z, ep] at za2; cases za2
    have na3 : a3 ≠ p := fun z => by rw [z, ep] at za3; cases za3
    have na4 : a4 ≠ p := fun z => by rw [z, ep] at za4; cases za4
    have na5 : a5 ≠ p := fun z => by rw [z, ep] at za5; cases za5
    have na6 : a6 ≠ p := fun z => by rw [z, ep] at za6; cases za6
    have na7 : a7 ≠ p := fun z => by rw [z, ep] at za7; cases za7
    have na8 : a8 ≠ p := fun z => by rw [z, ep] at za8; cases za8
    have na9 : a9 ≠ p := fun z => by rw [z, ep] at za9; cases za9
    have na10 : a10 ≠ p := fun z => by rw [z, ep] at za10; cases za10
    have na11 : a11 ≠ p := fun z => by rw [z, ep] at za11; cases za11
    have nlp : l ≠ p := fun z => by rw [z, kkB12.at ep nin0] at hl; cases hl
    refine ⟨_, rfl, _, rfl, _, rfl, l, _, rfl, .inl (SqL.of e5), p, n, 14, rfl, hp.keep k05 nin0, by omega, by decide, by decide, fun i H6 d0 d1 hk6 hp6 => ?_⟩
    have k6 : Keep [p] H5 H6 := keep_of_dig hk6
    have fa0 := k6.at (k5.at (ka11.at (ka10.at (ka9.at (ka8.at (ka7.at (ka6.at (ka5.at (ka4.at (ka3.at (ka2.at (ka1.at ea0 nin0) nin0) nin0) nin0) nin0) nin0) nin0) nin0) nin0) nin0) nin0) nin0) (nin1 na0)
    have fa1 := k6.at (k5.at (ka11.at (ka10.at (ka9.at (ka8.at (ka7.at (ka6.at (ka5.at (ka4.at (ka3.at (ka2.at ea1 nin0) nin0) nin0) nin0) nin0) nin0) nin0) nin0) nin0) nin0) nin0) (nin1 na1)
    have fa2 := k6.at (k5.at (ka11.at (ka10.at (ka9.at (ka8.at (ka7.at (ka6.at (ka5.at (ka4.at (ka3.at ea2 nin0) nin0) nin0) nin0) nin0) nin0) nin0) nin0) nin0) nin0) (nin1 na2)
    have fa3 := k6.at (k5.at (ka11.at (ka10.at (ka9.at (ka8.at (ka7.at (ka6.at (ka5.at (ka4.at ea3 nin0) nin0) nin0) nin0) nin0) nin0) nin0) nin0) nin0) (nin1 na3)
    have fa4 := k6.at (k5.at (ka11.at (ka10.at (ka9.at (ka8.at (ka7.at (ka6.at (ka5.at ea4 nin0) nin0) nin0) nin0) nin0) nin0) nin0) nin0) (nin1 na4)
    have fa5 := k6.at (k5.at (ka11.at (ka10.at (ka9.at (ka8.at (ka7.at (ka6.at ea5 nin0) nin0) nin0) nin0) nin0) nin0) nin0) (nin1 na5)
    have fa6 := k6.at (k5.at (ka11.at (ka10.at (ka9.at (ka8.at (ka7.at ea6 nin0) nin0) nin0) nin0) nin0) nin0) (nin1 na6)
    have fa7 := k6.at (k5.at (ka11.at (ka10.at (ka9.at (ka8.at ea7 nin0) nin0) nin0) nin0) nin0) (nin1 na7)
    have fa8 := k6.at (k5.at (ka11.at (ka10.at (ka9.at ea8 nin0) nin0) nin0) nin0) (nin1 na8)
    have fa9 := k6.at (k5.at (ka11.at (ka10.at ea9 nin0) nin0) nin0) (nin1 na9)
    have fa10 := k6.at (k5.at (ka11.at ea10 nin0) nin0) (nin1 na10)
    have fa11 := k6.at (k5.at ea11 nin0) (nin1 na11)
    have all : ∀ v ∈ ([.ref a0, .ref a1, .non, .str "", .int 0, .ref a2, .ref a3, .ref a4, .ref a5, .ref a6, .ref a8, .ref a9, .ref a10, .ref a11] : List V), ∃ t, New15 H H6 t v ∧ Shw 402 t ∧ (∀ es : List Ent, (∀ e ∈ es, e.mem.length ≤ 6) → ∀ k, badW es k t) := by
      simp only [List.forall_mem_cons]
      refine ⟨⟨.lst [], fun ex h => ?_, (okC1 (by decide +kernel)).1, fun _ _ _ => trivial⟩,
        ⟨.lst [.int 0], fun ex h => ?_, (okC1 (by decide +kernel)).1, fun _ _ _ => trivial⟩,
        ⟨.non, fun ex h => tgN, (okC1 (by decide +kernel)).1, fun _ _ _ => trivial⟩,
        ⟨.str "", new_str (tx_c _ (by decide +kernel)), (okC1 (by decide +kernel)).1, fun _ _ _ => trivial⟩,
        ⟨.int 0, fun ex h => tgI _, (okC1 (by decide +kernel)).1, fun _ _ _ => trivial⟩,
        ⟨.tup [.int (-1)], fun ex h => ?_, (okC1 (by decide +kernel)).1, bw_tup (by decide) (by exact bw1 (by decide +kernel))⟩,
        ⟨.tup [.bl true], fun ex h => ?_, (okC1 (by decide +kernel)).1, bw_tup (by decide) (by exact bw1 (by decide +kernel))⟩,
        ⟨.tup [.int 6], fun ex h => ?_, (okC1 (by decide +kernel)).1, bw_tup (by decide) (by exact bw1 (by decide +kernel))⟩,
        ⟨.tup [.str "0"], fun ex h => ?_, (okC1 (by decide +kernel)).1, bw_tup (by decide) (by exact bw1 (by decide +kernel))⟩,
        ⟨.tup [.non], fun ex h => ?_, (okC1 (by decide +kernel)).1, bw_tup (by decide) (by exact bw1 (by decide +kernel))⟩,
        ⟨.tup [.tup [.int 0]], fun ex h => ?_, (okC1 (by decide +kernel)).1, bw_tup (by decide) (by exact bw1 (by decide +kernel))⟩,
        ⟨.tup [.int 0, .int 6], fun ex h => ?_, (okC1 (by decide +kernel)).1, bw_tup (by decide) (by exact bw06)⟩,
        ⟨.tup [.int (10 ^ (59 : Int).toNat)], fun ex h => ?_, (okC1 (by decide +kernel)).1, bw_tup (by decide) (by exact bw1 (by decide +kernel))⟩,
        ⟨.dic, fun ex h => ?_, (okC1 (by decide +kernel)).1, fun _ _ _ => trivial⟩, fun x hx => absurd hx List.not_mem_nil⟩
      · simp only [TgAt, TgsAt]
        exact ⟨a0, _, rfl, fun z => h a0 z za0, fa0, True.intro⟩
      · simp only [TgAt, TgsAt]
        exact ⟨a1, _, rfl, fun z => h a1 z za1, fa1, ⟨rfl, True.intro⟩⟩
      · simp only [TgAt, TgsAt]
        exact ⟨a2, _, rfl, fa2, ⟨rfl, True.intro⟩⟩
      · simp only [TgAt, TgsAt]
        exact ⟨a3, _, rfl, fa3, ⟨rfl, True.intro⟩⟩
      · simp only [TgAt, TgsAt]
        exact ⟨a4, _, rfl, fa4, ⟨rfl, True.intro⟩⟩
      · simp only [TgAt, TgsAt]
        exact ⟨a5, _, rfl, fa5, ⟨⟨rfl, tx_c "0" (by decide +kernel)⟩, True.intro⟩⟩
      · simp only [TgAt, TgsAt]
        exact ⟨a6, _, rfl, fa6, ⟨rfl, True.intro⟩⟩
      · simp only [TgAt, TgsAt]
        exact ⟨a8, _, rfl, fa8, ⟨⟨a7, _, rfl, fa7, ⟨rfl, True.intro⟩⟩, True.intro⟩⟩
      · simp only [TgAt, TgsAt]
        exact ⟨a9, _, rfl, fa9, ⟨rfl, rfl, True.intro⟩⟩
      · simp only [TgAt, TgsAt]
        exact ⟨a10, _, rfl, fa10, ⟨rfl, True.intro⟩⟩
      · simp only [TgAt, TgsAt]
        exact ⟨a11, rfl, fa11⟩
    obtain ⟨v, hv, ev⟩ := getm (vs := [.ref a0, .ref a1, .non, .str "", .int 0, .ref a2, .ref a3, .ref a4, .ref a5, .ref a6, .ref a8, .ref a9, .ref a10, .ref a11]) d0 d1
    obtain ⟨t, h1, h2, h3⟩ := all v hv
    exact ⟨l, _, i, v, rfl, rfl, SqL.of (k6.at e5 (nin1 nlp)), ev, kk t v H6 h1 h2 h3 ((k05.more fun b z => absurd z nin0).trans k6) hp6⟩
theorem ok_odK {f fD fR : Addr} {fd fdD fdR : FuncData} (F : Fun K "_law_odd_kind" "_law_odd_kind" sOdK f fd) (FD : FnOk P w K mg base CX0 1 fD fdD ["_law_pot_here", "_law_many"] spDigit) (mD : mg "_law_digit" = some (.ref fD)) (kD : PySem.W.keepIn K (.ref fD) = true) (bD : Binds K fdD ["_law_pot_here", "_law_many"] [])
    (FR : FnOk P w K mg base CX0 3 fR fdR ["_law_pot_here", "_law_taken"] (spFresh K)) (mF : mg "_law_fresh" = some (.ref fR)) (kF : PySem.W.keepIn K (.ref fR) = true) (bF : Binds K fdR ["_law_pot_here", "_law_taken"] []) (mL : mg "len" = none) :
    FnOk P w K mg base CX0 4 f fd ["_law_pot_here", "_law_pairs_here"] spOdK := by
  refine F.ok scOdK (fun vs H Q E h => ?_) (fun cdv A outer s H vs Q E hr h => ?_)
  · obtain ⟨p, l, n, ps, rfl, _⟩ := h
    rfl
  · obtain ⟨p, l0, n, ps, rfl, hp, hn, hP, hw, hlen, nlp0, kk⟩ := h
    have hr1 : Room 1 _ := hr.mono (by decide)
    refine ⟨_, pss_cons (ps_set (i := 2) scOdK.nd rfl (Or.inl rfl) (pe_call FR hr rfl mF kF bF .nil pass0 (pa_cons (pv 0) (pa_cons (pe_op op_cat (pe_lst (pa_cons pe_str (pa_cons pe_str pa_nil))) (pe_lc (own := [("_law_name_here", 4), ("_law_above", 5)]) (g := gTup K 2 (gCons (gName 4) (gCons (gName 5) gNil))) (tt := tYes) rfl scOdK.nd (pi_list (pv 1))
          (blkOk_by (N := nOdK) (sc := defScope sOdK) (by decide +kernel)) (fun _ _ _ _ _ => by exact (pg_tup rfl (pgs_cons (pg_name (i := 4) scOdK.nd rfl (Or.inl rfl)) (pgs_cons (pg_name (i := 5) scOdK.nd rfl (Or.inl rfl)) pgs_nil)))) (fun _ _ _ _ _ => pts_nil) (fun _ _ _ _ _ => pv 4))) pa_nil))))
      (pss_cons (ps_set (i := 3) scOdK.nd rfl (Or.inl rfl) (pe_lst (pa_cons pe_non (pa_cons pe_str (pa_cons (pv 2) (pa_cons pe_str (pa_cons pe_int (pa_cons pe_bl (pa_cons (pe_lst (pa_cons pe_str pa_nil)) (pa_cons (pe_tup (pa_cons pe_str pa_nil)) (pa_cons pe_dnewK (pa_cons pe_str (pa_cons pe_str (pa_cons pe_str pa_nil))))))))))))))
      (pss_one (ps_ret (pe_ix ix_list (pv 3) (pe_call FD hr1 rfl mD kD bD .nil pass0 (pa_cons (pv 0) (pa_cons (pe_callB call_len_seq (by rfl) mL PySem.boot_len (pa_cons (pv 3) pa_nil)) pa_nil))) (fun _ _ => rfl))))), ?_⟩
    obtain ⟨x0, ep0⟩ := hp.some
    refine ⟨_, rfl, (by show 2 ≤ sizeLine; decide), fun a ha => ?_⟩
    have h1 : PairsAt (upd H a (.lst [.str sF, .str sS])) l0 ps := hP.keep (ex := []) (Keep.new ha) nin0 (fun _ z => absurd z nin0)
    obtain ⟨xs, el1⟩ := h1.some
    refine ⟨_, rfl, l0, rfl, ⟨_, SqL.of el1⟩, fun D hD => ?_⟩
    refine names_run (K := K) (i := 4) (j := 5) h1 hD (by omega) (fun _ _ => rfl) (fun _ _ => rfl) fun H3 e3 k3 => ?_
    have ea : H3 a = some (.lst [.str sF, .str sS]) := k3.at upd_same nin0
    refine ⟨a, D, _, _, rfl, rfl, ea, e3, ?_, fun b hb => ?_⟩
    · show ([V.str sF, V.str sS] : List V).length + _ ≤ sizeLine
      rw [List.length_map, List.length_map]
      exact Nat.le_trans (by show 2 + ps.length ≤ 1000; omega) (by decide)
    have k4 : Keep [] H (upd H3 b (.lst ([V.str sF, V.str sS] ++ (ps.map Prod.fst).map V.str))) := ((Keep.new ha).trans k3).newTo hb
    have eb : (upd H3 b (.lst ([V.str sF, V.str sS] ++ (ps.map Prod.fst).map V.str))) b = some (.lst ((allK' ps).map V.str)) := by rw [upd_same]; rfl
    have nbp : b ≠ p := fun z => by rw [z] at hb; rw [((Keep.new ha).trans k3).at ep0 nin0] at hb; cases hb
    generalize (upd H3 b (.lst ([V.str sF, V.str sS] ++ (ps.map Prod.fst).map V.str))) = H4 at k4 eb ⊢
    refine ⟨p, b, n, allK' ps, rfl, hp.keep k4 nin0, by omega, eb, nbp, by show (sF :: sS :: ps.map Prod.fst).length ≤ 100; rw [List.length_cons, List.length_cons, List.length_map]; omega, fun z Hz hz hz2 kz hpz => ?_⟩
    have k0z : Keep [p] H Hz := (k4.more fun b z => absurd z nin0).trans kz
    have was : ∀ b, H b ≠ none → Hz b ≠ none := fun b hb he => by
      cases q : H b with
      | none => exact hb q
      | some o =>
        by_cases e : b = p
        · obtain ⟨x, y⟩ := hpz.some
          rw [e, y] at he; cases he
        · rw [k0z.at q (nin1 e)] at he; cases he
    replace kk : ∀ (t : Tg) (v : V) (H' : Hp), New15 Hz H' t v → Shw 402 t → Lk t → Keep [p] Hz H' → PotAt H' p (n + 10) → Q v H' := fun t v H' a b c d e => kk t v H' (fun ex h => a ex fun x hx => was x (h x hx)) b c (k0z.trans d) e
    refine ⟨_, rfl, (by show 1 ≤ sizeLine; decide), fun a0 ha0 => ?_⟩
    have ka0 : Keep [] Hz (upd Hz a0 (.lst [.str "fault"])) := Keep.new ha0
    have ea0 : (upd Hz a0 (.lst [.str "fault"])) a0 = some (.lst [.str "fault"]) := upd_same
    have za0 : Hz a0 = none := ha0
    generalize (upd Hz a0 (.lst [.str "fault"])) = B1 at ka0 ea0 ⊢
    have kkB1 : Keep [] Hz B1 := ka0
    refine ⟨(by show 1 ≤ sizeLine; decide), fun a1 ha1 => ?_⟩
    have ka1 : Keep [] B1 (upd B1 a1 (.tup [.str "fault"])) := Keep.new ha1
    have ea1 : (upd B1 a1 (.tup [.str "fault"])) a1 = some (.tup [.str "fault"]) := upd_same
    have za1 : Hz a1 = none := Keep.free kkB1 ha1 nin0
    generalize (upd B1 a1 (.tup [.str "fault"])) = B2 at ka1 ea1 ⊢
    have kkB2 : Keep [] Hz B2 := kkB1.trans ka1
    intro a2 ha2
    have ka2 : Keep [] B2 (upd B2 a2 (.dK [])) := Keep.new ha2
    have ea2 : (upd B2 a2 (.dK [])) a2 = some (.dK []) := upd_same
    have za2 : Hz a2 = none := Keep.free kkB2 ha2 nin0
    generalize (upd B2 a2 (.dK [])) = B3 at ka2 ea2 ⊢
    have kkB3 : Keep [] Hz B3 := kkB2.trans ka2
    refine ⟨(by show 12 ≤ sizeLine; decide), fun l hl => ?_⟩
    have k5 : Keep [] B3 (upd B3 l (.lst [.non, .str "sheaf", .str z, .str "", .int 7, .bl true, .ref a0, .ref a1, .ref a2, .str "Fault", .str "fault ", .str "sheaf"])) := Keep.new hl
    have e5 : (upd B3 l (.lst [.non, .str "sheaf", .str z, .str "", .int 7, .bl true, .ref a0, .ref a1, .ref a2, .str "Fault", .str "fault ", .str "sheaf"])) l = some (.lst [.non, .str "sheaf", .str z, .str "", .int 7, .bl true, .ref a0, .ref a1, .ref a2, .str "Fault", .str "fault ", .str "sheaf"]) := upd_same
    generalize (upd B3 l (.lst [.non, .str "sheaf", .str z, .str "", .int 7, .bl true, .ref a0, .ref a1, .ref a2, .str "Fault", .str "fault ", .str "sheaf"])) = H5 at k5 e5 ⊢
    have k05 : Keep [] Hz H5 := kkB3.trans k5
    obtain ⟨xs, ep⟩ := hpz.some
    have na0 : a0 ≠ p := fun z => by rw [z, ep] at za0; cases za0
    have na1 : a1 ≠ p := fun z => by rw [z, ep] at za1; cases za1
    have na2 : a2 ≠ p := fun z => by rw [z, ep] at za2; cases za2
    have nlp : l ≠ p := fun z => by rw [z, kkB3.at ep nin0] at hl; cases hl
    refine ⟨_, rfl, _, rfl, _, rfl, l, _, rfl, .inl (SqL.of e5), p, n + 9, 12, rfl, hpz.keep k05 nin0, by omega, by decide, by decide, fun i H6 d0 d1 hk6 hp6 => ?_⟩
    have k6 : Keep [p] H5 H6 := keep_of_dig hk6
    have fa0 := k6.at (k5.at (ka2.at (ka1.at ea0 nin0) nin0) nin0) (nin1 na0)
    have fa1 := k6.at (k5.at (ka2.at ea1 nin0) nin0) (nin1 na1)
    have fa2 := k6.at (k5.at ea2 nin0) (nin1 na2)
    have all : ∀ v ∈ ([.non, .str "sheaf", .str z, .str "", .int 7, .bl true, .ref a0, .ref a1, .ref a2, .str "Fault", .str "fault ", .str "sheaf"] : List V), ∃ t, New15 Hz H6 t v ∧ Shw 402 t ∧ Lk t := by
      simp only [List.forall_mem_cons]
      refine ⟨⟨.non, fun ex h => tgN, okC1 (by decide +kernel)⟩,
        ⟨.str "sheaf", new_str (tx_c _ (by decide +kernel)), okC1 (by decide +kernel)⟩,
        ⟨.str z, new_str (nm_tx15 hz), shw_str (nm_tx15 hz), .inr ⟨rfl, Nat.zero_le _⟩⟩,
        ⟨.str "", new_str (tx_c _ (by decide +kernel)), okC1 (by decide +kernel)⟩,
        ⟨.int 7, fun ex h => tgI _, okC1 (by decide +kernel)⟩,
        ⟨.bl true, fun ex h => tgB _, okC1 (by decide +kernel)⟩,
        ⟨.lst [.str "fault"], fun ex h => ?_, okC1 (by decide +kernel)⟩,
        ⟨.tup [.str "fault"], fun ex h => ?_, okC1 (by decide +kernel)⟩,
        ⟨.dic, fun ex h => ?_, okC1 (by decide +kernel)⟩,
        ⟨.str "Fault", new_str (tx_c _ (by decide +kernel)), okC1 (by decide +kernel)⟩,
        ⟨.str "fault ", new_str (tx_c _ (by decide +kernel)), okC1 (by decide +kernel)⟩,
        ⟨.str "sheaf", new_str (tx_c _ (by decide +kernel)), okC1 (by decide +kernel)⟩, fun x hx => absurd hx List.not_mem_nil⟩
      · simp only [TgAt, TgsAt]
        exact ⟨a0, _, rfl, fun z => h a0 z za0, fa0, ⟨⟨rfl, tx_c "fault" (by decide +kernel)⟩, True.intro⟩⟩
      · simp only [TgAt, TgsAt]
        exact ⟨a1, _, rfl, fa1, ⟨⟨rfl, tx_c "fault" (by decide +kernel)⟩, True.intro⟩⟩
      · simp only [TgAt, TgsAt]
        exact ⟨a2, rfl, fa2⟩
    obtain ⟨v, hv, ev⟩ := getm (vs := [.non, .str "sheaf", .str z, .str "", .int 7, .bl true, .ref a0, .ref a1, .ref a2, .str "Fault", .str "fault ", .str "sheaf"]) d0 d1
    obtain ⟨t, h1, h2, h3⟩ := all v hv
    exact ⟨l, _, i, v, rfl, rfl, SqL.of (k6.at e5 (nin1 nlp)), ev, kk t v H6 h1 h2 h3 ((k05.more fun b z => absurd z nin0).trans k6) (hp6.le (by omega))⟩
end
end Fs
/-! The law: members, good or bad. -/
namespace Fs
open PySem L2 TL
abbrev sMm : Stmt := top 36 --def _law_members
abbrev nMm : List Str := ["_law_pot_here", "_law_many", "_law_is_bad", "_law_members_here", "_law_j"]
theorem scMm : FnScope nMm ["_law_pot_here", "_law_many", "_law_is_bad"] (defScope sMm) := ⟨rfl, rfl, rfl, by decide +kernel, rfl, by decide +kernel, by decide +kernel⟩
/-- a list of things -/
def MmOk (l : List Tg) : Prop := l.length ≤ 4 ∧ ∀ t ∈ l, Shw 402 t ∧ (tgD t).depth ≤ 2
def spMm : Sp := fun vs H Q _ => ∃ (p : Addr) (n many : Nat) (bad : Bool), vs = [.ref p, .int (many : Int), .bl bad] ∧ PotAt H p n ∧ n < 2 ^ 36 ∧ 0 < many ∧ many ≤ 40 ∧
  ∀ (l : List Tg) (v : V) (H' : Hp), New15 H H' (.lst l) v → MmOk l → Keep [p] H H' → PotAt H' p (n + 8) → Q v H'
mutual
theorem TgAt.sub {p q : List Addr} {H : Hp} (s : ∀ b ∈ q, b ∈ p) : ∀ {t : Tg} {v : V}, TgAt p H t v → TgAt q H t v
  | .non, v, h => by simp only [TgAt] at h ⊢; exact h
  | .bl b, v, h => by simp only [TgAt] at h ⊢; exact h
  | .int i, v, h => by simp only [TgAt] at h ⊢; exact h
  | .str z, v, h => by simp only [TgAt] at h ⊢; exact h
  | .lst l, v, h => by
    simp only [TgAt] at h ⊢
    obtain ⟨a, ys, e, n, g, t⟩ := h
    exact ⟨a, ys, e, fun z => n (s a z), g, TgsAt.sub s t⟩
  | .tup l, v, h => by
    simp only [TgAt] at h ⊢
    obtain ⟨a, ys, e, g, t⟩ := h
    exact ⟨a, ys, e, g, TgsAt.sub s t⟩
  | .dic, v, h => by
    simp only [TgAt] at h ⊢
    exact h
theorem TgsAt.sub {p q : List Addr} {H : Hp} (s : ∀ b ∈ q, b ∈ p) : ∀ {l : List Tg} {ys : List V}, TgsAt p H l ys → TgsAt q H l ys
  | [], [], _ => by simp only [TgsAt]
  | x :: l, y :: ys, h => by
    simp only [TgsAt] at h ⊢
    exact ⟨TgAt.sub s h.1, TgsAt.sub s h.2⟩
  | [], _ :: _, h => by simp only [TgsAt] at h
  | _ :: _, [], h => by simp only [TgsAt] at h
end
theorem tgs_app {p : List Addr} {H : Hp} : ∀ {a b : List Tg} {xs ys : List V}, TgsAt p H a xs → TgsAt p H b ys → TgsAt p H (a ++ b) (xs ++ ys)
  | [], b, [], ys, _, h => h
  | x :: a, b, y :: xs, ys, h, h' => by
    simp only [TgsAt] at h
    rw [List.cons_append, List.cons_append]
    simp only [TgsAt]
    exact ⟨h.1, tgs_app h.2 h'⟩
  | [], _, _ :: _, _, h, _ => by simp only [TgsAt] at h
  | _ :: _, _, [], _, h, _ => by simp only [TgsAt] at h
theorem tgs_ints {p : List Addr} {H : Hp} : ∀ ks : List Nat, TgsAt p H (ks.map fun k : Nat => Tg.int (k : Int)) (ks.map fun k : Nat => V.int (k : Int))
  | [] => by simp only [List.map_nil, TgsAt]
  | k :: r => by
    simp only [List.map_cons, TgsAt]
    exact ⟨tgI _, tgs_ints r⟩
theorem int_ok {k : Nat} (h : k ≤ 60) : Shw 402 (.int (k : Int)) ∧ (tgD (.int (k : Int))).depth ≤ 2 := ⟨shw_int (small_ints k h).1, Nat.zero_le _⟩
section
variable {P : Program} {w : World} {K : PySem.W.Frag} {mg : Str → Option Value} {base : Heap}
theorem ok_mm {f fD fO : Addr} {fd fdD fdO : FuncData} (F : Fun K "_law_members" "_law_members" sMm f fd) (FD : FnOk P w K mg base CX0 1 fD fdD ["_law_pot_here", "_law_many"] spDigit) (mD : mg "_law_digit" = some (.ref fD)) (kD : PySem.W.keepIn K (.ref fD) = true) (bD : Binds K fdD ["_law_pot_here", "_law_many"] [])
    (FO : FnOk P w K mg base CX0 2 fO fdO ["_law_pot_here", "_law_many"] spOdN) (mO : mg "_law_odd_number" = some (.ref fO)) (kO : PySem.W.keepIn K (.ref fO) = true) (bO : Binds K fdO ["_law_pot_here", "_law_many"] []) (mL : mg "len" = none) (mR : mg "range" = none) :
    FnOk P w K mg base CX0 3 f fd ["_law_pot_here", "_law_many", "_law_is_bad"] spMm := by
  refine F.ok scMm (fun vs H Q E h => ?_) (fun cdv A outer s H vs Q E hr h => ?_)
  · obtain ⟨p, n, many, bad, rfl, _⟩ := h
    rfl
  · obtain ⟨p, n, many, bad, rfl, hp, hn, hm0, hm, kk⟩ := h
    have hr1 : Room 1 _ := hr.mono (by decide)
    refine ⟨_, pss_cons (ps_setLc (i := 3) (own := [("_law_j", 4)]) (g := gName 4) (tt := tYes) (te := tCall spDigit [] E0 (tCons (tVar 0) (tCons (tVar 1) tNil))) rfl scMm.nd rfl rfl (sw_true rfl rfl rfl (by decide +kernel)) (pi_range1 rfl mR (pa_cons (pe_op op_add pe_int (pe_call FD hr1 rfl mD kD bD .nil pass0 (pa_cons (pv 0) (pa_cons pe_int pa_nil)))) pa_nil))
        (blkOk_by (N := nMm) (sc := defScope sMm) (by decide +kernel)) (fun _ _ _ _ _ => pg_name (i := 4) scMm.nd rfl (Or.inl rfl)) (fun _ _ _ _ _ => pts_nil)
        (fun _ _ _ _ _ => by exact (pe_call FD hr1 rfl mD kD bD .nil pass0 (pa_cons (pv 0) (pa_cons (pv 1) pa_nil)))))
      (pss_cons (ps_if (PW.pt (pw_and (pt_val (pv 2)) (pw_and1 (pt_cmpR op_eq (pe_call FD hr1 rfl mD kD bD .nil pass0 (pa_cons (pv 0) (pa_cons pe_int pa_nil))) pe_int (nomark _))))) (pss_one (ps_ret (pe_lst pa_nil))) pss_nil)
      (pss_cons (ps_if (pt_val (pv 2)) (pss_one (ps_expr (pe_bm PySem.F.plainAttrs_list PySem.F.slot_list_insert PySem.F.type_list_insert mt_insert (pv 3) (pa_cons (pe_call FD hr1 rfl mD kD bD .nil pass0 (pa_cons (pv 0) (pa_cons (pe_op op_add (pe_callB call_len_seq (by rfl) mL PySem.boot_len (pa_cons (pv 3) pa_nil)) pe_int) pa_nil))) (pa_cons (pe_call FO hr rfl mO kO bO .nil pass0 (pa_cons (pv 0) (pa_cons (pv 1) pa_nil))) pa_nil))))) pss_nil)
      (pss_one (ps_ret (pv 3))))), ?_⟩
    refine ⟨_, rfl, p, n, 3, rfl, hp, by omega, by decide, by decide, fun d H1 d0 d1 hk1 hp1 => ?_⟩
    have k1 := keep_of_dig hk1
    refine ⟨1, d, rfl, rfl, _, rfl, by omega, by omega, fun D hD => ?_⟩
    obtain ⟨m, hm3, em⟩ : ∃ m : Nat, m ≤ 3 ∧ 1 + d = (m : Int) := ⟨(1 + d).toNat, by omega, by omega⟩
    rw [em, Int.toNat_natCast]
    obtain ⟨x1, ep1⟩ := hp1.some
    have nDp : D ≠ p := fun z => by rw [z, ep1] at hD; cases hD
    have hDH : H D = none := by
      cases q : H D with
      | none => rfl
      | some o => rw [k1.at q (nin1 nDp)] at hD; cases hD
    refine lc_range (lo := 0) (n := m) (fun i G => ∃ ks : List Nat, ks.length = i ∧ (∀ k ∈ ks, k < many) ∧ G D = some (.lst (ks.map fun k : Nat => V.int (k : Int))) ∧ PotAt G p (n + 1 + i) ∧ Keep [p] H G) ⟨[], rfl, (fun k h => absurd h List.not_mem_nil), upd_same, hp1.keep (ex := []) (Keep.new hD) nin0, k1.trans ((Keep.new hD).more (fun b z => absurd z nin0))⟩ (fun i G hi hI => ?_) (fun G hI => ?_)
    · obtain ⟨ks, hl, hlt, eD, pot, kG⟩ := hI
      refine ⟨rfl, tyes ?_⟩
      refine ⟨_, rfl, _, rfl, p, n + 1 + i, (many : Int), rfl, pot, by omega, by omega, by omega, fun y G2 y0 y1 hk2 pot2 => ?_⟩
      have k2 := keep_of_dig hk2
      obtain ⟨j, rfl⟩ : ∃ j : Nat, y = (j : Int) := ⟨y.toNat, by omega⟩
      refine ⟨_, k2.at eD (nin1 nDp), ?_, ks ++ [j], ?_, ?_, ?_, ?_, ?_⟩
      · rw [List.length_map, hl]
        exact Nat.lt_of_le_of_lt (by omega : i ≤ 1000) (by decide)
      · rw [List.length_append, hl]; rfl
      · intro k hk
        rcases List.mem_append.mp hk with q | q
        · exact hlt k q
        · rw [List.mem_singleton.mp q]; omega
      · rw [upd_same, List.map_append]; rfl
      · exact pot2.keep (ex := [D]) (Keep.own in1) (nin1 nDp.symm)
      · exact (kG.trans k2).freshTo hDH
    · obtain ⟨ks, hl, hlt, eD, pot, kG⟩ := hI
      have lens : (ks.map fun k : Nat => Tg.int (k : Int)).length = m := by rw [List.length_map, hl]
      have okI : ∀ t ∈ (ks.map fun k : Nat => Tg.int (k : Int)), Shw 402 t ∧ (tgD t).depth ≤ 2 := fun t ht => by
        obtain ⟨k, hk, rfl⟩ := List.mem_map.mp ht
        exact int_ok (by have := hlt k hk; omega)
      refine ⟨_, rfl, bad, rfl, ?_⟩
      cases bad with
      | false =>
        refine iteF ⟨_, rfl, false, rfl, iteF ?_⟩
        refine ⟨_, rfl, kk (ks.map fun k : Nat => Tg.int (k : Int)) (.ref D) G (fun ex hex => ?_) ⟨by rw [lens]; omega, okI⟩ kG (pot.le (by omega))⟩
        simp only [TgAt]
        exact ⟨D, _, rfl, fun z => hex D z hDH, eD, tgs_ints ks⟩
      | true =>
        refine iteT ⟨_, rfl, p, n + 1 + m, 3, rfl, pot, by omega, by decide, by decide, fun y G2 y0 y1 hk2 pot2 => ?_⟩
        have k2 := keep_of_dig hk2
        have kG2 := kG.trans k2
        have eD2 := k2.at eD (nin1 nDp)
        refine ⟨rfl, _, rfl, ?_⟩
        by_cases hy : V.int y = V.int 0
        · rw [decide_eq_true hy]
          refine iteT ⟨(by show 0 ≤ sizeLine; decide), fun b hb => ?_⟩
          have hbH : H b = none := by
            cases q : H b with
            | none => rfl
            | some o =>
              obtain ⟨x2, ep2⟩ := pot2.some
              have nb : b ≠ p := fun z => by rw [z, ep2] at hb; cases hb
              rw [kG2.at q (nin1 nb)] at hb; cases hb
          refine kk [] (.ref b) _ (fun ex hex => ?_) ⟨Nat.zero_le _, fun t h => absurd h List.not_mem_nil⟩ (kG2.trans ((Keep.new hb).more fun b z => absurd z nin0)) ((pot2.keep (ex := []) (Keep.new hb) nin0).le (by omega))
          simp only [TgAt, TgsAt]
          exact ⟨b, [], rfl, fun z => hex b z hbH, upd_same, True.intro⟩
        · rw [decide_eq_false hy]
          refine iteF ⟨_, rfl, true, rfl, iteT ?_⟩
          refine ⟨_, rfl, .inl ⟨rfl, _, SqL.of eD2⟩, _, rfl, _, rfl, D, _, rfl, .inl (SqL.of eD2), _, _, rfl, rfl, p, n + 1 + m + 1, _, rfl, pot2, by omega, by rw [List.length_map]; omega, by rw [List.length_map]; omega, fun i G3 i0 i1 hk3 pot3 => ?_⟩
          rw [List.length_map, hl] at i1
          have k3 := keep_of_dig hk3
          refine ⟨_, rfl, _, rfl, p, n + 1 + m + 2, many, rfl, pot3, by omega, by omega, fun t v G4 hnew hs hd hlk k4 pot4 => ?_⟩
          have kG4 := (kG2.trans k3).trans k4
          obtain ⟨x3, ep3⟩ := pot3.some
          have eD4 := k4.at (k3.at eD2 (nin1 nDp)) (nin1 nDp)
          refine ⟨D, _, i, v, rfl, rfl, eD4, ?_, i0, by omega, ?_⟩
          · rw [List.length_map, hl]
            exact Nat.lt_of_le_of_lt (by omega : m ≤ 1000) (by decide)
          obtain ⟨j, rfl⟩ : ∃ j : Nat, i = (j : Int) := ⟨i.toNat, by omega⟩
          rw [Int.toNat_natCast]
          refine ⟨_, rfl, kk (((ks.take j).map fun k : Nat => Tg.int (k : Int)) ++ [t] ++ ((ks.drop j).map fun k : Nat => Tg.int (k : Int))) (.ref D) _ (fun ex hex => ?_) ⟨?_, ?_⟩ (kG4.freshTo hDH) ((pot4.keep (ex := [D]) (Keep.own in1) (nin1 nDp.symm)).le (by omega))⟩
          · have nDex : D ∉ ex := fun z => hex D z hDH
            have tt : TgAt (D :: ex) G4 t v := hnew (D :: ex) fun b hb hbn => by
              rcases List.mem_cons.mp hb with z | z
              · rw [z, k3.at eD2 (nin1 nDp)] at hbn; cases hbn
              · cases q : H b with
                | none => exact hex b z q
                | some o =>
                  by_cases e : b = p
                  · rw [e, ep3] at hbn; cases hbn
                  · rw [(kG2.trans k3).at q (nin1 e)] at hbn; cases hbn
            have tt2 : TgAt ex (upd G4 D (.lst (((ks.map fun k : Nat => V.int (k : Int)).take j) ++ [v] ++ ((ks.map fun k : Nat => V.int (k : Int)).drop j)))) t v := (tt.keep (ex := [D]) (Keep.own in1) (fun b hb => by rw [List.mem_singleton.mp hb]; exact List.mem_cons_self) (fun b hb => by rw [List.mem_singleton.mp hb]; exact ⟨_, eD4⟩)).sub fun b hb => List.mem_cons_of_mem _ hb
            simp only [TgAt]
            refine ⟨D, _, rfl, nDex, upd_same, ?_⟩
            rw [← List.map_take, ← List.map_drop]
            rw [← List.map_take, ← List.map_drop] at tt2
            exact tgs_app (tgs_app (tgs_ints _) (by simp only [TgsAt]; exact ⟨tt2, True.intro⟩)) (tgs_ints _)
          · rw [List.length_append, List.length_append, List.length_map, List.length_map, List.length_take, List.length_drop, List.length_singleton]
            omega
          · intro t' ht'
            rcases List.mem_append.mp ht' with q | q
            · rcases List.mem_append.mp q with q | q
              · obtain ⟨k, hk, rfl⟩ := List.mem_map.mp q
                exact int_ok (by have := hlt k (List.mem_of_mem_take hk); omega)
              · rw [List.mem_singleton.mp q]
                exact ⟨hs, hd⟩
            · obtain ⟨k, hk, rfl⟩ := List.mem_map.mp q
              exact int_ok (by have := hlt k (List.mem_of_mem_drop hk); omega)
end
end Fs
/-! The law: the arguments of a call. -/
namespace Fs
open PySem L2 TL
theorem New15.on {H H1 H2 : Hp} {t : Tg} {v : V} {p : Addr} (h : New15 H H1 t v) (k : Keep [p] H1 H2) (h0 : H p ≠ none) {xs : List V} (h1 : H1 p = some (.lst xs)) : New15 H H2 t v := fun ex hex =>
  ((h (p :: ex) fun b hb => by
    rcases List.mem_cons.mp hb with z | z
    · rw [z]; exact h0
    · exact hex b z).keep k (fun b hb => by rw [List.mem_singleton.mp hb]; exact List.mem_cons_self) (fun b hb => by rw [List.mem_singleton.mp hb]; exact ⟨_, h1⟩)).sub fun b hb => List.mem_cons_of_mem _ hb
theorem New15.on0 {H H1 H2 : Hp} {t : Tg} {v : V} (h : New15 H H1 t v) (k : Keep [] H1 H2) : New15 H H2 t v := fun ex hex => (h ex hex).keep0 k
theorem New15.back {H H1 H2 : Hp} {t : Tg} {v : V} {p : Addr} (h : New15 H1 H2 t v) (k : Keep [p] H H1) (h1 : H1 p ≠ none) : New15 H H2 t v := fun ex hex => h ex fun b hb => by
  cases q : H b with
  | none => exact absurd q (hex b hb)
  | some o =>
    by_cases e : b = p
    · rw [e]; exact h1
    · rw [k.at q (nin1 e)]; exact fun z => nomatch z
theorem Keep.was1 {p a : Addr} {H G : Hp} (k : Keep [p] H G) (h : G a = none) (hp : G p ≠ none) : H a = none := by
  cases q : H a with
  | none => rfl
  | some o =>
    have ne : a ≠ p := fun z => hp (by rw [← z]; exact h)
    rw [k.at q (nin1 ne)] at h; cases h
abbrev sArg : Stmt := top 38 --def _law_arguments
abbrev nArg : List Str := ["_law_pot_here", "_law_pairs_here", "_law_many", "_law_door", "_law_j", "_law_bad", "_law_text_here", "_law_k"]
abbrev aArg : List Str := ["_law_pot_here", "_law_pairs_here", "_law_many", "_law_door"]
theorem scArg : FnScope nArg aArg (defScope sArg) := ⟨rfl, rfl, rfl, by decide +kernel, rfl, by decide +kernel, by decide +kernel⟩
def ArgOk (d : Nat) (a b : Tg) : Prop := Shw 402 a ∧ Shw 3000 b ∧ Lk a ∧ (d = 1 ∨ d = 2 → ∃ l, b = .lst l ∧ l.length ≤ 4) ∧ (d = 14 → ∀ es : List Ent, (∀ e ∈ es, e.mem.length ≤ 6) → ∀ k, badW es k b)
def spArg : Sp := fun vs H Q _ => ∃ (p l : Addr) (n many d : Nat) (ps : List (Str × Str)), vs = [.ref p, .ref l, .int (many : Int), .int (d : Int)] ∧ PotAt H p n ∧ n < 2 ^ 28 ∧ 0 < many ∧ many ≤ 40 ∧ PairsAt H l ps ∧ Wf ps ∧ ps.length ≤ 30 ∧ l ≠ p ∧
  ∀ (L : Addr) (a b : Tg) (va vb : V) (H' : Hp), H' L = some (.lst [va, vb]) → H L = none → New15 H H' a va → New15 H H' b vb → ArgOk d a b → Keep [p] H H' → PotAt H' p (n + 150) → Q (.ref L) H'
structure GTx (K : PySem.W.Frag) (mg : Str → Option Value) (fDg fTx fKi fOT fON fOK fOW fMm : Addr) : Prop where
  gDg : mg "_law_digit" = some (.ref fDg)
  kDg : PySem.W.keepIn K (.ref fDg) = true
  gTx : mg "_law_text" = some (.ref fTx)
  kTx : PySem.W.keepIn K (.ref fTx) = true
  gKi : mg "_law_kind" = some (.ref fKi)
  kKi : PySem.W.keepIn K (.ref fKi) = true
  gOT : mg "_law_odd_text" = some (.ref fOT)
  kOT : PySem.W.keepIn K (.ref fOT) = true
  gON : mg "_law_odd_number" = some (.ref fON)
  kON : PySem.W.keepIn K (.ref fON) = true
  gOK : mg "_law_odd_kind" = some (.ref fOK)
  kOK : PySem.W.keepIn K (.ref fOK) = true
  gOW : mg "_law_odd_way" = some (.ref fOW)
  kOW : PySem.W.keepIn K (.ref fOW) = true
  gMm : mg "_law_members" = some (.ref fMm)
  kMm : PySem.W.keepIn K (.ref fMm) = true
  int : mg "int" = none
  range : mg "range" = none
section
variable {P : Program} {w : World} {K : PySem.W.Frag} {mg : Str → Option Value} {base : Heap} {fDg fTx fKi fOT fON fOK fOW fMm : Addr}
theorem ok_arg {f : Addr} {fd dDg dTx dKi dOT dON dOK dOW dMm : FuncData} (F : Fun K "_law_arguments" "_law_arguments" sArg f fd) (T : GTx K mg fDg fTx fKi fOT fON fOK fOW fMm)
    (FD : FnOk P w K mg base CX0 1 fDg dDg ["_law_pot_here", "_law_many"] spDigit) (bD : Binds K dDg ["_law_pot_here", "_law_many"] []) (FX : FnOk P w K mg base CX0 2 fTx dTx ["_law_pot_here"] spText) (bX : Binds K dTx ["_law_pot_here"] [])
    (FK : FnOk P w K mg base CX0 2 fKi dKi ["_law_pot_here", "_law_pairs_here"] spKindL) (bK : Binds K dKi ["_law_pot_here", "_law_pairs_here"] []) (FT : FnOk P w K mg base CX0 2 fOT dOT ["_law_pot_here"] spOdT) (bT : Binds K dOT ["_law_pot_here"] [])
    (FN : FnOk P w K mg base CX0 2 fON dON ["_law_pot_here", "_law_many"] spOdN) (bN : Binds K dON ["_law_pot_here", "_law_many"] []) (FO : FnOk P w K mg base CX0 4 fOK dOK ["_law_pot_here", "_law_pairs_here"] spOdK) (bO : Binds K dOK ["_law_pot_here", "_law_pairs_here"] [])
    (FW : FnOk P w K mg base CX0 2 fOW dOW ["_law_pot_here"] spOdW) (bW : Binds K dOW ["_law_pot_here"] []) (FM : FnOk P w K mg base CX0 3 fMm dMm ["_law_pot_here", "_law_many", "_law_is_bad"] spMm) (bM : Binds K dMm ["_law_pot_here", "_law_many", "_law_is_bad"] []) :
    FnOk P w K mg base CX0 5 f fd aArg spArg := by
  refine F.ok scArg (fun vs H Q E h => ?_) (fun cdv A outer s H vs Q E hr h => ?_)
  · obtain ⟨p, l, n, many, d, ps, rfl, _⟩ := h
    rfl
  · obtain ⟨p, l, n, many, d, ps, rfl, hp, hn, hm0, hm, hP, hw, hlen, nlp, kk⟩ := h
    have hr1 : Room 1 _ := hr.mono (by decide)
    have hr2 : Room 2 _ := hr.mono (by decide)
    have hr3 : Room 3 _ := hr.mono (by decide)
    refine ⟨_, pss_cons (ps_setLc (i := 5) (own := [("_law_j", 4)]) (g := gName 4) (tt := tYes) (te := tOp rEq (tCall spDigit [] E0 (tCons (tVar 0) (tCons (tC (.int 3)) tNil))) (tC (.int 0))) rfl scArg.nd rfl rfl (sw_true rfl rfl rfl (by decide +kernel)) (pi_range1 rfl T.range (pa_cons pe_int pa_nil))
        (blkOk_by (N := nArg) (sc := defScope sArg) (by decide +kernel)) (fun _ _ _ _ _ => pg_name (i := 4) scArg.nd rfl (Or.inl rfl)) (fun _ _ _ _ _ => pts_nil)
        (fun _ _ _ _ _ => by exact (pe_cmpR op_eq (pe_call FD hr1 rfl T.gDg T.kDg bD .nil pass0 (pa_cons (pv 0) (pa_cons pe_int pa_nil))) pe_int (nomark _))))
      (pss_cons (ps_set (i := 6) scArg.nd rfl (Or.inl rfl) (pe_lst (pa_cons (pe_call FX hr2 rfl T.gTx T.kTx bX .nil pass0 (pa_cons (pv 0) pa_nil)) (pa_cons (pe_call FT hr2 rfl T.gOT T.kOT bT .nil pass0 (pa_cons (pv 0) pa_nil)) pa_nil))))
      (pss_cons (ps_set (i := 7) scArg.nd rfl (Or.inl rfl) (pe_ix ix_list (pe_lst (pa_cons (pe_call FD hr1 rfl T.gDg T.kDg bD .nil pass0 (pa_cons (pv 0) (pa_cons (pv 2) pa_nil))) (pa_cons (pe_call FN hr2 rfl T.gON T.kON bN .nil pass0 (pa_cons (pv 0) (pa_cons (pv 2) pa_nil))) pa_nil))) (pe_callTy call_int1 (by rfl) T.int (by decide +kernel) (pa_cons (pe_ix ix_list (pv 5) pe_int (fun _ _ => rfl)) pa_nil)) (fun _ _ => rfl)))
      (pss_cons (ps_if (pt_cmpR op_eq (pv 3) pe_int (nomark _)) (pss_one (ps_ret (pe_lst (pa_cons (pe_ix ix_list (pe_lst (pa_cons (pe_call FK hr2 rfl T.gKi T.kKi bK .nil pass0 (pa_cons (pv 0) (pa_cons (pv 1) pa_nil))) (pa_cons (pe_call FO hr rfl T.gOK T.kOK bO .nil pass0 (pa_cons (pv 0) (pa_cons (pv 1) pa_nil))) pa_nil))) (pe_callTy call_int1 (by rfl) T.int (by decide +kernel) (pa_cons (pe_ix ix_list (pv 5) pe_int (fun _ _ => rfl)) pa_nil)) (fun _ _ => rfl))
          (pa_cons (pe_ix ix_list (pv 6) (pe_callTy call_int1 (by rfl) T.int (by decide +kernel) (pa_cons (pe_ix ix_list (pv 5) pe_int (fun _ _ => rfl)) pa_nil)) (fun _ _ => rfl)) pa_nil))))) pss_nil)
      (pss_cons (ps_if (pt_cmpR op_eq (pv 3) pe_int (nomark _)) (pss_one (ps_ret (pe_lst (pa_cons (pe_ix ix_list (pv 6) (pe_callTy call_int1 (by rfl) T.int (by decide +kernel) (pa_cons (pe_ix ix_list (pv 5) pe_int (fun _ _ => rfl)) pa_nil)) (fun _ _ => rfl)) (pa_cons (pe_call FM hr3 rfl T.gMm T.kMm bM .nil pass0 (pa_cons (pv 0) (pa_cons (pv 2) (pa_cons (pe_ix ix_list (pv 5) pe_int (fun _ _ => rfl)) pa_nil)))) pa_nil))))) pss_nil)
      (pss_cons (ps_if (pt_cmpR op_eq (pv 3) pe_int (nomark _)) (pss_one (ps_ret (pe_lst (pa_cons (pv 7) (pa_cons (pe_call FM hr3 rfl T.gMm T.kMm bM .nil pass0 (pa_cons (pv 0) (pa_cons (pv 2) (pa_cons (pe_ix ix_list (pv 5) pe_int (fun _ _ => rfl)) pa_nil)))) pa_nil))))) pss_nil)
      (pss_cons (ps_if (pt_cmpR op_eq (pv 3) pe_int (nomark _)) (pss_one (ps_ret (pe_lst (pa_cons (pv 7) (pa_cons (pe_ix ix_list (pv 6) (pe_callTy call_int1 (by rfl) T.int (by decide +kernel) (pa_cons (pe_ix ix_list (pv 5) pe_int (fun _ _ => rfl)) pa_nil)) (fun _ _ => rfl)) pa_nil))))) pss_nil)
      (pss_cons (ps_if (pt_cmpR op_eq (pv 3) pe_int (nomark _)) (pss_one (ps_ret (pe_lst (pa_cons (pv 7) (pa_cons (pe_call FW hr2 rfl T.gOW T.kOW bW .nil pass0 (pa_cons (pv 0) pa_nil)) pa_nil))))) pss_nil)
      (pss_cons (ps_set (i := 4) scArg.nd rfl (Or.inl rfl) (pe_ix ix_list (pe_lst (pa_cons (pe_call FD hr1 rfl T.gDg T.kDg bD .nil pass0 (pa_cons (pv 0) (pa_cons (pv 2) pa_nil))) (pa_cons (pe_call FN hr2 rfl T.gON T.kON bN .nil pass0 (pa_cons (pv 0) (pa_cons (pv 2) pa_nil))) pa_nil))) (pe_callTy call_int1 (by rfl) T.int (by decide +kernel) (pa_cons (pe_ix ix_list (pv 5) pe_int (fun _ _ => rfl)) pa_nil)) (fun _ _ => rfl)))
      (pss_one (ps_ret (pe_lst (pa_cons (pv 7) (pa_cons (pv 4) pa_nil))))))))))))), ?_⟩
    obtain ⟨x0, ep0⟩ := hp.some
    have hp0 : H p ≠ none := by rw [ep0]; exact fun z => nomatch z
    -- two truths
    refine ⟨2, rfl, by decide, by decide, fun D hD => ?_⟩
    have nDp : D ≠ p := fun z => by rw [z, ep0] at hD; cases hD
    refine lc_range (lo := 0) (n := 2) (fun i G => ∃ bs : List Bool, bs.length = i ∧ G D = some (.lst (bs.map V.bl)) ∧ PotAt G p (n + i) ∧ Keep [p] H G) ⟨[], rfl, upd_same, hp.keep (ex := []) (Keep.new hD) nin0, (Keep.new hD).more (fun b z => absurd z nin0)⟩ (fun i G hi hI => ?_) (fun G hI => ?_)
    · obtain ⟨bs, hl, eD, pot, kG⟩ := hI
      refine ⟨rfl, tyes ?_⟩
      refine ⟨_, rfl, p, n + i, 3, rfl, pot, by omega, by decide, by decide, fun y G2 y0 y1 hk2 pot2 => ?_⟩
      have k2 := keep_of_dig hk2
      refine ⟨rfl, _, k2.at eD (nin1 nDp), ?_, bs ++ [decide (V.int y = V.int 0)], by rw [List.length_append, hl]; rfl, by rw [upd_same, List.map_append]; rfl, pot2.keep (ex := [D]) (Keep.own in1) (nin1 nDp.symm), (kG.trans k2).freshTo hD⟩
      rw [List.length_map, hl]
      exact Nat.lt_of_le_of_lt (by omega : i ≤ 1000) (by decide)
    · obtain ⟨bs, hl, eD, pot, kG⟩ := hI
      obtain ⟨b0, b1, rfl⟩ : ∃ b0 b1, bs = [b0, b1] := by
        cases bs with
        | nil => cases hl
        | cons b0 r =>
          cases r with
          | nil => cases hl
          | cons b1 r2 =>
            cases r2 with
            | nil => exact ⟨b0, b1, rfl⟩
            | cons _ _ => simp at hl
      -- the texts
      refine ⟨_, rfl, p, n + 2, rfl, pot, by omega, fun z G1 tz k1 pot1 => ?_⟩
      have kG1 := kG.trans k1
      obtain ⟨x1, ep1⟩ := pot1.some
      refine ⟨_, rfl, p, n + 2 + 43, rfl, pot1, by omega, fun tt vt G2 tnew tshw tlk k2 pot2 => ?_⟩
      have kG2 := kG1.trans k2
      obtain ⟨x2, ep2⟩ := pot2.some
      have tnew' : New15 H G2 tt vt := tnew.back kG1 (by rw [ep1]; exact fun z => nomatch z)
      refine ⟨(by show 2 ≤ sizeLine; decide), fun X hX => ?_⟩
      have k3 : Keep [] G2 (upd G2 X (.lst [.str z, vt])) := Keep.new hX
      have eX : (upd G2 X (.lst [.str z, vt])) X = some (.lst [.str z, vt]) := upd_same
      have hXH := kG2.was1 hX (by rw [ep2]; exact fun z => nomatch z)
      have nXp : X ≠ p := fun z => by rw [z, ep2] at hX; cases hX
      have nXD : X ≠ D := fun z => by
        have := k2.at (k1.at eD (nin1 nDp)) (nin1 nDp)
        rw [z, this] at hX; cases hX
      generalize (upd G2 X (.lst [.str z, vt])) = G3 at k3 eX ⊢
      have eD3 : G3 D = some (.lst [.bl b0, .bl b1]) := k3.at (k2.at (k1.at eD (nin1 nDp)) (nin1 nDp)) nin0
      have pot3 := pot2.keep k3 nin0
      have kG3 := kG2.trans (k3.more (ex' := [p]) fun b z => absurd z nin0)
      have tx : ∀ b : Bool, ∃ (t : Tg) (v : V), atI [V.str z, vt] (if b = true then (1 : Int) else 0) = some v ∧ New15 H G3 t v ∧ Shw 402 t ∧ Lk t := fun b => by
        cases b with
        | false => exact ⟨.str z, .str z, rfl, new_str tz, shw_str tz, .inr ⟨rfl, Nat.zero_le _⟩⟩
        | true => exact ⟨tt, vt, rfl, tnew'.on0 k3, tshw, tlk⟩
      -- a number
      refine ⟨_, rfl, _, rfl, p, (n + 2 + 43 + 1), (many : Int), rfl, pot3, by omega, by omega, by omega, fun ay a4 ay0 ay1 ahk4 apot4 => ?_⟩
      have ak4 := keep_of_dig ahk4
      have akG4 := kG3.trans ak4
      obtain ⟨ax4, aep4⟩ := apot4.some
      refine ⟨_, rfl, _, rfl, p, (n + 2 + 43 + 1) + 1, many, rfl, apot4, by omega, hm, fun ant anv a5 annew anshw and anlk ak5 apot5 => ?_⟩
      have akG5 := akG4.trans ak5
      obtain ⟨ax5, aep5⟩ := apot5.some
      refine ⟨(by show 2 ≤ sizeLine; decide), fun aY ahY => ?_⟩
      have ak6 : Keep [] a5 (upd a5 aY (.lst [.int ay, anv])) := Keep.new ahY
      have aeY : (upd a5 aY (.lst [.int ay, anv])) aY = some (.lst [.int ay, anv]) := upd_same
      generalize (upd a5 aY (.lst [.int ay, anv])) = a6 at ak6 aeY ⊢
      have akG6 := akG5.trans (ak6.more (ex' := [p]) fun b z => absurd z nin0)
      have aseg : Keep [p] G3 a6 := (ak4.trans ak5).trans (ak6.more (ex' := [p]) fun b z => absurd z nin0)
      have apot6 := apot5.keep ak6 nin0
      have aD := aseg.at eD3 (nin1 nDp)
      have anum : ∀ b : Bool, ∃ (t : Tg) (v : V), atI [V.int ay, anv] (if b = true then (1 : Int) else 0) = some v ∧ New15 H a6 t v ∧ Shw 402 t ∧ Lk t := fun b => by
        cases b with
        | false =>
          obtain ⟨j, rfl⟩ : ∃ j : Nat, ay = (j : Int) := ⟨ay.toNat, by omega⟩
          exact ⟨.int (j : Int), .int (j : Int), rfl, (fun ex _ => tgI _), (int_ok (by omega)).1, .inr ⟨rfl, Nat.zero_le _⟩⟩
        | true => exact ⟨ant, anv, rfl, (annew.back akG4 (by rw [aep4]; exact fun z => nomatch z)).on0 ak6, anshw, anlk⟩
      obtain ⟨akt, akv, aekv, aknew, akshw, aklk⟩ := anum b0
      refine ⟨_, rfl, D, _, 0, .bl b0, rfl, rfl, SqL.of aD, rfl, .inr ⟨_, rfl, aY, _, _, akv, rfl, rfl, SqL.of aeY, aekv, ?_⟩⟩
      have eXa := aseg.at eX (nin1 nXp)
      have fin : ∀ (G : Hp) (L : Addr) (a b : Tg) (va vb : V) (m : Nat), Keep [p] H G → PotAt G p m → m ≤ n + 150 → New15 H G a va → New15 H G b vb → ArgOk d a b → G L = none → Q (.ref L) (upd G L (.lst [va, vb])) := fun G L a b va vb m kG pot le an bn ok hL => by
        obtain ⟨xg, eg⟩ := pot.some
        have kL : Keep [] G (upd G L (.lst [va, vb])) := Keep.new hL
        exact kk L a b va vb _ upd_same (kG.was1 hL (by rw [eg]; exact fun z => nomatch z)) (an.on0 kL) (bn.on0 kL) ok (kG.trans (kL.more fun b z => absurd z nin0)) ((pot.keep kL nin0).le le)
      have txa : ∀ b : Bool, ∃ (t : Tg) (v : V), atI [V.str z, vt] (if b = true then (1 : Int) else 0) = some v ∧ New15 H a6 t v ∧ Shw 402 t ∧ Lk t := fun b => by
        obtain ⟨t, v, h1, h2, h3, h4⟩ := tx b
        obtain ⟨x3, ep3⟩ := pot3.some
        exact ⟨t, v, h1, h2.on aseg hp0 ep3, h3, h4⟩
      have sh3 : ∀ {t : Tg}, Shw 402 t → Shw 3000 t := fun h => h.le (by decide)
      have mm3 : ∀ {l : List Tg}, MmOk l → Shw 3000 (.lst l) := fun {l} h => by
        obtain ⟨q1, q2, q3⟩ := shw_lst (l := l) (n := 402) (d := 2) (k := 4) h.1 fun t ht => ⟨(h.2 t ht).1.1, (h.2 t ht).2, (h.2 t ht).1.2.2⟩
        exact ⟨q1, by omega, by omega⟩
      have hPa : PairsAt a6 l ps := hP.keep akG6 (nin1 nlp) (lst_ex ep0)
      obtain ⟨xa6, epa6⟩ := apot6.some
      refine ⟨_, rfl, rfl, _, rfl, ?_⟩
      by_cases h0 : d = 0
      · rw [decide_eq_true (show V.int (d : Int) = V.int 0 by rw [h0]; rfl)]
        refine iteT ?_
        refine ⟨_, rfl, _, rfl, p, l, n + 2 + 43 + 1 + 2, ps, rfl, apot6, by omega, hPa, nlp, by omega, fun z2 c7 hz2 ck7 cpot7 => ?_⟩
        have ckG7 := akG6.trans ck7
        obtain ⟨cx7, cep7⟩ := cpot7.some
        have hPc : PairsAt c7 l ps := hPa.keep ck7 (nin1 nlp) (lst_ex epa6)
        refine ⟨_, rfl, _, rfl, p, l, n + 2 + 43 + 1 + 2 + 1, ps, rfl, cpot7, by omega, hPc, hw, hlen, nlp, fun ot ov c8 onew oshw olk ck8 cpot8 => ?_⟩
        have ckG8 := ckG7.trans ck8
        refine ⟨(by show 2 ≤ sizeLine; decide), fun Z hZ => ?_⟩
        have ck9 : Keep [] c8 (upd c8 Z (.lst [.str z2, ov])) := Keep.new hZ
        have eZ : (upd c8 Z (.lst [.str z2, ov])) Z = some (.lst [.str z2, ov]) := upd_same
        generalize (upd c8 Z (.lst [.str z2, ov])) = c9 at ck9 eZ ⊢
        have cseg : Keep [p] a6 c9 := (ck7.trans ck8).trans (ck9.more (ex' := [p]) fun b z => absurd z nin0)
        have tz2 : IsTx z2 := by
          obtain ⟨q1, q2⟩ := hw.kind_ok z2 hz2
          exact ⟨by omega, q2⟩
        have kd : ∀ b : Bool, ∃ (t : Tg) (v : V), atI [V.str z2, ov] (if b = true then (1 : Int) else 0) = some v ∧ New15 H c9 t v ∧ Shw 402 t ∧ Lk t := fun b => by
          cases b with
          | false => exact ⟨.str z2, .str z2, rfl, new_str tz2, shw_str tz2, .inr ⟨rfl, Nat.zero_le _⟩⟩
          | true => exact ⟨ot, ov, rfl, (onew.back ckG7 (by rw [cep7]; exact fun z => nomatch z)).on0 ck9, oshw, olk⟩
        obtain ⟨dt, dv, edv, dnew, dshw, dlk⟩ := kd b0
        obtain ⟨xt, xv, exv, xnew, xshw, xlk⟩ := txa b1
        refine ⟨_, rfl, D, _, 0, .bl b0, rfl, rfl, SqL.of (cseg.at aD (nin1 nDp)), rfl, .inr ⟨_, rfl, Z, _, _, dv, rfl, rfl, SqL.of eZ, edv, ?_⟩⟩
        refine ⟨_, rfl, _, rfl, D, _, 1, .bl b1, rfl, rfl, SqL.of (cseg.at aD (nin1 nDp)), rfl, .inr ⟨_, rfl, X, _, _, xv, rfl, rfl, SqL.of (cseg.at eXa (nin1 nXp)), exv, ?_⟩⟩
        exact ⟨(by show 2 ≤ sizeLine; decide), fun L hL => fin c9 L dt xt dv xv _ (akG6.trans cseg) (cpot8.keep ck9 nin0) (by omega) dnew (xnew.on cseg hp0 epa6) ⟨dshw, sh3 xshw, dlk, (fun h => by omega), fun h => by omega⟩ hL⟩
      rw [decide_eq_false (show ¬ V.int (d : Int) = V.int 0 from fun z => h0 (by have := V.int.inj z; omega))]
      refine iteF ?_
      refine ⟨_, rfl, rfl, _, rfl, ?_⟩
      by_cases h1 : d = 1
      · rw [decide_eq_true (show V.int (d : Int) = V.int 1 by rw [h1]; rfl)]
        refine iteT ?_
        obtain ⟨xt, xv, exv, xnew, xshw, xlk⟩ := txa b0
        refine ⟨_, rfl, _, rfl, D, _, 0, .bl b0, rfl, rfl, SqL.of aD, rfl, .inr ⟨_, rfl, X, _, _, xv, rfl, rfl, SqL.of eXa, exv, ?_⟩⟩
        refine ⟨_, rfl, _, rfl, _, rfl, D, _, 1, .bl b1, rfl, rfl, SqL.of aD, rfl, p, n + 2 + 43 + 1 + 2, many, b1, rfl, apot6, by omega, hm0, hm, fun ml mv c7 mnew mok ck7 cpot7 => ?_⟩
        have ckG7 := akG6.trans ck7
        have mnew' : New15 H c7 (.lst ml) mv := mnew.back akG6 (by rw [epa6]; exact fun z => nomatch z)
        exact ⟨(by show 2 ≤ sizeLine; decide), fun L hL => fin c7 L xt (.lst ml) xv mv _ ckG7 cpot7 (by omega) (xnew.on ck7 hp0 epa6) mnew' ⟨xshw, mm3 mok, xlk, (fun _ => ⟨ml, rfl, mok.1⟩), fun h => by omega⟩ hL⟩
      rw [decide_eq_false (show ¬ V.int (d : Int) = V.int 1 from fun z => h1 (by have := V.int.inj z; omega))]
      refine iteF ?_
      refine ⟨_, rfl, rfl, _, rfl, ?_⟩
      by_cases h2 : d = 2
      · rw [decide_eq_true (show V.int (d : Int) = V.int 2 by rw [h2]; rfl)]
        refine iteT ?_
        refine ⟨_, rfl, ?_⟩
        refine ⟨_, rfl, _, rfl, _, rfl, D, _, 1, .bl b1, rfl, rfl, SqL.of aD, rfl, p, n + 2 + 43 + 1 + 2, many, b1, rfl, apot6, by omega, hm0, hm, fun ml mv c7 mnew mok ck7 cpot7 => ?_⟩
        have ckG7 := akG6.trans ck7
        have mnew' : New15 H c7 (.lst ml) mv := mnew.back akG6 (by rw [epa6]; exact fun z => nomatch z)
        exact ⟨(by show 2 ≤ sizeLine; decide), fun L hL => fin c7 L akt (.lst ml) akv mv _ ckG7 cpot7 (by omega) (aknew.on ck7 hp0 epa6) mnew' ⟨akshw, mm3 mok, aklk, (fun _ => ⟨ml, rfl, mok.1⟩), fun h => by omega⟩ hL⟩
      rw [decide_eq_false (show ¬ V.int (d : Int) = V.int 2 from fun z => h2 (by have := V.int.inj z; omega))]
      refine iteF ?_
      refine ⟨_, rfl, rfl, _, rfl, ?_⟩
      by_cases h3 : d = 3
      · rw [decide_eq_true (show V.int (d : Int) = V.int 3 by rw [h3]; rfl)]
        refine iteT ?_
        obtain ⟨xt, xv, exv, xnew, xshw, xlk⟩ := txa b1
        refine ⟨_, rfl, _, rfl, _, rfl, D, _, 1, .bl b1, rfl, rfl, SqL.of aD, rfl, .inr ⟨_, rfl, X, _, _, xv, rfl, rfl, SqL.of eXa, exv, ?_⟩⟩
        exact ⟨(by show 2 ≤ sizeLine; decide), fun L hL => fin a6 L akt xt akv xv _ akG6 apot6 (by omega) aknew xnew ⟨akshw, sh3 xshw, aklk, (fun h => by omega), fun h => by omega⟩ hL⟩
      rw [decide_eq_false (show ¬ V.int (d : Int) = V.int 3 from fun z => h3 (by have := V.int.inj z; omega))]
      refine iteF ?_
      refine ⟨_, rfl, rfl, _, rfl, ?_⟩
      by_cases h14 : d = 14
      · rw [decide_eq_true (show V.int (d : Int) = V.int 14 by rw [h14]; rfl)]
        refine iteT ?_
        refine ⟨_, rfl, _, rfl, p, n + 2 + 43 + 1 + 2, rfl, apot6, by omega, fun wt wv c7 wnew wshw wbad ck7 cpot7 => ?_⟩
        exact ⟨(by show 2 ≤ sizeLine; decide), fun L hL => fin c7 L akt wt akv wv _ (akG6.trans ck7) cpot7 (by omega) (aknew.on ck7 hp0 epa6) (wnew.back akG6 (by rw [epa6]; exact fun z => nomatch z)) ⟨akshw, sh3 wshw, aklk, (fun h => by omega), fun _ => wbad⟩ hL⟩
      rw [decide_eq_false (show ¬ V.int (d : Int) = V.int 14 from fun z => h14 (by have := V.int.inj z; omega))]
      refine iteF ?_
      refine ⟨_, rfl, _, rfl, p, (n + 2 + 43 + 1 + 2), (many : Int), rfl, apot6, by omega, by omega, by omega, fun gy g4 gy0 gy1 ghk4 gpot4 => ?_⟩
      have gk4 := keep_of_dig ghk4
      have gkG4 := akG6.trans gk4
      obtain ⟨gx4, gep4⟩ := gpot4.some
      refine ⟨_, rfl, _, rfl, p, (n + 2 + 43 + 1 + 2) + 1, many, rfl, gpot4, by omega, hm, fun gnt gnv g5 gnnew gnshw gnd gnlk gk5 gpot5 => ?_⟩
      have gkG5 := gkG4.trans gk5
      obtain ⟨gx5, gep5⟩ := gpot5.some
      refine ⟨(by show 2 ≤ sizeLine; decide), fun gY ghY => ?_⟩
      have gk6 : Keep [] g5 (upd g5 gY (.lst [.int gy, gnv])) := Keep.new ghY
      have geY : (upd g5 gY (.lst [.int gy, gnv])) gY = some (.lst [.int gy, gnv]) := upd_same
      generalize (upd g5 gY (.lst [.int gy, gnv])) = g6 at gk6 geY ⊢
      have gkG6 := gkG5.trans (gk6.more (ex' := [p]) fun b z => absurd z nin0)
      have gseg : Keep [p] a6 g6 := (gk4.trans gk5).trans (gk6.more (ex' := [p]) fun b z => absurd z nin0)
      have gpot6 := gpot5.keep gk6 nin0
      have gD := gseg.at aD (nin1 nDp)
      have gnum : ∀ b : Bool, ∃ (t : Tg) (v : V), atI [V.int gy, gnv] (if b = true then (1 : Int) else 0) = some v ∧ New15 H g6 t v ∧ Shw 402 t ∧ Lk t := fun b => by
        cases b with
        | false =>
          obtain ⟨j, rfl⟩ : ∃ j : Nat, gy = (j : Int) := ⟨gy.toNat, by omega⟩
          exact ⟨.int (j : Int), .int (j : Int), rfl, (fun ex _ => tgI _), (int_ok (by omega)).1, .inr ⟨rfl, Nat.zero_le _⟩⟩
        | true => exact ⟨gnt, gnv, rfl, (gnnew.back gkG4 (by rw [gep4]; exact fun z => nomatch z)).on0 gk6, gnshw, gnlk⟩
      obtain ⟨gkt, gkv, gekv, gknew, gkshw, gklk⟩ := gnum b1
      refine ⟨_, rfl, D, _, 1, .bl b1, rfl, rfl, SqL.of gD, rfl, .inr ⟨_, rfl, gY, _, _, gkv, rfl, rfl, SqL.of geY, gekv, ?_⟩⟩
      exact ⟨_, rfl, _, rfl, (by show 2 ≤ sizeLine; decide), fun L hL => fin g6 L akt gkt akv gkv _ gkG6 gpot6 (by omega) (aknew.on gseg hp0 epa6) gknew ⟨akshw, sh3 gkshw, aklk, (fun h => by omega), fun h => by omega⟩ hL⟩
end
end Fs
/-! The law: what is due. -/
namespace Fs
open PySem L2 TL
abbrev sDue : Stmt := top 41 --def _law_due
abbrev nDue : List Str := ["_law_pairs_here", "_law_entries_here", "_law_door", "_law_a", "_law_b", "_law_many", "_law_name_here", "_law_above"]
abbrev aDue : List Str := ["_law_pairs_here", "_law_entries_here", "_law_door", "_law_a", "_law_b"]
theorem scDue : FnScope nDue aDue (defScope sDue) := ⟨rfl, rfl, rfl, by decide +kernel, rfl, by decide +kernel, by decide +kernel⟩
def spDue : Sp := fun vs H Q _ => ∃ (l E : Addr) (bad rs mm nn : List Addr) (es : List Ent) (ps : List (Str × Str)) (ex : List Addr) (d : Nat) (a b : Tg) (va vb : V), vs = [.ref l, .ref E, .int (d : Int), va, vb] ∧ PairsAt H l ps ∧ Wf ps ∧ ps.length ≤ 30 ∧ H E = some (.lst (rs.map V.ref)) ∧ TriAt bad H rs mm nn es ∧ es.length ≤ 100 ∧ TgAt ex H a va ∧ TgAt ex H b vb ∧ Lk a ∧
  (d = 1 ∨ d = 2 → ∃ l', b = .lst l' ∧ l'.length ≤ 100) ∧ ∀ H', Keep [] H H' → Q (dueV (dueG ps es d a b)) H'
structure UTx (K : PySem.W.Frag) (mg : Str → Option Value) (fN fM : Addr) : Prop where
  gN : mg "_law_is_number" = some (.ref fN)
  kN : PySem.W.keepIn K (.ref fN) = true
  gM : mg "_law_due_of_members" = some (.ref fM)
  kM : PySem.W.keepIn K (.ref fM) = true
  int : mg "int" = none
  isi : mg "isinstance" = none
  str : mg "str" = none
  len : mg "len" = none
theorem TriAt.len1 {bad : List Addr} {H : Hp} : ∀ {rs mm nn : List Addr} {es : List Ent}, TriAt bad H rs mm nn es → rs.length = es.length
  | [], [], [], [], _ => rfl
  | _ :: rs, _ :: mm, _ :: nn, _ :: es, h => by rw [List.length_cons, List.length_cons, TriAt.len1 h.2]
section
variable {P : Program} {w : World} {K : PySem.W.Frag} {mg : Str → Option Value} {base : Heap} {fN fM : Addr}
theorem ok_due {f : Addr} {fd dN dM : FuncData} (F : Fun K "_law_due" "_law_due" sDue f fd) (T : UTx K mg fN fM) (FN : FnOk P w K mg base CX0 1 fN dN ["_law_thing", "_law_many"] spIsN) (bN : Binds K dN ["_law_thing", "_law_many"] []) (FM : FnOk P w K mg base CX0 2 fM dM ["_law_members_here", "_law_many"] spDoM) (bM : Binds K dM ["_law_members_here", "_law_many"] []) :
    FnOk P w K mg base CX0 3 f fd aDue spDue := by
  refine F.ok scDue (fun vs H Q E h => ?_) (fun cdv A outer s H vs Q Es hr h => ?_)
  · obtain ⟨l, E, bad, rs, mm, nn, es, ps, ex, d, a, b, va, vb, rfl, _⟩ := h
    rfl
  · obtain ⟨l, E, bad, rs, mm, nn, es, ps, ex, d, a, b, va, vb, rfl, hP, hw, hlen, eE, tri, h100, ah, bh, alk, hsh, kk⟩ := h
    have hr1 : Room 1 _ := hr.mono (by decide)
    have hu65 : (A.deeper (PyProof.Rows.envOfC "_law_due" (defScope sDue) s.heap.objs.size f cdv)).units + 65 < cLine := by have := hr.un; omega
    refine ⟨_, pss_cons (ps_set (i := 5) scDue.nd rfl (Or.inl rfl) (pe_callB call_len_seq (by rfl) T.len PySem.boot_len (pa_cons (pv 1) pa_nil)))
      (pss_cons (ps_if (PW.pt (pw_and (pt_cmpR op_eq (pv 2) pe_int (nomark _)) (pw_and1 (pt_cmpR (op_notInT hu65) (pv 3) (pe_op op_cat (pe_lst (pa_cons pe_str pa_nil)) (pe_lc (own := [("_law_name_here", 6), ("_law_above", 7)]) (g := gTup K 2 (gCons (gName 6) (gCons (gName 7) gNil))) (tt := tYes) rfl scDue.nd (pi_list (pv 0))
          (blkOk_by (N := nDue) (sc := defScope sDue) (by decide +kernel)) (fun _ _ _ _ _ => by exact (pg_tup rfl (pgs_cons (pg_name (i := 6) scDue.nd rfl (Or.inl rfl)) (pgs_cons (pg_name (i := 7) scDue.nd rfl (Or.inl rfl)) pgs_nil)))) (fun _ _ _ _ _ => pts_nil) (fun _ _ _ _ _ => pv 6))) (by rfl))))) (pss_one (ps_ret pe_str)) pss_nil)
      (pss_cons (ps_if (pt_cmpR op_eq (pv 2) pe_int (nomark _)) (pss_one (ps_ret (pe_ix ix_list (pe_lst (pa_cons pe_non (pa_cons pe_str pa_nil))) (pe_callTy call_int1 (by rfl) T.int (by decide +kernel) (pa_cons (pe_not (pe_callB call_isi (by rfl) T.isi (by decide +kernel) (pa_cons (pv 4) (pa_cons (pe_bltn (v := .ty "str") (u := .type "str") (by rfl) T.str (by decide +kernel) rfl) pa_nil)))) pa_nil)) (fun _ _ => rfl)))) pss_nil)
      (pss_cons (ps_if (pt_cmpR op_eq (pv 2) pe_int (nomark _)) (pss_cons (ps_if (pt_not (pt_val (pe_callB call_isi (by rfl) T.isi (by decide +kernel) (pa_cons (pv 3) (pa_cons (pe_bltn (v := .ty "str") (u := .type "str") (by rfl) T.str (by decide +kernel) rfl) pa_nil))))) (pss_one (ps_ret pe_str)) pss_nil)
          (pss_one (ps_ret (pe_call FM (hr.mono (by decide)) rfl T.gM T.kM bM .nil pass0 (pa_cons (pv 4) (pa_cons (pv 5) pa_nil)))))) pss_nil)
      (pss_cons (ps_if (PW.pt (pw_or (pt_not (pt_val (pe_call FN hr1 rfl T.gN T.kN bN .nil pass0 (pa_cons (pv 3) (pa_cons (pv 5) pa_nil))))) (pw_or1 (PW.pt (pw_and (pt_cmpR op_eq (pv 2) pe_int (nomark _)) (pw_and1 (pt_cmpR op_ne (pe_ix ix_list (pe_ix ix_list (pv 1) (pv 3) (fun _ _ => rfl)) pe_int (fun _ _ => rfl)) pe_str (nomark _)))))))) (pss_one (ps_ret pe_str)) pss_nil)
      (pss_cons (ps_if (pt_cmpR op_eq (pv 2) pe_int (nomark _)) (pss_one (ps_ret (pe_call FM (hr.mono (by decide)) rfl T.gM T.kM bM .nil pass0 (pa_cons (pv 4) (pa_cons (pv 5) pa_nil))))) pss_nil)
      (pss_cons (ps_if (pt_cmpR op_eq (pv 2) pe_int (nomark _)) (pss_one (ps_ret pe_str)) pss_nil)
      (pss_cons (ps_if (pt_cmpR op_eq (pv 2) pe_int (nomark _)) (pss_one (ps_ret (pe_ix ix_list (pe_lst (pa_cons pe_non (pa_cons pe_str pa_nil))) (pe_callTy call_int1 (by rfl) T.int (by decide +kernel) (pa_cons (pe_not (pe_callB call_isi (by rfl) T.isi (by decide +kernel) (pa_cons (pv 4) (pa_cons (pe_bltn (v := .ty "str") (u := .type "str") (by rfl) T.str (by decide +kernel) rfl) pa_nil)))) pa_nil)) (fun _ _ => rfl)))) pss_nil)
      (pss_one (ps_ret (pe_ix ix_list (pe_lst (pa_cons pe_non (pa_cons pe_str pa_nil))) (pe_callTy call_int1 (by rfl) T.int (by decide +kernel) (pa_cons (pe_and (pe_cmpR op_lt (pv 2) pe_int (nomark _)) (pe_and (pe_cmpR op_notN (pv 4) pe_non (nomark _)) (pe_one (pe_not (pe_call FN hr1 rfl T.gN T.kN bN .nil pass0 (pa_cons (pv 4) (pa_cons (pv 5) pa_nil))))))) pa_nil)) (fun _ _ => rfl))))))))))), ?_⟩
    have hrl := tri.len1
    unfold dueG at kk
    refine ⟨_, rfl, E, _, rfl, .inl (SqL.of eE), ?_⟩
    rw [List.length_map, hrl]
    refine ⟨_, rfl, rfl, _, rfl, ?_⟩
    by_cases h0 : d = 0
    · rw [decide_eq_true (show V.int (d : Int) = V.int 0 by rw [h0]; rfl)]
      refine iteT ?_
      refine ⟨_, rfl, (by show 1 ≤ sizeLine; decide), fun a1 ha1 => ?_⟩
      have h1 : PairsAt (upd H a1 (.lst [.str sF])) l ps := hP.keep (ex := []) (Keep.new ha1) nin0 (fun _ z => absurd z nin0)
      obtain ⟨xs, el1⟩ := h1.some
      refine ⟨_, rfl, l, rfl, ⟨_, SqL.of el1⟩, fun D hD => ?_⟩
      refine names_run (K := K) (i := 6) (j := 7) h1 hD (by omega) (fun _ _ => rfl) (fun _ _ => rfl) fun H3 e3 k3 => ?_
      have ea : H3 a1 = some (.lst [.str sF]) := k3.at upd_same nin0
      refine ⟨a1, D, _, _, rfl, rfl, ea, e3, ?_, fun b1 hb1 => ?_⟩
      · show ([V.str sF] : List V).length + _ ≤ sizeLine
        rw [List.length_map, List.length_map]
        exact Nat.le_trans (by show 1 + ps.length ≤ 1000; omega) (by decide)
      have k4 : Keep [] H (upd H3 b1 (.lst ([V.str sF] ++ (ps.map Prod.fst).map V.str))) := ((Keep.new ha1).trans k3).newTo hb1
      have eb : (upd H3 b1 (.lst ([V.str sF] ++ (ps.map Prod.fst).map V.str))) b1 = some (.lst ((sF :: ps.map Prod.fst).map V.str)) := by rw [upd_same]; rfl
      generalize (upd H3 b1 (.lst ([V.str sF] ++ (ps.map Prod.fst).map V.str))) = H4 at k4 eb ⊢
      have txs : ∀ z ∈ sF :: ps.map Prod.fst, IsTx z := fun z hz => by
        obtain ⟨q1, q2⟩ := hw.kind_ok z hz
        exact ⟨by omega, q2⟩
      refine ⟨ex, a, b1, _, ah.keep0 k4, alk, rfl, eb, txs, _, rfl, ?_⟩
      have ein : inG (sF :: ps.map Prod.fst) a = inKinds ps a := by cases a <;> rfl
      rw [ein]
      rw [if_pos h0] at kk
      cases hi : inKinds ps a with
      | false =>
        rw [if_neg (by rw [hi]; exact Bool.false_ne_true)] at kk
        exact iteT (kk H4 k4)
      | true =>
        rw [if_pos hi] at kk
        refine iteF ?_
        refine ⟨_, rfl, rfl, _, rfl, ?_⟩
        rw [decide_eq_true (show V.int (d : Int) = V.int 0 by rw [h0]; rfl)]
        refine iteT ?_
        refine ⟨(by show 2 ≤ sizeLine; decide), fun L hL => ?_⟩
        have kL : Keep [] H4 (upd H4 L (.lst [.non, .str "text"])) := Keep.new hL
        have eL : (upd H4 L (.lst [.non, .str "text"])) L = some (.lst [.non, .str "text"]) := upd_same
        generalize (upd H4 L (.lst [.non, .str "text"])) = GL at kL eL ⊢
        have fin := kk GL (k4.trans kL)
        refine ⟨_, rfl, _, _, _, _, _, rfl, .ty "str", tg_ty (K := K) ((bh.keep0 k4).keep0 kL), kit_ty (kb_str b), b.isS, rfl, .inr ⟨_, rfl, ?_⟩⟩
        cases hb : b.isS with
        | true =>
          rw [if_pos hb] at fin
          exact ⟨L, _, 0, .non, rfl, rfl, SqL.of eL, rfl, fin⟩
        | false =>
          rw [if_neg (by rw [hb]; exact Bool.false_ne_true)] at fin
          exact ⟨L, _, 1, .str "text", rfl, rfl, SqL.of eL, rfl, fin⟩
    rw [decide_eq_false (show ¬ V.int (d : Int) = V.int 0 from fun z => h0 (by have := V.int.inj z; omega))]
    refine iteF ?_
    rw [if_neg h0] at kk
    refine ⟨_, rfl, rfl, _, rfl, ?_⟩
    rw [decide_eq_false (show ¬ V.int (d : Int) = V.int 0 from fun z => h0 (by have := V.int.inj z; omega))]
    refine iteF ?_
    refine ⟨_, rfl, rfl, _, rfl, ?_⟩
    by_cases h1 : d = 1
    · rw [decide_eq_true (show V.int (d : Int) = V.int 1 by rw [h1]; rfl)]
      refine iteT ?_
      rw [if_pos h1] at kk
      refine ⟨_, rfl, _, _, _, _, _, rfl, .ty "str", tg_ty (K := K) ah, kit_ty (kb_str a), a.isS, rfl, ?_⟩
      cases hs : a.isS with
      | false =>
        rw [if_neg (by rw [hs]; exact Bool.false_ne_true)] at kk
        exact iteT (kk H (Keep.refl _ _))
      | true =>
        rw [if_pos hs] at kk
        obtain ⟨l', rfl, hl'⟩ := hsh (.inl h1)
        refine iteF ?_
        exact ⟨_, rfl, _, rfl, ex, l', vb, es.length, rfl, bh, hl', kk⟩
    rw [decide_eq_false (show ¬ V.int (d : Int) = V.int 1 from fun z => h1 (by have := V.int.inj z; omega))]
    refine iteF ?_
    rw [if_neg h1] at kk
    refine ⟨_, rfl, _, rfl, ex, a, va, es.length, rfl, ah, a.isF es.length, rfl, ?_⟩
    cases hF : a.isF es.length with
    | false =>
      rw [if_pos (.inl hF)] at kk
      exact iteT (kk H (Keep.refl _ _))
    | true =>
    refine iteF ?_
    obtain ⟨k, rfl, hk⟩ := isF_int hF
    have ev : va = .int ((k : Nat) : Int) := by simp only [TgAt] at ah; exact ah
    subst ev
    have he := List.getElem?_eq_getElem hk
    have es1 : sheafAt es (.int ((k : Nat) : Int)) = decide (es[k].kind = sS) := by
      show decide ((es[((k : Nat) : Int).toNat]?).map Ent.kind = some sS) = _
      rw [Int.toNat_natCast, he]
      exact decide_eq_decide.mpr ⟨fun e => Option.some.inj e, fun e => congrArg some e⟩
    refine ⟨_, rfl, rfl, _, rfl, ?_⟩
    by_cases h2 : d = 2
    · rw [decide_eq_true (show V.int (d : Int) = V.int 2 by rw [h2]; rfl)]
      refine iteT ?_
      obtain ⟨r, m, n, q1, q2, q3, q4, q5, q6, q7, q8, q9⟩ := tri.at he
      refine ⟨_, rfl, _, rfl, E, _, _, .ref r, rfl, rfl, SqL.of eE, atI_nat (by rw [List.getElem?_map, q1]; rfl), ?_⟩
      refine ⟨r, _, 0, .str es[k].kind, rfl, rfl, SqL.of q7, rfl, rfl, _, rfl, ?_⟩
      by_cases hs : es[k].kind = sS
      · refine iteNS (by rw [hs]) ?_
        rw [if_neg (by rw [hF, es1, decide_eq_true hs]; simp), if_pos h2] at kk
        refine ⟨_, rfl, rfl, _, rfl, ?_⟩
        rw [decide_eq_true (show V.int (d : Int) = V.int 2 by rw [h2]; rfl)]
        refine iteT ?_
        obtain ⟨l', rfl, hl'⟩ := hsh (.inr h2)
        exact ⟨_, rfl, _, rfl, ex, l', vb, es.length, rfl, bh, hl', kk⟩
      · refine iteNot (fun z => hs (V.str.inj z)) ?_
        rw [if_pos (.inr ⟨h2, by rw [es1, decide_eq_false hs]⟩)] at kk
        exact kk H (Keep.refl _ _)
    rw [decide_eq_false (show ¬ V.int (d : Int) = V.int 2 from fun z => h2 (by have := V.int.inj z; omega))]
    refine iteF ?_
    rw [if_neg (by rw [hF]; simp; intro z; exact absurd z h2), if_neg h2] at kk
    refine ⟨_, rfl, rfl, _, rfl, ?_⟩
    rw [decide_eq_false (show ¬ V.int (d : Int) = V.int 2 from fun z => h2 (by have := V.int.inj z; omega))]
    refine iteF ?_
    refine ⟨_, rfl, rfl, _, rfl, ?_⟩
    by_cases h14 : d = 14
    · rw [decide_eq_true (show V.int (d : Int) = V.int 14 by rw [h14]; rfl)]
      refine iteT ?_
      rw [if_pos h14] at kk
      exact kk H (Keep.refl _ _)
    rw [decide_eq_false (show ¬ V.int (d : Int) = V.int 14 from fun z => h14 (by have := V.int.inj z; omega))]
    refine iteF ?_
    rw [if_neg h14] at kk
    refine ⟨_, rfl, rfl, _, rfl, ?_⟩
    by_cases h3 : d = 3
    · rw [decide_eq_true (show V.int (d : Int) = V.int 3 by rw [h3]; rfl)]
      refine iteT ?_
      rw [if_pos h3] at kk
      refine ⟨(by show 2 ≤ sizeLine; decide), fun L hL => ?_⟩
      have kL : Keep [] H (upd H L (.lst [.non, .str "text"])) := Keep.new hL
      have eL : (upd H L (.lst [.non, .str "text"])) L = some (.lst [.non, .str "text"]) := upd_same
      generalize (upd H L (.lst [.non, .str "text"])) = GL at kL eL ⊢
      have fin := kk GL ((Keep.refl _ _).trans kL)
      refine ⟨_, rfl, _, _, _, _, _, rfl, .ty "str", tg_ty (K := K) ((bh.keep0 (Keep.refl _ _)).keep0 kL), kit_ty (kb_str b), b.isS, rfl, .inr ⟨_, rfl, ?_⟩⟩
      cases hb : b.isS with
      | true =>
        rw [if_pos hb] at fin
        exact ⟨L, _, 0, .non, rfl, rfl, SqL.of eL, rfl, fin⟩
      | false =>
        rw [if_neg (by rw [hb]; exact Bool.false_ne_true)] at fin
        exact ⟨L, _, 1, .str "text", rfl, rfl, SqL.of eL, rfl, fin⟩
    rw [decide_eq_false (show ¬ V.int (d : Int) = V.int 3 from fun z => h3 (by have := V.int.inj z; omega))]
    refine iteF ?_
    rw [if_neg h3] at kk
    refine ⟨(by show 2 ≤ sizeLine; decide), fun L hL => ?_⟩
    have kL : Keep [] H (upd H L (.lst [.non, .str "fault"])) := Keep.new hL
    have eL : (upd H L (.lst [.non, .str "fault"])) L = some (.lst [.non, .str "fault"]) := upd_same
    generalize (upd H L (.lst [.non, .str "fault"])) = GL at kL eL ⊢
    have fin := kk GL kL
    refine ⟨_, rfl, _, _, rfl, rfl, _, rfl, ?_⟩
    by_cases h6 : d < 6
    · rw [decide_eq_true (show (d : Int) < 6 by omega)]
      refine iteT ⟨_, rfl, rfl, _, rfl, ?_⟩
      by_cases hv : vb = .non
      · have et := (tg_non bh).mp hv
        refine iteNS hv ?_
        rw [if_neg (fun z => by have := z.2; rw [et] at this; cases this)] at fin
        exact .inr ⟨_, rfl, L, _, 0, .non, rfl, rfl, SqL.of eL, rfl, fin⟩
      · have et : b ≠ .non := fun z => hv ((tg_non bh).mpr z)
        have e : b.isFN es.length = b.isF es.length := by cases b <;> first | rfl | exact absurd rfl et
        rw [e] at fin
        refine iteNot hv ⟨_, rfl, _, rfl, ex, b, vb, es.length, rfl, bh.keep0 kL, b.isF es.length, rfl, .inr ⟨_, rfl, ?_⟩⟩
        cases hb : b.isF es.length with
        | true =>
          rw [if_neg (fun z => by have := z.2; rw [hb] at this; cases this)] at fin
          exact ⟨L, _, 0, .non, rfl, rfl, SqL.of eL, rfl, fin⟩
        | false =>
          rw [if_pos ⟨h6, hb⟩] at fin
          exact ⟨L, _, 1, .str "fault", rfl, rfl, SqL.of eL, rfl, fin⟩
    · rw [decide_eq_false (show ¬ (d : Int) < 6 by omega)]
      refine iteF ?_
      rw [if_neg (fun z => h6 z.1)] at fin
      exact .inr ⟨_, rfl, L, _, 0, .non, rfl, rfl, SqL.of eL, rfl, fin⟩
end
end Fs
/-! The law: a good deed behind. -/
namespace Fs
open PySem L2 TL
theorem St.repot {C : Addr} {ps : List (Str × Str)} {cap : Nat} {p p' : Addr} {H H' : Hp} {X : LD} {es : List Ent} (S : StX C ps cap p H X es) (k : Keep [] H H') (hp : H p' = none) : StX C ps cap p' H' X es := by
  have S' := S.keep0 k
  refine ⟨S'.led, S'.ent, S'.tri.rebad fun a ha z => ?_, S.rnd, S.sep, S.tree, S.sm, S.row, S.nE, fun z => ?_⟩
  · obtain ⟨xs, e⟩ := S.tri.is a ha
    rcases List.mem_cons.mp z with z | z
    · rw [z, hp] at e; cases e
    · exact S.tri.nbad a ha (List.mem_cons_of_mem _ z)
  · rcases List.mem_cons.mp z with z | z
    · rw [z, S.ent] at hp; cases hp
    · rcases List.mem_append.mp z with z | z
      · obtain ⟨xs, e⟩ := S.led.isl _ z
        rw [e] at hp; cases hp
      · obtain ⟨xs, e⟩ := S.led.notes.is _ z
        rw [e] at hp; cases hp
theorem KindsAt.lists {CK : Addr} {ex : List Addr} {H H' : Hp} {kd : Addr} {ps : List (Str × Str)} (h : KindsAt CK H kd ps) (k : Keep ex H H') (hx : ∀ b ∈ ex, ∃ xs, H b = some (.lst xs)) : KindsAt CK H' kd ps := h.keep k fun b hb => by
  obtain ⟨xs, e⟩ := hx b hb
  exact ⟨_, e, (fun _ _ _ z => by cases z), fun _ z => by cases z⟩
theorem pairs_lists {ex : List Addr} {H H' : Hp} {l : Addr} {ps : List (Str × Str)} (h : PairsAt H l ps) (k : Keep ex H H') (n : l ∉ ex) (hx : ∀ b ∈ ex, ∃ xs, H b = some (.lst xs)) : PairsAt H' l ps := h.keep k n fun b hb => by
  obtain ⟨xs, e⟩ := hx b hb
  exact ⟨HO.lst xs, e, fun _ z => by cases z⟩
structure Grown (H : Hp) (X X' : LD) : Prop where
  q : X'.q = X.q
  F : X'.F = X.F
  A : X'.A = X.A
  zs : ∀ b ∈ X'.zs, b ∈ X.zs ∨ H b = none
/-- a fault more, behind its row -/
theorem st_more {C : Addr} {ps : List (Str × Str)} {cap : Nat} {p : Addr} {G0 G6 G7 : Hp} {q E : Addr} {A : LA} {es : List Ent} {ms ns rs mm nn : List Addr} {Lf Df Nf : Nat → Nat} {e : Ent} {t' n' r' B l2 : Addr} {a d : Nat} (S : St C ps cap p G0 q E A es ms ns rs mm nn Lf Df Nf)
    (hb : ∀ m ∈ e.mem, m < es.length) (ha : a = (if e.mem = [] then 1 else (e.mem.map Lf).sum)) (h60 : a ≤ 60) (hd : d ≤ 12) (hd0 : e.mem = [] → d = 0) (hd1 : ∀ m ∈ e.mem, Df m + 1 ≤ d) (hd2 : e.mem ≠ [] → ∃ m ∈ e.mem, d = Df m + 1) (hs : SmC ps es.length cap e)
    (k6 : Keep [p, E] G0 G6) (hp : ∃ xs, G0 p = some (.lst xs)) (hp6 : ∃ xs, G6 p = some (.lst xs)) (e6 : G6 E = some (.lst ((rs ++ [r']).map V.ref)))
    (er6 : G6 r' = some (.lst [.str e.kind, .str e.text, .ref B, .ref l2, optV e.cause, optV e.atw])) (eB6 : G6 B = some (.lst (memV e.mem))) (el6 : G6 l2 = some (.lst (e.notes.map V.str)))
    (hB0 : G0 B = none) (hr0 : G0 r' = none) (hl0 : G0 l2 = none) (nBl : B ≠ l2) (k7 : Keep A.ls G6 G7) (led7 : LedAt C G7 q A (ms ++ [t']) (ns ++ [n']) (es ++ [e])) (hn6 : G6 n' = none) :
    ∃ X' : LD, StX C ps cap p G7 X' (es ++ [e]) ∧ Grown G0 ⟨q, E, A, ms, ns, rs, mm, nn, Lf, Df, Nf⟩ X' ∧ Keep (p :: E :: A.ls) G0 G7 := by
  have inA : ∀ b, G0 b = none → b ∉ A.ls := fun b hb z => by
    obtain ⟨xs, q⟩ := S.led.isl b z
    rw [q] at hb; cases hb
  have hEA : E ∉ A.ls := fun z => S.nE (List.mem_append_left _ z)
  have hn0 : G0 n' = none := Keep.free k6 hn6 fun z => by
    rcases (show n' = p ∨ n' = E by simpa using z) with z | z
    · obtain ⟨xs, q⟩ := hp6
      rw [z, q] at hn6; cases hn6
    · rw [z, e6] at hn6; cases hn6
  have k07 : Keep (p :: E :: A.ls) G0 G7 := (k6.more fun b hb => by
    rcases (show b = p ∨ b = E by simpa using hb) with z | z <;> simp [z]).trans (k7.more fun b hb => by simp [hb])
  have h := st_grow (t' := t') (n' := n') (r' := r') (B := B) (l2 := l2) S hb ha h60 hd hd0 hd1 hd2 hs k07 hp led7 (k7.at e6 hEA) (k7.at er6 (inA _ hr0)) (k7.at eB6 (inA _ hB0)) (k7.at el6 (inA _ hl0)) hB0 hr0 hl0 hn0 nBl (ne_of_none eB6 hn6) (ne_of_none er6 hn6) (ne_of_none el6 hn6)
  refine ⟨⟨q, E, A, ms ++ [t'], ns ++ [n'], rs ++ [r'], mm ++ [B], nn ++ [l2], _, _, _⟩, h, ⟨rfl, rfl, rfl, fun b hb => ?_⟩, k07⟩
  simp only [LD.zs, List.mem_cons, List.mem_append, List.not_mem_nil, or_false] at hb ⊢
  rcases hb with z | z | (z | z) | (z | z) | (z | z) | (z | z)
  · simp [z]
  · simp [z]
  · simp [z]
  · rw [z]; exact .inr hn0
  · simp [z]
  · rw [z]; exact .inr hr0
  · simp [z]
  · rw [z]; exact .inr hB0
  · simp [z]
  · rw [z]; exact .inr hl0
theorem St.up {C : Addr} {ps : List (Str × Str)} {cap cap' : Nat} {p : Addr} {H : Hp} {X : LD} {es : List Ent} (S : StX C ps cap p H X es) (h : cap ≤ cap') : StX C ps cap' p H X es := ⟨S.led, S.ent, S.tri, S.rnd, S.sep, S.tree, fun e he => ⟨(S.sm e he).1, Nat.le_trans (S.sm e he).2.1 h, (S.sm e he).2.2⟩, S.row, S.nE, S.np⟩
abbrev sGd : Stmt := top 47 --def _law_good_done
abbrev nGd : List Str := ["_law_pot_here", "_law_ledger_here", "_law_entries_here", "_law_fault"]
abbrev aGd : List Str := ["_law_pot_here", "_law_ledger_here", "_law_entries_here"]
theorem scGd : FnScope nGd aGd (defScope sGd) := ⟨rfl, rfl, rfl, by decide +kernel, rfl, by decide +kernel, by decide +kernel⟩
def spGd (C CK : Addr) : Sp := fun vs H Q _ => ∃ (ps : List (Str × Str)) (p : Addr) (X : LD) (es : List Ent) (n cap : Nat), vs = [.ref p, .ref X.q, .ref X.F] ∧ PotAt H p n ∧ n < 2 ^ 34 ∧ StX C ps cap p H X es ∧ cap ≤ 40 ∧ 0 < es.length ∧ es.length ≤ 40 ∧ Wf ps ∧ ps.length ≤ 100 ∧ KindsAt CK H X.A.kd ps ∧
  ∀ (H' : Hp) (X' : LD) (es' : List Ent), Grown H X X' → Keep (p :: X.zs) H H' → StX C ps (cap + 1) p H' X' es' → es.length ≤ es'.length → es'.length ≤ es.length + 1 → KindsAt CK H' X'.A.kd ps → PotAt H' p (n + 2) → Q (.bl true) H'
structure GDx (K : PySem.W.Frag) (mg : Str → Option Value) (C fDg fPl fNo : Addr) : Prop where
  cl : Cls K C
  mP : Meth K C "plain" fPl
  mN : Meth K C "note" fNo
  gD : mg "_law_digit" = some (.ref fDg)
  kD : PySem.W.keepIn K (.ref fDg) = true
  len : mg "len" = none
  repr : mg "repr" = none
  str : mg "str" = none
section
variable {P : Program} {w : World} {K : PySem.W.Frag} {mg : Str → Option Value} {base : Heap} {C CK fDg fPl fNo : Addr}
theorem ok_gd {f : Addr} {fd dD dP dN : FuncData} (F : Fun K "_law_good_done" "_law_good_done" sGd f fd) (T : GDx K mg C fDg fPl fNo) (FD : FnOk P w K mg base CX0 1 fDg dD ["_law_pot_here", "_law_many"] spDigit) (bD : Binds K dD ["_law_pot_here", "_law_many"] [])
    (FP : FnOk P w K mg base CX0 3 fPl dP ["self", "kind", "text"] (spPlain C CK)) (bP : Binds K dP ["self", "kind", "text"] []) (FN : FnOk P w K mg base CX0 3 fNo dN ["self", "k", "text"] (spNote C)) (bN : Binds K dN ["self", "k", "text"] []) :
    FnOk P w K mg base CX0 4 f fd aGd (spGd C CK) := by
  refine F.ok scGd (fun vs H Q E h => ?_) (fun cdv A0 outer s H vs Q Es hr h => ?_)
  · obtain ⟨ps, p, X, es, n, cap, rfl, _⟩ := h
    rfl
  · obtain ⟨ps, p, X0, es, n, cap, rfl, pot, hn, S0, hcap, h0, h40, hw, hps, hK, kk⟩ := h
    have hr1 : Room 1 _ := hr.mono (by decide)
    refine ⟨_, pss_cons (ps_set (i := 3) scGd.nd rfl (Or.inl rfl) (pe_call FD hr1 rfl T.gD T.kD bD .nil pass0 (pa_cons (pv 0) (pa_cons (pe_callB call_len_seq (by rfl) T.len PySem.boot_len (pa_cons (pv 2) pa_nil)) pa_nil))))
      (pss_cons (ps_if (pt_cmpR op_eq (pe_call FD hr1 rfl T.gD T.kD bD .nil pass0 (pa_cons (pv 0) (pa_cons pe_int pa_nil))) pe_int (nomark _))
        (pss_cons (ps_expr (pe_bm PySem.F.plainAttrs_list PySem.F.slot_list_append PySem.F.type_list_append mt_append (pv 2) (pa_cons (pe_lst (pa_cons pe_str (pa_cons pe_str (pa_cons (pe_lst pa_nil) (pa_cons (pe_lst pa_nil) (pa_cons pe_non (pa_cons pe_non pa_nil))))))) pa_nil)))
        (pss_one (ps_ret (pe_cmpR op_eq (pe_callB SkE.call_repr_int (by rfl) T.repr (by decide +kernel) (pa_cons (pe_meth (pv 1) T.cl T.mP FP hr bP .nil pass0 (pa_cons pe_str (pa_cons pe_str pa_nil))) pa_nil)) (pe_callTy call_str_int (by rfl) T.str (by decide +kernel) (pa_cons (pe_op op_sub (pe_callB call_len_seq (by rfl) T.len PySem.boot_len (pa_cons (pv 2) pa_nil)) pe_int) pa_nil)) (nomark _))))) pss_nil)
      (pss_cons (ps_expr (pe_meth (pv 1) T.cl T.mN FN hr bN .nil pass0 (pa_cons (pv 3) (pa_cons pe_str pa_nil))))
      (pss_cons (ps_expr (pe_bm PySem.F.plainAttrs_list PySem.F.slot_list_append PySem.F.type_list_append mt_append (pe_ix ix_list (pe_ix ix_list (pv 2) (pv 3) (fun _ _ => rfl)) pe_int (fun _ _ => rfl)) (pa_cons pe_str pa_nil)))
      (pss_one (ps_ret pe_bl))))), ?_⟩
    have tm : IsTx "more" := tx_c _ (by decide +kernel)
    have S1 : StX C ps cap p H X0 es := S0
    obtain ⟨q, E, A, ms, ns, rs, mm, nn, Lf, Df, Nf⟩ := X0
    simp only [StX] at S0
    have lr : rs.length = es.length := S0.tri.len1
    refine ⟨_, rfl, _, rfl, E, _, rfl, .inl (SqL.of S0.ent), p, n, _, rfl, pot, by omega, by rw [List.length_map, lr]; omega, by rw [List.length_map, lr]; omega, fun k H1 d0 d1 hk1 pot1 => ?_⟩
    rw [List.length_map, lr] at d1
    obtain ⟨k, rfl⟩ : ∃ m : Nat, k = (m : Int) := ⟨k.toNat, by omega⟩
    have hk : k < es.length := by omega
    have k1 := keep_of_dig hk1
    refine ⟨_, rfl, p, n + 1, 2, rfl, pot1, by omega, by decide, by decide, fun y G0 y0 y1 hk2 potG => ?_⟩
    have k2 : Keep [p] H G0 := k1.trans (keep_of_dig hk2)
    have S := S0.keepP pot.some k2
    obtain ⟨px0, hpH⟩ := pot.some
    obtain ⟨px, hp0⟩ := potG.some
    have kin : KindsAt CK G0 A.kd ps := hK.lists k2 fun b hb => by rw [List.mem_singleton.mp hb]; exact ⟨_, hpH⟩
    have nEp : E ≠ p := fun z => S.np (by rw [z]; exact List.mem_cons_self)
    have zA : ∀ b ∈ A.ls, b ∈ LD.zs ⟨q, E, A, ms, ns, rs, mm, nn, Lf, Df, Nf⟩ := fun b hb => by simp only [LD.zs, List.mem_cons, List.mem_append]; exact .inr (.inl hb)
    have zE : E ∈ LD.zs ⟨q, E, A, ms, ns, rs, mm, nn, Lf, Df, Nf⟩ := by simp only [LD.zs]; exact List.mem_cons_self
    have zN : ∀ b ∈ ns, b ∈ LD.zs ⟨q, E, A, ms, ns, rs, mm, nn, Lf, Df, Nf⟩ := fun b hb => by simp only [LD.zs, List.mem_cons, List.mem_append]; exact .inr (.inr (.inl hb))
    have zNN : ∀ b ∈ nn, b ∈ LD.zs ⟨q, E, A, ms, ns, rs, mm, nn, Lf, Df, Nf⟩ := fun b hb => by simp only [LD.zs, List.mem_cons, List.mem_append]; exact .inr (.inr (.inr (.inr (.inr hb))))
    have kz : Keep (p :: LD.zs ⟨q, E, A, ms, ns, rs, mm, nn, Lf, Df, Nf⟩) H G0 := k2.more fun b hb => by rw [List.mem_singleton.mp hb]; exact List.mem_cons_self
    have fromG : ∀ b, G0 b = none → H b = none := fun b hb => by
      cases z : H b with
      | none => rfl
      | some o =>
        have ne : b ≠ p := fun e => by rw [e, hp0] at hb; cases hb
        rw [k2.at z (nin1 ne)] at hb; cases hb
    refine ⟨rfl, _, rfl, ?_⟩
    by_cases hy : V.int y = V.int 0
    · rw [decide_eq_true hy]
      refine iteT ?_
      have inA : ∀ b, G0 b = none → b ∉ A.ls := fun b hb z => by
        obtain ⟨xs, q⟩ := S.led.isl b z
        rw [q] at hb; cases hb
      have pA : p ∉ A.ls := fun z => S.np (List.mem_cons_of_mem _ (List.mem_append_left _ z))
      have two : ∀ b ∈ [p, E], b ∉ A.ls ++ ns ∧ ∃ xs, G0 b = some (.lst xs) := fun b hb => by
        rcases (show b = p ∨ b = E by simpa using hb) with z | z
        · rw [z]; exact ⟨fun y => S.np (List.mem_cons_of_mem _ y), _, hp0⟩
        · rw [z]; exact ⟨S.nE, _, S.ent⟩
      have neE : ∀ {b : Addr}, G0 b = none → b ≠ E := fun {b} h z => by rw [z, S.ent] at h; cases h
      refine ⟨_, rfl, .inl ⟨rfl, _, SqL.of S.ent⟩, Nat.zero_le _, fun B hB => ?_⟩
      refine ⟨Nat.zero_le _, fun l2 hl2 => ?_⟩
      refine ⟨(by show 6 ≤ sizeLine; decide), fun r' hr' => ?_⟩
      have hl20 : G0 l2 = none := Keep.free (Keep.new hB (ex := [])) hl2 nin0
      have hr0 : G0 r' = none := Keep.free ((Keep.new hB (ex := [])).newTo hl2) hr' nin0
      have k6 : Keep [] G0 (upd (upd (upd G0 B (.lst [])) l2 (.lst [])) r' (.lst [.str "fault", .str "more", .ref B, .ref l2, .non, .non])) := ((Keep.new hB).newTo hl2).newTo hr'
      have eB : (upd (upd (upd G0 B (.lst [])) l2 (.lst [])) r' (.lst [.str "fault", .str "more", .ref B, .ref l2, .non, .non])) B = some (.lst []) := ((Keep.new hl2 (ex := [])).newTo hr').at upd_same nin0
      have el : (upd (upd (upd G0 B (.lst [])) l2 (.lst [])) r' (.lst [.str "fault", .str "more", .ref B, .ref l2, .non, .non])) l2 = some (.lst []) := (Keep.new hr' (ex := [])).at upd_same nin0
      have er : (upd (upd (upd G0 B (.lst [])) l2 (.lst [])) r' (.lst [.str "fault", .str "more", .ref B, .ref l2, .non, .non])) r' = some (.lst [.str "fault", .str "more", .ref B, .ref l2, .non, .non]) := upd_same
      have nBl : B ≠ l2 := ne_of_none (show upd G0 B (.lst []) B = some (.lst []) from upd_same) hl2
      generalize (upd (upd (upd G0 B (.lst [])) l2 (.lst [])) r' (.lst [.str "fault", .str "more", .ref B, .ref l2, .non, .non])) = G6 at k6 eB el er ⊢
      have hp6 := potG.keep k6 nin0
      refine ⟨E, _, _, rfl, rfl, k6.at S.ent nin0, Nat.lt_of_le_of_lt (by rw [List.length_map, lr]; omega : (rs.map V.ref).length ≤ 1000) (by decide), ?_⟩
      have kE : Keep [E] G6 (upd G6 E (.lst (rs.map V.ref ++ [V.ref r']))) := Keep.own in1
      have x2 : (upd G6 E (.lst (rs.map V.ref ++ [V.ref r']))) E = some (.lst ((rs ++ [r']).map V.ref)) := by rw [upd_same, List.map_append]; rfl
      generalize (upd G6 E (.lst (rs.map V.ref ++ [V.ref r']))) = G7 at kE x2 ⊢
      have x1 : Keep [p, E] G0 G7 := (k6.more (ex' := [p, E]) fun b z => absurd z nin0).trans (kE.more fun b hb => by rw [List.mem_singleton.mp hb]; simp)
      have x3 : ∀ b o, G0 b = none → G6 b = some o → G7 b = some o := fun b o h1 h2 => kE.at h2 (nin1 (neE h1))
      have x4 : LedAt C G7 q A ms ns es := S.led.keep x1 (fun b hb => (two b hb).1) (fun b hb => (two b hb).2)
      have x5 : KindsAt CK G7 A.kd ps := kin.keep x1 fun b hb => by
        obtain ⟨_, xs, q⟩ := two b hb
        exact ⟨_, q, (fun _ _ _ z => by cases z), fun _ z => by cases z⟩
      have x6 := hp6.keep kE (nin1 nEp.symm)
      refine ⟨_, rfl, q, A.dx, _, rfl, x4.ins, flp A, q, A, ms, ns, es, sF, "more", ps, rfl, x4, x5, List.mem_cons_self, sFS, by omega, fun G8 t' n' k8 led8 hn8 => ?_⟩
      have hEA : E ∉ A.ls := fun z => S.nE (List.mem_append_left _ z)
      have ls : (((rs ++ [r']).map V.ref).length : Int) - 1 = ((es.length : Nat) : Int) := by rw [List.length_map, List.length_append, lr, List.length_singleton]; omega
      refine ⟨_, rfl, log_small (by omega), _, rfl, E, _, rfl, .inl (SqL.of (k8.at x2 hEA)), _, _, rfl, rfl, (es.length : Int), by exact congrArg (fun z => [V.int z]) ls, log_small (by omega), rfl, ?_⟩
      rw [decide_eq_true rfl]
      have ks := KindOk.small hw (mem := []) (z := sF) ⟨fun _ => List.mem_cons_self, fun h => absurd rfl h⟩
      obtain ⟨X', c1, c2, c3⟩ := st_more (e := (⟨sF, "more", [], [], none, none⟩ : Ent)) (t' := t') (n' := n') (r' := r') (B := B) (l2 := l2) (a := 1) (d := 0) S (fun m h => absurd h List.not_mem_nil) rfl (by decide) (by decide) (fun _ => rfl) (fun m h => absurd h List.not_mem_nil) (fun h => absurd rfl h)
        ⟨⟨ks.1, ks.2, tm, Nat.zero_le _, (fun m h => absurd h List.not_mem_nil), ⟨Nat.zero_le _, fun z h => absurd h List.not_mem_nil⟩, (fun y h => by cases h), (fun y h => by cases h)⟩, Nat.zero_le _, ⟨fun _ => List.mem_cons_self, fun h => absurd rfl h⟩⟩ x1 ⟨_, hp0⟩ x6.some x2 (x3 _ _ hr0 er) (x3 _ _ hB eB) (x3 _ _ hl20 el) hB hr0 hl20 nBl k8 led8 hn8
      have kA8 : KindsAt CK G8 A.kd ps := x5.lists k8 fun b hb => x4.isl b hb
      refine kk G8 X' _ ⟨c2.q, c2.F, c2.A, fun b hb => (c2.zs b hb).imp id (fromG b)⟩ (kz.trans (c3.more fun b hb => ?_)) (St.up c1 (Nat.le_succ _)) (by rw [List.length_append]; omega) (by rw [List.length_append]; exact Nat.le_refl _) (by rw [c2.A]; exact kA8) ((x6.keep k8 pA).le (by omega))
      rcases List.mem_cons.mp hb with z | z
      · rw [z]; exact List.mem_cons_self
      · rcases List.mem_cons.mp z with z | z
        · rw [z]; exact List.mem_cons_of_mem _ zE
        · exact List.mem_cons_of_mem _ (zA b z)
    · rw [decide_eq_false hy]
      refine iteF ?_
      have he := List.getElem?_eq_getElem hk
      generalize es[k] = e at he
      have hem := List.mem_of_getElem? he
      obtain ⟨⟨s1, s2, s3, s4, s5, s6, s7, s8⟩, sc, sk⟩ := S.sm e hem
      have same : ∀ {e' : Ent}, SmC ps es.length (cap + 1) e' → ∀ f ∈ es.set k e', SmC ps (es.set k e').length (cap + 1) f := fun {e'} h f hf => by
        rw [List.length_set]
        rcases set_mem hf with z | z
        · exact ⟨(S.sm f z).1, Nat.le_succ_of_le (S.sm f z).2.1, (S.sm f z).2.2⟩
        · rw [z]; exact h
      have pns : p ∉ ns := fun z => S.np (List.mem_cons_of_mem _ (List.mem_append_right _ z))
      have hkl : k < ns.length := by rw [S.led.notes.len]; exact hk
      have hnk := List.getElem?_eq_getElem hkl
      generalize ns[k] = l at hnk
      have hlm := List.mem_of_getElem? hnk
      refine ⟨_, rfl, q, A.dx, _, rfl, S.led.ins, fln A, _, rfl, q, A, ms, ns, es, k, e, l, "more", rfl, S.led, he, hnk, by omega, fun G4 k4 led4 => ?_⟩
      have nl : (e.notes ++ [("more" : Str)]).length ≤ cap + 1 := by rw [List.length_append]; show e.notes.length + 1 ≤ cap + 1; omega
      have tri4 := S.tri.keep (k4.more fun b hb => by rw [List.mem_singleton.mp hb]; exact List.mem_cons_of_mem _ (List.mem_cons_of_mem _ (List.mem_append_right _ hlm)))
      have nEl : E ≠ l := fun z => S.nE (by rw [z]; exact List.mem_append_right _ hlm)
      have ent4 := k4.at S.ent (nin1 nEl)
      obtain ⟨r, m, nk, q1, q2, q3, b1, b2, b3, g4, g5, g6⟩ := tri4.at he
      have hnn : nk ∈ nn := List.mem_of_getElem? q3
      refine ⟨_, rfl, _, rfl, E, _, _, V.ref r, rfl, rfl, SqL.of ent4, atI_nat (by rw [List.getElem?_map, q1]; rfl), r, _, _, V.ref nk, rfl, rfl, SqL.of g4, rfl, .inl ⟨rfl, _, SqL.of g6⟩, nk, _, _, rfl, rfl, g6, Nat.lt_of_le_of_lt (by rw [List.length_map]; omega : (e.notes.map V.str).length ≤ 1000) (by decide), ?_⟩
      rw [show e.notes.map V.str ++ [V.str "more"] = (e.notes ++ [("more" : Str)]).map V.str by rw [List.map_append]; rfl]
      have kn : Keep [nk] G4 (upd G4 nk (.lst ((e.notes ++ [("more" : Str)]).map V.str))) := Keep.own in1
      obtain ⟨sp1, sp2, sp3⟩ := List.nodup_append.mp S.sep
      have tri5 := TriAt.note (e.notes ++ [("more" : Str)]) g6 tri4 sp2 (fun z => sp3 nk z nk hnn rfl) q3 he
      have led5 := led4.keep kn (fun b hb => by
        rw [List.mem_singleton.mp hb]
        exact fun z => b3 (List.mem_cons_of_mem _ (List.mem_cons_of_mem _ z))) (fun b hb => by rw [List.mem_singleton.mp hb]; exact ⟨_, g6⟩)
      have nEn : E ≠ nk := fun z => b3 (by rw [← z]; exact List.mem_cons_of_mem _ List.mem_cons_self)
      have npn : p ≠ nk := fun z => b3 (by rw [← z]; exact List.mem_cons_self)
      have npl : p ≠ l := fun z => pns (by rw [z]; exact hlm)
      have S' : StX C ps (cap + 1) p (upd G4 nk (.lst ((e.notes ++ [("more" : Str)]).map V.str))) ⟨q, E, A, ms, ns, rs, mm, nn, Lf, Df, Nf⟩ (es.set k (noteE e (e.notes ++ [("more" : Str)]))) :=
        ⟨led5, kn.at ent4 (nin1 nEn), tri5, S.rnd, S.sep, S.tree.congr (map_put (e := e) (e' := noteE e (e.notes ++ [("more" : Str)])) Ent.mem he rfl).symm, same ⟨⟨s1, s2, s3, s4, s5, ⟨by show (e.notes ++ [("more" : Str)]).length ≤ 60; omega, fun y hy => by
          rcases List.mem_append.mp hy with z | z
          · exact s6.2 y z
          · rw [List.mem_singleton.mp z]; exact tm⟩, s7, s8⟩, nl, sk⟩, S.row.put he rfl, S.nE, S.np⟩
      have kA5 : KindsAt CK (upd G4 nk (.lst ((e.notes ++ [("more" : Str)]).map V.str))) A.kd ps := (kin.lists k4 fun b hb => by rw [List.mem_singleton.mp hb]; exact S.led.notes.is l hlm).lists kn fun b hb => by rw [List.mem_singleton.mp hb]; exact ⟨_, g6⟩
      exact kk _ ⟨q, E, A, ms, ns, rs, mm, nn, Lf, Df, Nf⟩ _ ⟨rfl, rfl, rfl, fun b hb => .inl hb⟩ (kz.trans ((k4.more fun b hb => by rw [List.mem_singleton.mp hb]; exact List.mem_cons_of_mem _ (zN l hlm)).trans (kn.more fun b hb => by rw [List.mem_singleton.mp hb]; exact List.mem_cons_of_mem _ (zNN nk hnn)))) S' (by rw [List.length_set]; exact Nat.le_refl _) (by rw [List.length_set]; omega) kA5 ((potG.keep k4 (nin1 npl)).keep kn (nin1 npn))
end
end Fs
/-! The law: a bare ledger refuses. -/
namespace Fs
open PySem L2 TL
abbrev sBare : Stmt := top 46 --def _law_bare_right
abbrev nBare : List Str := ["_law_pairs_here", "_law_ledger_here", "_law_door", "_law_thing"]
theorem scBare : FnScope nBare ["_law_pairs_here"] (defScope sBare) := ⟨rfl, rfl, rfl, by decide +kernel, rfl, by decide +kernel, by decide +kernel⟩
structure BRx (K : PySem.W.Frag) (mg : Str → Option Value) (C CK fI fIK fRf fMa : Addr) : Prop where
  cl : Cls K C
  gC : mg "Ledger" = some (.ref C)
  gK : mg "Kinds" = some (.ref CK)
  mkC : Mk K C fI
  mkK : Mk K CK fIK
  mM : Meth K C "many" fMa
  gR : mg "_law_refusal" = some (.ref fRf)
  kR : PySem.W.keepIn K (.ref fRf) = true
  list : mg "list" = none
  range : mg "range" = none
  int : mg "int" = none
theorem flmany (A : LA) : (fldsL A).lookup ("many" : Str) = none := rfl
def refD2 (c : Cl) : PyData := .tuple [.str "refused", .str c.word]
theorem refD2_dp {K : PySem.W.Frag} {H : Hp} {t : Addr} {c : Cl} (h : H t = some (.tup [.str "refused", .str c.word])) : Dp K H (.ref t) (refD2 c) := .tup (SqT.of h) (.cons (.str _) (.cons (.str _) .nil))
theorem refD2_shaped (c : Cl) : SeqAt.shaped (refD2 c) = true := by cases c <;> decide +kernel
theorem refD2_eqv (c : Cl) : PyData.eqv (refD2 c) (refD2 c) = true := by cases c <;> decide +kernel
theorem dueG_fault {ps : List (Str × Str)} {d : Nat} {a b : Tg} (h2 : 2 ≤ d) (hF : a.isF 0 = false) : dueG ps [] d a b = some .fault := by
  unfold dueG
  rw [if_neg (by omega), if_neg (by omega), if_pos (.inl hF)]
def spBare (Pt : Addr) : Sp := fun vs H Q _ => ∃ (l : Addr) (ps : List (Str × Str)), vs = [.ref l] ∧ PairsAt H l ps ∧ Wf ps ∧ ps.length ≤ 30 ∧ GxR.TabG H Pt ∧ ∀ H', Keep [Pt] H H' → Q (.bl true) H'
section
variable {P : Program} {w : World} {K : PySem.W.Frag} {mg : Str → Option Value} {base : Heap} {C CK fI fIK fRf fMa Pt : Addr} {AA : CA}
theorem ok_bare {dI dIK dRf dMa fd : FuncData} {f : Addr} (F : Fun K "_law_bare_right" "_law_bare_right" sBare f fd) (T : BRx K mg C CK fI fIK fRf fMa) (FI : FnOk P w K mg base CX0 1 fI dI ["self", "kinds"] (spLInit C)) (bI : Binds K dI ["self", "kinds"] [])
    (FIK : FnOk P w K mg base CX0 4 fIK dIK ["self", "pairs"] (spKInit CK Pt)) (bIK : Binds K dIK ["self", "pairs"] []) (FR : FnOk P w K mg base CX0 6 fRf dRf aCld (spRfs C CK AA)) (bR : Binds K dRf aCld []) (FM : FnOk P w K mg base CX0 1 fMa dMa ["self"] (spMany C)) (bM : Binds K dMa ["self"] []) :
    FnOk P w K mg base CX0 7 f fd ["_law_pairs_here"] (spBare Pt) := by
  refine F.ok scBare (fun vs H Q E h => ?_) (fun cdv A0 outer s H vs Q Es hr h => ?_)
  · obtain ⟨l, ps, rfl, _⟩ := h
    rfl
  · obtain ⟨l, ps, rfl, hP, hw, hps, hTG, kk⟩ := h
    obtain ⟨tb0, hT, hTo⟩ := hTG
    have hr1 : Room 1 _ := hr.mono (by decide)
    have hr2 : Room 2 _ := hr.mono (by decide)
    have hr5 : Room 5 _ := hr.mono (by decide)
    have hr6 : Room 6 _ := hr.mono (by decide)
    have hu := hr.units
    refine ⟨_, pss_cons (ps_set (i := 1) scBare.nd rfl (Or.inl rfl) (pe_make T.mkC FI hr2 rfl T.gC bI .nil pass0 (pa_cons (pe_make T.mkK FIK hr5 rfl T.gK bIK .nil pass0 (pa_cons (pe_callTy call_list_of (by rfl) T.list (by decide +kernel) (pa_cons (pv 0) pa_nil)) pa_nil)) pa_nil)))
      (pss_cons (ps_for PassesOwn.never rfl (pi_range2 (by rfl) T.range (pa_cons pe_int (pa_cons pe_int pa_nil))) (pg_name (i := 2) scBare.nd rfl (Or.inl rfl))
        (pss_one (ps_for PassesOwn.never rfl (pi_tup (pe_tup (pa_cons pe_int (pa_cons (pe_un un_neg pe_int) (pa_cons pe_non pa_nil))))) (pg_name (i := 3) scBare.nd rfl (Or.inl rfl))
          (pss_one (ps_if (pt_cmpR (op_neD hu) (pe_call FR hr6 rfl T.gR T.kR bR .nil pass0 (pa_cons (pv 1) (pa_cons (pv 2) (pa_cons (pv 3) (pa_cons (pe_ix ix_list (pe_lst (pa_cons pe_non (pa_cons (pe_lst pa_nil) pa_nil))) (pe_callTy call_int1 (by rfl) T.int (by decide +kernel) (pa_cons (pe_cmpR op_eq (pv 2) pe_int (nomark _)) pa_nil)) (fun _ _ => rfl)) pa_nil))))) (pe_tup (pa_cons pe_str (pa_cons pe_str pa_nil))) (nomark _)) (pss_one (ps_ret pe_bl)) pss_nil)))))
      (pss_cons (ps_if (pt_cmpR (op_neD hu) (pe_call FR hr6 rfl T.gR T.kR bR .nil pass0 (pa_cons (pv 1) (pa_cons pe_int (pa_cons pe_str (pa_cons (pe_lst (pa_cons pe_int pa_nil)) pa_nil))))) (pe_tup (pa_cons pe_str (pa_cons pe_str pa_nil))) (nomark _)) (pss_one (ps_ret pe_bl)) pss_nil)
      (pss_one (ps_ret (pe_and (pe_cmpR (op_eqD hu) (pe_call FR hr6 rfl T.gR T.kR bR .nil pass0 (pa_cons (pv 1) (pa_cons pe_int (pa_cons pe_str (pa_cons (pe_lst pa_nil) pa_nil))))) (pe_tup (pa_cons pe_str (pa_cons pe_str pa_nil))) (nomark _)) (pe_one (pe_cmpR op_eq (pe_meth0 (pv 1) T.cl T.mM FM hr1 bM .nil pass0) pe_int (nomark _)))))))), ?_⟩
    -- list(pairs)
    obtain ⟨as, el, tl⟩ := id hP
    refine ⟨_, rfl, l, _, rfl, .inl (SqL.of el), fun l2 hl2 => ?_⟩
    have k3 : Keep [] H (upd H l2 (.lst (as.map V.ref))) := Keep.new hl2
    have P3 : PairsAt (upd H l2 (.lst (as.map V.ref))) l2 ps := ⟨as, upd_same, tl.map fun a xs q => k3.at q nin0⟩
    generalize (upd H l2 (.lst (as.map V.ref))) = H3 at k3 P3 ⊢
    -- Kinds(..)
    intro kd kx nkd nkx nkk
    have k4 : Keep [] H3 (upd (upd H3 kx (.own kd)) kd (.ins CK kx [])) := fun b o _ e => by
      rw [upd_ne (ne_of_none e nkd), upd_ne (ne_of_none e nkx)]
      exact e
    have e4 : (upd (upd H3 kx (.own kd)) kd (.ins CK kx [])) kd = some (.ins CK kx []) := upd_same
    generalize (upd (upd H3 kx (.own kd)) kd (.ins CK kx [])) = H4 at k4 e4 ⊢
    have hT4 : H4 Pt = some (.tbl tb0) := k4.at (k3.at hT nin0) nin0
    have P4 : PairsAt H4 l2 ps := P3.keep k4 nin0 (fun b z => absurd z nin0)
    refine ⟨kd, l2, kx, ps, rfl, e4, P4, hw, hps, ⟨tb0, hT4, hTo⟩, fun H5 k5 K5 T5 => ⟨rfl, ?_⟩⟩
    have kk4 : Keep [Pt] H H4 := (k3.more fun b z => absurd z nin0).trans (k4.more fun b z => absurd z nin0)
    have hnkd : H kd = none := Keep.free k3 nkd nin0
    have kk5 : Keep [Pt] H H5 := kk4.late k5 fun b hb => by
      rcases List.mem_cons.mp hb with z | z
      · exact .inr (by rw [z]; exact hnkd)
      · exact .inl (List.mem_singleton.mp z)
    obtain ⟨tb5, eT5, oT5⟩ := T5
    -- Ledger(..)
    intro q qx nq nqx nqq
    have k6 : Keep [] H5 (upd (upd H5 qx (.own q)) q (.ins C qx [])) := fun b o _ e => by
      rw [upd_ne (ne_of_none e nq), upd_ne (ne_of_none e nqx)]
      exact e
    have e6 : (upd (upd H5 qx (.own q)) q (.ins C qx [])) q = some (.ins C qx []) := upd_same
    generalize (upd (upd H5 qx (.own q)) q (.ins C qx [])) = H6 at k6 e6 ⊢
    refine ⟨q, kd, qx, rfl, e6, fun H7 A hA k7 led7 hnA => ⟨rfl, ?_⟩⟩
    have kk6 : Keep [Pt] H H6 := kk5.trans (k6.more fun b z => absurd z nin0)
    have hqT : q ≠ Pt := fun z => by rw [z, eT5] at nq; cases nq
    have hnq : H q = none := Keep.free kk5 nq (nin1 hqT)
    have kk7 : Keep [Pt] H H7 := kk6.late k7 fun b hb => .inr (by rw [List.mem_singleton.mp hb]; exact hnq)
    have K7 : KindsAt CK H7 A.kd ps := by
      rw [hA]
      obtain ⟨dx, d, g1, g2⟩ := K5
      have n1 : kd ≠ q := ne_of_none g1 nq
      have n2 : d ≠ q := ne_of_none g2 nq
      exact ⟨dx, d, k7.at (k6.at g1 nin0) (nin1 n1), k7.at (k6.at g2 nin0) (nin1 n2)⟩
    have noE : ∀ e ∈ ([] : List Ent), ∀ m ∈ e.mem, m < ([] : List Ent).length := fun e h => absurd h List.not_mem_nil
    have noS : ∀ e ∈ ([] : List Ent), e.mem.length ≤ 6 := fun e h => absurd h List.not_mem_nil
    have led : ∀ {G : Hp}, Keep [] H7 G → LedAt C G q A [] [] [] := fun k => led7.keep k (fun b z => absurd z nin0) (fun b z => absurd z nin0)
    have kin : ∀ {G : Hp}, Keep [] H7 G → KindsAt CK G A.kd ps := fun k => K7.lists k (fun b z => absurd z nin0)
    refine ⟨_, _, rfl, by decide, ?_⟩
    refine for_range (lo := 2) (n := 13) (fun i σ G => ∃ v2 v3 : Option V, σ = [some (.ref l), some (.ref q), v2, v3] ∧ Keep [] H7 G) ⟨none, none, rfl, Keep.refl _ _⟩ ?_ ?_
    · rintro i σ G hi ⟨v2, v3, rfl, kG⟩
      have z1 : (2 : Int) + (i : Int) = ((i + 2 : Nat) : Int) := by omega
      refine ⟨_, rfl, (by show 3 ≤ sizeLine; decide), fun t ht => ?_⟩
      have k1 : Keep [] G (upd G t (.tup [.int 0, .int (-1), .non])) := Keep.new ht
      have e1 : (upd G t (.tup [.int 0, .int (-1), .non])) t = some (.tup [.int 0, .int (-1), .non]) := upd_same
      generalize (upd G t (.tup [.int 0, .int (-1), .non])) = G1 at k1 e1 ⊢
      refine ⟨t, rfl, ⟨_, SqT.of e1⟩, ?_⟩
      refine for_tup (K := K) (a := t) (xs := [.int 0, .int (-1), .non]) (fun j σ G' => Keep [] G1 G' ∧ ∃ v3 : Option V, σ = [some (.ref l), some (.ref q), some (.int (2 + (i : Int))), v3]) ⟨Keep.refl _ _, ⟨_, rfl⟩⟩ (fun j σ G' _ hh => SqT.of (hh.1.at e1 nin0)) ?_ ?_
      · rintro j x σ G' hx ⟨kj, ⟨v3, rfl⟩⟩
        have kG1 := kG.trans (k1.trans kj)
        have ex : ∃ a : Tg, TgAt [] G' a x ∧ a.isF 0 = false := by
          rcases j with _ | _ | _ | j
          · exact ⟨.int 0, by simp only [TgAt]; exact (Option.some.inj hx).symm, rfl⟩
          · exact ⟨.int (-1), by simp only [TgAt]; exact (Option.some.inj hx).symm, rfl⟩
          · exact ⟨.non, by simp only [TgAt]; exact (Option.some.inj hx).symm, rfl⟩
          · simp at hx
        obtain ⟨a, ha, hF⟩ := ex
        refine ⟨_, rfl, _, rfl, _, rfl, (by show 0 ≤ sizeLine; decide), fun e0 he0 => ?_⟩
        have k2 : Keep [] G' (upd G' e0 (.lst [])) := Keep.new he0
        have f2 : (upd G' e0 (.lst [])) e0 = some (.lst []) := upd_same
        generalize (upd G' e0 (.lst [])) = G2 at k2 f2 ⊢
        refine ⟨(by show 2 ≤ sizeLine; decide), fun L hLn => ?_⟩
        have k3 : Keep [] G2 (upd G2 L (.lst [.non, .ref e0])) := Keep.new hLn
        have f3 : (upd G2 L (.lst [.non, .ref e0])) L = some (.lst [.non, .ref e0]) := upd_same
        generalize (upd G2 L (.lst [.non, .ref e0])) = G3 at k3 f3 ⊢
        have k23 := k2.trans k3
        have kG3 := kG1.trans k23
        have a3 := ha.keep0 k23
        have e03 := k3.at f2 nin0
        have fin : ∀ {G4 : Hp}, Keep [] G3 G4 → Keep [] G1 G4 := fun k => (kj.trans k23).trans k
        refine ⟨_, rfl, rfl, .inr ⟨_, rfl, ?_⟩⟩
        by_cases h2 : i = 0
        · rw [decide_eq_true (show V.int (2 + (i : Int)) = V.int 2 by rw [h2]; rfl)]
          refine ⟨L, _, 1, .ref e0, rfl, rfl, SqL.of f3, rfl, ?_⟩
          refine ⟨q, A, [], [], [], ps, [], i + 2, a, .lst [], x, .ref e0, .fault, by rw [← z1]; rfl, by omega, led kG3, kin kG3, hw, noE, noS, a3, by simp only [TgAt]; exact ⟨e0, [], rfl, nin0, e03, by simp only [TgsAt]⟩, dueG_fault (by omega) hF, fun _ => ⟨[], rfl⟩, fun _ _ => True.intro, fun t5 G4 k4 ht4 et4 => ?_⟩
          refine ⟨(by show 2 ≤ sizeLine; decide), fun t6 ht6 => ?_⟩
          refine ⟨refD2 .fault, refD2 .fault, refD2_dp ((Keep.new ht6 (ex := [])).at et4 nin0), refD2_dp (c := .fault) upd_same, refD2_shaped _, refD2_shaped _, _, rfl, ?_⟩
          rw [refD2_eqv]
          exact iteF ⟨fin (k4.newTo ht6), ⟨_, rfl⟩⟩
        · rw [decide_eq_false (show ¬ V.int (2 + (i : Int)) = V.int 2 from fun z => h2 (by have := V.int.inj z; omega))]
          refine ⟨L, _, 0, .non, rfl, rfl, SqL.of f3, rfl, ?_⟩
          refine ⟨q, A, [], [], [], ps, [], i + 2, a, .non, x, .non, .fault, by rw [← z1]; rfl, by omega, led kG3, kin kG3, hw, noE, noS, a3, by simp only [TgAt], dueG_fault (by omega) hF, fun z => absurd z (by omega), fun _ _ => True.intro, fun t5 G4 k4 ht4 et4 => ?_⟩
          refine ⟨(by show 2 ≤ sizeLine; decide), fun t6 ht6 => ?_⟩
          refine ⟨refD2 .fault, refD2 .fault, refD2_dp ((Keep.new ht6 (ex := [])).at et4 nin0), refD2_dp (c := .fault) upd_same, refD2_shaped _, refD2_shaped _, _, rfl, ?_⟩
          rw [refD2_eqv]
          exact iteF ⟨fin (k4.newTo ht6), ⟨_, rfl⟩⟩
      · rintro σ G' ⟨kj, ⟨v3, rfl⟩⟩
        exact ⟨_, _, rfl, kG.trans (k1.trans kj)⟩
    · rintro σ G ⟨v2, v3, rfl, kG⟩
      -- [0]
      refine ⟨_, rfl, (by show 1 ≤ sizeLine; decide), fun e0 he0 => ?_⟩
      have k1 : Keep [] G (upd G e0 (.lst [.int 0])) := Keep.new he0
      have f1 : (upd G e0 (.lst [.int 0])) e0 = some (.lst [.int 0]) := upd_same
      generalize (upd G e0 (.lst [.int 0])) = G1 at k1 f1 ⊢
      have kG1 := kG.trans k1
      refine ⟨q, A, [], [], [], ps, [], 1, .str "", .lst [.int 0], _, _, .fault, rfl, by decide, led kG1, kin kG1, hw, noE, noS, by simp only [TgAt]; exact ⟨True.intro, tx_c _ (by decide +kernel)⟩, by simp only [TgAt]; exact ⟨e0, [.int 0], rfl, nin0, f1, by simp only [TgsAt, TgAt]; exact ⟨True.intro, True.intro⟩⟩, rfl, fun _ => ⟨_, rfl⟩, fun z => absurd z (by decide), fun t5 G4 k4 ht4 et4 => ?_⟩
      refine ⟨(by show 2 ≤ sizeLine; decide), fun t6 ht6 => ?_⟩
      refine ⟨refD2 .fault, refD2 .fault, refD2_dp ((Keep.new ht6 (ex := [])).at et4 nin0), refD2_dp (c := .fault) upd_same, refD2_shaped _, refD2_shaped _, _, rfl, ?_⟩
      rw [refD2_eqv]
      refine iteF ?_
      have kG5 := kG1.trans (k4.newTo (o := .tup [.str "refused", .str "fault"]) ht6)
      generalize upd G4 t6 (.tup [.str "refused", .str "fault"]) = G5 at kG5 ⊢
      -- []
      refine ⟨_, rfl, (by show 0 ≤ sizeLine; decide), fun e7 he7 => ?_⟩
      have k7 : Keep [] G5 (upd G5 e7 (.lst [])) := Keep.new he7
      have f7 : (upd G5 e7 (.lst [])) e7 = some (.lst []) := upd_same
      generalize (upd G5 e7 (.lst [])) = G7 at k7 f7 ⊢
      have kG7 := kG5.trans k7
      refine ⟨q, A, [], [], [], ps, [], 1, .str "", .lst [], _, _, .empty, rfl, by decide, led kG7, kin kG7, hw, noE, noS, by simp only [TgAt]; exact ⟨True.intro, tx_c _ (by decide +kernel)⟩, by simp only [TgAt]; exact ⟨e7, [], rfl, nin0, f7, by simp only [TgsAt]⟩, rfl, fun _ => ⟨_, rfl⟩, fun z => absurd z (by decide), fun t8 G8 k8 ht8 et8 => ?_⟩
      refine ⟨(by show 2 ≤ sizeLine; decide), fun t9 ht9 => ?_⟩
      refine ⟨refD2 .empty, refD2 .empty, refD2_dp ((Keep.new ht9 (ex := [])).at et8 nin0), refD2_dp (c := .empty) upd_same, refD2_shaped _, refD2_shaped _, _, rfl, ?_⟩
      rw [refD2_eqv]
      have kG9 := kG7.trans (k8.newTo (o := .tup [.str "refused", .str "empty"]) ht9)
      generalize upd G8 t9 (.tup [.str "refused", .str "empty"]) = G9 at kG9 ⊢
      refine iteT ?_
      have L9 := led kG9
      refine ⟨_, rfl, q, A.dx, _, rfl, L9.ins, flmany A, q, A, [], [], [], rfl, L9, ?_⟩
      refine ⟨rfl, ?_⟩
      exact kk G9 (kk7.trans (kG9.more fun b z => absurd z nin0))
end
end Fs
/-! The law's scene. -/
namespace Fs
open PySem L2 TL
theorem passX0 {P : Program} {w : World} {X : Cx} : Passes (L2.CX P w) X E0 := fun _ _ _ _ _ _ _ h => by
  obtain ⟨_, _, _, _, _, _, _, _, _, _, _, _, h⟩ := h
  exact h.elim
theorem TabG.keep {H H' : Hp} {Pt : Addr} {ex : List Addr} (h : GxR.TabG H Pt) (k : Keep ex H H') (hx : ∀ b ∈ ex, ∃ xs, H b = some (.lst xs)) : GxR.TabG H' Pt := by
  obtain ⟨tb, e, o⟩ := h
  refine ⟨tb, k.at e (fun z => ?_), o⟩
  obtain ⟨xs, q⟩ := hx Pt z
  rw [e] at q; cases q
theorem nin2 {a b c : Addr} (h : a ≠ b) (g : a ≠ c) : a ∉ [b, c] := by simp [h, g]
theorem Keep.lateX {H H1 H2 : Hp} {E ex : List Addr} (k : Keep E H H1) (k2 : Keep ex H1 H2) (hx : ∀ b ∈ ex, b ∈ E ∨ H b = none) : Keep E H H2 := fun b o hb e => k2 b o (fun z => by
  rcases hx b z with q | q
  · exact hb q
  · rw [q] at e; cases e) (k b o hb e)
/-- the law's rows, ahead of the ledger -/
structure EnS (ps : List (Str × Str)) (H : Hp) (p E : Addr) (rs mm nn : List Addr) (es : List Ent) (Lf Df Nf : Nat → Nat) : Prop where
  ent : H E = some (.lst (rs.map V.ref))
  tri : TriAt [p, E] H rs mm nn es
  rnd : rs.Nodup
  sep : (mm ++ nn).Nodup
  tree : Tree es Lf Df Nf
  built : Built ps es
theorem EnS.more {ps : List (Str × Str)} {H H' : Hp} {p E r B l2 : Addr} {rs mm nn : List Addr} {es : List Ent} {Lf Df Nf : Nat → Nat} {e : Ent} {a d : Nat} (S : EnS ps H p E rs mm nn es Lf Df Nf) (hf : Fresh ps es.length e)
    (ha : a = (if e.mem = [] then 1 else (e.mem.map Lf).sum)) (h60 : a ≤ 60) (hd : d ≤ 12) (hd0 : e.mem = [] → d = 0) (hd1 : ∀ m ∈ e.mem, Df m + 1 ≤ d) (hd2 : e.mem ≠ [] → ∃ m ∈ e.mem, d = Df m + 1)
    (k : Keep [E] H H') (hp : ∃ xs, H p = some (.lst xs)) (e7 : H' E = some (.lst ((rs ++ [r]).map V.ref))) (er : H' r = some (.lst [.str e.kind, .str e.text, .ref B, .ref l2, optV e.cause, optV e.atw])) (eB : H' B = some (.lst (memV e.mem))) (el : H' l2 = some (.lst (e.notes.map V.str)))
    (hr0 : H r = none) (hB0 : H B = none) (hl0 : H l2 = none) (nBl : B ≠ l2) :
    EnS ps H' p E (rs ++ [r]) (mm ++ [B]) (nn ++ [l2]) (es ++ [e]) (put Lf es.length a) (put Df es.length d) (put Nf es.length (if e.mem = [] then 1 else 1 + (e.mem.map Nf).sum)) := by
  obtain ⟨px, hp⟩ := hp
  have off : ∀ b, H b = none → b ∉ [p, E] := fun b hb => nin2 (fun z => by rw [z, hp] at hb; cases hb) fun z => by rw [z, S.ent] at hb; cases hb
  have out : ∀ b, H b = none → b ∉ rs ++ (mm ++ nn) := fun b hb z => by
    obtain ⟨xs, e⟩ := S.tri.is b z
    rw [e] at hb; cases hb
  refine ⟨e7, TriAt.snoc ⟨off r hr0, off B hB0, off l2 hl0, er, eB, el⟩ (S.tri.keep (k.more fun b hb => by rw [List.mem_singleton.mp hb]; simp)), ?_, two_more S.sep (fun z => out B hB0 (List.mem_append_right _ z)) (fun z => out l2 hl0 (List.mem_append_right _ z)) nBl, S.tree.snoc hf.2.2.1 ha h60 hd hd0 hd1 hd2, S.built.snoc hf⟩
  refine List.nodup_append.mpr ⟨S.rnd, by simp, fun a ha b hb z => out r hr0 (List.mem_append_left _ ?_)⟩
  rw [← List.mem_singleton.mp hb, ← z]; exact ha
/-- a row more, as the law appends it -/
theorem EnS.row {ps : List (Str × Str)} {G : Hp} {p E r B l2 : Addr} {rs mm nn : List Addr} {es : List Ent} {Lf Df Nf : Nat → Nat} {ki te : Str} {mem : List Nat} {a d : Nat} (S : EnS ps G p E rs mm nn es Lf Df Nf) (hf : Fresh ps es.length ⟨ki, te, mem, [], none, none⟩)
    (ha : a = (if mem = [] then 1 else (mem.map Lf).sum)) (h60 : a ≤ 60) (hd : d ≤ 12) (hd0 : mem = [] → d = 0) (hd1 : ∀ m ∈ mem, Df m + 1 ≤ d) (hd2 : mem ≠ [] → ∃ m ∈ mem, d = Df m + 1)
    (hp : ∃ xs, G p = some (.lst xs)) (hB : G B = none) (hl : (upd G B (.lst (memV mem))) l2 = none) (hr : (upd (upd G B (.lst (memV mem))) l2 (.lst [])) r = none) :
    (upd (upd (upd G B (.lst (memV mem))) l2 (.lst [])) r (.lst [.str ki, .str te, .ref B, .ref l2, .non, .non])) E = some (.lst (rs.map V.ref)) ∧
    EnS ps (upd (upd (upd (upd G B (.lst (memV mem))) l2 (.lst [])) r (.lst [.str ki, .str te, .ref B, .ref l2, .non, .non])) E (.lst (rs.map V.ref ++ [V.ref r]))) p E (rs ++ [r]) (mm ++ [B]) (nn ++ [l2]) (es ++ [⟨ki, te, mem, [], none, none⟩]) (put Lf es.length a) (put Df es.length d) (put Nf es.length (if mem = [] then 1 else 1 + (mem.map Nf).sum)) ∧
    Keep [E] G (upd (upd (upd (upd G B (.lst (memV mem))) l2 (.lst [])) r (.lst [.str ki, .str te, .ref B, .ref l2, .non, .non])) E (.lst (rs.map V.ref ++ [V.ref r]))) := by
  have hl0 : G l2 = none := Keep.free (Keep.new hB (ex := [])) hl nin0
  have hr0 : G r = none := Keep.free ((Keep.new hB (ex := [])).newTo hl) hr nin0
  have k6 : Keep [] G (upd (upd (upd G B (.lst (memV mem))) l2 (.lst [])) r (.lst [.str ki, .str te, .ref B, .ref l2, .non, .non])) := ((Keep.new hB).newTo hl).newTo hr
  have eB : (upd (upd (upd G B (.lst (memV mem))) l2 (.lst [])) r (.lst [.str ki, .str te, .ref B, .ref l2, .non, .non])) B = some (.lst (memV mem)) := ((Keep.new hl (ex := [])).newTo hr).at upd_same nin0
  have el : (upd (upd (upd G B (.lst (memV mem))) l2 (.lst [])) r (.lst [.str ki, .str te, .ref B, .ref l2, .non, .non])) l2 = some (.lst []) := (Keep.new hr (ex := [])).at upd_same nin0
  have er : (upd (upd (upd G B (.lst (memV mem))) l2 (.lst [])) r (.lst [.str ki, .str te, .ref B, .ref l2, .non, .non])) r = some (.lst [.str ki, .str te, .ref B, .ref l2, .non, .non]) := upd_same
  have nBl : B ≠ l2 := ne_of_none (show upd G B (.lst (memV mem)) B = some (.lst (memV mem)) from upd_same) hl
  generalize (upd (upd (upd G B (.lst (memV mem))) l2 (.lst [])) r (.lst [.str ki, .str te, .ref B, .ref l2, .non, .non])) = G6 at k6 eB el er ⊢
  have kE : Keep [E] G6 (upd G6 E (.lst (rs.map V.ref ++ [V.ref r]))) := Keep.own in1
  have x2 : (upd G6 E (.lst (rs.map V.ref ++ [V.ref r]))) E = some (.lst ((rs ++ [r]).map V.ref)) := by rw [upd_same, List.map_append]; rfl
  generalize (upd G6 E (.lst (rs.map V.ref ++ [V.ref r]))) = G7 at kE x2 ⊢
  have neE : ∀ {b : Addr}, G b = none → b ≠ E := fun {b} h z => by rw [z, S.ent] at h; cases h
  have k7 : Keep [E] G G7 := (k6.more fun b z => absurd z nin0).trans kE
  exact ⟨k6.at S.ent nin0, S.more (e := ⟨ki, te, mem, [], none, none⟩) hf ha h60 hd hd0 hd1 hd2 k7 hp x2 (kE.at er (nin1 (neE hr0))) (kE.at eB (nin1 (neE hB))) (kE.at el (nin1 (neE hl0))) hr0 hB hl0 nBl, k7⟩
/-- where the law is -/
structure Sn (C CK Pt : Addr) (ps : List (Str × Str)) (cap mx : Nat) (H0 : Hp) (l p : Addr) (G : Hp) (X : LD) (es : List Ent) : Prop where
  S : StX C ps cap p G X es
  kin : KindsAt CK G X.A.kd ps
  pr : PairsAt G l ps
  lX : l ∉ X.zs
  lp : l ≠ p
  tab : GxR.TabG G Pt
  K : Keep [Pt] H0 G
  new : ∀ b ∈ X.zs, b = Pt ∨ H0 b = none
  nep : p = Pt ∨ H0 p = none
  len : es.length ≤ mx
  pos : 0 < es.length
section
variable {C CK Pt : Addr} {ps : List (Str × Str)} {cap mx : Nat} {H0 G G' : Hp} {l p : Addr} {X : LD} {es : List Ent}
theorem Sn.keep0 (s : Sn C CK Pt ps cap mx H0 l p G X es) (k : Keep [] G G') : Sn C CK Pt ps cap mx H0 l p G' X es :=
  ⟨St.keep0 s.S k, s.kin.lists k (fun b z => absurd z nin0), pairs_lists s.pr k nin0 (fun b z => absurd z nin0), s.lX, s.lp, TabG.keep s.tab k (fun b z => absurd z nin0), s.K.trans (k.more fun b z => absurd z nin0), s.new, s.nep, s.len, s.pos⟩
theorem Sn.keepP (s : Sn C CK Pt ps cap mx H0 l p G X es) (hp : ∃ xs, G p = some (.lst xs)) (k : Keep [p] G G') : Sn C CK Pt ps cap mx H0 l p G' X es := by
  have ls : ∀ b ∈ [p], ∃ xs, G b = some (.lst xs) := fun b hb => by rw [List.mem_singleton.mp hb]; exact hp
  exact ⟨St.keepP s.S hp k, s.kin.lists k ls, pairs_lists s.pr k (nin1 s.lp) ls, s.lX, s.lp, TabG.keep s.tab k ls, s.K.lateX k (fun b hb => by rw [List.mem_singleton.mp hb]; exact s.nep.imp (fun z => by rw [z]; exact in1) id), s.new, s.nep, s.len, s.pos⟩
theorem Sn.fre (s : Sn C CK Pt ps cap mx H0 l p G X es) {b : Addr} (hb : G b = none) : b = Pt ∨ H0 b = none := by
  by_cases z : b = Pt
  · exact .inl z
  · exact .inr (Keep.free s.K hb (nin1 z))
theorem Sn.repot (s : Sn C CK Pt ps cap mx H0 l p G X es) {p' : Addr} (k : Keep [] G G') (hp : G p' = none) : Sn C CK Pt ps cap mx H0 l p' G' X es := by
  have s' := s.keep0 k
  refine ⟨St.repot s.S k hp, s'.kin, s'.pr, s'.lX, fun z => ?_, s'.tab, s'.K, s'.new, s.fre hp, s'.len, s'.pos⟩
  obtain ⟨as, e, _⟩ := s.pr
  rw [z, hp] at e; cases e
theorem Sn.grow (s : Sn C CK Pt ps cap mx H0 l p G X es) (hp : ∃ xs, G p = some (.lst xs)) {X' : LD} {es' : List Ent} (g : Grown G X X') (k : Keep (p :: X.zs) G G') (S : StX C ps (cap + 1) p G' X' es') (h1 : es.length ≤ es'.length) (h2 : es'.length ≤ es.length + 1) (hk : KindsAt CK G' X'.A.kd ps) : Sn C CK Pt ps (cap + 1) (mx + 1) H0 l p G' X' es' := by
  have ls : ∀ b ∈ p :: X.zs, ∃ xs, G b = some (.lst xs) := fun b hb => by
    rcases List.mem_cons.mp hb with z | z
    · rw [z]; exact hp
    · exact St.all s.S b z
  refine ⟨S, hk, pairs_lists s.pr k (fun z => ?_) ls, fun z => ?_, s.lp, TabG.keep s.tab k ls, s.K.lateX k (fun b hb => ?_), fun b hb => ?_, s.nep, by have := s.len; omega, by have := s.pos; omega⟩
  · rcases List.mem_cons.mp z with z | z
    · exact s.lp z
    · exact s.lX z
  · rcases g.zs l z with z | z
    · exact s.lX z
    · obtain ⟨as, e, _⟩ := s.pr
      rw [z] at e; cases e
  · have q : b = Pt ∨ H0 b = none := by
      rcases List.mem_cons.mp hb with z | z
      · rw [z]; exact s.nep
      · exact s.new b z
    exact q.imp (fun z => by rw [z]; exact in1) id
  · rcases g.zs b hb with z | z
    · exact s.new b z
    · exact s.fre z
theorem Sn.small (s : Sn C CK Pt ps cap mx H0 l p G X es) (h : mx ≤ 60) : AllSmall es := fun e he => (s.S.sm e he).1.le (by have := s.len; omega)
end
theorem shw_two {a b : Tg} (ha : Shw 402 a) (hb : Shw 3000 b) : (tgD (.lst [a, b])).showable = true ∧ (tgD (.lst [a, b])).depth ≤ 60 ∧ (tgD (.lst [a, b])).shown.length ≤ sizeLine := by
  obtain ⟨x, y, z⟩ := shw_lst (l := [a, b]) (n := 3000) (d := 5) (k := 2) (Nat.le_refl _) fun t ht => by
    rcases List.mem_cons.mp ht with q | q
    · rw [q]; exact ha.le (by decide)
    · rw [List.mem_singleton.mp q]; exact hb
  exact ⟨x, Nat.le_trans y (by decide), Nat.le_trans z (by decide)⟩
theorem tg_two {H : Hp} {L : Addr} {a b : Tg} {va vb : V} (e : H L = some (.lst [va, vb])) (ha : TgAt [] H a va) (hb : TgAt [] H b vb) : TgAt [] H (.lst [a, b]) (.ref L) := by
  simp only [TgAt]
  exact ⟨L, [va, vb], rfl, nin0, e, by simp only [TgsAt]; exact ⟨ha, hb, True.intro⟩⟩
end Fs
/-! The law: a turn. -/
namespace Fs
open PySem L2 TL
abbrev sLaw : Stmt := top 48 --def law
abbrev nLaw : List Str := ["_law_script", "_law_pairs_here", "_law_pot_here", "_law_entries_here", "_law_ledger_here", "_law_k", "_law_door", "_law_a", "_law_b", "_law_kept", "_law_due_here"]
theorem scLaw : FnScope nLaw ["_law_script"] (defScope sLaw) := ⟨rfl, rfl, rfl, by decide +kernel, rfl, by decide +kernel, by decide +kernel⟩
abbrev bTurn : List Stmt := inFor ((defBody sLaw).getD 8 (.Pass ⟨0, 0, 0, 0⟩))
structure ATxt (K : PySem.W.Frag) (mg : Str → Option Value) (C fPo fPa fEn fLe fMk fDg fAr fDu fRf fTo fGd fBa fLd fLp : Addr) : Prop where
  cl : Cls K C
  mD : Meth K C "led" fLd
  mL : Meth K C "leaves" fLp
  gPo : mg "_law_pot" = some (.ref fPo)
  kPo : PySem.W.keepIn K (.ref fPo) = true
  gPa : mg "_law_pairs" = some (.ref fPa)
  kPa : PySem.W.keepIn K (.ref fPa) = true
  gEn : mg "_law_entries" = some (.ref fEn)
  kEn : PySem.W.keepIn K (.ref fEn) = true
  gLe : mg "_law_ledger" = some (.ref fLe)
  kLe : PySem.W.keepIn K (.ref fLe) = true
  gMk : mg "_law_marked" = some (.ref fMk)
  kMk : PySem.W.keepIn K (.ref fMk) = true
  gDg : mg "_law_digit" = some (.ref fDg)
  kDg : PySem.W.keepIn K (.ref fDg) = true
  gAr : mg "_law_arguments" = some (.ref fAr)
  kAr : PySem.W.keepIn K (.ref fAr) = true
  gDu : mg "_law_due" = some (.ref fDu)
  kDu : PySem.W.keepIn K (.ref fDu) = true
  gRf : mg "_law_refusal" = some (.ref fRf)
  kRf : PySem.W.keepIn K (.ref fRf) = true
  gTo : mg "_law_told" = some (.ref fTo)
  kTo : PySem.W.keepIn K (.ref fTo) = true
  gGd : mg "_law_good_done" = some (.ref fGd)
  kGd : PySem.W.keepIn K (.ref fGd) = true
  gBa : mg "_law_bare_right" = some (.ref fBa)
  kBa : PySem.W.keepIn K (.ref fBa) = true
  len : mg "len" = none
  max : mg "max" = none
  min : mg "min" = none
  range : mg "range" = none
  repr : mg "repr" = none
section
variable {P : Program} {w : World} {K : PySem.W.Frag} {mg : Str → Option Value} {base : Heap} {C CK Pt fPo fPa fEn fLe fMk fDg fAr fDu fRf fTo fGd fBa fLd fLp : Addr} {AA : CA}
theorem turn_6 {dTo dGd : FuncData} {f : Addr} (T : ATxt K mg C fPo fPa fEn fLe fMk fDg fAr fDu fRf fTo fGd fBa fLd fLp)
    (FTo : FnOk P w K mg base CX0 4 fTo dTo ["_law_ledger_here"] (spTold C)) (bTo : Binds K dTo ["_law_ledger_here"] []) (FGd : FnOk P w K mg base CX0 4 fGd dGd aGd (spGd C CK)) (bGd : Binds K dGd aGd [])
    (cdv : Value) (A0 : Around) (outer : List Env) (s : Shared) (Hs : Hp) (Es : XK) (hg : A0.guards = some []) (hr : Room 7 (A0.deeper (PyProof.Rows.envOfC "law" (defScope sLaw) s.heap.objs.size f cdv))) :
    ∃ t, PSs (cxOf CX0 P w K mg base nLaw "law" (defScope sLaw) f cdv A0 outer s Hs Es).nox (bTurn.drop 6) t ∧
      ∀ (ps : List (Str × Str)) (cap mx n : Nat) (H0 : Hp) (l p : Addr) (X : LD) (es : List Ent) (De : Ends) (G : Hp) (a b : Tg) (va vb : V) (v0 v5 v6 v10 : Option V), cap < 40 → mx ≤ 40 → Wf ps → ps.length ≤ 8 → PotAt G p n → n < 2 ^ 30 → Shw 402 a → Shw 3000 b → TgAt [] G a va → TgAt [] G b vb → Sn C CK Pt ps cap mx H0 l p G X es →
        (∀ (H' : Hp) (X' : LD) (es' : List Ent), X'.q = X.q → X'.F = X.F → Sn C CK Pt ps (cap + 1) (mx + 1) H0 l p H' X' es' → De.nx [v0, some (.ref l), some (.ref p), some (.ref X.F), some (.ref X.q), v5, v6, some va, some vb, some (.str (tgD (.lst [a, b])).shown), v10] H') →
        t De [v0, some (.ref l), some (.ref p), some (.ref X.F), some (.ref X.q), v5, v6, some va, some vb, some (.str (tgD (.lst [a, b])).shown), v10] G := by
  have hr4 : Room 4 _ := hr.mono (by decide)
  have hu := hr.units
  have hgX : (cxOf CX0 P w K mg base nLaw "law" (defScope sLaw) f cdv A0 outer s Hs Es).nox.A.guards = some [] := hg
  refine ⟨_, pss_cons (ps_if (PW.pt (pw_or (pt_cmpR op_ne (pe_callB (call_reprT hgX hu) (by rfl) T.repr (by decide +kernel) (pa_cons (pe_lst (pa_cons (pv 7) (pa_cons (pv 8) pa_nil))) pa_nil)) (pv 9) (nomark _)) (pw_or1 (pt_cmpR op_ne (pe_callB (call_reprD hgX hu) (by rfl) T.repr (by decide +kernel) (pa_cons (pe_call FTo hr4 rfl T.gTo T.kTo bTo .nil pass0 (pa_cons (pv 4) pa_nil)) pa_nil)) (pe_callB (call_reprD hgX hu) (by rfl) T.repr (by decide +kernel) (pa_cons (pv 3) pa_nil)) (nomark _))))) (pss_one (ps_ret pe_bl)) pss_nil)
    (pss_one (ps_if (pt_not (pt_val (pe_call FGd hr4 rfl T.gGd T.kGd bGd .nil pass0 (pa_cons (pv 2) (pa_cons (pv 4) (pa_cons (pv 3) pa_nil)))))) (pss_one (ps_ret pe_bl)) pss_nil)), ?_⟩
  intro ps cap mx n H0 l p X es De G a b va vb v0 v5 v6 v10 hcap hmx hw h8 pot hn ok1 ok2 ha hb sn kk
  obtain ⟨w1, w2, w3⟩ := shw_two ok1 ok2
  refine ⟨_, rfl, _, rfl, (by show 2 ≤ sizeLine; decide), fun L2 hL2 => ?_⟩
  have k3 : Keep [] G (upd G L2 (.lst [va, vb])) := Keep.new hL2
  have e3 : (upd G L2 (.lst [va, vb])) L2 = some (.lst [va, vb]) := upd_same
  generalize (upd G L2 (.lst [va, vb])) = G3 at k3 e3 ⊢
  have s3 := sn.keep0 k3
  refine ⟨L2, [], a, [b], rfl, tg_two e3 (ha.keep0 k3) (hb.keep0 k3), w1, w2, w3, ?_⟩
  refine ⟨_, rfl, rfl, _, rfl, iteNS rfl ?_⟩
  -- told
  refine ⟨_, rfl, X.q, X.A, X.ms, X.ns, es, rfl, s3.S.led, by have := s3.len; omega, fun G4 F k4 hF tF => ?_⟩
  have s4 := s3.keep0 k4
  obtain ⟨o1, o2, o3, o4⟩ := ents_ok (s4.small (by omega)) (by have := s4.len; omega)
  have d2 : Dp K G4 (.ref X.F) (entsD es) := ToldAt.dp ⟨X.rs, s4.S.ent, s4.S.tri.rows⟩
  refine ⟨F, entsD es, rfl, tF.dp, o1, o2, o3, o4, _, rfl, X.F, entsD es, rfl, d2, o1, o2, o3, o4, rfl, _, rfl, iteNS rfl ?_⟩
  -- a good deed
  have pot4 := (pot.keep k3 nin0).keep k4 nin0
  refine ⟨_, rfl, _, rfl, _, rfl, ps, p, X, es, n, cap, rfl, pot4, by omega, s4.S, by omega, s4.pos, by have := s4.len; omega, hw, by omega, s4.kin, fun H' X' es' g k S' l1 l2 kin' pot' => ⟨true, rfl, iteF ?_⟩⟩
  exact kk H' X' es' g.q g.F (s4.grow pot4.some g k S' l1 l2 kin')
end
end Fs
/-! The law: a turn. -/
namespace Fs
open PySem L2 TL
theorem ite_and {A B C : Prop} {b : Prop} [Decidable b] (h1 : b → B) (h2 : ¬ b → A) : if (!decide b) = true then A else B := by
  by_cases h : b
  · rw [decide_eq_true h]; exact h1 h
  · rw [decide_eq_false h]; exact h2 h
section
variable {P : Program} {w : World} {K : PySem.W.Frag} {mg : Str → Option Value} {base : Heap} {C CK Pt fPo fPa fEn fLe fMk fDg fAr fDu fRf fTo fGd fBa fLd fLp : Addr} {AA : CA}
theorem turn_2 {dDg dAr dDu dRf dTo dGd : FuncData} {f : Addr} (T : ATxt K mg C fPo fPa fEn fLe fMk fDg fAr fDu fRf fTo fGd fBa fLd fLp)
    (FDg : FnOk P w K mg base CX0 1 fDg dDg ["_law_pot_here", "_law_many"] spDigit) (bDg : Binds K dDg ["_law_pot_here", "_law_many"] []) (FAr : FnOk P w K mg base CX0 5 fAr dAr aArg spArg) (bAr : Binds K dAr aArg [])
    (FDu : FnOk P w K mg base CX0 3 fDu dDu aDue spDue) (bDu : Binds K dDu aDue []) (FRf : FnOk P w K mg base CX0 6 fRf dRf aCld (spRfs C CK AA)) (bRf : Binds K dRf aCld [])
    (FTo : FnOk P w K mg base CX0 4 fTo dTo ["_law_ledger_here"] (spTold C)) (bTo : Binds K dTo ["_law_ledger_here"] []) (FGd : FnOk P w K mg base CX0 4 fGd dGd aGd (spGd C CK)) (bGd : Binds K dGd aGd [])
    (cdv : Value) (A0 : Around) (outer : List Env) (s : Shared) (Hs : Hp) (Es : XK) (hg : A0.guards = some []) (hr : Room 7 (A0.deeper (PyProof.Rows.envOfC "law" (defScope sLaw) s.heap.objs.size f cdv))) :
    ∃ t, PSs (cxOf CX0 P w K mg base nLaw "law" (defScope sLaw) f cdv A0 outer s Hs Es).nox (bTurn.drop 1) t ∧
      ∀ (ps : List (Str × Str)) (cap mx : Nat) (H0 : Hp) (l p : Addr) (X : LD) (es : List Ent) (De : Ends) (G : Hp) (v0 v5 v6 v7 v8 v9 v10 : Option V), cap < 40 → mx ≤ 40 → Wf ps → ps.length ≤ 8 → PotAt G p 0 → Sn C CK Pt ps cap mx H0 l p G X es →
        (∀ (H' : Hp) (X' : LD) (es' : List Ent) (u6 u7 u8 u9 u10 : Option V), X'.q = X.q → X'.F = X.F → Sn C CK Pt ps (cap + 1) (mx + 1) H0 l p H' X' es' → De.nx [v0, some (.ref l), some (.ref p), some (.ref X.F), some (.ref X.q), v5, u6, u7, u8, u9, u10] H') →
        t De [v0, some (.ref l), some (.ref p), some (.ref X.F), some (.ref X.q), v5, v6, v7, v8, v9, v10] G := by
  have hr1 : Room 1 _ := hr.mono (by decide)
  have hr3 : Room 3 _ := hr.mono (by decide)
  have hr4 : Room 4 _ := hr.mono (by decide)
  have hr5 : Room 5 _ := hr.mono (by decide)
  have hr6 : Room 6 _ := hr.mono (by decide)
  have hu := hr.units
  have hgX : (cxOf CX0 P w K mg base nLaw "law" (defScope sLaw) f cdv A0 outer s Hs Es).nox.A.guards = some [] := hg
  obtain ⟨t6, h6, r6⟩ := turn_6 (P := P) (w := w) (base := base) (CK := CK) (Pt := Pt) T FTo bTo FGd bGd cdv A0 outer s Hs Es hg hr
  refine ⟨_, pss_cons (ps_set (i := 6) scLaw.nd rfl (Or.inl rfl) (pe_call FDg hr1 rfl T.gDg T.kDg bDg .nil pass0 (pa_cons (pv 2) (pa_cons pe_int pa_nil))))
    (pss_cons (ps_asg (pe_call FAr hr5 rfl T.gAr T.kAr bAr .nil pass0 (pa_cons (pv 2) (pa_cons (pv 1) (pa_cons (pe_callB call_len_seq (by rfl) T.len PySem.boot_len (pa_cons (pv 3) pa_nil)) (pa_cons (pv 6) pa_nil))))) (pg_unl rfl (pgs_cons (pg_name (i := 7) scLaw.nd rfl (Or.inl rfl)) (pgs_cons (pg_name (i := 8) scLaw.nd rfl (Or.inl rfl)) pgs_nil))))
    (pss_cons (ps_set (i := 9) scLaw.nd rfl (Or.inl rfl) (pe_callB (call_reprT hgX hu) (by rfl) T.repr (by decide +kernel) (pa_cons (pe_lst (pa_cons (pv 7) (pa_cons (pv 8) pa_nil))) pa_nil)))
    (pss_cons (ps_set (i := 10) scLaw.nd rfl (Or.inl rfl) (pe_call FDu hr3 rfl T.gDu T.kDu bDu .nil pass0 (pa_cons (pv 1) (pa_cons (pv 3) (pa_cons (pv 6) (pa_cons (pv 7) (pa_cons (pv 8) pa_nil)))))))
    (pss_cons (ps_if (PW.pt (pw_and (pt_cmpR op_notN (pv 10) pe_non (nomark _)) (pw_and1 (pt_cmpR (op_neD hu) (pe_call FRf hr6 rfl T.gRf T.kRf bRf .nil pass0 (pa_cons (pv 4) (pa_cons (pv 6) (pa_cons (pv 7) (pa_cons (pv 8) pa_nil))))) (pe_tup (pa_cons pe_str (pa_cons (pv 10) pa_nil))) (nomark _))))) (pss_one (ps_ret pe_bl)) pss_nil)
    h6)))), ?_⟩
  intro ps cap mx H0 l p X es De G v0 v5 v6 v7 v8 v9 v10 hcap hmx hw h8 pot sn kk
  have lr : X.rs.length = es.length := sn.S.tri.len1
  -- door
  refine ⟨_, rfl, p, 0, 15, rfl, pot, by decide, by decide, by decide, fun d G1 d0 d1 hk1 pot1 => ?_⟩
  have k1 := keep_of_dig hk1
  have s1 := sn.keepP pot.some k1
  obtain ⟨d, rfl⟩ : ∃ m : Nat, d = (m : Int) := ⟨d.toNat, by omega⟩
  have hd : d ≤ 14 := by omega
  -- arguments
  refine ⟨_, rfl, _, rfl, _, rfl, X.F, _, rfl, .inl (SqL.of s1.S.ent), _, rfl, ?_⟩
  rw [List.length_map, lr]
  refine ⟨p, l, 1, es.length, d, ps, rfl, pot1, by decide, s1.pos, by have := s1.len; omega, s1.pr, hw, by omega, s1.lp, fun L a b va vb G2 eL hL na nb ok k2 pot2 => ?_⟩
  have s2 := s1.keepP pot1.some k2
  obtain ⟨ok1, ok2, ok3, ok4, ok5⟩ := ok
  obtain ⟨w1, w2, w3⟩ := shw_two ok1 ok2
  have a2 : TgAt [] G2 a va := na [] fun b hb => absurd hb nin0
  have b2 : TgAt [] G2 b vb := nb [] fun b hb => absurd hb nin0
  refine ⟨L, _, rfl, SqL.of eL, rfl, ?_⟩
  refine ⟨_, _, rfl, _, _, rfl, rfl, ?_⟩
  -- kept
  refine ⟨_, rfl, _, rfl, (by show 2 ≤ sizeLine; decide), fun L2 hL2 => ?_⟩
  have k3 : Keep [] G2 (upd G2 L2 (.lst [va, vb])) := Keep.new hL2
  have e3 : (upd G2 L2 (.lst [va, vb])) L2 = some (.lst [va, vb]) := upd_same
  generalize (upd G2 L2 (.lst [va, vb])) = G3 at k3 e3 ⊢
  have a3 := a2.keep0 k3
  have b3 := b2.keep0 k3
  have s3 := s2.keep0 k3
  refine ⟨L2, [], a, [b], rfl, tg_two e3 a3 b3, w1, w2, w3, ?_⟩
  -- due
  refine ⟨_, rfl, _, rfl, _, rfl, _, rfl, _, rfl, ?_⟩
  refine ⟨l, X.F, _, X.rs, X.mm, X.nn, es, ps, [], d, a, b, va, vb, rfl, s3.pr, hw, by omega, s3.S.ent, s3.S.tri, by have := s3.len; omega, a3, b3, ok3, (fun z => by
    obtain ⟨l', e, h⟩ := ok4 z
    exact ⟨l', e, by omega⟩), fun G4 k4 => ?_⟩
  have k14 : Keep [] G3 G4 := k4
  have last : ∀ G5, Keep [] G4 G5 → t6 De [v0, some (.ref l), some (.ref p), some (.ref X.F), some (.ref X.q), v5, some (.int (d : Int)), some va, some vb, some (.str (tgD (.lst [a, b])).shown), some (dueV (dueG ps es d a b))] G5 := fun G5 k5 => by
    have k35 := k4.trans k5
    exact r6 ps cap mx _ H0 l p X es De G5 a b va vb _ _ _ _ hcap hmx hw h8 ((pot2.keep k3 nin0).keep k35 nin0) (by decide) ok1 ok2 (a3.keep0 k35) (b3.keep0 k35) (s3.keep0 k35) fun H' X' es' e1 e2 s' => kk H' X' es' _ _ _ _ _ e1 e2 s'
  have s4 := s3.keep0 k4
  refine ⟨_, rfl, rfl, _, rfl, ?_⟩
  cases hdue : dueG ps es d a b with
  | none =>
    rw [hdue] at last
    exact iteF (last G4 (Keep.refl _ _))
  | some c =>
    rw [hdue] at last
    refine iteT ?_
    refine ⟨_, rfl, _, rfl, _, rfl, _, rfl, X.q, X.A, X.ms, X.ns, es, ps, [], d, a, b, va, vb, c, rfl, hd, s4.S.led, s4.kin, hw, (fun e he => (s4.S.sm e he).1.2.2.2.2.1), (fun e he => (s4.S.sm e he).1.2.2.2.1), a3.keep0 k4, b3.keep0 k4, hdue, (fun z => by
      obtain ⟨l', e, _⟩ := ok4 z
      exact ⟨l', e⟩), (fun z => ok5 z es fun e he => (s4.S.sm e he).1.2.2.2.1), fun t5 G5 k5 ht5 et5 => ?_⟩
    refine ⟨_, rfl, (by show 2 ≤ sizeLine; decide), fun t6' ht6 => ?_⟩
    refine ⟨refD2 c, refD2 c, refD2_dp ((Keep.new ht6 (ex := [])).at et5 nin0), refD2_dp (c := c) upd_same, refD2_shaped _, refD2_shaped _, _, rfl, ?_⟩
    rw [refD2_eqv]
    exact iteF (last _ (k5.newTo ht6))
end
end Fs
/-! The law. -/
namespace Fs
open PySem L2 TL
theorem seq_keep {K : PySem.W.Frag} {H H' : Hp} {a Pt : Addr} {xs : List V} {tb : Array Value} (h : SqL K H a xs) (k : Keep [Pt] H H') (hT : H Pt = some (.tbl tb)) : SqL K H' a xs := by
  rcases h with (h | ⟨o, h⟩) | h
  · exact .inl (.inl (k.at h (nin1 (ne_of h hT (fun z => by cases z)))))
  · exact .inl (.inr ⟨o, k.at h (nin1 (ne_of h hT (fun z => by cases z)))⟩)
  · exact .inr h
def spLaw (K : PySem.W.Frag) (Pt : Addr) : Sp := fun vs H Q _ => ∃ (a : Addr) (ns : List Int), vs = [.ref a] ∧ SqL K H a (ns.map V.int) ∧ ns.length ≤ 63 ∧ H Pt = some (.tbl #[]) ∧ ∀ H', Q (.bl true) H'
theorem flled (A : LA) : (fldsL A).lookup ("led" : Str) = none := rfl
theorem fllvs (A : LA) : (fldsL A).lookup ("leaves" : Str) = none := rfl
section
variable {P : Program} {w : World} {K : PySem.W.Frag} {mg : Str → Option Value} {base : Heap} {C CK Pt CF CW fPo fPa fEn fLe fMk fDg fAr fDu fRf fTo fGd fBa fLd fLp : Addr} {AA : CA}
theorem law_body {dPo dPa dEn dLe dMk dDg dAr dDu dRf dTo dGd dBa dLd dLp : FuncData} {f : Addr} (T : ATxt K mg C fPo fPa fEn fLe fMk fDg fAr fDu fRf fTo fGd fBa fLd fLp)
    (FPo : FnOk P w K mg base CX0 1 fPo dPo ["_law_script", "_law_k"] (spPot K)) (bPo : Binds K dPo ["_law_script", "_law_k"] []) (FPa : FnOk P w K mg base CX0 4 fPa dPa ["_law_pot_here"] spPairs) (bPa : Binds K dPa ["_law_pot_here"] []) (FEn : FnOk P w K mg base CX0 3 fEn dEn ["_law_pot_here", "_law_pairs_here", "_law_most"] spEnt) (bEn : Binds K dEn ["_law_pot_here", "_law_pairs_here", "_law_most"] [])
    (FLe : FnOk P w K mg base CX0 6 fLe dLe ["_law_pairs_here", "_law_entries_here"] (spLedg C CK Pt)) (bLe : Binds K dLe ["_law_pairs_here", "_law_entries_here"] []) (FMk : FnOk P w K mg base CX0 5 fMk dMk ["_law_pot_here", "_law_ledger_here", "_law_entries_here"] (spMkd C)) (bMk : Binds K dMk ["_law_pot_here", "_law_ledger_here", "_law_entries_here"] [])
    (FDg : FnOk P w K mg base CX0 1 fDg dDg ["_law_pot_here", "_law_many"] spDigit) (bDg : Binds K dDg ["_law_pot_here", "_law_many"] []) (FAr : FnOk P w K mg base CX0 5 fAr dAr aArg spArg) (bAr : Binds K dAr aArg [])
    (FDu : FnOk P w K mg base CX0 3 fDu dDu aDue spDue) (bDu : Binds K dDu aDue []) (FRf : FnOk P w K mg base CX0 6 fRf dRf aCld (spRfs C CK AA)) (bRf : Binds K dRf aCld [])
    (FTo : FnOk P w K mg base CX0 4 fTo dTo ["_law_ledger_here"] (spTold C)) (bTo : Binds K dTo ["_law_ledger_here"] []) (FGd : FnOk P w K mg base CX0 4 fGd dGd aGd (spGd C CK)) (bGd : Binds K dGd aGd [])
    (FBa : FnOk P w K mg base CX0 7 fBa dBa ["_law_pairs_here"] (spBare Pt)) (bBa : Binds K dBa ["_law_pairs_here"] [])
    (FLd : FnOk P w K mg base (L2.CX P w) 3 fLd dLd ["self", "k", "way"] (spLedX K C CF CW)) (bLd : Binds K dLd ["self", "k", "way"] []) (FLp : FnOk P w K mg base CX0 3 fLp dLp ["self", "k"] (spLvp C)) (bLp : Binds K dLp ["self", "k"] [])
    (cdv : Value) (A0 : Around) (outer : List Env) (s : Shared) (H : Hp) (vs : List V) (Q : VK) (Es : XK) (hg : A0.guards = some []) (hr : Room 7 (A0.deeper (PyProof.Rows.envOfC "law" (defScope sLaw) s.heap.objs.size f cdv))) (h : spLaw K Pt vs H Q Es) :
    ∃ t, PSs (cxOf CX0 P w K mg base nLaw "law" (defScope sLaw) f cdv A0 outer s H Es).nox (defBody sLaw) t ∧ t { nx := fun _ H' => Q .non H', rt := Q } (L2.start nLaw vs) H := by
  obtain ⟨a, ns0, rfl, hS, h63, hT, kk⟩ := h
  have hr1 : Room 1 _ := hr.mono (by decide)
  have hr3 : Room 3 _ := hr.mono (by decide)
  have hr4 : Room 4 _ := hr.mono (by decide)
  have hr5 : Room 5 _ := hr.mono (by decide)
  have hr6 : Room 6 _ := hr.mono (by decide)
  have hu := hr.units
  have hgX : (cxOf CX0 P w K mg base nLaw "law" (defScope sLaw) f cdv A0 outer s H Es).nox.A.guards = some [] := hg
  obtain ⟨tT, hTn, rTn⟩ := turn_2 (P := P) (w := w) (base := base) (CK := CK) (Pt := Pt) T FDg bDg FAr bAr FDu bDu FRf bRf FTo bTo FGd bGd cdv A0 outer s H Es hg hr
  refine ⟨_, pss_cons (ps_set (i := 1) scLaw.nd rfl (Or.inl rfl) (pe_call FPa hr4 rfl T.gPa T.kPa bPa .nil pass0 (pa_cons (pe_call FPo hr1 rfl T.gPo T.kPo bPo .nil pass0 (pa_cons (pv 0) (pa_cons pe_int pa_nil))) pa_nil)))
    (pss_cons (ps_set (i := 2) scLaw.nd rfl (Or.inl rfl) (pe_call FPo hr1 rfl T.gPo T.kPo bPo .nil pass0 (pa_cons (pv 0) (pa_cons pe_int pa_nil))))
    (pss_cons (ps_set (i := 3) scLaw.nd rfl (Or.inl rfl) (pe_call FEn hr3 rfl T.gEn T.kEn bEn .nil pass0 (pa_cons (pv 2) (pa_cons (pv 1) (pa_cons pe_int pa_nil)))))
    (pss_cons (ps_expr (pe_bm PySem.F.plainAttrs_list PySem.F.slot_list_append PySem.F.type_list_append mt_append (pv 3) (pa_cons (pe_lst (pa_cons pe_str (pa_cons pe_str (pa_cons (pe_lst pa_nil) (pa_cons (pe_lst pa_nil) (pa_cons pe_non (pa_cons pe_non pa_nil))))))) pa_nil)))
    (pss_cons (ps_expr (pe_bm PySem.F.plainAttrs_list PySem.F.slot_list_append PySem.F.type_list_append mt_append (pv 3) (pa_cons (pe_lst (pa_cons pe_str (pa_cons pe_str (pa_cons (pe_lst (pa_cons (pe_op op_sub (pe_callB call_len_seq (by rfl) T.len PySem.boot_len (pa_cons (pv 3) pa_nil)) pe_int) pa_nil)) (pa_cons (pe_lst pa_nil) (pa_cons pe_non (pa_cons pe_non pa_nil))))))) pa_nil)))
    (pss_cons (ps_set (i := 4) scLaw.nd rfl (Or.inl rfl) (pe_call FLe hr6 rfl T.gLe T.kLe bLe .nil pass0 (pa_cons (pv 1) (pa_cons (pv 3) pa_nil))))
    (pss_cons (ps_expr (pe_call FMk hr5 rfl T.gMk T.kMk bMk .nil pass0 (pa_cons (pv 2) (pa_cons (pv 4) (pa_cons (pv 3) pa_nil)))))
    (pss_cons (ps_for PassesOwn.never rfl (pi_range1 (by rfl) T.range (pa_cons (pe_callB call_len_seq (by rfl) T.len PySem.boot_len (pa_cons (pv 3) pa_nil)) pa_nil)) (pg_name (i := 5) scLaw.nd rfl (Or.inl rfl))
      (pss_one (ps_if (PW.pt (pw_or (pt_cmpR op_ne (pe_meth (pv 4) T.cl T.mD FLd hr3 bLd .nil passX0 (pa_cons (pv 5) (pa_cons (pe_tup pa_nil) pa_nil))) (pv 5) (nomark _)) (pw_or1 (pt_cmpR (op_eqNil hu) (pe_meth (pv 4) T.cl T.mL FLp hr3 bLp .nil pass0 (pa_cons (pv 5) pa_nil)) (pe_lst pa_nil) (nomark _))))) (pss_one (ps_ret pe_bl)) pss_nil)))
    (pss_cons (ps_for PassesOwn.never rfl (pi_range2 (by rfl) T.range (pa_cons pe_int (pa_cons (pe_callB (call_max2 rfl) (by rfl) T.max (by decide +kernel) (pa_cons pe_int (pa_cons (pe_callB (call_min2 rfl) (by rfl) T.min (by decide +kernel) (pa_cons pe_int (pa_cons (pe_callB call_len_seq (by rfl) T.len PySem.boot_len (pa_cons (pv 0) pa_nil)) pa_nil))) pa_nil))) pa_nil))) (pg_name (i := 5) scLaw.nd rfl (Or.inl rfl))
      (pss_cons (ps_set (i := 2) scLaw.nd rfl (Or.inl rfl) (pe_call FPo hr1 rfl T.gPo T.kPo bPo .nil pass0 (pa_cons (pv 0) (pa_cons (pv 5) pa_nil)))) hTn))
    (pss_one (ps_ret (pe_and (pe_call FBa hr rfl T.gBa T.kBa bBa .nil pass0 (pa_cons (pv 1) pa_nil)) (pe_one (pe_cmpR op_eq (pe_callB (call_reprD hgX hu) (by rfl) T.repr (by decide +kernel) (pa_cons (pe_call FTo hr4 rfl T.gTo T.kTo bTo .nil pass0 (pa_cons (pv 4) pa_nil)) pa_nil)) (pe_callB (call_reprD hgX hu) (by rfl) T.repr (by decide +kernel) (pa_cons (pv 3) pa_nil)) (nomark _)))))))))))))), ?_⟩
  have fre : ∀ {G : Hp}, Keep [Pt] H G → ∀ b, G b = none → b = Pt ∨ H b = none := fun k b hb => by
    by_cases z : b = Pt
    · exact .inl z
    · exact .inr (Keep.free k hb (nin1 z))
  have lateK : ∀ {G G' : Hp} {ex : List Addr}, Keep [Pt] H G → Keep ex G G' → (∀ b ∈ ex, b = Pt ∨ H b = none) → Keep [Pt] H G' := fun k k' hx => k.lateX k' fun b hb => (hx b hb).imp (fun z => by rw [z]; exact in1) id
  -- kinds
  refine ⟨_, rfl, a, ns0, 0, rfl, hS, by decide, fun p0 H1 hp0 k1 pot0 => ?_⟩
  refine ⟨p0, 0, rfl, pot0, by decide, fun l ps H2 hl hw h8 hP k2 pot2 => ?_⟩
  have kH1 : Keep [Pt] H H1 := k1.more fun b z => absurd z nin0
  have kH2 : Keep [Pt] H H2 := lateK kH1 k2 fun b hb => by rw [List.mem_singleton.mp hb]; exact .inr hp0
  have hT2 : H2 Pt = some (.tbl #[]) := (k2.at (k1.at hT nin0) (nin1 fun z => by
    obtain ⟨x, e⟩ := pot0.some
    rw [← z, k1.at hT nin0] at e; cases e))
  -- the pot
  refine ⟨_, rfl, a, ns0, 1, rfl, seq_keep hS kH2 hT, by decide, fun p H3 hp k3 pot3 => ?_⟩
  have kH3 : Keep [Pt] H H3 := kH2.trans (k3.more fun b z => absurd z nin0)
  have hT3 := k3.at hT2 nin0
  obtain ⟨as0, el0, _⟩ := id hP
  have nlp : l ≠ p := fun z => by rw [z, hp] at el0; cases el0
  have hP3 := pairs_lists hP k3 nin0 (fun b z => absurd z nin0)
  obtain ⟨as3, el3, _⟩ := id hP3
  obtain ⟨x3, ep3⟩ := pot3.some
  have npT : p ≠ Pt := fun z => by rw [z, hT3] at ep3; cases ep3
  -- the entries
  refine ⟨_, rfl, _, rfl, p, l, 0, 8, ps, rfl, by decide, pot3, by decide, hP3, by omega, nlp, fun E rs es Lf Df Nf H4 tree hE0 hrs eE tri rnd B hes k4 pot4 => ?_⟩
  obtain ⟨mm, nn, tri4, sep, new4⟩ := tri
  obtain ⟨x4, ep4⟩ := pot4.some
  have hP4 := pairs_lists hP3 k4 (nin1 nlp) (fun b hb => by rw [List.mem_singleton.mp hb]; exact ⟨_, ep3⟩)
  have nEp : E ≠ p := fun z => by rw [z, ep3] at hE0; cases hE0
  have hT4 := k4.at hT3 (nin1 npT.symm)
  have S4 : EnS ps H4 p E rs mm nn es Lf Df Nf := ⟨eE, tri4, rnd, sep, tree, B⟩
  have lr := tri4.len1
  -- ["fault", "", [], [], None, None]
  refine ⟨_, rfl, .inl ⟨rfl, _, SqL.of eE⟩, Nat.zero_le _, fun B1 hB1 => ?_⟩
  refine ⟨Nat.zero_le _, fun l1 hl1 => ?_⟩
  refine ⟨(by show 6 ≤ sizeLine; decide), fun r1 hr1' => ?_⟩
  have tm : IsTx "" := tx_c _ (by decide +kernel)
  have f4 : Fresh ps es.length ⟨sF, "", [], [], none, none⟩ := ⟨tm, Nat.zero_le _, (fun k h => absurd h List.not_mem_nil), rfl, rfl, rfl, fun _ => List.mem_cons_self, fun h => absurd rfl h⟩
  obtain ⟨eE5, S5, k5⟩ := S4.row (a := 1) (d := 0) f4 rfl (by decide) (by decide) (fun _ => rfl) (fun m h => absurd h List.not_mem_nil) (fun h => absurd rfl h) ⟨_, ep4⟩ hB1 hl1 hr1'
  refine ⟨E, _, _, rfl, rfl, eE5, Nat.lt_of_le_of_lt (by rw [List.length_map, lr]; omega : (rs.map V.ref).length ≤ 1000) (by decide), ?_⟩
  generalize hG5 : upd (upd (upd (upd H4 B1 (.lst [])) l1 (.lst [])) r1 (.lst [.str "fault", .str "", .ref B1, .ref l1, .non, .non])) E (.lst (rs.map V.ref ++ [V.ref r1])) = H5
  replace S5 : EnS ps H5 p E (rs ++ [r1]) (mm ++ [B1]) (nn ++ [l1]) (es ++ [⟨sF, "", [], [], none, none⟩]) (put Lf es.length 1) (put Df es.length 0) (put Nf es.length 1) := by rw [← hG5]; exact S5
  replace k5 : Keep [E] H4 H5 := by rw [← hG5]; exact k5
  clear hG5 eE5
  have lr5 := S5.tri.len1
  have ep5 := k5.at ep4 (nin1 nEp.symm)
  -- ["sheaf", "", [len - 1], [], None, None]
  refine ⟨_, rfl, .inl ⟨rfl, _, SqL.of S5.ent⟩, _, rfl, E, _, rfl, .inl (SqL.of S5.ent), _, _, rfl, rfl, ?_⟩
  have ls : (((rs ++ [r1]).map V.ref).length : Int) - 1 = ((es.length : Nat) : Int) := by rw [List.length_map, List.length_append, lr, List.length_singleton]; omega
  rw [show (fun i j : Int => V.int (i - j)) ((((rs ++ [r1]).map V.ref).length : Nat) : Int) 1 = V.int ((es.length : Nat) : Int) from congrArg V.int ls]
  refine ⟨(by show 1 ≤ sizeLine; decide), fun B2 hB2 => ?_⟩
  refine ⟨Nat.zero_le _, fun l2 hl2 => ?_⟩
  refine ⟨(by show 6 ≤ sizeLine; decide), fun r2 hr2 => ?_⟩
  have l5 : (es ++ [(⟨sF, "", [], [], none, none⟩ : Ent)]).length = es.length + 1 := by rw [List.length_append]; rfl
  have f5 : Fresh ps (es ++ [(⟨sF, "", [], [], none, none⟩ : Ent)]).length ⟨sS, "", [es.length], [], none, none⟩ := ⟨tm, (by show 1 ≤ 6; decide), (fun k h => by rw [List.mem_singleton.mp h, l5]; exact Nat.lt_succ_self _), rfl, rfl, rfl, (fun h => by cases h), fun _ => rfl⟩
  obtain ⟨eE6, S6, k6⟩ := S5.row (a := 1) (d := 1) f5 (by rw [if_neg (fun h => by cases h)]; exact (put_same Lf es.length 1).symm) (by decide) (by decide) (fun h => by cases h) (fun m h => by rw [List.mem_singleton.mp h, put_same]; exact Nat.le_refl _) (fun _ => ⟨es.length, List.mem_singleton.mpr rfl, by rw [put_same]⟩) ⟨_, ep5⟩ hB2 hl2 hr2
  refine ⟨E, _, _, rfl, rfl, eE6, Nat.lt_of_le_of_lt (by rw [List.length_map, lr5, l5]; omega : ((rs ++ [r1]).map V.ref).length ≤ 1000) (by decide), ?_⟩
  generalize hG6 : upd (upd (upd (upd H5 B2 (.lst [.int (es.length : Int)])) l2 (.lst [])) r2 (.lst [.str "sheaf", .str "", .ref B2, .ref l2, .non, .non])) E (.lst ((rs ++ [r1]).map V.ref ++ [V.ref r2])) = H6
  replace k6 : Keep [E] H5 H6 := by rw [← hG6]; exact k6
  obtain ⟨rs2, hrs2⟩ : ∃ rs2, rs2 = rs ++ [r1] ++ [r2] := ⟨_, rfl⟩
  obtain ⟨mm2, hmm2⟩ : ∃ mm2, mm2 = mm ++ [B1] ++ [B2] := ⟨_, rfl⟩
  obtain ⟨nn2, hnn2⟩ : ∃ nn2, nn2 = nn ++ [l1] ++ [l2] := ⟨_, rfl⟩
  obtain ⟨es2, hes2⟩ : ∃ es2, es2 = es ++ [(⟨sF, "", [], [], none, none⟩ : Ent)] ++ [⟨sS, "", [es.length], [], none, none⟩] := ⟨_, rfl⟩
  obtain ⟨Lf2, Df2, Nf2, S6'⟩ : ∃ Lf2 Df2 Nf2, EnS ps H6 p E rs2 mm2 nn2 es2 Lf2 Df2 Nf2 := by
    rw [← hG6, hrs2, hmm2, hnn2, hes2]
    exact ⟨_, _, _, S6⟩
  have le2 : es2.length = es.length + 2 := by rw [hes2, List.length_append, l5]; rfl
  have hl0 : ∀ {b : Addr}, H4 b = none → H3 b = none := fun {b} h => Keep.free k4 h (fun z => by rw [List.mem_singleton.mp z, ep4] at h; cases h)
  have hl5 : ∀ {b : Addr}, H5 b = none → H3 b = none := fun {b} h => hl0 (Keep.free k5 h (fun z => by rw [List.mem_singleton.mp z, S5.ent] at h; cases h))
  have n1 := Keep.free (Keep.new hB1 (ex := [])) hl1 nin0
  have n2 := Keep.free ((Keep.new hB1 (ex := [])).newTo hl1) hr1' nin0
  have n3 := Keep.free (Keep.new hB2 (ex := [])) hl2 nin0
  have n4 := Keep.free ((Keep.new hB2 (ex := [])).newTo hl2) hr2 nin0
  have rsN : ∀ b ∈ rs2, H3 b = none := fun b hb => by
    rw [hrs2] at hb
    simp only [List.mem_append, List.mem_singleton] at hb
    rcases hb with (z | z) | z
    · exact hrs b z
    · rw [z]; exact hl0 n2
    · rw [z]; exact hl5 n4
  have mnN : ∀ b ∈ mm2 ++ nn2, H3 b = none := fun b hb => by
    rw [hmm2, hnn2] at hb
    simp only [List.mem_append, List.mem_singleton] at hb
    rcases hb with ((z | z) | z) | ((z | z) | z)
    · exact new4 b (List.mem_append_left _ z)
    · rw [z]; exact hl0 hB1
    · rw [z]; exact hl5 hB2
    · exact new4 b (List.mem_append_right _ z)
    · rw [z]; exact hl0 n1
    · rw [z]; exact hl5 n3
  clear S6 hG6 eE6 hrs2 hmm2 hnn2 hes2 f5 f4
  have ep6 := k6.at ep5 (nin1 nEp.symm)
  have k46 : Keep [E] H4 H6 := k5.trans k6
  have hP6 : PairsAt H6 l ps := pairs_lists hP4 k46 (fun z => by
    obtain ⟨as4, el4, _⟩ := hP3
    rw [List.mem_singleton.mp z, hE0] at el4; cases el4) (fun b hb => by rw [List.mem_singleton.mp hb]; exact ⟨_, eE⟩)
  have nET : E ≠ Pt := fun z => by rw [z, hT3] at hE0; cases hE0
  have hT6 := k46.at hT4 (nin1 nET.symm)
  obtain ⟨as6, el6, _⟩ := id hP6
  -- the ledger
  refine ⟨_, rfl, _, rfl, l, E, rs2, es2, ps, rfl, hP6, hw, by omega, S6'.ent, S6'.tri.rows.less (fun a q => absurd q nin0), S6'.built, by omega, ⟨_, hT6, True.intro⟩, fun q A ms ns H7 k7 hA hled hns tab7 kin7 => ?_⟩
  have S7 := st_start hT6 ⟨_, ep6⟩ S6'.ent nEp S6'.tri S6'.rnd S6'.sep S6'.tree hw S6'.built k7 hA hled hns
  obtain ⟨X, hX⟩ : ∃ X : LD, X = ⟨q, E, A, ms, ns, rs2, mm2, nn2, Lf2, Df2, Nf2⟩ := ⟨_, rfl⟩
  have S7' : StX C ps 0 p H7 X es2 := by rw [hX]; exact S7
  have pot7 : PotAt H7 p (0 + 2000) := ((pot4.keep k5 (nin1 nEp.symm)).keep k6 (nin1 nEp.symm)).keep k7 (nin1 npT)
  have nlT : l ≠ Pt := fun z => by rw [z, hT6] at el6; cases el6
  have hP7 : PairsAt H7 l ps := hP6.keep k7 (nin1 nlT) fun b hb => by rw [List.mem_singleton.mp hb]; exact ⟨_, hT6, fun _ z => by cases z⟩
  obtain ⟨x7, ep7⟩ := pot7.some
  have zX : ∀ b ∈ X.zs, H3 b = none ∨ H6 b = none := fun b hb => by
    rw [hX] at hb
    simp only [LD.zs, List.mem_cons, List.mem_append] at hb
    rcases hb with z | z | z | z | z | z
    · rw [z]; exact .inl hE0
    · exact .inr (hA b z)
    · exact .inr (hns b z)
    · exact .inl (rsN b z)
    · exact .inl (mnN b (List.mem_append_left _ z))
    · exact .inl (mnN b (List.mem_append_right _ z))
  have kH4 : Keep [Pt] H H4 := lateK kH3 k4 fun b hb => by rw [List.mem_singleton.mp hb]; exact fre kH2 p hp
  have kH6 : Keep [Pt] H H6 := lateK kH4 k46 fun b hb => by rw [List.mem_singleton.mp hb]; exact fre kH3 E hE0
  have kH7 := kH6.trans k7
  have fX : ∀ b ∈ X.zs, b = Pt ∨ H b = none := fun b hb => by
    rcases zX b hb with z | z
    · exact fre kH3 b z
    · exact fre kH6 b z
  have fp : p = Pt ∨ H p = none := fre kH2 p hp
  have lX : l ∉ X.zs := fun z => by
    rcases zX l z with y | y
    · rw [el3] at y; cases y
    · rw [el6] at y; cases y
  have eqq : V.ref q = .ref X.q := by rw [hX]
  have eqF : V.ref E = .ref X.F := by rw [hX]
  -- marked
  refine ⟨_, rfl, _, rfl, _, rfl, ps, p, X, es2, _, (by rw [eqq, eqF]; rfl), pot7, by decide, S7', by omega, fun H8 es8 c hc k8 S8 hl8 pot8 => ?_⟩
  have ls7 : ∀ b ∈ X.mu p, ∃ xs, H7 b = some (.lst xs) := fun b hb => (LD.mu_in hb).elim (fun z => by rw [z]; exact ⟨_, ep7⟩) (St.all S7' b)
  have hkd : KindsAt CK H7 X.A.kd ps := by rw [hX]; exact kin7
  have sn : Sn C CK Pt ps 24 10 H l p H8 X es8 := ⟨St.cap S8 hc, hkd.lists k8 ls7, pairs_lists hP7 k8 (fun z => (LD.mu_in z).elim nlp lX) ls7, lX, nlp, TabG.keep tab7 k8 ls7, lateK kH7 k8 (fun b hb => (LD.mu_in hb).elim (fun z => by rw [z]; exact fp) (fX b)), fX, fp, by omega, by omega⟩
  clear S8 S7' S7 S6' S5 S4 tri4 hrs new4 rsN mnN k8 pot8 ls7 hkd
  rw [eqq, eqF]
  clear hX eqq eqF
  -- each fault leads to itself, and has leaves
  have lr8 : X.rs.length = es8.length := sn.S.tri.len1
  have l10 := sn.len
  refine ⟨_, rfl, X.F, _, rfl, .inl (SqL.of sn.S.ent), ?_⟩
  rw [List.length_map, lr8]
  refine ⟨_, rfl, by omega, by omega, ?_⟩
  rw [Int.toNat_natCast]
  refine for_range (lo := 0) (n := es8.length) (fun i σ G => ∃ v5 : Option V, σ = [some (.ref a), some (.ref l), some (.ref p), some (.ref X.F), some (.ref X.q), v5, none, none, none, none, none] ∧ Keep [] H8 G) ⟨none, rfl, Keep.refl _ _⟩ ?_ ?_
  · rintro i σ G hi ⟨v5, rfl, kG⟩
    have z0 : (0 : Int) + (i : Int) = (i : Int) := Int.zero_add _
    have sG := sn.keep0 kG
    refine ⟨_, rfl, X.q, X.A.dx, _, rfl, sG.S.led.ins, flled X.A, _, rfl, (by show 0 ≤ sizeLine; decide), fun t ht => ?_⟩
    have k1 : Keep [] G (upd G t (.tup [])) := Keep.new ht
    have e1 : (upd G t (.tup [])) t = some (.tup []) := upd_same
    generalize (upd G t (.tup [])) = G1 at k1 e1 ⊢
    have s1 := sG.keep0 k1
    have inn : ∀ e ∈ es8, ∀ m ∈ e.mem, m < es8.length := fun e he => (s1.S.sm e he).1.2.2.2.2.1
    have six : ∀ e ∈ es8, e.mem.length ≤ 6 := fun e he => (s1.S.sm e he).1.2.2.2.1
    refine .inr (.inr ⟨X.q, X.A, X.ms, X.ns, es8, i, .ref t, by rw [z0]; rfl, s1.S.led, hi, inn, six, .inl ⟨t, [], [], rfl, e1, True.intro, fun n hn hgo => ?_, fun h => by cases h⟩⟩)
    have en : n = i := by cases hgo; rfl
    subst en
    refine ⟨_, rfl, rfl, _, rfl, iteNS (by rw [z0]) ?_⟩
    refine ⟨_, rfl, X.q, X.A.dx, _, rfl, s1.S.led.ins, fllvs X.A, _, rfl, X.q, X.A, X.ms, X.ns, es8, n, X.Lf, X.Df, X.Nf, by rw [z0]; rfl, s1.S.led, s1.S.tree, hi, six, fun G4 F4 ts4 fs k4' hF4 eF4 w4 len4 _ hfl4 run4 => ?_⟩
    have pos := (s1.S.tree.pos n n (Nat.le_refl _) hi).1
    have l4 := w4.len
    refine ⟨Nat.zero_le _, fun e5 he5 => ?_⟩
    refine ⟨F4, e5, ts4.map V.ref, rfl, rfl, (Keep.new he5 (ex := [])).at eF4 nin0, upd_same, _, rfl, ?_⟩
    have ne : (ts4.map V.ref).isEmpty = false := by
      cases ts4 with
      | nil => rw [← len4, ← l4] at pos; exact absurd pos (by decide)
      | cons x r => rfl
    rw [ne]
    exact iteF ⟨_, rfl, kG.trans ((k1.trans k4').newTo he5)⟩
  · rintro σ G ⟨v5, rfl, kG⟩
    have sG := sn.keep0 kG
    clear sn
    -- range(2, max(3, min(14, len)))
    refine ⟨_, rfl, a, _, rfl, .inl (seq_keep hS sG.K hT), _, _, rfl, _, _, rfl, ?_⟩
    rw [List.length_map]
    obtain ⟨N, hN, hN14⟩ : ∃ N : Nat, (if (if (ns0.length : Int) < 14 then (ns0.length : Int) else 14) > 3 then (if (ns0.length : Int) < 14 then (ns0.length : Int) else 14) else 3) = (N : Int) ∧ N ≤ 14 := by
      refine ⟨(if (if (ns0.length : Int) < 14 then (ns0.length : Int) else 14) > 3 then (if (ns0.length : Int) < 14 then (ns0.length : Int) else 14) else 3).toNat, ?_, ?_⟩
      · split <;> split <;> omega
      · split <;> split <;> omega
    rw [hN]
    refine ⟨_, _, rfl, ⟨by omega, by omega, by omega, by omega⟩, ?_⟩
    refine for_range (lo := 2) (n := ((N : Int) - 2).toNat) (fun i σ G' => ∃ (p : Addr) (X' : LD) (es' : List Ent) (v5 v6 v7 v8 v9 v10 : Option V), σ = [some (.ref a), some (.ref l), some (.ref p), some (.ref X.F), some (.ref X.q), v5, v6, v7, v8, v9, v10] ∧ X'.q = X.q ∧ X'.F = X.F ∧ Sn C CK Pt ps (24 + i) (10 + i) H l p G' X' es') ⟨p, X, es8, _, _, _, _, _, _, rfl, rfl, rfl, sG⟩ ?_ ?_
    · rintro i σ G1 hi ⟨p1, X', es', v5, v6, v7, v8, v9, v10, rfl, eq1, eq2, s1⟩
      have z1 : (2 : Int) + (i : Int) = ((i + 2 : Nat) : Int) := by omega
      refine ⟨_, rfl, _, rfl, a, ns0, i + 2, ?_, seq_keep hS s1.K hT, by omega, fun p2 G2 hp2 kG2 pot => ?_⟩
      · show [V.ref a, V.int (2 + (i : Int))] = _
        rw [z1]
      have s2 := s1.repot kG2 hp2
      rw [← eq1, ← eq2]
      refine rTn ps (24 + i) (10 + i) H l p2 X' es' _ G2 _ _ _ _ _ _ _ (by omega) (by omega) hw (by omega) pot s2 fun H' X2 es2' u6 u7 u8 u9 u10 g1 g2 s3 => ?_
      exact ⟨p2, X2, es2', _, _, _, _, _, _, rfl, g1, g2, by rw [← Nat.add_assoc, ← Nat.add_assoc]; exact s3⟩
    · rintro σ G1 ⟨p1, X', es', v5, v6, v7, v8, v9, v10, rfl, eq1, eq2, s1⟩
      rw [← eq1, ← eq2]
      refine ⟨_, rfl, l, ps, rfl, s1.pr, hw, by omega, s1.tab, fun G2 k2 => ⟨true, rfl, iteT ?_⟩⟩
      obtain ⟨tb, eT, _⟩ := s1.tab
      have S2 := St.keepT s1.S eT k2
      have len2 := s1.len
      refine ⟨_, rfl, X'.q, X'.A, X'.ms, X'.ns, es', rfl, S2.led, by omega, fun G4 F k4' hF tF => ?_⟩
      have S4' := St.keep0 S2 k4'
      obtain ⟨o1, o2, o3, o4⟩ := ents_ok (s1.small (by omega)) (by omega)
      have d2 : Dp K G4 (.ref X'.F) (entsD es') := ToldAt.dp ⟨X'.rs, S4'.ent, S4'.tri.rows⟩
      refine ⟨F, entsD es', rfl, tF.dp, o1, o2, o3, o4, _, rfl, X'.F, entsD es', rfl, d2, o1, o2, o3, o4, rfl, ?_⟩
      rw [decide_eq_true rfl]
      exact kk G4
end
end Fs
/-! The law's call at the one place where it is made: what is being shown there is known (nothing), which a def's promise for every place doesn't say. -/
namespace Fs
open PySem L2 TL
section
variable {P : Program} {w : World} {K : PySem.W.Frag} {mg : Str → Option Value} {base : Heap}
theorem here_run {k : Nat} {f : Addr} {st : Stmt} {x q : Str} {N : List Str} {dV kV doc pm cdv ct oc : Value} {an od : Option Addr} {osl : Array (Option Value)} {A : Around} {s : Shared} {H : Hp} {u : Value} {v : V} {Q : VK}
    (lk : K.lookup f = some ⟨oc, od, .func (PySem.W.fnOf x q (defArgs st) (defBody st) (defScope st) dV kV doc pm an cdv ct), osl⟩) (hcd : PySem.W.codeIn K cdv q = true) {y : Str} (S : FnScope N [y] (defScope st)) (room : Room (k + 1) A) (e0 : Env0 P w K mg base A [] s H) (rv : RelV v u)
    (bd : BindsTo s (PySem.W.fnOf x q (defArgs st) (defBody st) (defScope st) dV kV doc pm an cdv ct) ⟨[u], []⟩ [(y, u)])
    (body : Room k (A.deeper (PyProof.Rows.envOfC q (defScope st) s.heap.objs.size f cdv)) → ∃ t, PSs (cxOf CX0 P w K mg base N q (defScope st) f cdv A [] s H E0) (defBody st) t ∧ t { nx := fun _ H' => Q .non H', rt := Q } (L2.start N [v]) H) :
    codeAny (model P w) A (.call (.ref f) ⟨[u], []⟩) (fun r s' => ∃ (v' : V) (u' : Value) (H' : Hp), r = .ok (.ret u') ∧ s'.os = s.os ∧ PyProof.Rows.AllBare s'.gens ∧ Un [] [] H H' s.heap s'.heap ∧ HOk P w H' s'.heap ∧ RelV v' u' ∧ Q v' H') s := by
  have now : K.In s.heap := e0.mod.kin.keeps fun b o e => (e0.bs b o e).1
  have par := S.par y List.mem_cons_self
  have one : Vals [v] [u] := .cons rv .nil
  refine codeAny_call_function room.depth (now f _ lk) rfl S.co S.gen rfl (PySem.W.codeRec_of now hcd) (bd _ _ _ _ (wpAny_newFunctionEnv_cells S.kind (fun z hz => ?_) fun env he s1 entered => ?_))
  · rw [List.mem_singleton.mp hz]
    exact par.imp id fun c => ⟨c, PySem.W.cellsFrom_some _ _ _ (.inl c)⟩
  · cases he
    have free : s1.heap.NoLimit := (e0.mod.nolimit.keeps fun b o e => (e0.bs b o e).1).keeps entered.toInCall.keep
    obtain ⟨t, ht, hq⟩ := body (room.deeper _)
    have at1 := inv_start (CX := CX0) (E := E0) (ps := [y]) (us := [u]) (vs := [v]) S room.hd e0 rfl one entered
    refine ⟨free, codeAny_func (wpAny_mono (ht.run [] s1 _ H _ at1 hq) (fun fl s' end_ => ?_) fun e s' bad => ?_)⟩
    · cases fl with
      | ret u' =>
        obtain ⟨v', _, H', J, rv', q'⟩ := end_
        exact ⟨v', u', H', rfl, J.os, J.bare, J.base, J.hok, rv', q'⟩
      | next =>
        obtain ⟨_, H', J, q'⟩ := end_
        exact ⟨.non, .none, H', rfl, J.os, J.bare, J.base, J.hok, rfl, q'⟩
      | brk => obtain ⟨_, _, _, no⟩ := end_; exact no.elim
      | cont => obtain ⟨_, _, _, no⟩ := end_; exact no.elim
    · refine wpAny_mono bad (fun _ _ no => no.elim) fun _ _ no => no.elim
/-- what is tracked as the law begins: the table, and the script (where the written part doesn't have it) -/
def First (a Pt : Addr) (sc : Option HO) : Hp := fun b => if b = Pt then some (.tbl #[]) else if b = a then sc else none
theorem first_tab {a Pt : Addr} {sc : Option HO} : First a Pt sc Pt = some (.tbl #[]) := if_pos rfl
theorem first_scr {a Pt : Addr} {sc : Option HO} (n : a ≠ Pt) : First a Pt sc a = sc := by
  unfold First
  rw [if_neg n, if_pos rfl]
theorem first_other {a Pt b : Addr} {sc : Option HO} (n : b ≠ Pt) (m : b ≠ a) : First a Pt sc b = none := by
  unfold First
  rw [if_neg n, if_neg m]
theorem first_some {a Pt b : Addr} {sc : Option HO} {u : HO} (e : First a Pt sc b = some u) : (b = Pt ∧ u = .tbl #[]) ∨ (b = a ∧ sc = some u) := by
  by_cases h : b = Pt
  · rw [h, first_tab] at e
    exact .inl ⟨h, (Option.some.inj e).symm⟩
  · by_cases h2 : b = a
    · rw [h2] at e h
      rw [first_scr h] at e
      exact .inr ⟨h2, e⟩
    · rw [first_other h h2] at e
      cases e
/-- the law at its caller -/
theorem law_here {k : Nat} {fa a c Pt : Addr} {dV kV doc pm cdv ct oc : Value} {an od : Option Addr} {osl : Array (Option Value)} {s₁ : Shared} {mb : Str → Option Value} {vs : List Value} {ns : List Int}
    (lk : K.lookup fa = some ⟨oc, od, .func (PySem.W.fnOf "law" "law" (defArgs sLaw) (defBody sLaw) (defScope sLaw) dV kV doc pm an cdv ct), osl⟩) (hcd : PySem.W.codeIn K cdv "law" = true) (room : Room (k + 1) callerA)
    (bd : ∀ (s : Shared) (u : Value), BindsTo s (PySem.W.fnOf "law" "law" (defArgs sLaw) (defBody sLaw) (defScope sLaw) dV kV doc pm an cdv ct) ⟨[u], []⟩ [("_law_script", u)])
    (inK : K.In s₁.heap) (gl : s₁.heap.Ns mainGlobals mg) (bl : s₁.heap.Ns builtinsNs mb) (bb : ∀ x : Str, x ≠ "__name__" → mb x = bootBuiltins x) (lim : s₁.heap.NoLimit) (gen0 : s₁.gens = #[])
    (hT : s₁.heap.get? Pt = some { cls := .none, data := .fields #[] }) (nT : K.lookup Pt = none) (hh : PySem.W.codeHdIn K c Pt = true)
    (bm : ∃ (m : Addr) (ob : Obj), mg "__builtins__" = some (.ref m) ∧ m ≠ builtinsNs ∧ s₁.heap.get? m = some ob ∧ ob.cls = .type "module" ∧ ob.dict = some builtinsNs ∧ ob.data = .plain)
    (ha : s₁.heap.get? a = some { cls := .type "list", data := .seq vs.toArray }) (hi : PyProof.Rows.IntsAre vs ns) (h63 : ns.length ≤ 63)
    (body : ∀ (base : Heap), K.In base → GxR.TabB base mg c Pt → ∀ (A0 : Around) (outer : List Env) (s : Shared) (H : Hp) (vs : List V) (Q : VK) (Es : XK), A0.guards = some [] → Room k (A0.deeper (PyProof.Rows.envOfC "law" (defScope sLaw) s.heap.objs.size fa cdv)) → spLaw K Pt vs H Q Es →
      ∃ t, PSs (cxOf CX0 P w K mg base nLaw "law" (defScope sLaw) fa cdv A0 outer s H Es).nox (defBody sLaw) t ∧ t { nx := fun _ H' => Q .non H', rt := Q } (L2.start nLaw vs) H) :
    codeAny (model P w) callerA (.call (.ref fa) ⟨[.ref a], []⟩) (fun r s' => r = .ok (.ret (.bool true)) ∧ OldK s₁.heap s'.heap ∧ s'.os = s₁.os ∧ PyProof.Rows.AllBare s'.gens) s₁ := by
  have aT : a ≠ Pt := fun z => by
    rw [z, hT] at ha
    have := congrArg Obj.data (Option.some.inj ha)
    cases this
  have nlen := hi.length
  -- the script: known to the written part, or tracked
  obtain ⟨sc, hsc, hscK, hseq⟩ : ∃ sc : Option HO, (∀ u, sc = some u → ObjOk P w (First a Pt sc) s₁.heap a u ∧ ∃ o xs, u = .frz o (.lst xs)) ∧ (sc ≠ none → K.lookup a = none) ∧ SqL K (First a Pt sc) a (ns.map V.int) := by
    cases hk : K.lookup a with
    | none =>
      refine ⟨some (.frz { cls := .type "list", data := .seq vs.toArray } (.lst (ns.map V.int))), fun u e => ?_, fun _ => rfl, .inl (.inr ⟨_, first_scr aT⟩)⟩
      cases e
      refine ⟨⟨ha, ?_, vs, _, vals_ints hi, ha⟩, _, _, rfl⟩
      rw [List.length_map]
      exact Nat.le_trans h63 (by decide)
    | some o =>
      refine ⟨none, fun u e => (nomatch e), fun n => (n rfl).elim, .inr ⟨o, vs.toArray, 0, hk, ?_⟩⟩
      have q := inK a o hk
      rw [ha] at q
      cases q
      refine ⟨rfl, rfl, rfl, ?_, by simpa using vals_ints hi⟩
      rw [List.size_toArray, nlen]
      exact Nat.le_trans h63 (by decide)
  generalize hHd : First a Pt sc = H at hsc hseq
  have hTab : H Pt = some (.tbl #[]) := by rw [← hHd]; exact first_tab
  have known : ∀ b u, H b = some u → (b = Pt ∧ u = .tbl #[]) ∨ (b = a ∧ sc = some u) := fun b u e => first_some (by rw [hHd]; exact e)
  have hok : HOk P w H s₁.heap := fun b u e => by
    rcases known b u e with ⟨rfl, rfl⟩ | ⟨rfl, q⟩
    · exact hT
    · exact (hsc u q).1
  -- nothing else is tracked
  have clear : ∀ {b : Addr} {o : Obj}, s₁.heap.get? b = some o → (∀ l n, o.data ≠ .seq l n) → o.data ≠ .fields #[] → H b = none := fun {b o} e n1 n2 => by
    cases q : H b with
    | none => rfl
    | some u =>
      rcases known b u q with ⟨rfl, _⟩ | ⟨rfl, _⟩
      · rw [hT] at e
        cases e
        exact (n2 rfl).elim
      · rw [ha] at e
        cases e
        exact (n1 _ _ rfl).elim
  have nsB : ∀ {b : Addr} {m : Str → Option Value}, s₁.heap.Ns b m → (hidT s₁.heap H).Ns b m := fun {b m} ⟨o, es, ep, e, d, r⟩ =>
    ⟨o, es, ep, hidT_get e (clear e (fun l n z => by rw [d] at z; cases z) (fun z => by rw [d] at z; cases z)), d, r⟩
  have kB : K.In (hidT s₁.heap H) := fun b o e => hidT_get (inK b o e) (by
    cases q : H b with
    | none => rfl
    | some u =>
      rcases known b u q with ⟨rfl, _⟩ | ⟨rfl, q2⟩
      · rw [nT] at e; cases e
      · rw [hscK (by rw [q2]; simp)] at e; cases e)
  have modB : L2.Mod K mg (hidT s₁.heap H) := by
    obtain ⟨mc, l1, l2⟩ := lim
    exact ⟨kB, nsB gl, ⟨mb, nsB bl, bb⟩, mc, nsB l1, l2⟩
  have glob : mainGlobals ≠ Pt := fun z => by
    obtain ⟨o, es, ep, e, d, _⟩ := gl
    rw [z, hT] at e
    cases e
    cases d
  have tabB : GxR.TabB (hidT s₁.heap H) mg c Pt := by
    obtain ⟨m, ob, g1, g2, g3, g4, g5, g6⟩ := bm
    refine ⟨PySem.W.codeHd_of_K kB hh, ⟨m, ob, g1, g2, fun z => ?_, fun z => ?_, hidT_get g3 (clear g3 (fun l n z => by rw [g6] at z; cases z) (fun z => by rw [g6] at z; cases z)), g4, g5, g6⟩, glob⟩
    · obtain ⟨o, es, ep, e, d, _⟩ := gl
      rw [← z, g3] at e
      cases e
      rw [g6] at d
      cases d
    · rw [z, hT] at g3
      cases g3
      cases g6
  have e0 : Env0 P w K mg (hidT s₁.heap H) callerA [] s₁ H := ⟨rfl, modB, fun b o e => of_hidT e, Nat.le_of_eq (hidT_size _ _), trivial, fun b z => absurd z List.not_mem_nil, hok, .of_eq gen0⟩
  have run := here_run (Q := fun v _ => v = .bl true) (v := .ref a) (u := .ref a) lk hcd scLaw room e0 rfl (bd s₁ (.ref a)) fun hr => by
    obtain ⟨t, ht, hq⟩ := body _ kB tabB callerA [] s₁ H [.ref a] (fun v _ => v = .bl true) E0 rfl hr ⟨a, ns, rfl, hseq, h63, hTab, fun _ => rfl⟩
    exact ⟨t, ht.nox, hq⟩
  refine codeAny_mono run fun r s' ⟨v', u', H', er, os, bare, un, hok', rv', ev⟩ => ?_
  subst ev
  have eu : u' = Value.bool true := rv'
  subst eu
  have kept : ∀ b o, b ≠ Pt → s₁.heap.get? b = some o → s'.heap.get? b = some o := fun b o n e => by
    cases q : H b with
    | none => exact un.keep b o e q List.not_mem_nil List.not_mem_nil
    | some u =>
      rcases known b u q with ⟨z, _⟩ | ⟨rfl, q2⟩
      · exact (n z).elim
      · obtain ⟨_, ob, xs, rfl⟩ := hsc u q2
        have f1 := (hok b _ q).1
        have f2 := (hok' b _ (un.frzs b ob _ q)).1
        rw [e] at f1
        cases f1
        exact f2
  obtain ⟨more, hm⟩ := un.tbls Pt #[] hTab
  have grown : s'.heap.get? Pt = some { cls := .none, data := .fields (#[] ++ more) } := hok' Pt _ hm
  have isT := ((PySem.W.codeHd_of_K inK hh).tab hT).isCodeTable
  refine ⟨er, ⟨fun b o e => ?_, fun b o e => ?_⟩, os, bare⟩
  · by_cases hb : b = Pt
    · subst hb
      rw [hT] at e
      cases e
      exact .inr (.inl ⟨isT, rfl, #[], more, rfl, grown⟩)
    · exact .inl (kept b o hb e)
  · by_cases hb : b = Pt
    · subst hb
      exact ⟨_, grown⟩
    · exact ⟨o, kept b o hb e⟩
end
end Fs
namespace Fs
open PySem L2 TL
theorem fun_of_D {K : PySem.W.Frag} {x q : Str} {st : Stmt} {f : Addr} {fd : FuncData} (F : FunD K x q (defArgs st) (defBody st) (defScope st) [] [] f fd) : Fun K x q st f fd := by
  obtain ⟨oc, od, dV, kV, doc, pm, an, cdv, ct, osl, e, lk, hcd, hd, _⟩ := F.ex
  have hdV : dV = .none := by
    rcases hd with h | h
    · exact h.2
    · exact (h.1 rfl).elim
  subst hdV
  exact ⟨⟨oc, od, kV, doc, pm, an, cdv, ct, osl, e, lk, hcd⟩, F.kp⟩
section
variable {P : Program} {w : World} {K : PySem.W.Frag} {mg : Str → Option Value} {h : Heap}
/-- everything together -/
theorem all (X : K.In h) (G : h.Ns mainGlobals mg) {fa0 : Addr} (hfa : mg ("law" : Str) = some (.ref fa0)) (c : He.SaysX fa fn [] tf exB w h K) :
    ∃ (co Pt : Addr) (dV kV doc pm cdv ct oc : Value) (an od : Option Addr) (osl : Array (Option Value)), K.lookup fa0 = some ⟨oc, od, .func (PySem.W.fnOf "law" "law" (defArgs sLaw) (defBody sLaw) (defScope sLaw) dV kV doc pm an cdv ct), osl⟩ ∧ PySem.W.codeIn K cdv "law" = true ∧
      (∀ (s : Shared) (u : Value), BindsTo s (PySem.W.fnOf "law" "law" (defArgs sLaw) (defBody sLaw) (defScope sLaw) dV kV doc pm an cdv ct) ⟨[u], []⟩ [("_law_script", u)]) ∧
      h.get? Pt = some { cls := .none, data := .fields #[] } ∧ K.lookup Pt = none ∧ PySem.W.codeHdIn K co Pt = true ∧
      ∀ (base : Heap), K.In base → GxR.TabB base mg co Pt → ∀ (A0 : Around) (outer : List Env) (s : Shared) (H : Hp) (vs : List V) (Q : VK) (Es : XK), A0.guards = some [] → Room 7 (A0.deeper (PyProof.Rows.envOfC "law" (defScope sLaw) s.heap.objs.size fa0 cdv)) → spLaw K Pt vs H Q Es →
        ∃ t, PSs (cxOf CX0 P w K mg base nLaw "law" (defScope sLaw) fa0 cdv A0 outer s H Es).nox (defBody sLaw) t ∧ t { nx := fun _ H' => Q .non H', rt := Q } (L2.start nLaw vs) H := by
  have d : He.SaysD fa fn K := c.t.d
  have fct : ∀ f : He.Fa, f ∈ fa → f.ok K = true := fun f hf => d.facts hf
  obtain ⟨x_d_is_whole, D_d_is_whole⟩ := d.def_ 0 (d := d_is_whole) rfl
  have F_d_is_whole : Fun K "is_whole" "is_whole" sWhole (He.ga K "is_whole") x_d_is_whole := fun_of_D D_d_is_whole
  have B_d_is_whole : Binds K x_d_is_whole ["thing"] [] := F_d_is_whole.binds fun _ _ _ _ _ _ us hl => match us, hl with | [_], _ => rfl
  obtain ⟨x_d_is_text, D_d_is_text⟩ := d.def_ 1 (d := d_is_text) rfl
  have F_d_is_text : Fun K "is_text" "is_text" sIsText (He.ga K "is_text") x_d_is_text := fun_of_D D_d_is_text
  have B_d_is_text : Binds K x_d_is_text ["thing"] [] := F_d_is_text.binds fun _ _ _ _ _ _ us hl => match us, hl with | [_], _ => rfl
  obtain ⟨x_d_is_name, D_d_is_name⟩ := d.def_ 2 (d := d_is_name) rfl
  have F_d_is_name : Fun K "is_name" "is_name" sIsName (He.ga K "is_name") x_d_is_name := fun_of_D D_d_is_name
  have B_d_is_name : Binds K x_d_is_name ["thing"] [] := F_d_is_name.binds fun _ _ _ _ _ _ us hl => match us, hl with | [_], _ => rfl
  obtain ⟨x_d__law_pot, D_d__law_pot⟩ := d.def_ 3 (d := d__law_pot) rfl
  have F_d__law_pot : Fun K "_law_pot" "_law_pot" sPot (He.ga K "_law_pot") x_d__law_pot := fun_of_D D_d__law_pot
  have B_d__law_pot : Binds K x_d__law_pot ["_law_script", "_law_k"] [] := F_d__law_pot.binds fun _ _ _ _ _ _ us hl => match us, hl with | [_, _], _ => rfl
  obtain ⟨x_d__law_digit, D_d__law_digit⟩ := d.def_ 4 (d := d__law_digit) rfl
  have F_d__law_digit : Fun K "_law_digit" "_law_digit" sDigit (He.ga K "_law_digit") x_d__law_digit := fun_of_D D_d__law_digit
  have B_d__law_digit : Binds K x_d__law_digit ["_law_pot_here", "_law_many"] [] := F_d__law_digit.binds fun _ _ _ _ _ _ us hl => match us, hl with | [_, _], _ => rfl
  obtain ⟨x_d__law_text, D_d__law_text⟩ := d.def_ 5 (d := d__law_text) rfl
  have F_d__law_text : Fun K "_law_text" "_law_text" sText (He.ga K "_law_text") x_d__law_text := fun_of_D D_d__law_text
  have B_d__law_text : Binds K x_d__law_text ["_law_pot_here"] [] := F_d__law_text.binds fun _ _ _ _ _ _ us hl => match us, hl with | [_], _ => rfl
  obtain ⟨x_d__law_name, D_d__law_name⟩ := d.def_ 6 (d := d__law_name) rfl
  have F_d__law_name : Fun K "_law_name" "_law_name" sName (He.ga K "_law_name") x_d__law_name := fun_of_D D_d__law_name
  have B_d__law_name : Binds K x_d__law_name ["_law_pot_here"] [] := F_d__law_name.binds fun _ _ _ _ _ _ us hl => match us, hl with | [_], _ => rfl
  obtain ⟨x_d__law_fresh, D_d__law_fresh⟩ := d.def_ 7 (d := d__law_fresh) rfl
  have F_d__law_fresh : Fun K "_law_fresh" "_law_fresh" sFresh (He.ga K "_law_fresh") x_d__law_fresh := fun_of_D D_d__law_fresh
  have B_d__law_fresh : Binds K x_d__law_fresh ["_law_pot_here", "_law_taken"] [] := F_d__law_fresh.binds fun _ _ _ _ _ _ us hl => match us, hl with | [_, _], _ => rfl
  obtain ⟨x_d__law_pairs, D_d__law_pairs⟩ := d.def_ 8 (d := d__law_pairs) rfl
  have F_d__law_pairs : Fun K "_law_pairs" "_law_pairs" sPairs (He.ga K "_law_pairs") x_d__law_pairs := fun_of_D D_d__law_pairs
  have B_d__law_pairs : Binds K x_d__law_pairs ["_law_pot_here"] [] := F_d__law_pairs.binds fun _ _ _ _ _ _ us hl => match us, hl with | [_], _ => rfl
  obtain ⟨x_d__law_kind, D_d__law_kind⟩ := d.def_ 9 (d := d__law_kind) rfl
  have F_d__law_kind : Fun K "_law_kind" "_law_kind" sKindL (He.ga K "_law_kind") x_d__law_kind := fun_of_D D_d__law_kind
  have B_d__law_kind : Binds K x_d__law_kind ["_law_pot_here", "_law_pairs_here"] [] := F_d__law_kind.binds fun _ _ _ _ _ _ us hl => match us, hl with | [_, _], _ => rfl
  obtain ⟨x_d__law_entries, D_d__law_entries⟩ := d.def_ 10 (d := d__law_entries) rfl
  have F_d__law_entries : Fun K "_law_entries" "_law_entries" sEnt (He.ga K "_law_entries") x_d__law_entries := fun_of_D D_d__law_entries
  have B_d__law_entries : Binds K x_d__law_entries ["_law_pot_here", "_law_pairs_here", "_law_most"] [] := F_d__law_entries.binds fun _ _ _ _ _ _ us hl => match us, hl with | [_, _, _], _ => rfl
  obtain ⟨x_d__law_ledger, D_d__law_ledger⟩ := d.def_ 11 (d := d__law_ledger) rfl
  have F_d__law_ledger : Fun K "_law_ledger" "_law_ledger" sLedg (He.ga K "_law_ledger") x_d__law_ledger := fun_of_D D_d__law_ledger
  have B_d__law_ledger : Binds K x_d__law_ledger ["_law_pairs_here", "_law_entries_here"] [] := F_d__law_ledger.binds fun _ _ _ _ _ _ us hl => match us, hl with | [_, _], _ => rfl
  obtain ⟨x_d__law_risen, D_d__law_risen⟩ := d.def_ 12 (d := d__law_risen) rfl
  have F_d__law_risen : Fun K "_law_risen" "_law_risen" sRisen (He.ga K "_law_risen") x_d__law_risen := fun_of_D D_d__law_risen
  have B_d__law_risen : Binds K x_d__law_risen ["_law_entries_here", "_law_k", "_law_j"] [] := F_d__law_risen.binds fun _ _ _ _ _ _ us hl => match us, hl with | [_, _, _], _ => rfl
  obtain ⟨x_d__law_told, D_d__law_told⟩ := d.def_ 13 (d := d__law_told) rfl
  have F_d__law_told : Fun K "_law_told" "_law_told" sTold (He.ga K "_law_told") x_d__law_told := fun_of_D D_d__law_told
  have B_d__law_told : Binds K x_d__law_told ["_law_ledger_here"] [] := F_d__law_told.binds fun _ _ _ _ _ _ us hl => match us, hl with | [_], _ => rfl
  obtain ⟨x_d__law_marked, D_d__law_marked⟩ := d.def_ 14 (d := d__law_marked) rfl
  have F_d__law_marked : Fun K "_law_marked" "_law_marked" sMkd (He.ga K "_law_marked") x_d__law_marked := fun_of_D D_d__law_marked
  have B_d__law_marked : Binds K x_d__law_marked ["_law_pot_here", "_law_ledger_here", "_law_entries_here"] [] := F_d__law_marked.binds fun _ _ _ _ _ _ us hl => match us, hl with | [_, _, _], _ => rfl
  obtain ⟨x_d__law_odd_number, D_d__law_odd_number⟩ := d.def_ 15 (d := d__law_odd_number) rfl
  have F_d__law_odd_number : Fun K "_law_odd_number" "_law_odd_number" sOdN (He.ga K "_law_odd_number") x_d__law_odd_number := fun_of_D D_d__law_odd_number
  have B_d__law_odd_number : Binds K x_d__law_odd_number ["_law_pot_here", "_law_many"] [] := F_d__law_odd_number.binds fun _ _ _ _ _ _ us hl => match us, hl with | [_, _], _ => rfl
  obtain ⟨x_d__law_odd_text, D_d__law_odd_text⟩ := d.def_ 16 (d := d__law_odd_text) rfl
  have F_d__law_odd_text : Fun K "_law_odd_text" "_law_odd_text" sOdT (He.ga K "_law_odd_text") x_d__law_odd_text := fun_of_D D_d__law_odd_text
  have B_d__law_odd_text : Binds K x_d__law_odd_text ["_law_pot_here"] [] := F_d__law_odd_text.binds fun _ _ _ _ _ _ us hl => match us, hl with | [_], _ => rfl
  obtain ⟨x_d__law_odd_kind, D_d__law_odd_kind⟩ := d.def_ 17 (d := d__law_odd_kind) rfl
  have F_d__law_odd_kind : Fun K "_law_odd_kind" "_law_odd_kind" sOdK (He.ga K "_law_odd_kind") x_d__law_odd_kind := fun_of_D D_d__law_odd_kind
  have B_d__law_odd_kind : Binds K x_d__law_odd_kind ["_law_pot_here", "_law_pairs_here"] [] := F_d__law_odd_kind.binds fun _ _ _ _ _ _ us hl => match us, hl with | [_, _], _ => rfl
  obtain ⟨x_d__law_members, D_d__law_members⟩ := d.def_ 18 (d := d__law_members) rfl
  have F_d__law_members : Fun K "_law_members" "_law_members" sMm (He.ga K "_law_members") x_d__law_members := fun_of_D D_d__law_members
  have B_d__law_members : Binds K x_d__law_members ["_law_pot_here", "_law_many", "_law_is_bad"] [] := F_d__law_members.binds fun _ _ _ _ _ _ us hl => match us, hl with | [_, _, _], _ => rfl
  obtain ⟨x_d__law_odd_way, D_d__law_odd_way⟩ := d.def_ 19 (d := d__law_odd_way) rfl
  have F_d__law_odd_way : Fun K "_law_odd_way" "_law_odd_way" sOdW (He.ga K "_law_odd_way") x_d__law_odd_way := fun_of_D D_d__law_odd_way
  have B_d__law_odd_way : Binds K x_d__law_odd_way ["_law_pot_here"] [] := F_d__law_odd_way.binds fun _ _ _ _ _ _ us hl => match us, hl with | [_], _ => rfl
  obtain ⟨x_d__law_arguments, D_d__law_arguments⟩ := d.def_ 20 (d := d__law_arguments) rfl
  have F_d__law_arguments : Fun K "_law_arguments" "_law_arguments" sArg (He.ga K "_law_arguments") x_d__law_arguments := fun_of_D D_d__law_arguments
  have B_d__law_arguments : Binds K x_d__law_arguments ["_law_pot_here", "_law_pairs_here", "_law_many", "_law_door"] [] := F_d__law_arguments.binds fun _ _ _ _ _ _ us hl => match us, hl with | [_, _, _, _], _ => rfl
  obtain ⟨x_d__law_is_number, D_d__law_is_number⟩ := d.def_ 21 (d := d__law_is_number) rfl
  have F_d__law_is_number : Fun K "_law_is_number" "_law_is_number" sIsN (He.ga K "_law_is_number") x_d__law_is_number := fun_of_D D_d__law_is_number
  have B_d__law_is_number : Binds K x_d__law_is_number ["_law_thing", "_law_many"] [] := F_d__law_is_number.binds fun _ _ _ _ _ _ us hl => match us, hl with | [_, _], _ => rfl
  obtain ⟨x_d__law_due_of_members, D_d__law_due_of_members⟩ := d.def_ 22 (d := d__law_due_of_members) rfl
  have F_d__law_due_of_members : Fun K "_law_due_of_members" "_law_due_of_members" sDoM (He.ga K "_law_due_of_members") x_d__law_due_of_members := fun_of_D D_d__law_due_of_members
  have B_d__law_due_of_members : Binds K x_d__law_due_of_members ["_law_members_here", "_law_many"] [] := F_d__law_due_of_members.binds fun _ _ _ _ _ _ us hl => match us, hl with | [_, _], _ => rfl
  obtain ⟨x_d__law_due, D_d__law_due⟩ := d.def_ 23 (d := d__law_due) rfl
  have F_d__law_due : Fun K "_law_due" "_law_due" sDue (He.ga K "_law_due") x_d__law_due := fun_of_D D_d__law_due
  have B_d__law_due : Binds K x_d__law_due ["_law_pairs_here", "_law_entries_here", "_law_door", "_law_a", "_law_b"] [] := F_d__law_due.binds fun _ _ _ _ _ _ us hl => match us, hl with | [_, _, _, _, _], _ => rfl
  obtain ⟨x_d__law_looked, D_d__law_looked⟩ := d.def_ 24 (d := d__law_looked) rfl
  have F_d__law_looked : Fun K "_law_looked" "_law_looked" sLkd (He.ga K "_law_looked") x_d__law_looked := fun_of_D D_d__law_looked
  have B_d__law_looked : Binds K x_d__law_looked ["_law_ledger_here", "_law_door", "_law_k", "_law_way"] [] := F_d__law_looked.binds fun _ _ _ _ _ _ us hl => match us, hl with | [_, _, _, _], _ => rfl
  obtain ⟨x_d__law_called, D_d__law_called⟩ := d.def_ 25 (d := d__law_called) rfl
  have F_d__law_called : Fun K "_law_called" "_law_called" sCld (He.ga K "_law_called") x_d__law_called := fun_of_D D_d__law_called
  have B_d__law_called : Binds K x_d__law_called ["_law_ledger_here", "_law_door", "_law_a", "_law_b"] [] := F_d__law_called.binds fun _ _ _ _ _ _ us hl => match us, hl with | [_, _, _, _], _ => rfl
  obtain ⟨x_d__law_word, D_d__law_word⟩ := d.def_ 26 (d := d__law_word) rfl
  have F_d__law_word : Fun K "_law_word" "_law_word" sWrd (He.ga K "_law_word") x_d__law_word := fun_of_D D_d__law_word
  have B_d__law_word : Binds K x_d__law_word ["_law_e"] [] := F_d__law_word.binds fun _ _ _ _ _ _ us hl => match us, hl with | [_], _ => rfl
  obtain ⟨x_d__law_refusal, D_d__law_refusal⟩ := d.def_ 27 (d := d__law_refusal) rfl
  have F_d__law_refusal : Fun K "_law_refusal" "_law_refusal" sRfs (He.ga K "_law_refusal") x_d__law_refusal := fun_of_D D_d__law_refusal
  have B_d__law_refusal : Binds K x_d__law_refusal ["_law_ledger_here", "_law_door", "_law_a", "_law_b"] [] := F_d__law_refusal.binds fun _ _ _ _ _ _ us hl => match us, hl with | [_, _, _, _], _ => rfl
  obtain ⟨x_d__law_bare_right, D_d__law_bare_right⟩ := d.def_ 28 (d := d__law_bare_right) rfl
  have F_d__law_bare_right : Fun K "_law_bare_right" "_law_bare_right" sBare (He.ga K "_law_bare_right") x_d__law_bare_right := fun_of_D D_d__law_bare_right
  have B_d__law_bare_right : Binds K x_d__law_bare_right ["_law_pairs_here"] [] := F_d__law_bare_right.binds fun _ _ _ _ _ _ us hl => match us, hl with | [_], _ => rfl
  obtain ⟨x_d__law_good_done, D_d__law_good_done⟩ := d.def_ 29 (d := d__law_good_done) rfl
  have F_d__law_good_done : Fun K "_law_good_done" "_law_good_done" sGd (He.ga K "_law_good_done") x_d__law_good_done := fun_of_D D_d__law_good_done
  have B_d__law_good_done : Binds K x_d__law_good_done ["_law_pot_here", "_law_ledger_here", "_law_entries_here"] [] := F_d__law_good_done.binds fun _ _ _ _ _ _ us hl => match us, hl with | [_, _, _], _ => rfl
  obtain ⟨x_d_law, D_d_law⟩ := d.def_ 30 (d := d_law) rfl
  have F_d_law : Fun K "law" "law" sLaw (He.ga K "law") x_d_law := fun_of_D D_d_law
  have B_d_law : Binds K x_d_law ["_law_script"] [] := F_d_law.binds fun _ _ _ _ _ _ us hl => match us, hl with | [_], _ => rfl
  obtain ⟨x_dL_xinitx, D_dL_xinitx⟩ := d.def_ 31 (d := dL_xinitx) rfl
  have F_dL_xinitx : Fun K "__init__" "Ledger.__init__" sLInit (He.ma K (He.ga K "Ledger") "__init__") x_dL_xinitx := fun_of_D D_dL_xinitx
  have B_dL_xinitx : Binds K x_dL_xinitx ["self", "kinds"] [] := F_dL_xinitx.binds fun _ _ _ _ _ _ us hl => match us, hl with | [_, _], _ => rfl
  obtain ⟨x_dL_plain, D_dL_plain⟩ := d.def_ 32 (d := dL_plain) rfl
  have F_dL_plain : Fun K "plain" "Ledger.plain" sPlain (He.ma K (He.ga K "Ledger") "plain") x_dL_plain := fun_of_D D_dL_plain
  have B_dL_plain : Binds K x_dL_plain ["self", "kind", "text"] [] := F_dL_plain.binds fun _ _ _ _ _ _ us hl => match us, hl with | [_, _, _], _ => rfl
  obtain ⟨x_dL_sheaf, D_dL_sheaf⟩ := d.def_ 33 (d := dL_sheaf) rfl
  have F_dL_sheaf : Fun K "sheaf" "Ledger.sheaf" sSheaf (He.ma K (He.ga K "Ledger") "sheaf") x_dL_sheaf := fun_of_D D_dL_sheaf
  have B_dL_sheaf : Binds K x_dL_sheaf ["self", "text", "members"] [] := F_dL_sheaf.binds fun _ _ _ _ _ _ us hl => match us, hl with | [_, _, _], _ => rfl
  obtain ⟨x_dL_many, D_dL_many⟩ := d.def_ 34 (d := dL_many) rfl
  have F_dL_many : Fun K "many" "Ledger.many" sMany (He.ma K (He.ga K "Ledger") "many") x_dL_many := fun_of_D D_dL_many
  have B_dL_many : Binds K x_dL_many ["self"] [] := F_dL_many.binds fun _ _ _ _ _ _ us hl => match us, hl with | [_], _ => rfl
  obtain ⟨x_dL_kind, D_dL_kind⟩ := d.def_ 35 (d := dL_kind) rfl
  have F_dL_kind : Fun K "kind" "Ledger.kind" sKind (He.ma K (He.ga K "Ledger") "kind") x_dL_kind := fun_of_D D_dL_kind
  have B_dL_kind : Binds K x_dL_kind ["self", "k"] [] := F_dL_kind.binds fun _ _ _ _ _ _ us hl => match us, hl with | [_, _], _ => rfl
  obtain ⟨x_dL_text, D_dL_text⟩ := d.def_ 36 (d := dL_text) rfl
  have F_dL_text : Fun K "text" "Ledger.text" sTextM (He.ma K (He.ga K "Ledger") "text") x_dL_text := fun_of_D D_dL_text
  have B_dL_text : Binds K x_dL_text ["self", "k"] [] := F_dL_text.binds fun _ _ _ _ _ _ us hl => match us, hl with | [_, _], _ => rfl
  obtain ⟨x_dL_members, D_dL_members⟩ := d.def_ 37 (d := dL_members) rfl
  have F_dL_members : Fun K "members" "Ledger.members" sMembers (He.ma K (He.ga K "Ledger") "members") x_dL_members := fun_of_D D_dL_members
  have B_dL_members : Binds K x_dL_members ["self", "k"] [] := F_dL_members.binds fun _ _ _ _ _ _ us hl => match us, hl with | [_, _], _ => rfl
  obtain ⟨x_dL_notes, D_dL_notes⟩ := d.def_ 38 (d := dL_notes) rfl
  have F_dL_notes : Fun K "notes" "Ledger.notes" sNotes (He.ma K (He.ga K "Ledger") "notes") x_dL_notes := fun_of_D D_dL_notes
  have B_dL_notes : Binds K x_dL_notes ["self", "k"] [] := F_dL_notes.binds fun _ _ _ _ _ _ us hl => match us, hl with | [_, _], _ => rfl
  obtain ⟨x_dL_cause, D_dL_cause⟩ := d.def_ 39 (d := dL_cause) rfl
  have F_dL_cause : Fun K "cause" "Ledger.cause" sCause (He.ma K (He.ga K "Ledger") "cause") x_dL_cause := fun_of_D D_dL_cause
  have B_dL_cause : Binds K x_dL_cause ["self", "k"] [] := F_dL_cause.binds fun _ _ _ _ _ _ us hl => match us, hl with | [_, _], _ => rfl
  obtain ⟨x_dL_at_work, D_dL_at_work⟩ := d.def_ 40 (d := dL_at_work) rfl
  have F_dL_at_work : Fun K "at_work" "Ledger.at_work" sAtWork (He.ma K (He.ga K "Ledger") "at_work") x_dL_at_work := fun_of_D D_dL_at_work
  have B_dL_at_work : Binds K x_dL_at_work ["self", "k"] [] := F_dL_at_work.binds fun _ _ _ _ _ _ us hl => match us, hl with | [_, _], _ => rfl
  obtain ⟨x_dL_note, D_dL_note⟩ := d.def_ 41 (d := dL_note) rfl
  have F_dL_note : Fun K "note" "Ledger.note" sNote (He.ma K (He.ga K "Ledger") "note") x_dL_note := fun_of_D D_dL_note
  have B_dL_note : Binds K x_dL_note ["self", "k", "text"] [] := F_dL_note.binds fun _ _ _ _ _ _ us hl => match us, hl with | [_, _, _], _ => rfl
  obtain ⟨x_dL_blame, D_dL_blame⟩ := d.def_ 42 (d := dL_blame) rfl
  have F_dL_blame : Fun K "blame" "Ledger.blame" sBlame (He.ma K (He.ga K "Ledger") "blame") x_dL_blame := fun_of_D D_dL_blame
  have B_dL_blame : Binds K x_dL_blame ["self", "k", "j"] [] := F_dL_blame.binds fun _ _ _ _ _ _ us hl => match us, hl with | [_, _, _], _ => rfl
  obtain ⟨x_dL_rise, D_dL_rise⟩ := d.def_ 43 (d := dL_rise) rfl
  have F_dL_rise : Fun K "rise" "Ledger.rise" sRise (He.ma K (He.ga K "Ledger") "rise") x_dL_rise := fun_of_D D_dL_rise
  have B_dL_rise : Binds K x_dL_rise ["self", "k", "j"] [] := F_dL_rise.binds fun _ _ _ _ _ _ us hl => match us, hl with | [_, _, _], _ => rfl
  obtain ⟨x_dL__add, D_dL__add⟩ := d.def_ 44 (d := dL__add) rfl
  have F_dL__add : Fun K "_add" "Ledger._add" sAdd (He.ma K (He.ga K "Ledger") "_add") x_dL__add := fun_of_D D_dL__add
  have B_dL__add : Binds K x_dL__add ["self", "kind", "text", "members"] [] := F_dL__add.binds fun _ _ _ _ _ _ us hl => match us, hl with | [_, _, _, _], _ => rfl
  obtain ⟨x_dL__cut_row, D_dL__cut_row⟩ := d.def_ 45 (d := dL__cut_row) rfl
  have F_dL__cut_row : Fun K "_cut_row" "Ledger._cut_row" sCut (He.ma K (He.ga K "Ledger") "_cut_row") x_dL__cut_row := fun_of_D D_dL__cut_row
  have B_dL__cut_row : Binds K x_dL__cut_row ["self", "j", "k"] [] := F_dL__cut_row.binds fun _ _ _ _ _ _ us hl => match us, hl with | [_, _, _], _ => rfl
  obtain ⟨x_dL__check_fault_or_none, D_dL__check_fault_or_none⟩ := d.def_ 46 (d := dL__check_fault_or_none) rfl
  have F_dL__check_fault_or_none : Fun K "_check_fault_or_none" "Ledger._check_fault_or_none" sChkN (He.ma K (He.ga K "Ledger") "_check_fault_or_none") x_dL__check_fault_or_none := fun_of_D D_dL__check_fault_or_none
  have B_dL__check_fault_or_none : Binds K x_dL__check_fault_or_none ["self", "j"] [] := F_dL__check_fault_or_none.binds fun _ _ _ _ _ _ us hl => match us, hl with | [_, _], _ => rfl
  obtain ⟨x_dL__check_fault, D_dL__check_fault⟩ := d.def_ 47 (d := dL__check_fault) rfl
  have F_dL__check_fault : Fun K "_check_fault" "Ledger._check_fault" sChkF (He.ma K (He.ga K "Ledger") "_check_fault") x_dL__check_fault := fun_of_D D_dL__check_fault
  have B_dL__check_fault : Binds K x_dL__check_fault ["self", "k"] [] := F_dL__check_fault.binds fun _ _ _ _ _ _ us hl => match us, hl with | [_, _], _ => rfl
  obtain ⟨x_dL__check_text, D_dL__check_text⟩ := d.def_ 48 (d := dL__check_text) rfl
  have F_dL__check_text : Fun K "_check_text" "Ledger._check_text" sChkT (He.ma K (He.ga K "Ledger") "_check_text") x_dL__check_text := fun_of_D D_dL__check_text
  have B_dL__check_text : Binds K x_dL__check_text ["self", "text"] [] := F_dL__check_text.binds fun _ _ _ _ _ _ us hl => match us, hl with | [_, _], _ => rfl
  obtain ⟨x_dL__check_members, D_dL__check_members⟩ := d.def_ 49 (d := dL__check_members) rfl
  have F_dL__check_members : Fun K "_check_members" "Ledger._check_members" sChkM (He.ma K (He.ga K "Ledger") "_check_members") x_dL__check_members := fun_of_D D_dL__check_members
  have B_dL__check_members : Binds K x_dL__check_members ["self", "members"] [] := F_dL__check_members.binds fun _ _ _ _ _ _ us hl => match us, hl with | [_, _], _ => rfl
  obtain ⟨x_dL_like, D_dL_like⟩ := d.def_ 50 (d := dL_like) rfl
  have F_dL_like : Fun K "like" "Ledger.like" sLike (He.ma K (He.ga K "Ledger") "like") x_dL_like := fun_of_D D_dL_like
  have B_dL_like : Binds K x_dL_like ["self", "k", "members"] [] := F_dL_like.binds fun _ _ _ _ _ _ us hl => match us, hl with | [_, _, _], _ => rfl
  obtain ⟨x_dL_leaves, D_dL_leaves⟩ := d.def_ 51 (d := dL_leaves) rfl
  have F_dL_leaves : Fun K "leaves" "Ledger.leaves" sLvp (He.ma K (He.ga K "Ledger") "leaves") x_dL_leaves := fun_of_D D_dL_leaves
  have B_dL_leaves : Binds K x_dL_leaves ["self", "k"] [] := F_dL_leaves.binds fun _ _ _ _ _ _ us hl => match us, hl with | [_, _], _ => rfl
  obtain ⟨x_dL_led, D_dL_led⟩ := d.def_ 52 (d := dL_led) rfl
  have F_dL_led : Fun K "led" "Ledger.led" sLed (He.ma K (He.ga K "Ledger") "led") x_dL_led := fun_of_D D_dL_led
  have B_dL_led : Binds K x_dL_led ["self", "k", "way"] [] := F_dL_led.binds fun _ _ _ _ _ _ us hl => match us, hl with | [_, _, _], _ => rfl
  obtain ⟨x_dK_xinitx, D_dK_xinitx⟩ := d.def_ 53 (d := dK_xinitx) rfl
  have F_dK_xinitx : Fun K "__init__" "Kinds.__init__" sKInit (He.ma K (He.ga K "Kinds") "__init__") x_dK_xinitx := fun_of_D D_dK_xinitx
  have B_dK_xinitx : Binds K x_dK_xinitx ["self", "pairs"] [] := F_dK_xinitx.binds fun _ _ _ _ _ _ us hl => match us, hl with | [_, _], _ => rfl
  obtain ⟨x_dK_is_kind, D_dK_is_kind⟩ := d.def_ 54 (d := dK_is_kind) rfl
  have F_dK_is_kind : Fun K "is_kind" "Kinds.is_kind" sIsKind (He.ma K (He.ga K "Kinds") "is_kind") x_dK_is_kind := fun_of_D D_dK_is_kind
  have B_dK_is_kind : Binds K x_dK_is_kind ["self", "thing"] [] := F_dK_is_kind.binds fun _ _ _ _ _ _ us hl => match us, hl with | [_, _], _ => rfl
  obtain ⟨x_dK__check_new, D_dK__check_new⟩ := d.def_ 55 (d := dK__check_new) rfl
  have F_dK__check_new : Fun K "_check_new" "Kinds._check_new" sChkNew (He.ma K (He.ga K "Kinds") "_check_new") x_dK__check_new := fun_of_D D_dK__check_new
  have B_dK__check_new : Binds K x_dK__check_new ["self", "name", "above"] [] := F_dK__check_new.binds fun _ _ _ _ _ _ us hl => match us, hl with | [_, _, _], _ => rfl
  have z_isinstance : mg "isinstance" = none := He.free_ok X G (fct (.free "isinstance") (by simp [fa]))
  have z_int : mg "int" = none := He.free_ok X G (fct (.free "int") (by simp [fa]))
  have z_bool : mg "bool" = none := He.free_ok X G (fct (.free "bool") (by simp [fa]))
  have z_str : mg "str" = none := He.free_ok X G (fct (.free "str") (by simp [fa]))
  have z_len : mg "len" = none := He.free_ok X G (fct (.free "len") (by simp [fa]))
  have z_all : mg "all" = none := He.free_ok X G (fct (.free "all") (by simp [fa]))
  have z_max : mg "max" = none := He.free_ok X G (fct (.free "max") (by simp [fa]))
  have z_min : mg "min" = none := He.free_ok X G (fct (.free "min") (by simp [fa]))
  have z_range : mg "range" = none := He.free_ok X G (fct (.free "range") (by simp [fa]))
  have z_sum : mg "sum" = none := He.free_ok X G (fct (.free "sum") (by simp [fa]))
  have z_tuple : mg "tuple" = none := He.free_ok X G (fct (.free "tuple") (by simp [fa]))
  have z_list : mg "list" = none := He.free_ok X G (fct (.free "list") (by simp [fa]))
  have z_repr : mg "repr" = none := He.free_ok X G (fct (.free "repr") (by simp [fa]))
  have z_reversed : mg "reversed" = none := He.free_ok X G (fct (.free "reversed") (by simp [fa]))
  have z_ValueError : mg "ValueError" = none := He.free_ok X G (fct (.free "ValueError") (by simp [fa]))
  have g_is_whole : mg "is_whole" = some (.ref (He.ga K "is_whole")) := He.glo_ok X G (fct (.glo "is_whole") (by simp [fa]))
  have g_is_text : mg "is_text" = some (.ref (He.ga K "is_text")) := He.glo_ok X G (fct (.glo "is_text") (by simp [fa]))
  have g_is_name : mg "is_name" = some (.ref (He.ga K "is_name")) := He.glo_ok X G (fct (.glo "is_name") (by simp [fa]))
  have g__law_pot : mg "_law_pot" = some (.ref (He.ga K "_law_pot")) := He.glo_ok X G (fct (.glo "_law_pot") (by simp [fa]))
  have g__law_digit : mg "_law_digit" = some (.ref (He.ga K "_law_digit")) := He.glo_ok X G (fct (.glo "_law_digit") (by simp [fa]))
  have g__law_text : mg "_law_text" = some (.ref (He.ga K "_law_text")) := He.glo_ok X G (fct (.glo "_law_text") (by simp [fa]))
  have g__law_name : mg "_law_name" = some (.ref (He.ga K "_law_name")) := He.glo_ok X G (fct (.glo "_law_name") (by simp [fa]))
  have g__law_fresh : mg "_law_fresh" = some (.ref (He.ga K "_law_fresh")) := He.glo_ok X G (fct (.glo "_law_fresh") (by simp [fa]))
  have g__law_pairs : mg "_law_pairs" = some (.ref (He.ga K "_law_pairs")) := He.glo_ok X G (fct (.glo "_law_pairs") (by simp [fa]))
  have g__law_kind : mg "_law_kind" = some (.ref (He.ga K "_law_kind")) := He.glo_ok X G (fct (.glo "_law_kind") (by simp [fa]))
  have g__law_entries : mg "_law_entries" = some (.ref (He.ga K "_law_entries")) := He.glo_ok X G (fct (.glo "_law_entries") (by simp [fa]))
  have g__law_ledger : mg "_law_ledger" = some (.ref (He.ga K "_law_ledger")) := He.glo_ok X G (fct (.glo "_law_ledger") (by simp [fa]))
  have g__law_risen : mg "_law_risen" = some (.ref (He.ga K "_law_risen")) := He.glo_ok X G (fct (.glo "_law_risen") (by simp [fa]))
  have g__law_told : mg "_law_told" = some (.ref (He.ga K "_law_told")) := He.glo_ok X G (fct (.glo "_law_told") (by simp [fa]))
  have g__law_marked : mg "_law_marked" = some (.ref (He.ga K "_law_marked")) := He.glo_ok X G (fct (.glo "_law_marked") (by simp [fa]))
  have g__law_odd_number : mg "_law_odd_number" = some (.ref (He.ga K "_law_odd_number")) := He.glo_ok X G (fct (.glo "_law_odd_number") (by simp [fa]))
  have g__law_odd_text : mg "_law_odd_text" = some (.ref (He.ga K "_law_odd_text")) := He.glo_ok X G (fct (.glo "_law_odd_text") (by simp [fa]))
  have g__law_odd_kind : mg "_law_odd_kind" = some (.ref (He.ga K "_law_odd_kind")) := He.glo_ok X G (fct (.glo "_law_odd_kind") (by simp [fa]))
  have g__law_members : mg "_law_members" = some (.ref (He.ga K "_law_members")) := He.glo_ok X G (fct (.glo "_law_members") (by simp [fa]))
  have g__law_odd_way : mg "_law_odd_way" = some (.ref (He.ga K "_law_odd_way")) := He.glo_ok X G (fct (.glo "_law_odd_way") (by simp [fa]))
  have g__law_arguments : mg "_law_arguments" = some (.ref (He.ga K "_law_arguments")) := He.glo_ok X G (fct (.glo "_law_arguments") (by simp [fa]))
  have g__law_is_number : mg "_law_is_number" = some (.ref (He.ga K "_law_is_number")) := He.glo_ok X G (fct (.glo "_law_is_number") (by simp [fa]))
  have g__law_due_of_members : mg "_law_due_of_members" = some (.ref (He.ga K "_law_due_of_members")) := He.glo_ok X G (fct (.glo "_law_due_of_members") (by simp [fa]))
  have g__law_due : mg "_law_due" = some (.ref (He.ga K "_law_due")) := He.glo_ok X G (fct (.glo "_law_due") (by simp [fa]))
  have g__law_looked : mg "_law_looked" = some (.ref (He.ga K "_law_looked")) := He.glo_ok X G (fct (.glo "_law_looked") (by simp [fa]))
  have g__law_called : mg "_law_called" = some (.ref (He.ga K "_law_called")) := He.glo_ok X G (fct (.glo "_law_called") (by simp [fa]))
  have g__law_word : mg "_law_word" = some (.ref (He.ga K "_law_word")) := He.glo_ok X G (fct (.glo "_law_word") (by simp [fa]))
  have g__law_refusal : mg "_law_refusal" = some (.ref (He.ga K "_law_refusal")) := He.glo_ok X G (fct (.glo "_law_refusal") (by simp [fa]))
  have g__law_bare_right : mg "_law_bare_right" = some (.ref (He.ga K "_law_bare_right")) := He.glo_ok X G (fct (.glo "_law_bare_right") (by simp [fa]))
  have g__law_good_done : mg "_law_good_done" = some (.ref (He.ga K "_law_good_done")) := He.glo_ok X G (fct (.glo "_law_good_done") (by simp [fa]))
  have g_law : mg "law" = some (.ref (He.ga K "law")) := He.glo_ok X G (fct (.glo "law") (by simp [fa]))
  have g_Ledger : mg "Ledger" = some (.ref (He.ga K "Ledger")) := He.glo_ok X G (fct (.glo "Ledger") (by simp [fa]))
  have cl_Ledger := He.cls_ok (fct (.cls "Ledger") (by simp [fa]))
  have mk_Ledger := He.mkr_ok (fct (.mkr "Ledger") (by simp [fa]))
  have g_Kinds : mg "Kinds" = some (.ref (He.ga K "Kinds")) := He.glo_ok X G (fct (.glo "Kinds") (by simp [fa]))
  have cl_Kinds := He.cls_ok (fct (.cls "Kinds") (by simp [fa]))
  have mk_Kinds := He.mkr_ok (fct (.mkr "Kinds") (by simp [fa]))
  have n0 := He.noat_ok (fct (.noat "Ledger" "_kinds") (by simp [fa]))
  have n1 := He.noat_ok (fct (.noat "Ledger" "_kind_of") (by simp [fa]))
  have n2 := He.noat_ok (fct (.noat "Ledger" "_text_of") (by simp [fa]))
  have n3 := He.noat_ok (fct (.noat "Ledger" "_members_of") (by simp [fa]))
  have n4 := He.noat_ok (fct (.noat "Ledger" "_notes_of") (by simp [fa]))
  have n5 := He.noat_ok (fct (.noat "Ledger" "_cause_of") (by simp [fa]))
  have n6 := He.noat_ok (fct (.noat "Ledger" "_at_work_of") (by simp [fa]))
  have nA := He.noat_ok (fct (.noat "Kinds" "_above") (by simp [fa]))
  have m_plain := He.meth_ok (fct (.meth "Ledger" "plain") (by simp [fa]))
  have m_sheaf := He.meth_ok (fct (.meth "Ledger" "sheaf") (by simp [fa]))
  have m_many := He.meth_ok (fct (.meth "Ledger" "many") (by simp [fa]))
  have m_kind := He.meth_ok (fct (.meth "Ledger" "kind") (by simp [fa]))
  have m_text := He.meth_ok (fct (.meth "Ledger" "text") (by simp [fa]))
  have m_members := He.meth_ok (fct (.meth "Ledger" "members") (by simp [fa]))
  have m_notes := He.meth_ok (fct (.meth "Ledger" "notes") (by simp [fa]))
  have m_cause := He.meth_ok (fct (.meth "Ledger" "cause") (by simp [fa]))
  have m_at_work := He.meth_ok (fct (.meth "Ledger" "at_work") (by simp [fa]))
  have m_note := He.meth_ok (fct (.meth "Ledger" "note") (by simp [fa]))
  have m_blame := He.meth_ok (fct (.meth "Ledger" "blame") (by simp [fa]))
  have m_rise := He.meth_ok (fct (.meth "Ledger" "rise") (by simp [fa]))
  have m__add := He.meth_ok (fct (.meth "Ledger" "_add") (by simp [fa]))
  have m__cut_row := He.meth_ok (fct (.meth "Ledger" "_cut_row") (by simp [fa]))
  have m__check_fault_or_none := He.meth_ok (fct (.meth "Ledger" "_check_fault_or_none") (by simp [fa]))
  have m__check_fault := He.meth_ok (fct (.meth "Ledger" "_check_fault") (by simp [fa]))
  have m__check_text := He.meth_ok (fct (.meth "Ledger" "_check_text") (by simp [fa]))
  have m__check_members := He.meth_ok (fct (.meth "Ledger" "_check_members") (by simp [fa]))
  have m_like := He.meth_ok (fct (.meth "Ledger" "like") (by simp [fa]))
  have m_leaves := He.meth_ok (fct (.meth "Ledger" "leaves") (by simp [fa]))
  have m_led := He.meth_ok (fct (.meth "Ledger" "led") (by simp [fa]))
  have k_is_kind := He.meth_ok (fct (.meth "Kinds" "is_kind") (by simp [fa]))
  have k__check_new := He.meth_ok (fct (.meth "Kinds" "_check_new") (by simp [fa]))
  have g_FaultError : mg "FaultError" = some (.ref (He.ga K "FaultError")) := He.glo_ok X G (fct (.glo "FaultError") (by simp [fa]))
  have g_NoKind : mg "NoKind" = some (.ref (He.ga K "NoKind")) := He.glo_ok X G (fct (.glo "NoKind") (by simp [fa]))
  have g_NoText : mg "NoText" = some (.ref (He.ga K "NoText")) := He.glo_ok X G (fct (.glo "NoText") (by simp [fa]))
  have g_NoFault : mg "NoFault" = some (.ref (He.ga K "NoFault")) := He.glo_ok X G (fct (.glo "NoFault") (by simp [fa]))
  have g_Empty : mg "Empty" = some (.ref (He.ga K "Empty")) := He.glo_ok X G (fct (.glo "Empty") (by simp [fa]))
  have g_NoWay : mg "NoWay" = some (.ref (He.ga K "NoWay")) := He.glo_ok X G (fct (.glo "NoWay") (by simp [fa]))
  have g_NoBody : mg "NoBody" = some (.ref (He.ga K "NoBody")) := He.glo_ok X G (fct (.glo "NoBody") (by simp [fa]))
  have g_NoProgram : mg "NoProgram" = some (.ref (He.ga K "NoProgram")) := He.glo_ok X G (fct (.glo "NoProgram") (by simp [fa]))
  have g_NoRow : mg "NoRow" = some (.ref (He.ga K "NoRow")) := He.glo_ok X G (fct (.glo "NoRow") (by simp [fa]))
  have g_NoTest : mg "NoTest" = some (.ref (He.ga K "NoTest")) := He.glo_ok X G (fct (.glo "NoTest") (by simp [fa]))
  -- the law's own object, the code of is_name
  have efa : fa0 = He.ga K "law" := by
    have e := hfa.symm.trans g_law
    cases e
    rfl
  subst efa
  obtain ⟨oc, od, dV, kV, doc, pm, an, cdv, ct, osl, exl, lkl, hcl, hdl, _⟩ := D_d_law.ex
  obtain ⟨oc2, od2, dV2, kV2, doc2, pm2, an2, cdv2, ct2, osl2, exn, lkn, hcn, hdn, _⟩ := D_d_is_name.ex
  obtain ⟨co, eco⟩ := He.codeIn_ref hcn
  have eco2 : He.codeOf K ("is_name", none) = co := He.codeOf_eq (p := ("is_name", none)) lkn (by rw [exn]; exact eco)
  have hd1 := c.hd ("is_name", none) List.mem_cons_self
  have hd2 := c.out ("is_name", none) List.mem_cons_self
  have hd3 := c.empty ("is_name", none) List.mem_cons_self
  have ecT : (He.cT K ("is_name", none)).1 = co := eco2
  rw [ecT] at hd1
  subst exl exn eco
  refine ⟨co, (He.cT K ("is_name", none)).2, dV, kV, doc, pm, cdv, ct, oc, an, od, osl, lkl, hcl, fun s u => ?_, hd3, hd2, hd1, ?_⟩
  · have hdV : dV = .none := by
      rcases hdl with q | q
      · exact q.2
      · exact (q.1 rfl).elim
    subst hdV
    exact .of_eq rfl
  intro base kB TB A0 outer s H vs Q Es hg hr hsp
  have TK : KTxt K mg (He.ga K "Kinds") (He.ma K (He.ga K "Kinds") "__init__") (He.ma K (He.ga K "Kinds") "is_kind") (He.ma K (He.ga K "Kinds") "_check_new") := ⟨cl_Kinds, nA, k_is_kind, k__check_new⟩
  have TL' : LTxt K mg (He.ga K "Ledger") (He.ma K (He.ga K "Ledger") "_add") (He.ma K (He.ga K "Ledger") "_check_fault") (He.ma K (He.ga K "Ledger") "_check_text") (He.ma K (He.ga K "Ledger") "_check_members") :=
    ⟨cl_Ledger, n0, n1, n2, n3, n4, n5, n6, m__add, m__check_fault, m__check_text, m__check_members, z_len, z_tuple, z_list⟩
  have oPot := ok_pot (P := P) (w := w) (base := base) F_d__law_pot z_len z_max
  have oDig := ok_digit (P := P) (w := w) (mg := mg) (base := base) F_d__law_digit
  have oName := ok_name F_d__law_name oDig g__law_digit F_d__law_digit.kp B_d__law_digit z_range
  have oText := ok_text F_d__law_text oDig g__law_digit F_d__law_digit.kp B_d__law_digit z_range z_int
  have oFresh := ok_fresh F_d__law_fresh oName g__law_name F_d__law_name.kp B_d__law_name z_range
  have oPairs := ok_pairs F_d__law_pairs oDig g__law_digit F_d__law_digit.kp B_d__law_digit oFresh g__law_fresh F_d__law_fresh.kp B_d__law_fresh z_len z_range
  have oKindL := ok_kindL F_d__law_kind oDig g__law_digit F_d__law_digit.kp B_d__law_digit z_len
  have oWhole := ok_whole (P := P) (w := w) (base := base) F_d_is_whole z_isinstance z_int z_bool
  have oIsText := ok_isText (P := P) (w := w) (base := base) F_d_is_text z_isinstance z_str
  have oIsName := ok_isName lkn hcn TB oIsText g_is_text F_d_is_text.kp B_d_is_text z_len z_all
  have oIsKind := ok_isKind F_dK_is_kind TK oIsText g_is_text F_d_is_text.kp B_d_is_text
  have oChkNew := ok_chkNew F_dK__check_new TK oIsName g_is_name F_d_is_name.kp B_d_is_name oIsKind B_dK_is_kind
  have oKInit := ok_kInit F_dK_xinitx TK oChkNew B_dK__check_new
  have oChkF := ok_chkF F_dL__check_fault TL' oWhole g_is_whole F_d_is_whole.kp B_d_is_whole
  have oChkT := ok_chkT (C := He.ga K "Ledger") F_dL__check_text oIsText g_is_text F_d_is_text.kp B_d_is_text
  have oMany := ok_many (P := P) (w := w) (base := base) F_dL_many TL'
  have oKind := ok_kind F_dL_kind TL' oChkF B_dL__check_fault
  have oTextM := ok_textM F_dL_text TL' oChkF B_dL__check_fault
  have oCause := ok_cause F_dL_cause TL' oChkF B_dL__check_fault
  have oAtWork := ok_atWork F_dL_at_work TL' oChkF B_dL__check_fault
  have oMembers := ok_members F_dL_members TL' oChkF B_dL__check_fault
  have oNotes := ok_notes F_dL_notes TL' oChkF B_dL__check_fault
  have oAdd := ok_add (P := P) (w := w) (base := base) F_dL__add TL'
  have oChkM := ok_chkM F_dL__check_members TL' oChkF B_dL__check_fault
  have oPlain := ok_plain F_dL_plain TL' TK oIsKind B_dK_is_kind oChkT B_dL__check_text oAdd B_dL__add
  have oSheaf := ok_sheaf F_dL_sheaf TL' oChkT B_dL__check_text oChkM B_dL__check_members oAdd B_dL__add
  have oLInit := ok_lInit (P := P) (w := w) (base := base) F_dL_xinitx TL'
  have oChkN := ok_chkN F_dL__check_fault_or_none TL' oChkF B_dL__check_fault
  have oCut := ok_cut (P := P) (w := w) (base := base) F_dL__cut_row TL'
  have oRise := ok_rise F_dL_rise TL' oChkF B_dL__check_fault m__check_fault_or_none oChkN B_dL__check_fault_or_none m__cut_row oCut B_dL__cut_row
  have oBlame := ok_blame F_dL_blame TL' oChkF B_dL__check_fault m__check_fault_or_none oChkN B_dL__check_fault_or_none
  have oNote := ok_note F_dL_note TL' oChkF B_dL__check_fault oChkT B_dL__check_text
  have TE' : ETxt K mg _ _ _ := ⟨g__law_kind, F_d__law_kind.kp, g__law_digit, F_d__law_digit.kp, g__law_text, F_d__law_text.kp, z_sum, z_max, z_range⟩
  have oEnt := ok_ent F_d__law_entries TE' oKindL B_d__law_kind oDig B_d__law_digit oText B_d__law_text
  have TX : GLx K mg (He.ga K "Ledger") (He.ga K "Kinds") _ _ _ _ := ⟨cl_Ledger, g_Ledger, g_Kinds, mk_Ledger, mk_Kinds, m_plain, m_sheaf, z_list⟩
  have oLedg := ok_ledg F_d__law_ledger TX oLInit B_dL_xinitx oKInit B_dK_xinitx oPlain B_dL_plain oSheaf B_dL_sheaf
  have oRisen := ok_risen (P := P) (w := w) (base := base) F_d__law_risen z_len z_range
  have TG : GTxt K (He.ga K "Ledger") _ _ _ _ _ _ _ := ⟨m_many, m_kind, m_text, m_members, m_notes, m_cause, m_at_work⟩
  have oTold := ok_told F_d__law_told cl_Ledger TG z_range oMany B_dL_many oKind B_dL_kind oTextM B_dL_text oMembers B_dL_members oNotes B_dL_notes oCause B_dL_cause oAtWork B_dL_at_work
  have oLvp := ok_lvp F_dL_leaves TL' oChkF B_dL__check_fault z_range z_reversed
  have TMk : DTx K mg (He.ga K "Ledger") _ _ _ _ _ _ := ⟨cl_Ledger, m_blame, m_note, m_rise, g__law_digit, F_d__law_digit.kp, g__law_text, F_d__law_text.kp, g__law_risen, F_d__law_risen.kp, z_len, z_int, z_range⟩
  have oMk := ok_mkd F_d__law_marked TMk oDig B_d__law_digit oText B_d__law_text oRisen B_d__law_risen oBlame B_dL_blame oNote B_dL_note oRise B_dL_rise
  have mo := c.more
  unfold exB at mo
  simp only [Bool.and_eq_true, decide_eq_true_eq] at mo
  obtain ⟨q6, q7, a0_0, a0_1, a0_2, a0_3, a0_4, a0_5, a0_6, a0_7, i0_0, i0_1, i0_2, i0_3, i0_4, a1_0, a1_1, a1_2, a1_3, a1_4, a1_5, a1_6, a1_7, i1_0, i1_1, i1_2, i1_3, i1_4, a2_0, a2_1, a2_2, a2_3, a2_4, a2_5, a2_6, a2_7, i2_0, i2_1, i2_2, i2_3, i2_4, a3_0, a3_1, a3_2, a3_3, a3_4, a3_5, a3_6, a3_7, i3_0, i3_1, i3_2, i3_3, i3_4, a4_0, a4_1, a4_2, a4_3, a4_4, a4_5, a4_6, a4_7, i4_0, i4_1, i4_2, i4_3, i4_4⟩ := mo
  obtain ⟨y01, y02, y03, y04⟩ := He.exc_ok (fct (.exc "NoKind") (by simp [fa]))
  have f0 := He.exm_ok (fct (.exm "NoKind" "FaultError" true) (by simp [fa]))
  have N0 : Rz K mg "NoKind" (He.ga K "NoKind") := ⟨g_NoKind, y01, y02, y03, y04⟩
  have E0 : ExcC K (He.ga K "NoKind") := ⟨a0_0, a0_1, a0_2, a0_3, a0_4, q6, q7, a0_5⟩
  obtain ⟨y11, y12, y13, y14⟩ := He.exc_ok (fct (.exc "NoText") (by simp [fa]))
  have f1 := He.exm_ok (fct (.exm "NoText" "FaultError" true) (by simp [fa]))
  have N1 : Rz K mg "NoText" (He.ga K "NoText") := ⟨g_NoText, y11, y12, y13, y14⟩
  have E1 : ExcC K (He.ga K "NoText") := ⟨a1_0, a1_1, a1_2, a1_3, a1_4, q6, q7, a1_5⟩
  obtain ⟨y21, y22, y23, y24⟩ := He.exc_ok (fct (.exc "NoFault") (by simp [fa]))
  have f2 := He.exm_ok (fct (.exm "NoFault" "FaultError" true) (by simp [fa]))
  have N2 : Rz K mg "NoFault" (He.ga K "NoFault") := ⟨g_NoFault, y21, y22, y23, y24⟩
  have E2 : ExcC K (He.ga K "NoFault") := ⟨a2_0, a2_1, a2_2, a2_3, a2_4, q6, q7, a2_5⟩
  obtain ⟨y31, y32, y33, y34⟩ := He.exc_ok (fct (.exc "Empty") (by simp [fa]))
  have f3 := He.exm_ok (fct (.exm "Empty" "FaultError" true) (by simp [fa]))
  have N3 : Rz K mg "Empty" (He.ga K "Empty") := ⟨g_Empty, y31, y32, y33, y34⟩
  have E3 : ExcC K (He.ga K "Empty") := ⟨a3_0, a3_1, a3_2, a3_3, a3_4, q6, q7, a3_5⟩
  obtain ⟨y41, y42, y43, y44⟩ := He.exc_ok (fct (.exc "NoWay") (by simp [fa]))
  have f4 := He.exm_ok (fct (.exm "NoWay" "FaultError" true) (by simp [fa]))
  have N4 : Rz K mg "NoWay" (He.ga K "NoWay") := ⟨g_NoWay, y41, y42, y43, y44⟩
  have E4 : ExcC K (He.ga K "NoWay") := ⟨a4_0, a4_1, a4_2, a4_3, a4_4, q6, q7, a4_5⟩
  have NW : NWx K mg (He.ga K "NoWay") := ⟨g_NoWay, y41, y42, y43, y44⟩
  obtain ⟨AA, hAA⟩ : ∃ AA : CA, AA = ⟨He.ga K "NoKind", He.ga K "NoText", He.ga K "NoFault", He.ga K "Empty", He.ga K "NoWay"⟩ := ⟨_, rfl⟩
  have TR : RfE K mg AA (He.ga K "FaultError") (He.ga K "NoBody") (He.ga K "NoProgram") (He.ga K "NoRow") (He.ga K "NoTest") := by
    subst hAA
    exact ⟨g_FaultError, g_NoKind, g_NoText, g_NoFault, g_Empty, g_NoWay, g_NoBody, g_NoProgram, g_NoRow, g_NoTest, fun c => match c with | .kind => f0 | .text => f1 | .fault => f2 | .empty => f3 | .way => f4, fun c => match c with | .kind => E0 | .text => E1 | .fault => E2 | .empty => E3 | .way => E4, fun c => match c with | .kind => a0_6 | .text => a1_6 | .fault => a2_6 | .empty => a3_6 | .way => a4_6, fun c d => match c, d with | .kind, .kind => i0_0 | .kind, .text => i0_1 | .kind, .fault => i0_2 | .kind, .empty => i0_3 | .kind, .way => i0_4 | .text, .kind => i1_0 | .text, .text => i1_1 | .text, .fault => i1_2 | .text, .empty => i1_3 | .text, .way => i1_4 | .fault, .kind => i2_0 | .fault, .text => i2_1 | .fault, .fault => i2_2 | .fault, .empty => i2_3 | .fault, .way => i2_4 | .empty, .kind => i3_0 | .empty, .text => i3_1 | .empty, .fault => i3_2 | .empty, .empty => i3_3 | .empty, .way => i3_4 | .way, .kind => i4_0 | .way, .text => i4_1 | .way, .fault => i4_2 | .way, .empty => i4_3 | .way, .way => i4_4, fun c => match c with | .kind => a0_7 | .text => a1_7 | .fault => a2_7 | .empty => a3_7 | .way => a4_7⟩
  have eK : AA.k = He.ga K "NoKind" := by rw [hAA]
  have eT : AA.t = He.ga K "NoText" := by rw [hAA]
  have eF : AA.f = He.ga K "NoFault" := by rw [hAA]
  have eE : AA.e = He.ga K "Empty" := by rw [hAA]
  have eW : AA.w = He.ga K "NoWay" := by rw [hAA]
  rw [← eK] at N0
  rw [← eT] at N1
  rw [← eF] at N2
  rw [← eE] at N3
  rw [← eW] at N4 NW
  have oTxG := ok_txG (P := P) (w := w) (base := base) F_d_is_text z_isinstance z_str
  have oWhT := ok_whT (P := P) (w := w) (base := base) F_d_is_whole z_isinstance z_int z_bool
  have oWhG := ok_wholeG (P := P) (w := w) (base := base) F_d_is_whole z_isinstance z_int z_bool
  have oKdG := ok_kdG F_dK_is_kind TK oTxG g_is_text F_d_is_text.kp B_d_is_text
  have cF := ok_chkFT F_dL__check_fault TL' N2 oWhT g_is_whole F_d_is_whole.kp B_d_is_whole
  have cN := ok_chkNT F_dL__check_fault_or_none TL' cF B_dL__check_fault
  have cT := ok_chkTT (C := He.ga K "Ledger") F_dL__check_text N1 oTxG g_is_text F_d_is_text.kp B_d_is_text
  have cM := ok_chkMT F_dL__check_members TL' N3 cF B_dL__check_fault
  have bKind := bad_kind F_dL_kind TL' cF B_dL__check_fault
  have bText := bad_text F_dL_text TL' cF B_dL__check_fault
  have bMem := bad_members F_dL_members TL' cF B_dL__check_fault
  have bNotes := bad_notes F_dL_notes TL' cF B_dL__check_fault
  have bCause := bad_cause F_dL_cause TL' cF B_dL__check_fault
  have bAtW := bad_at_work F_dL_at_work TL' cF B_dL__check_fault
  have bLvs := bad_leaves F_dL_leaves TL' cF B_dL__check_fault
  have bLed1 := bad_led F_dL_led TL' cF B_dL__check_fault
  have bLed2 := bad_ledW F_dL_led TL' N4 cF B_dL__check_fault z_isinstance
  have oLed := ok_led F_dL_led TL' NW oChkF B_dL__check_fault oWhG g_is_whole F_d_is_whole.kp B_d_is_whole z_isinstance
  have oLedX := FnOk.or2 bLed1 (FnOk.or2 bLed2 oLed)
  have bLike := bad_like F_dL_like TL' N2 cF B_dL__check_fault cM B_dL__check_members
  have bNote := bad_note F_dL_note TL' cF B_dL__check_fault cT B_dL__check_text
  have bBlame := bad_blame F_dL_blame TL' cF B_dL__check_fault m__check_fault_or_none cN B_dL__check_fault_or_none
  have bRise := bad_rise F_dL_rise TL' cF B_dL__check_fault m__check_fault_or_none cN B_dL__check_fault_or_none
  have bPlain := bad_plain F_dL_plain TL' TK N0 oKdG B_dK_is_kind cT B_dL__check_text
  have bSheaf := bad_sheaf F_dL_sheaf TL' cT B_dL__check_text cM B_dL__check_members
  have TLk : DTx15 K (He.ga K "Ledger") _ _ _ _ _ _ _ _ := ⟨cl_Ledger, m_kind, m_text, m_members, m_notes, m_cause, m_at_work, m_leaves, m_led⟩
  have oLkd := ok_lkd (mg := mg) (AA := AA) F_d__law_looked TLk bKind B_dL_kind bText B_dL_text bMem B_dL_members bNotes B_dL_notes bCause B_dL_cause bAtW B_dL_at_work bLvs B_dL_leaves oLedX B_dL_led
  have TCl : CTx15 K mg (He.ga K "Ledger") _ _ _ _ _ _ _ := ⟨cl_Ledger, m_plain, m_sheaf, m_like, m_note, m_blame, m_rise, g__law_looked, F_d__law_looked.kp, z_int⟩
  have oCld := ok_cld (AA := AA) F_d__law_called TCl bPlain B_dL_plain bSheaf B_dL_sheaf bLike B_dL_like bNote B_dL_note bBlame B_dL_blame bRise B_dL_rise oLkd B_d__law_looked
  have oWrd := ok_wrd (P := P) (w := w) (base := base) F_d__law_word TR z_isinstance z_ValueError
  have oRfs := ok_rfs F_d__law_refusal TR oCld g__law_called F_d__law_called.kp B_d__law_called oWrd g__law_word F_d__law_word.kp B_d__law_word
  have oIsN := ok_isN (P := P) (w := w) (base := base) F_d__law_is_number z_isinstance z_int z_bool
  have oDoM := ok_doM F_d__law_due_of_members oIsN g__law_is_number F_d__law_is_number.kp B_d__law_is_number z_all z_int
  have TU : UTx K mg _ _ := ⟨g__law_is_number, F_d__law_is_number.kp, g__law_due_of_members, F_d__law_due_of_members.kp, z_int, z_isinstance, z_str, z_len⟩
  have oDue := ok_due F_d__law_due TU oIsN B_d__law_is_number oDoM B_d__law_due_of_members
  have oOdN := ok_odN F_d__law_odd_number oDig g__law_digit F_d__law_digit.kp B_d__law_digit z_len
  have oOdT := ok_odT F_d__law_odd_text oDig g__law_digit F_d__law_digit.kp B_d__law_digit
  have oOdK := ok_odK F_d__law_odd_kind oDig g__law_digit F_d__law_digit.kp B_d__law_digit oFresh g__law_fresh F_d__law_fresh.kp B_d__law_fresh z_len
  have oOdW := ok_odW F_d__law_odd_way oDig g__law_digit F_d__law_digit.kp B_d__law_digit z_len
  have oMm := ok_mm F_d__law_members oDig g__law_digit F_d__law_digit.kp B_d__law_digit oOdN g__law_odd_number F_d__law_odd_number.kp B_d__law_odd_number z_len z_range
  have TGx : GTx K mg _ _ _ _ _ _ _ _ := ⟨g__law_digit, F_d__law_digit.kp, g__law_text, F_d__law_text.kp, g__law_kind, F_d__law_kind.kp, g__law_odd_text, F_d__law_odd_text.kp, g__law_odd_number, F_d__law_odd_number.kp, g__law_odd_kind, F_d__law_odd_kind.kp, g__law_odd_way, F_d__law_odd_way.kp, g__law_members, F_d__law_members.kp, z_int, z_range⟩
  have oArg := ok_arg F_d__law_arguments TGx oDig B_d__law_digit oText B_d__law_text oKindL B_d__law_kind oOdT B_d__law_odd_text oOdN B_d__law_odd_number oOdK B_d__law_odd_kind oOdW B_d__law_odd_way oMm B_d__law_members
  have TGd : GDx K mg (He.ga K "Ledger") _ _ _ := ⟨cl_Ledger, m_plain, m_note, g__law_digit, F_d__law_digit.kp, z_len, z_repr, z_str⟩
  have oGd := ok_gd F_d__law_good_done TGd oDig B_d__law_digit oPlain B_dL_plain oNote B_dL_note
  have TBr : BRx K mg (He.ga K "Ledger") (He.ga K "Kinds") _ _ _ _ := ⟨cl_Ledger, g_Ledger, g_Kinds, mk_Ledger, mk_Kinds, m_many, g__law_refusal, F_d__law_refusal.kp, z_list, z_range, z_int⟩
  have oBare := ok_bare F_d__law_bare_right TBr oLInit B_dL_xinitx oKInit B_dK_xinitx oRfs B_d__law_refusal oMany B_dL_many
  have TA : ATxt K mg (He.ga K "Ledger") _ _ _ _ _ _ _ _ _ _ _ _ _ _ := ⟨cl_Ledger, m_led, m_leaves, g__law_pot, F_d__law_pot.kp, g__law_pairs, F_d__law_pairs.kp, g__law_entries, F_d__law_entries.kp, g__law_ledger, F_d__law_ledger.kp, g__law_marked, F_d__law_marked.kp, g__law_digit, F_d__law_digit.kp, g__law_arguments, F_d__law_arguments.kp, g__law_due, F_d__law_due.kp, g__law_refusal, F_d__law_refusal.kp, g__law_told, F_d__law_told.kp, g__law_good_done, F_d__law_good_done.kp, g__law_bare_right, F_d__law_bare_right.kp, z_len, z_max, z_min, z_range, z_repr⟩
  exact law_body TA oPot B_d__law_pot oPairs B_d__law_pairs oEnt B_d__law_entries oLedg B_d__law_ledger oMk B_d__law_marked oDig B_d__law_digit oArg B_d__law_arguments oDue B_d__law_due oRfs B_d__law_refusal oTold B_d__law_told oGd B_d__law_good_done oBare B_d__law_bare_right oLedX B_dL_led oLvp B_dL_leaves cdv A0 outer s H vs Q Es hg hr hsp
end
end Fs
open PySem PySem.W PySem.Calls PyProof.Rows
set_option maxHeartbeats 0 in
theorem PySem.Challenge.cw_faultsheaves_k15_refused_at_every_door_holds : PySem.Challenge.rw_faultsheaves_k15_refused_at_every_door.Holds := by
  w_on; o_law
  refine HandSHeadRun.head_any (r := OpenLaw.row PySem.Challenge.rw_faultsheaves_k15_refused_at_every_door) (q := view (OpenLaw.row PySem.Challenge.rw_faultsheaves_k15_refused_at_every_door).prog [48]) (H := Fs.hk) (ob := Fs.ob) (M := 6000) (loose := Fs.loose) (d := HandSHeadRun.topDef (OpenLaw.row PySem.Challenge.rw_faultsheaves_k15_refused_at_every_door).prog 48) (kwd := []) Fs.ob_eq
    (by kernel_rfl) (fun s => by kernel_rfl) Fs.run (by kernel_rfl) (by kernel_rfl) (by kernel_rfl) (by rfl) (by first | assumption | decide +kernel) (by decide +kernel) ⟨rfl, rfl, rfl, rfl, rfl, by decide +kernel⟩ ?hw ?hc
  case hw => w_witness2
  case hc =>
    refine Att.attach_callB (l := PySem.Challenge.rw_faultsheaves_k15_refused_at_every_door) (n := 63) rfl (by kernel_rfl) fun w s₀ s₁ mg mb fa o pm cd doc a vs ns G Y ho hd hcd hmg hobj hints hlen hbits hg => ?_
    obtain ⟨K, KX, c⟩ := Y
    have hmg' : mg ("law" : PySem.Str) = some (.ref fa) := by
      have e : (HandSHeadRun.topDef (OpenLaw.row PySem.Challenge.rw_faultsheaves_k15_refused_at_every_door).prog 48).name = ("law" : PySem.Str) := by kernel_rfl
      rw [← e]
      exact hmg
    obtain ⟨co, Pt, dV, kV, doc', pm', cdv, ct, oc, an, od, osl, lk, hc', bd, hT, nT, hh, body⟩ := Fs.all (P := (PySem.Challenge.rw_faultsheaves_k15_refused_at_every_door).prog) (w := w) KX G.T.g hmg' c
    exact Fs.law_here lk hc' ⟨rfl, by decide, by decide⟩ bd KX G.T.g G.T.b G.T.builtins G.T.nolimit hg hT nT hh G.T.bmain hobj hints hlen body
