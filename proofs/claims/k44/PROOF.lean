import PyProof.Rows.All
import Wide.All
import OpenK.AllK
import Wide.FinOn
import HandS.ForMost
import HandS.AnyAll
import HandS.IsInst
import HandS.EndTab
import HandS.Head0
import HandS.Head1
import HandS.Head2
import HandS.HeadEnd
import HandS.HeadHook4
import HandS.HeadWalk
import HandS.Defaults
import HandS.TupAny
import HandS.BoundList
import HandS.Deep
import HandS.Dict
import HandS.More
import HandS.Walk
import PySem.Challenge.RW_faultsheaves_k44_where_steps_stand
set_option Elab.async false
set_option linter.all false
set_option maxRecDepth 100000
set_option maxHeartbeats 16000000
/-! The text by places; what is kept of a heap; the pot and its digits. -/
namespace Fs
open PySem L2
def top (i : Nat) : Stmt := PySem.Challenge.pw_faultsheaves_k44_where_steps_stand.main.body.getD i (.Pass ⟨0, 0, 0, 0⟩)

/-! ### heaps -/
/-- all that was tracked stands, but at the places of ex -/
def Keep (ex : List Addr) (H H' : Hp) : Prop := ∀ b o, b ∉ ex → H b = some o → H' b = some o
theorem Keep.refl (ex : List Addr) (H : Hp) : Keep ex H H := fun _ _ _ h => h
theorem Keep.trans {ex : List Addr} {H H1 H2 : Hp} (a : Keep ex H H1) (b : Keep ex H1 H2) : Keep ex H H2 := fun c o n h => b c o n (a c o n h)
theorem Keep.more {ex ex' : List Addr} {H H' : Hp} (a : Keep ex H H') (h : ∀ b, b ∈ ex → b ∈ ex') : Keep ex' H H' := fun c o n q => a c o (fun z => n (h c z)) q
theorem Keep.at {ex : List Addr} {H H' : Hp} (a : Keep ex H H') {b : Addr} {o : HO} (h : H b = some o) (n : b ∉ ex) : H' b = some o := a b o n h
theorem Keep.new {ex : List Addr} {H : Hp} {p : Addr} {o : HO} (h : H p = none) : Keep ex H (upd H p o) := fun b u _ q => by
  rw [upd_ne (ne_of_none q h)]
  exact q
theorem Keep.own {ex : List Addr} {H : Hp} {p : Addr} {o : HO} (h : p ∈ ex) : Keep ex H (upd H p o) := fun b u n q => by
  rw [upd_ne (fun z => n (by rw [z]; exact h))]
  exact q
theorem Keep.newTo {ex : List Addr} {H H1 : Hp} {p : Addr} {o : HO} (a : Keep ex H H1) (h : H1 p = none) : Keep ex H (upd H1 p o) := a.trans (.new h)
theorem Keep.ownTo {ex : List Addr} {H H1 : Hp} {p : Addr} {o : HO} (a : Keep ex H H1) (h : p ∈ ex) : Keep ex H (upd H1 p o) := a.trans (.own h)
theorem Keep.ne {ex : List Addr} {H H' : Hp} (a : Keep ex H H') {b p : Addr} {o : HO} (h : H b = some o) (n : b ∉ ex) (hp : H' p = none) : b ≠ p := ne_of_none (a.at h n) hp
theorem Keep.free {ex : List Addr} {H H' : Hp} (a : Keep ex H H') {p : Addr} (hp : H' p = none) (n : p ∉ ex) : H p = none := by
  cases q : H p with
  | none => rfl
  | some o =>
    rw [a p o n q] at hp
    cases hp
theorem Keep.seq {K : PySem.W.Frag} {ex : List Addr} {H H' : Hp} {a : Addr} {xs : List V} (e : Keep ex H H') (n : a ∉ ex) (h : SqL K H a xs) : SqL K H' a xs := by
  rcases h with (h | ⟨o, h⟩) | h
  · exact .inl (.inl (e _ _ n h))
  · exact .inl (.inr ⟨o, e _ _ n h⟩)
  · exact .inr h
theorem Keep.same {H H' : Hp} (a : Keep [] H H') : Same H H' := fun b o h => a b o (fun z => nomatch z) h
theorem nin1 {a b : Addr} (h : a ≠ b) : a ∉ [b] := fun z => h (List.mem_singleton.mp z)
theorem nin0 {a : Addr} : a ∉ ([] : List Addr) := fun z => nomatch z
theorem in1 {a : Addr} : a ∈ [a] := List.mem_singleton.mpr rfl

/-! ### the pot -/
/-- a list of three whole numbers, none below nought, the second one small, the third one at most n -/
def PotAt (H : Hp) (p : Addr) (n : Nat) : Prop := ∃ a b c : Int, H p = some (.lst [.int a, .int b, .int c]) ∧ 0 ≤ a ∧ 0 ≤ b ∧ b < 2147483647 ∧ 0 ≤ c ∧ c ≤ (n : Int)
theorem PotAt.le {H : Hp} {p : Addr} {n m : Nat} (h : PotAt H p n) (l : n ≤ m) : PotAt H p m := by
  obtain ⟨a, b, c, h1, h2, h3, h4, h5, h6⟩ := h
  exact ⟨a, b, c, h1, h2, h3, h4, h5, by omega⟩
theorem PotAt.some {H : Hp} {p : Addr} {n : Nat} (h : PotAt H p n) : ∃ xs, H p = some (.lst xs) := by
  obtain ⟨a, b, c, h1, _⟩ := h
  exact ⟨_, h1⟩
theorem PotAt.keep {H H' : Hp} {ex : List Addr} {p : Addr} {n : Nat} (h : PotAt H p n) (k : Keep ex H H') (m : p ∉ ex) : PotAt H' p n := by
  obtain ⟨a, b, c, h1, h2⟩ := h
  exact ⟨a, b, c, k.at h1 m, h2⟩

abbrev sPot : Stmt := top 27
abbrev sDigit : Stmt := top 28
abbrev nPot : List Str := ["_law_script", "_law_k", "_law_cell", "_law_seed"]
abbrev nDigit : List Str := ["_law_pot_here", "_law_many", "_law_digit_here", "_law_mixed"]
theorem scPot : FnScope nPot ["_law_script", "_law_k"] (defScope sPot) := ⟨rfl, rfl, rfl, by decide +kernel, rfl, by decide +kernel, by decide +kernel⟩
theorem scDigit : FnScope nDigit ["_law_pot_here", "_law_many"] (defScope sDigit) := ⟨rfl, rfl, rfl, by decide +kernel, rfl, by decide +kernel, by decide +kernel⟩
/-- the script stands to be read; a new pot -/
def spPot (K : PySem.W.Frag) : Sp := fun vs H Q _ => ∃ (a : Addr) (ns : List Int) (k : Nat), vs = [.ref a, .int (k : Int)] ∧ SqL K H a (ns.map V.int) ∧ k < 1000 ∧
  ∀ (p : Addr) (H' : Hp), H p = none → Keep [] H H' → PotAt H' p 0 → Q (.ref p) H'
/-- a digit below many; the pot has one step more at the most -/
def spDigit : Sp := fun vs H Q _ => ∃ (p : Addr) (n : Nat) (m : Int), vs = [.ref p, .int m] ∧ PotAt H p n ∧ n < 2 ^ 40 ∧ 0 < m ∧ m < 1073741824 ∧
  ∀ (d : Int) (H' : Hp), 0 ≤ d → d < m → (∀ b, b ≠ p → H' b = H b) → PotAt H' p (n + 1) → Q (.int d) H'
section
variable {P : Program} {w : World} {K : PySem.W.Frag} {mg : Str → Option Value} {base : Heap}
theorem at3 {K : PySem.W.Frag} {H : Hp} {p : Addr} {a b c : V} (h : H p = some (.lst [a, b, c])) : SqL K H p [a, b, c] := SqL.of h
theorem ok_digit {f : Addr} {fd : FuncData} (F : Fun K "_law_digit" "_law_digit" sDigit f fd) : FnOk P w K mg base CX0 1 f fd ["_law_pot_here", "_law_many"] spDigit := by
  refine F.ok scDigit (fun vs H Q E h => ?_) (fun cdv A outer s H vs Q E hr h => ?_)
  · obtain ⟨p, n, m, rfl, _⟩ := h
    rfl
  · obtain ⟨p, n, m, rfl, ⟨a, b, c, hp, ha, hb, hb2, hc, hc2⟩, hn, hm, hm2, k⟩ := h
    refine ⟨_, pss_cons (ps_if (pt_cmpR op_gt (pe_ix ix_list (pv 0) pe_int (fun _ _ => rfl)) pe_int (nomark _))
        (pss_cons (ps_set (i := 2) scDigit.nd rfl (Or.inl rfl) (pe_op op_mod (pe_ix ix_list (pv 0) pe_int (fun _ _ => rfl)) (pv 1)))
          (pss_cons (ps_asg (pe_op op_fdiv (pe_ix ix_list (pv 0) pe_int (fun _ _ => rfl)) (pv 1)) (pg_sub (pv 0) pe_int set_list))
          (pss_one (ps_ret (pv 2))))) pss_nil)
      (pss_cons (ps_asg (pe_op op_add (pe_ix ix_list (pv 0) pe_int (fun _ _ => rfl)) pe_int) (pg_sub (pv 0) pe_int set_list))
      (pss_cons (ps_asg (pe_op op_mod (pe_op op_add (pe_op op_add (pe_op op_mul (pe_ix ix_list (pv 0) pe_int (fun _ _ => rfl)) pe_int)
          (pe_op op_mul (pe_op op_mul (pe_ix ix_list (pv 0) pe_int (fun _ _ => rfl)) (pe_ix ix_list (pv 0) pe_int (fun _ _ => rfl))) pe_int)) pe_int) pe_int) (pg_sub (pv 0) pe_int set_list))
      (pss_cons (ps_set (i := 3) scDigit.nd rfl (Or.inl rfl) (pe_op op_mod (pe_op op_mul (pe_ix ix_list (pv 0) pe_int (fun _ _ => rfl)) (pe_ix ix_list (pv 0) pe_int (fun _ _ => rfl))) pe_int))
      (pss_one (ps_ret (pe_op op_mod (pe_op op_fdiv (pe_op op_mod (pe_op op_mul (pv 3) (pe_op op_add (pe_op op_mod (pv 3) pe_int) pe_int)) pe_int) pe_int) (pv 1))))))), ?_⟩
    have h3 := at3 (K := K) hp
    refine ⟨_, rfl, p, _, _, _, rfl, rfl, h3, rfl, _, _, rfl, rfl, _, rfl, ?_⟩
    refine ite2 (fun hd => ?_) (fun hd => ?_)
    · refine ⟨_, rfl, p, _, _, _, rfl, rfl, h3, rfl, _, rfl, a, m, rfl, rfl, hm, ?_⟩
      refine ⟨_, rfl, p, _, _, _, rfl, rfl, h3, rfl, _, rfl, a, m, rfl, rfl, ⟨hm, hm2⟩, ?_⟩
      refine ⟨_, rfl, p, _, _, 0, rfl, rfl, hp, rfl, ?_⟩
      refine ⟨_, rfl, ?_⟩
      refine k (a % m) _ (Int.emod_nonneg a (by omega)) (Int.emod_lt_of_pos a hm) (fun b hb => upd_ne hb) ⟨a / m, b, c, upd_same, Int.ediv_nonneg ha (by omega), hb, hb2, hc, by omega⟩
    · refine ⟨_, rfl, p, _, _, _, rfl, rfl, h3, rfl, _, _, rfl, rfl, ?_⟩
      refine ⟨_, rfl, p, _, _, 2, rfl, rfl, hp, rfl, ?_⟩
      have e1 : upd H p (.lst [.int a, .int b, .int (c + 1)]) p = some (.lst [.int a, .int b, .int (c + 1)]) := upd_same
      have h4 := at3 (K := K) e1
      have hcM : -(2 ^ 64) < c + 1 ∧ c + 1 < 2 ^ 64 := by omega
      refine ⟨_, rfl, p, _, _, _, rfl, rfl, h4, rfl, _, _, rfl, rfl, .inl (by omega), ?_⟩
      refine ⟨_, rfl, p, _, _, _, rfl, rfl, h4, rfl, _, rfl, p, _, _, _, rfl, rfl, h4, rfl, _, _, rfl, rfl, .inl hcM, ?_⟩
      refine ⟨_, _, rfl, rfl, .inr (by decide), _, _, rfl, rfl, _, _, rfl, rfl, _, _, rfl, rfl, (by show (0 : Int) < 2147483647; decide), ?_⟩
      refine ⟨_, rfl, p, _, _, 1, rfl, rfl, e1, rfl, ?_⟩
      have f1 := Int.emod_nonneg (b * 39373 + (c + 1) * (c + 1) * 104729 + 7) (by decide : (2147483647 : Int) ≠ 0)
      have f2 := Int.emod_lt_of_pos (b * 39373 + (c + 1) * (c + 1) * 104729 + 7) (by decide : (0 : Int) < 2147483647)
      have e2 : upd (upd H p (.lst [.int a, .int b, .int (c + 1)])) p (.lst [.int a, .int ((b * 39373 + (c + 1) * (c + 1) * 104729 + 7) % 2147483647), .int (c + 1)]) p = some (.lst [.int a, .int ((b * 39373 + (c + 1) * (c + 1) * 104729 + 7) % 2147483647), .int (c + 1)]) := upd_same
      have h5 := at3 (K := K) e2
      refine ⟨_, rfl, p, _, _, _, rfl, rfl, h5, rfl, _, rfl, p, _, _, _, rfl, rfl, h5, rfl, _, _, rfl, rfl, .inl ⟨Int.lt_of_lt_of_le (by decide) f1, Int.lt_trans f2 (by decide)⟩, _, _, rfl, rfl, (by show (0 : Int) < 2147483629; decide), ?_⟩
      have mb : ∀ z : Int, -(2 ^ 64) < z % 2147483629 ∧ z % 2147483629 < 2 ^ 64 := fun z => by
        have g1 := Int.emod_nonneg z (by decide : (2147483629 : Int) ≠ 0)
        have g2 := Int.emod_lt_of_pos z (by decide : (0 : Int) < 2147483629)
        omega
      refine ⟨_, rfl, _, rfl, _, _, rfl, rfl, (by show (0 : Int) < 65521; decide), _, _, rfl, rfl, ?_⟩
      refine ⟨_, _, rfl, rfl, .inl (mb _), _, _, rfl, rfl, (by show (0 : Int) < 2147483587; decide), _, _, rfl, rfl, ⟨by decide, by decide⟩, _, rfl, _, _, rfl, rfl, hm, ?_⟩
      refine k _ _ (Int.emod_nonneg _ (by omega)) (Int.emod_lt_of_pos _ hm) (fun z hz => by rw [upd_ne hz, upd_ne hz]) ⟨a, _, c + 1, upd_same, ha, f1, f2, by omega, by omega⟩
theorem ok_pot {f : Addr} {fd : FuncData} (F : Fun K "_law_pot" "_law_pot" sPot f fd) (mL : mg "len" = none) (mM : mg "max" = none) : FnOk P w K mg base CX0 1 f fd ["_law_script", "_law_k"] (spPot K) := by
  refine F.ok scPot (fun vs H Q E h => ?_) (fun cdv A outer s H vs Q E hr h => ?_)
  · obtain ⟨a, ns, k, rfl, _⟩ := h
    rfl
  · obtain ⟨a, ns, k, rfl, hS, hk, kk⟩ := h
    refine ⟨_, pss_cons (ps_set (i := 2) scPot.nd rfl (Or.inl rfl) pe_int)
      (pss_cons (ps_if (pt_cmpR op_lt (pv 1) (pe_callB call_len_seq (by rfl) mL PySem.boot_len (pa_cons (pv 0) pa_nil)) (nomark _))
        (pss_one (ps_set (i := 2) scPot.nd rfl (Or.inl rfl) (pe_ix ix_list (pv 0) (pv 1) (fun _ _ => rfl)))) pss_nil)
      (pss_cons (ps_set (i := 3) scPot.nd rfl (Or.inl rfl) (pe_op op_mod (pe_op op_add (pe_op op_add (pe_op op_mul (pe_op op_mod (pv 2) pe_int) pe_int) (pe_op op_mul (pe_op op_mul pe_int (pv 1)) (pv 1))) pe_int) pe_int))
      (pss_one (ps_ret (pe_lst (pa_cons (pe_callB (call_max2 rfl) (by rfl) mM (by decide +kernel) (pa_cons pe_int (pa_cons (pe_op op_sub (pv 2) (pe_op op_pow pe_int pe_int)) pa_nil))) (pa_cons (pv 3) (pa_cons pe_int pa_nil)))))))), ?_⟩
    have fin : ∀ c : Int, tSeq (tAsg (tOp (rI (fun _ j => 0 < j) fun i j => .int (i % j)) (tOp (rI0 fun i j => .int (i + j)) (tOp (rI0 fun i j => .int (i + j)) (tOp (rI CMul fun i j => .int (i * j)) (tOp (rI (fun _ j => 0 < j) fun i j => .int (i % j)) (tVar 2) (tC (.int 2147483629))) (tC (.int 48271))) (tOp (rI CMul fun i j => .int (i * j)) (tOp (rI CMul fun i j => .int (i * j)) (tC (.int 7919)) (tVar 1)) (tVar 1))) (tC (.int 13))) (tC (.int 2147483647))) (gName 3))
        (tRet (tLst (tCons (tCB (fun xs H Q => ∃ i j, xs = [.int i, .int j] ∧ Q (.int (if j > i then j else i)) H) (tCons (tC (.int 0)) (tCons (tOp (rI0 fun i j => .int (i - j)) (tVar 2) (tOp (rI CPow fun i j => .int (i ^ j.toNat)) (tC (.int 10)) (tC (.int 18)))) tNil))) (tCons (tVar 3) (tCons (tC (.int 0)) tNil))))) { nx := fun _ H' => Q .non H', rt := Q } [some (.ref a), some (.int (k : Int)), some (.int c), none] H := by
      intro c
      refine ⟨_, rfl, _, _, rfl, rfl, (by show (0 : Int) < 2147483629; decide), _, _, rfl, rfl, .inr (by decide), _, rfl, _, _, rfl, rfl, .inl (by decide), ?_⟩
      refine ⟨_, rfl, _, _, rfl, rfl, .inr (by omega), _, _, rfl, rfl, _, _, rfl, rfl, _, _, rfl, rfl, (by show (0 : Int) < 2147483647; decide), ?_⟩
      refine ⟨_, rfl, _, _, rfl, rfl, ⟨by decide, by decide, by decide⟩, _, _, rfl, rfl, _, _, rfl, ?_⟩
      refine ⟨_, rfl, (by show 3 ≤ sizeLine; decide), fun p hp => ?_⟩
      refine kk p _ hp (Keep.new hp) ⟨_, _, _, upd_same, ?_, Int.emod_nonneg _ (by decide), Int.emod_lt_of_pos _ (by decide), Int.le_refl _, Int.le_refl _⟩
      split <;> omega
    refine ⟨_, rfl, _, rfl, a, _, rfl, .inl hS, _, _, rfl, rfl, _, rfl, ?_⟩
    refine ite2 (fun hd => ?_) (fun hd => ?_)
    · have hd2 : k < ns.length := by
        have z := of_decide_eq_true hd
        rw [List.length_map] at z
        omega
      refine ⟨_, rfl, _, rfl, a, _, _, (V.int ns[k]), rfl, rfl, hS, atI_nat (by rw [List.getElem?_map, List.getElem?_eq_getElem hd2]; rfl), ?_⟩
      exact fin _
    · exact fin 0
end
end Fs
/-! The head: what the top has written, by names; the end. -/
namespace Fs
open PySem L2 TL
def d_is_whole : He.DefD := ⟨("is_whole", none), "is_whole", "is_whole", defArgs (top 2), defBody (top 2), defScope (top 2), [], []⟩
def d_is_text : He.DefD := ⟨("is_text", none), "is_text", "is_text", defArgs (top 3), defBody (top 3), defScope (top 3), [], []⟩
def d_is_name : He.DefD := ⟨("is_name", none), "is_name", "is_name", defArgs (top 4), defBody (top 4), defScope (top 4), [], []⟩
def d_is_test : He.DefD := ⟨("is_test", none), "is_test", "is_test", defArgs (top 10), defBody (top 10), defScope (top 10), [], []⟩
def d__is_single : He.DefD := ⟨("_is_single", none), "_is_single", "_is_single", defArgs (top 11), defBody (top 11), defScope (top 11), [], []⟩
def d_is_program : He.DefD := ⟨("is_program", none), "is_program", "is_program", defArgs (top 17), defBody (top 17), defScope (top 17), [], []⟩
def d__is_body : He.DefD := ⟨("_is_body", none), "_is_body", "_is_body", defArgs (top 18), defBody (top 18), defScope (top 18), [], []⟩
def d__is_step : He.DefD := ⟨("_is_step", none), "_is_step", "_is_step", defArgs (top 19), defBody (top 19), defScope (top 19), [], []⟩
def d__is_plain_kind : He.DefD := ⟨("_is_plain_kind", none), "_is_plain_kind", "_is_plain_kind", defArgs (top 20), defBody (top 20), defScope (top 20), [], []⟩
def d__are_gathered : He.DefD := ⟨("_are_gathered", none), "_are_gathered", "_are_gathered", defArgs (top 21), defBody (top 21), defScope (top 21), [], []⟩
def d__is_room : He.DefD := ⟨("_is_room", none), "_is_room", "_is_room", defArgs (top 22), defBody (top 22), defScope (top 22), [], []⟩
def d__are_catchers : He.DefD := ⟨("_are_catchers", none), "_are_catchers", "_are_catchers", defArgs (top 23), defBody (top 23), defScope (top 23), [], []⟩
def d__law_pot : He.DefD := ⟨("_law_pot", none), "_law_pot", "_law_pot", defArgs (top 27), defBody (top 27), defScope (top 27), [], []⟩
def d__law_digit : He.DefD := ⟨("_law_digit", none), "_law_digit", "_law_digit", defArgs (top 28), defBody (top 28), defScope (top 28), [], []⟩
def d__law_number : He.DefD := ⟨("_law_number", none), "_law_number", "_law_number", defArgs (top 29), defBody (top 29), defScope (top 29), [], []⟩
def d__law_text : He.DefD := ⟨("_law_text", none), "_law_text", "_law_text", defArgs (top 30), defBody (top 30), defScope (top 30), [], []⟩
def d__law_any_step : He.DefD := ⟨("_law_any_step", none), "_law_any_step", "_law_any_step", defArgs (top 33), defBody (top 33), defScope (top 33), [], []⟩
def d__law_framed : He.DefD := ⟨("_law_framed", none), "_law_framed", "_law_framed", defArgs (top 34), defBody (top 34), defScope (top 34), [], []⟩
def d_law : He.DefD := ⟨("law", none), "law", "law", defArgs (top 35), defBody (top 35), defScope (top 35), [], []⟩
def dK_xinitx : He.DefD := ⟨("Kinds", some "__init__"), "__init__", "Kinds.__init__", defArgs (inClass (top 25) 0), defBody (inClass (top 25) 0), defScope (inClass (top 25) 0), [], []⟩
def dK_is_kind : He.DefD := ⟨("Kinds", some "is_kind"), "is_kind", "Kinds.is_kind", defArgs (inClass (top 25) 2), defBody (inClass (top 25) 2), defScope (inClass (top 25) 2), [], []⟩
def dK__check_new : He.DefD := ⟨("Kinds", some "_check_new"), "_check_new", "Kinds._check_new", defArgs (inClass (top 25) 6), defBody (inClass (top 25) 6), defScope (inClass (top 25) 6), [], []⟩
def dX_Look_xinitx : He.DefD := ⟨("Look", some "__init__"), "__init__", "Look.__init__", defArgs (inClass (top 16) 0), defBody (inClass (top 16) 0), defScope (inClass (top 16) 0), [], []⟩
def fn : List He.DefD := [d_is_whole, d_is_text, d_is_name, d_is_test, d__is_single, d_is_program, d__is_body, d__is_step, d__is_plain_kind, d__are_gathered, d__is_room, d__are_catchers, d__law_pot, d__law_digit, d__law_number, d__law_text, d__law_any_step, d__law_framed, d_law, dK_xinitx, dK_is_kind, dK__check_new, dX_Look_xinitx]
def fa : List He.Fa := [.glo "is_whole", .glo "is_text", .glo "is_name", .glo "is_test", .glo "_is_single", .glo "is_program", .glo "_is_body", .glo "_is_step", .glo "_is_plain_kind", .glo "_are_gathered", .glo "_is_room", .glo "_are_catchers", .glo "_law_pot", .glo "_law_digit", .glo "_law_number", .glo "_law_text", .glo "_law_any_step", .glo "_law_framed", .glo "law", .glo "Kinds", .glo "Look", .free "isinstance", .free "int", .free "bool", .free "str", .free "len", .free "all", .free "max", .free "min", .free "range", .free "tuple", .free "list", .free "enumerate", .cls "Kinds", .cls "Look", .mkr "Kinds", .mkr "Look", .noat "Kinds" "_above", .meth "Kinds" "is_kind", .meth "Kinds" "_check_new", .noat "Look" "known", .noat "Look" "ahead", .noat "Look" "rooms", .glo "_TESTS_BEHIND", .glo "_PARTS", .glo "_OF_HAND", .int "_DEEPEST" 60]
def ts : List He.Tab := [((fun K => He.ga K "_TESTS_BEHIND"), ["not", "and", "or"]), ((fun K => He.ga K "_PARTS"), ["say", "raise", "answer", "call", "gather", "again", "note", "raiseof", "room"])]
def intB (o : Option (Option Value)) (i : Int) : Bool := match o with
  | some (some (.int j _)) => decide (j = i)
  | _ => false
theorem intB_ok {o : Option (Option Value)} {i : Int} (h : intB o i = true) : ∃ u, o = some (some u) ∧ RelV (.int i) u := by
  unfold intB at h
  split at h
  · rename_i j t
    obtain rfl : j = i := of_decide_eq_true h
    exact ⟨_, rfl, t, rfl⟩
  · cases h
def onlyW (d : Addr) (ws : List Str) (K : PySem.W.Frag) : Bool := match K.lookup d with
  | some ⟨_, _, .dict es _, _⟩ => es.toList.all fun e => ws.any (fun w => e.key.isStr w) && !e.refKey
  | _ => false
theorem is_two {v : Value} {a b : Str} (h : v.isStr a = true) (h2 : v.isStr b = true) : a = b := by
  cases v <;> simp [Value.isStr] at h h2
  exact h.symm.trans h2
theorem only_noW {K : PySem.W.Frag} {d : Addr} {ws : List Str} (h : onlyW d ws K = true) (z : Str) (n : ∀ w ∈ ws, z ≠ w) : PySem.W.nsIn K d z = some none := by
  unfold onlyW at h
  unfold PySem.W.nsIn
  split at h
  · rename_i es n' sl q
    rw [q]
    have h := List.all_eq_true.mp h
    have f1 : es.toList.find? (fun e => e.key.isStr z) = none := List.find?_eq_none.mpr fun e he c => by
      have := h e he
      rw [Bool.and_eq_true, List.any_eq_true] at this
      obtain ⟨⟨w, hw, q⟩, _⟩ := this
      exact n w hw (is_two c q)
    have f2 : es.toList.any (fun e => e.refKey) = false := by
      rw [Bool.eq_false_iff]
      intro c
      obtain ⟨e, he, c⟩ := List.any_eq_true.mp c
      have := h e he
      rw [Bool.and_eq_true, c] at this
      exact absurd this.2 (by decide)
    show (match es.toList.find? (fun e => e.key.isStr z) with | some e => some (some e.val) | none => if es.toList.any (fun e => e.refKey) then none else some none) = some none
    rw [f1, f2]
    rfl
  · cases h
def ofB (K : PySem.W.Frag) : Bool := match K.lookup (He.ga K "_OF_HAND") with
  | some o => decide (o.cls = .type "tuple") && (match o.data with
    | .seq its _ => (match its.toList with
      | [a, b, c] => a.isStr "again" && (b.isStr "note" && c.isStr "raiseof")
      | _ => false)
    | _ => false)
  | none => false
theorem rel_str {v : Value} {z : Str} (h : v.isStr z = true) : RelV (.str z) v := by
  cases v <;> simp [Value.isStr] at h
  subst h
  exact ⟨_, rfl⟩
theorem of_ok {K : PySem.W.Frag} (h : ofB K = true) (H : Hp) : SqT K H (He.ga K "_OF_HAND") [.str "again", .str "note", .str "raiseof"] := by
  unfold ofB at h
  split at h
  · rename_i o q
    rw [Bool.and_eq_true, decide_eq_true_eq] at h
    obtain ⟨h1, h2⟩ := h
    split at h2
    · rename_i its n e
      split at h2
      · rename_i a b c l
        rw [Bool.and_eq_true, Bool.and_eq_true] at h2
        refine .inr ⟨o, its, n, q, h1, e, ?_, ?_⟩
        · have : its.size = 3 := by rw [← Array.length_toList, l]; rfl
          rw [this]; decide
        · rw [l]
          exact .cons (rel_str h2.1) (.cons (rel_str h2.2.1) (.cons (rel_str h2.2.2) .nil))
      · cases h2
    · cases h2
  · cases h
def exB (K : PySem.W.Frag) : Bool := onlyW (He.ga K "_TESTS_BEHIND") ["not", "and", "or"] K && (intB (PySem.W.nsIn K (He.ga K "_TESTS_BEHIND") "not") 1 && (intB (PySem.W.nsIn K (He.ga K "_TESTS_BEHIND") "and") 2 && (intB (PySem.W.nsIn K (He.ga K "_TESTS_BEHIND") "or") 2 && (decide (PySem.W.nsIn K (He.ga K "_TESTS_BEHIND") "kind" = some none) && (decide (PySem.W.nsIn K (He.ga K "_TESTS_BEHIND") "says" = some none) && (decide (PySem.W.nsIn K (He.ga K "_TESTS_BEHIND") "noted" = some none) && (onlyW (He.ga K "_PARTS") ["say", "raise", "answer", "call", "gather", "again", "note", "raiseof", "room"] K && (ofB K && (intB (PySem.W.nsIn K (He.ga K "_PARTS") "say") 2 && (intB (PySem.W.nsIn K (He.ga K "_PARTS") "raise") 3 && (intB (PySem.W.nsIn K (He.ga K "_PARTS") "answer") 2 && (intB (PySem.W.nsIn K (He.ga K "_PARTS") "call") 2 && (intB (PySem.W.nsIn K (He.ga K "_PARTS") "gather") 3 && (intB (PySem.W.nsIn K (He.ga K "_PARTS") "again") 1 && (intB (PySem.W.nsIn K (He.ga K "_PARTS") "note") 2 && (intB (PySem.W.nsIn K (He.ga K "_PARTS") "raiseof") 3 && (intB (PySem.W.nsIn K (He.ga K "_PARTS") "room") 7)))))))))))))))))
def tf : List He.Defn := [("is_name", none)]
abbrev R : PySem.W.OpenRow := PySem.W.OpenLaw.row PySem.Challenge.rw_faultsheaves_k44_where_steps_stand
abbrev hk : PySem.W.Hook := He.hookX 6 fa fn ts tf exB
def ob (s : PySem.W.SharedT) : He.AlX := He.obsX 6 fa fn ts tf exB (HandSHeadRun.getT s)
theorem ob_eq (s : PySem.W.SharedT) : ob s = hk.obs s.abs := He.obsX_eq (HandSHeadRun.getT_eq s)
def loose : List Str := ["__name__", "_wall", "is_whole", "is_text", "is_name", "FaultError", "NoKind", "_TESTS_BEHIND", "is_test", "_is_single", "_PARTS", "_OF_HAND", "_DEEPEST", "Look", "is_program", "_is_body", "_is_step", "_is_plain_kind", "_are_gathered", "_is_room", "_are_catchers", "Kinds", "_law_pot", "_law_digit", "_law_number", "_law_text", "_law_name", "_law_plain", "_law_any_step", "_law_framed"]
/-- the world with one of its ways said -/
def setP (p : PySem.Params) (b : Bool) : PySem.Params := { p with followText := fun s => match decide (s = "special-get-raises") with | true => b | false => p.followText s }
def setW (w : World) (b : Bool) : World := { w with params := setP w.params b }
theorem setP_id (p : PySem.Params) : setP p (p.followText "special-get-raises") = p := by
  have e : (fun s => match decide (s = "special-get-raises") with | true => p.followText "special-get-raises" | false => p.followText s) = p.followText := by
    funext s
    by_cases h : s = "special-get-raises"
    · rw [decide_eq_true h, h]
    · rw [decide_eq_false h]
  unfold setP
  rw [e]
theorem setW_id (w : World) : setW w (w.params.followText "special-get-raises") = w := by
  unfold setW
  rw [setP_id]
theorem run1 (w : World) : HandSHeadRun.RunEq R (PySem.W.view R.prog [35]) hk ob 9000 loose (setW w true) := by
  intro os
  kernel_rfl
theorem run0 (w : World) : HandSHeadRun.RunEq R (PySem.W.view R.prog [35]) hk ob 9000 loose (setW w false) := by
  intro os
  kernel_rfl
theorem run (w : World) : HandSHeadRun.RunEq R (PySem.W.view R.prog [35]) hk ob 9000 loose w := by
  rw [← setW_id w]
  cases h : w.params.followText "special-get-raises" with
  | true => exact run1 w
  | false => exact run0 w
end Fs
/-! Names and texts by digits. -/
namespace Fs
open PySem L2 TL
abbrev sText : Stmt := top 30
abbrev sName : Stmt := top 31
abbrev nText : List Str := ["_law_pot_here", "_law_signs", "_law_size", "_law_k"]
abbrev nName : List Str := ["_law_pot_here", "_law_k"]
theorem scText : FnScope nText ["_law_pot_here"] (defScope sText) := ⟨rfl, rfl, rfl, by decide +kernel, rfl, by decide +kernel, by decide +kernel⟩
theorem scName : FnScope nName ["_law_pot_here"] (defScope sName) := ⟨rfl, rfl, rfl, by decide +kernel, rfl, by decide +kernel, by decide +kernel⟩
/-- a sign of a to z -/
def small (c : Nat) : Bool := decide (97 ≤ c) && decide (c ≤ 122)
/-- a text of one to eight small letters -/
def IsNm (z : Str) : Prop := 1 ≤ z.cps.toList.length ∧ z.cps.toList.length ≤ 8 ∧ ∀ c ∈ z.cps.toList, small c = true
/-- a text of at most forty signs, none of them beyond the first hundred and twenty-eight -/
def IsTx (z : Str) : Prop := z.cps.toList.length ≤ 40 ∧ ∀ c ∈ z.cps.toList, c < 128
/-- the pot alone is another -/
def spName : Sp := fun vs H Q _ => ∃ (p : Addr) (n : Nat), vs = [.ref p] ∧ PotAt H p n ∧ n < 2 ^ 39 ∧
  ∀ (z : Str) (H' : Hp), IsNm z → Keep [p] H H' → PotAt H' p (n + 9) → Q (.str z) H'
def spText : Sp := fun vs H Q _ => ∃ (p : Addr) (n : Nat), vs = [.ref p] ∧ PotAt H p n ∧ n < 2 ^ 39 ∧
  ∀ (z : Str) (H' : Hp), IsTx z → Keep [p] H H' → PotAt H' p (n + 43) → Q (.str z) H'
abbrev one (c : Nat) : Str := ⟨#[c]⟩
theorem tyes {σ : L2.St} {H : Hp} {A B : Hp → Prop} (h : A H) : tYes σ H fun b H3 => if b = true then A H3 else B H3 := by
  show if true = true then A H else B H
  exact iteT h
theorem joinL_ones : ∀ cs : List Nat, joinL [] (cs.map fun c => [c]) = cs
  | [] => rfl
  | [c] => rfl
  | c :: d :: r => by
    have ih := joinL_ones (d :: r)
    show [c] ++ ([] ++ joinL [] ((d :: r).map fun c => [c])) = c :: d :: r
    rw [ih]
    rfl
theorem tl_empty : tl (Str.ofString "") = [] := by decide +kernel
theorem join_ones (cs : List Nat) : (Txt.join (Str.ofString "") (cs.map one)).cps.toList = cs := by
  have h := tl_join (Str.ofString "") (cs.map one)
  rw [tl_empty, List.map_map] at h
  have e : (cs.map (tl ∘ one)) = cs.map fun c => [c] := List.map_congr_left fun c _ => rfl
  rw [e, joinL_ones] at h
  rw [join_eq]
  exact h
theorem sum_ones (cs : List Nat) : ((cs.map one).map (·.length)).sum = cs.length := by
  induction cs with
  | nil => rfl
  | cons c r ih =>
    rw [List.map_cons, List.map_cons, List.sum_cons, ih, List.length_cons]
    show 1 + r.length = r.length + 1
    omega
theorem one_map (cs : List Nat) : (cs.map one).map V.str = cs.map fun c => V.str (one c) := List.map_map ..
theorem digit_at {l : List Nat} {d : Int} (h0 : 0 ≤ d) (h1 : d < (l.length : Int)) : ∃ c, c ∈ l ∧ atI l d = some c := by
  have h2 : d.toNat < l.length := by omega
  refine ⟨l[d.toNat], List.getElem_mem h2, ?_⟩
  have e : ((d.toNat : Nat) : Int) = d := Int.toNat_of_nonneg h0
  have h3 := atI_nat (List.getElem?_eq_getElem h2)
  rw [e] at h3
  exact h3
theorem signs_turn {tz : TE} {σ2 : St} {H : Hp} {p D : Addr} {n : Nat} {z : Str} {m : Int} {acc : List V} {R : Hp → Prop} (hσ : σ2[0]? = some (some (.ref p))) (hz : ∀ (H : Hp) (Q : VK), Q (.str z) H → tz σ2 H Q)
    (hp : PotAt H p n) (hn : n < 2 ^ 40) (hm : m = (z.cps.toList.length : Int)) (hm0 : 0 < m) (hm1 : m < 1000) (hD : H D = some (.lst acc)) (ha : acc.length < sizeLine) (np : D ≠ p)
    (go : ∀ (c : Nat) (H' : Hp), c ∈ z.cps.toList → (∀ b, b ≠ p → H' b = H b) → PotAt H' p (n + 1) → R (upd H' D (.lst (acc ++ [.str (one c)])))) :
    tOp rIxS tz (tCall spDigit [] E0 (tCons (tVar 0) (tCons (tC (.int m)) tNil))) σ2 H fun y H4 => ∃ acc, H4 D = some (.lst acc) ∧ acc.length < sizeLine ∧ R (upd H4 D (.lst (acc ++ [y]))) := by
  refine hz H _ ⟨_, hσ, p, n, m, rfl, hp, hn, hm0, by omega, fun d H' d0 d1 hk hp' => ?_⟩
  obtain ⟨c, hc, he⟩ := digit_at (l := z.cps.toList) d0 (by omega)
  have hzl : z.length = z.cps.toList.length := by simp [Str.length]
  refine ⟨z, d, c, rfl, rfl, ?_, he, acc, by rw [hk D np]; exact hD, ha, go c H' hc hk hp'⟩
  exact Nat.le_of_lt (Nat.lt_of_lt_of_le (by omega : z.length < 1000) (by decide))
/-- the whole list of signs: an invariant for lc_range -/
def SgAt (H0 : Hp) (p D : Addr) (n : Nat) (g : Nat → Prop) (i : Nat) (H : Hp) : Prop :=
  ∃ cs : List Nat, cs.length = i ∧ (∀ c ∈ cs, g c) ∧ H D = some (.lst (cs.map fun c => V.str (one c))) ∧ PotAt H p (n + i) ∧ Keep [p] H0 H
theorem SgAt.start {H0 : Hp} {p D : Addr} {n : Nat} {g : Nat → Prop} (hp : PotAt H0 p n) (hD : H0 D = none) : SgAt H0 p D n g 0 (upd H0 D (.lst [])) := by
  obtain ⟨xs, e⟩ := hp.some
  have np : p ≠ D := ne_of_none e hD
  exact ⟨[], rfl, fun _ h => absurd h List.not_mem_nil, upd_same, hp.keep (ex := []) (Keep.new hD) (fun z => nomatch z), Keep.new hD⟩
theorem SgAt.next {H0 H H' : Hp} {p D : Addr} {n : Nat} {g : Nat → Prop} {i : Nat} {c : Nat} {cs : List Nat} (hD : H0 D = none) (np : D ≠ p) (hl : cs.length = i) (hg : ∀ c ∈ cs, g c) (k : Keep [p] H0 H) (hc : g c) (hk : ∀ b, b ≠ p → H' b = H b) (hp : PotAt H' p (n + i + 1)) :
    SgAt H0 p D n g (i + 1) (upd H' D (.lst ((cs.map fun c => V.str (one c)) ++ [.str (one c)]))) := by
  refine ⟨cs ++ [c], by rw [List.length_append, hl]; rfl, fun x hx => ?_, by rw [upd_same, List.map_append]; rfl, ?_, ?_⟩
  · rcases List.mem_append.mp hx with h | h
    · exact hg x h
    · rw [List.mem_singleton.mp h]
      exact hc
  · obtain ⟨a, b, c, h1, h2⟩ := hp
    exact ⟨a, b, c, by rw [upd_ne (Ne.symm np)]; exact h1, h2⟩
  · intro b o hb e
    have nb : b ≠ p := fun z => hb (by rw [z]; exact in1)
    rw [upd_ne (ne_of_none e hD), hk b nb]
    exact k b o hb e
section
variable {P : Program} {w : World} {K : PySem.W.Frag} {mg : Str → Option Value} {base : Heap}
theorem letters_small : ∀ c ∈ (Str.ofString "abcdefghijklmnopqrstuvwxyz").cps.toList, small c = true := by decide +kernel
theorem letters_len : (Str.ofString "abcdefghijklmnopqrstuvwxyz").cps.toList.length = 26 := by decide +kernel
theorem ok_name {f fD : Addr} {fd fdD : FuncData} (F : Fun K "_law_name" "_law_name" sName f fd) (FD : FnOk P w K mg base CX0 1 fD fdD ["_law_pot_here", "_law_many"] spDigit) (mD : mg "_law_digit" = some (.ref fD)) (kD : PySem.W.keepIn K (.ref fD) = true) (bD : Binds K fdD ["_law_pot_here", "_law_many"] []) (mR : mg "range" = none) :
    FnOk P w K mg base CX0 2 f fd ["_law_pot_here"] spName := by
  refine F.ok scName (fun vs H Q E h => ?_) (fun cdv A outer s H vs Q E hr h => ?_)
  · obtain ⟨p, n, rfl, _⟩ := h
    rfl
  · obtain ⟨p, n, rfl, hp, hn, kk⟩ := h
    refine ⟨_, pss_one (ps_ret (pe_join pe_str (pe_lc (own := [("_law_k", 1)]) (g := gName 1) (tt := tYes) rfl scName.nd
      (pi_range1 rfl mR (pa_cons (pe_op op_add pe_int (pe_call FD hr rfl mD kD bD .nil pass0 (pa_cons (pv 0) (pa_cons pe_int pa_nil)))) pa_nil))
      (blkOk_by (N := nName) (sc := defScope sName) (by decide +kernel)) (fun _ _ _ _ _ => pg_name (i := 1) scName.nd rfl (Or.inl rfl)) (fun _ _ _ _ _ => pts_nil)
      (fun _ _ _ _ _ => pe_ix ix_str pe_str (pe_call FD hr rfl mD kD bD .nil pass0 (pa_cons (pv 0) (pa_cons pe_int pa_nil))) (fun _ _ => rfl))))), ?_⟩
    refine ⟨⟨_, rfl⟩, _, rfl, p, n, 8, rfl, hp, by omega, by decide, by decide, fun d H1 d0 d1 hk hp1 => ?_⟩
    refine ⟨_, _, rfl, rfl, _, rfl, by omega, by omega, fun D hD => ?_⟩
    obtain ⟨xs, ep⟩ := hp1.some
    have np : D ≠ p := Ne.symm (ne_of_none ep hD)
    obtain ⟨m, hm⟩ : ∃ m : Nat, (1 + d : Int) = (m : Int) := ⟨(1 + d).toNat, by omega⟩
    have em : (1 + d : Int).toNat = m := by omega
    rw [em]
    refine lc_range (lo := 0) (n := m) (SgAt H1 p D (n + 1) fun c => small c = true) (SgAt.start hp1 hD) (fun i H2 hi hI => ?_) (fun H2 hI => ?_)
    · obtain ⟨cs, hl, hg, eD, hp2, k2⟩ := hI
      refine ⟨rfl, tyes ?_⟩
      refine signs_turn (z := Str.ofString "abcdefghijklmnopqrstuvwxyz") (n := n + 1 + i) rfl (fun _ _ q => q) hp2 (by omega) (by rw [letters_len]; rfl) (by decide) (by decide) eD ?_ np fun c H' hc hk' hp' => ?_
      · rw [List.length_map, hl]
        exact Nat.lt_of_lt_of_le (by omega : i < 1000) (by decide)
      · exact SgAt.next hD np hl hg k2 (letters_small c hc) hk' hp'
    · obtain ⟨cs, hl, hg, eD, hp2, k2⟩ := hI
      refine ⟨Str.ofString "", D, cs.map one, rfl, rfl, .inl (SqL.of (by rw [one_map]; exact eD)), ?_, ?_⟩
      · rw [sum_ones, List.length_map, show (Str.ofString "").length = 0 by decide +kernel]
        omega
      · refine kk _ _ ⟨?_, ?_, ?_⟩ (Keep.trans (fun b o hb e => by rw [hk b (fun z => hb (by rw [z]; exact in1))]; exact e) k2) (hp2.le (by omega))
        · rw [join_ones, hl]; omega
        · rw [join_ones, hl]; omega
        · rw [join_ones]; exact hg
theorem signs_ascii : ∀ c ∈ (Str.ofString " !\"#$&'()*+,-./0123456789:;<=>?@ABCDEFGHIJKLMNOPQRSTUVWXYZ[\\]^_`abcdefghijklmnopqrstuvwxyz{|}~").cps.toList, c < 128 := by decide +kernel
theorem signs_len : (Str.ofString " !\"#$&'()*+,-./0123456789:;<=>?@ABCDEFGHIJKLMNOPQRSTUVWXYZ[\\]^_`abcdefghijklmnopqrstuvwxyz{|}~").cps.toList.length = 94 := by decide +kernel
theorem ok_text {f fD : Addr} {fd fdD : FuncData} (F : Fun K "_law_text" "_law_text" sText f fd) (FD : FnOk P w K mg base CX0 1 fD fdD ["_law_pot_here", "_law_many"] spDigit) (mD : mg "_law_digit" = some (.ref fD)) (kD : PySem.W.keepIn K (.ref fD) = true) (bD : Binds K fdD ["_law_pot_here", "_law_many"] []) (mR : mg "range" = none) (mI : mg "int" = none) :
    FnOk P w K mg base CX0 2 f fd ["_law_pot_here"] spText := by
  refine F.ok scText (fun vs H Q E h => ?_) (fun cdv A outer s H vs Q E hr h => ?_)
  · obtain ⟨p, n, rfl, _⟩ := h
    rfl
  · obtain ⟨p, n, rfl, hp, hn, kk⟩ := h
    refine ⟨_, pss_cons (ps_set (i := 1) scText.nd rfl (Or.inr rfl) pe_str)
      (pss_cons (ps_set (i := 2) scText.nd rfl (Or.inl rfl) (pe_ix ix_list (pe_lst (pa_cons (pe_call FD hr rfl mD kD bD .nil pass0 (pa_cons (pv 0) (pa_cons pe_int pa_nil))) (pa_cons (pe_call FD hr rfl mD kD bD .nil pass0 (pa_cons (pv 0) (pa_cons pe_int pa_nil))) pa_nil)))
        (pe_callTy call_int1 (by rfl) mI (by decide +kernel) (pa_cons (pe_cmpR op_eq (pe_call FD hr rfl mD kD bD .nil pass0 (pa_cons (pv 0) (pa_cons pe_int pa_nil))) pe_int (nomark _)) pa_nil)) (fun _ _ => rfl)))
      (pss_one (ps_ret (pe_join pe_str (pe_lc (own := [("_law_k", 3)]) (g := gName 3) (tt := tYes) rfl scText.nd
      (pi_range1 rfl mR (pa_cons (pv 2) pa_nil))
      (blkOk_by (N := nText) (sc := defScope sText) (by decide +kernel)) (fun _ _ _ _ _ => pg_name (i := 3) scText.nd rfl (Or.inl rfl)) (fun _ _ _ _ _ => pts_nil)
      (fun _ _ _ _ _ => pe_ix ix_str (pv 1) (pe_call FD hr rfl mD kD bD .nil pass0 (pa_cons (pv 0) (pa_cons pe_int pa_nil))) (fun _ _ => rfl))))))), ?_⟩
    refine ⟨_, rfl, p, n, 4, rfl, hp, by omega, by decide, by decide, fun d1 H1 a0 a1 hk1 hp1 => ?_⟩
    refine ⟨_, rfl, p, n + 1, 41, rfl, hp1, by omega, by decide, by decide, fun d2 H2 b0 b1 hk2 hp2 => ?_⟩
    refine ⟨(by show 2 ≤ sizeLine; decide), fun L hL => ?_⟩
    obtain ⟨xs2, ep2⟩ := hp2.some
    have npL : p ≠ L := ne_of_none ep2 hL
    refine ⟨_, rfl, p, n + 2, 5, rfl, hp2.keep (ex := []) (Keep.new hL) nin0, by omega, by decide, by decide, fun d3 H3 c0 c1 hk3 hp3 => ?_⟩
    have eL : H3 L = some (.lst [.int d1, .int d2]) := by rw [hk3 L npL.symm, upd_same]
    have k3 : Keep [p] H H3 := fun b o hb e => by
      have nb : b ≠ p := fun z => hb (by rw [z]; exact in1)
      have e1 : H1 b = some o := by rw [hk1 b nb]; exact e
      have e2 : H2 b = some o := by rw [hk2 b nb]; exact e1
      rw [hk3 b nb, upd_ne (ne_of_none e2 hL)]
      exact e2
    refine ⟨rfl, ?_⟩
    have fin : ∀ d : Int, 0 ≤ d → d ≤ 40 → tRet (tM1 (fun x xs H Q => ∃ a p, ∃ ys : List Str, x = .str a ∧ xs = [.ref p] ∧ (SqL K H p (ys.map V.str) ∨ SqT K H p (ys.map V.str)) ∧ (ys.map (·.length)).sum + ys.length * a.length ≤ 16777216 ∧ Q (.str (Txt.join a ys)) H) (tC (.str (Str.ofString "")))
        (tLc (iRng1 (tCons (tVar 2) tNil)) (gName 3) tYes (tOp rIxS (tVar 1) (tCall spDigit [] E0 (tCons (tVar 0) (tCons (tC (.int 94)) tNil)))) [3])) { nx := fun _ H' => Q .non H', rt := Q } [some (.ref p), some (.str (Str.ofString " !\"#$&'()*+,-./0123456789:;<=>?@ABCDEFGHIJKLMNOPQRSTUVWXYZ[\\]^_`abcdefghijklmnopqrstuvwxyz{|}~")), some (.int d), none] H3 := by
      intro d e0 e1
      refine ⟨⟨_, rfl⟩, _, rfl, _, rfl, by omega, by omega, fun D hD => ?_⟩
      obtain ⟨xs, ep⟩ := hp3.some
      have np : D ≠ p := Ne.symm (ne_of_none ep hD)
      obtain ⟨m, rfl⟩ : ∃ m : Nat, d = (m : Int) := ⟨d.toNat, by omega⟩
      rw [Int.toNat_natCast]
      refine lc_range (lo := 0) (n := m) (SgAt H3 p D (n + 3) fun c => c < 128) (SgAt.start hp3 hD) (fun i H4 hi hI => ?_) (fun H4 hI => ?_)
      · obtain ⟨cs, hl, hg, eD, hp4, k4⟩ := hI
        refine ⟨rfl, tyes ?_⟩
        refine signs_turn (z := Str.ofString " !\"#$&'()*+,-./0123456789:;<=>?@ABCDEFGHIJKLMNOPQRSTUVWXYZ[\\]^_`abcdefghijklmnopqrstuvwxyz{|}~") (n := n + 3 + i) rfl (fun _ _ q => ⟨_, rfl, q⟩) hp4 (by omega) (by rw [signs_len]; rfl) (by decide) (by decide) eD ?_ np fun c H' hc hk' hp' => ?_
        · rw [List.length_map, hl]
          exact Nat.lt_of_lt_of_le (by omega : i < 1000) (by decide)
        · exact SgAt.next hD np hl hg k4 (signs_ascii c hc) hk' hp'
      · obtain ⟨cs, hl, hg, eD, hp4, k4⟩ := hI
        refine ⟨Str.ofString "", D, cs.map one, rfl, rfl, .inl (SqL.of (by rw [one_map]; exact eD)), ?_, ?_⟩
        · rw [sum_ones, List.length_map, show (Str.ofString "").length = 0 by decide +kernel]
          omega
        · refine kk _ _ ⟨?_, ?_⟩ (k3.trans k4) (hp4.le (by omega))
          · rw [join_ones, hl]; omega
          · rw [join_ones]; exact hg
    by_cases hz : V.int d3 = V.int 0
    · refine .inr ⟨_, rfl, ?_⟩
      rw [decide_eq_true hz]
      exact ⟨L, _, _, _, rfl, rfl, SqL.of eL, rfl, fin d2 b0 (by omega)⟩
    · refine .inr ⟨_, rfl, ?_⟩
      rw [decide_eq_false hz]
      exact ⟨L, _, _, _, rfl, rfl, SqL.of eL, rfl, fin d1 a0 (by omega)⟩
end
end Fs
/-! A name that isn't taken. -/
namespace Fs
open PySem L2 TL
theorem eqV_str (a b : Str) : eqV (.str a) (.str b) = decide (a = b) := by
  by_cases h : a = b
  · rw [decide_eq_true h, h]; simp [eqV]
  · rw [decide_eq_false h]; simp [eqV, h]
theorem inV_strs (z : Str) (ts : List Str) : inV (.str z) (ts.map V.str) = decide (z ∈ ts) := by
  unfold inV
  induction ts with
  | nil => simp
  | cons t r ih =>
    rw [List.map_cons, List.any_cons, ih, eqV_str]
    by_cases h1 : t = z
    · simp [h1]
    · have h2 : ¬ z = t := fun e => h1 e.symm
      simp [h1, h2]
theorem flat_strs (ts : List Str) : (ts.map V.str).all flatV = true := by
  rw [List.all_eq_true]
  intro x hx
  obtain ⟨t, _, e⟩ := List.mem_map.mp hx
  rw [← e]
  rfl
end Fs
/-! The pairs of kinds. -/
namespace Fs
open PySem L2 TL
abbrev sF : Str := Str.ofString "fault"
abbrev sS : Str := Str.ofString "sheaf"
/-- kinds as they are told, one behind another -/
inductive Wf : List (Str × Str) → Prop where
  | nil : Wf []
  | snoc {ps : List (Str × Str)} {z y : Str} : Wf ps → IsNm z → z ∉ sS :: sF :: ps.map Prod.fst → y ∈ sF :: ps.map Prod.fst → Wf (ps ++ [(z, y)])
/-- a tuple a pair -/
def TupsAt (H : Hp) : List Addr → List (Str × Str) → Prop
  | [], [] => True
  | a :: as, q :: ps => H a = some (.tup [.str q.1, .str q.2]) ∧ TupsAt H as ps
  | _, _ => False
theorem TupsAt.len {H : Hp} : ∀ {as : List Addr} {ps : List (Str × Str)}, TupsAt H as ps → as.length = ps.length
  | [], [], _ => rfl
  | _ :: as, _ :: ps, h => by rw [List.length_cons, List.length_cons, TupsAt.len h.2]
  | [], _ :: _, h => h.elim
  | _ :: _, [], h => h.elim
theorem TupsAt.map {H H' : Hp} (k : ∀ a xs, H a = some (.tup xs) → H' a = some (.tup xs)) : ∀ {as : List Addr} {ps : List (Str × Str)}, TupsAt H as ps → TupsAt H' as ps
  | [], [], _ => True.intro
  | _ :: as, _ :: ps, h => ⟨k _ _ h.1, TupsAt.map k h.2⟩
  | [], _ :: _, h => h.elim
  | _ :: _, [], h => h.elim
theorem TupsAt.snoc {H : Hp} {b : Addr} {q : Str × Str} (hb : H b = some (.tup [.str q.1, .str q.2])) : ∀ {as : List Addr} {ps : List (Str × Str)}, TupsAt H as ps → TupsAt H (as ++ [b]) (ps ++ [q])
  | [], [], _ => ⟨hb, True.intro⟩
  | _ :: as, _ :: ps, h => ⟨h.1, TupsAt.snoc hb h.2⟩
  | [], _ :: _, h => h.elim
  | _ :: _, [], h => h.elim
theorem TupsAt.at {H : Hp} : ∀ {as : List Addr} {ps : List (Str × Str)} {i : Nat} {a : Addr}, TupsAt H as ps → as[i]? = some a → ∃ q, ps[i]? = some q ∧ H a = some (.tup [.str q.1, .str q.2])
  | [], _, _, _, _, e => by simp at e
  | _ :: _, [], _, _, h, _ => h.elim
  | b :: as, q :: ps, 0, a, h, e => by
    have e' : b = a := by simpa using e
    subst e'
    exact ⟨q, rfl, h.1⟩
  | b :: as, q :: ps, i + 1, a, h, e => TupsAt.at (i := i) h.2 (by simpa using e)
/-- a list of pairs -/
def PairsAt (H : Hp) (l : Addr) (ps : List (Str × Str)) : Prop := ∃ as : List Addr, H l = some (.lst (as.map V.ref)) ∧ TupsAt H as ps
theorem Keep.tup {ex : List Addr} {H H' : Hp} (k : Keep ex H H') (hx : ∀ b ∈ ex, ∃ o, H b = some o ∧ ∀ xs, o ≠ .tup xs) {a : Addr} {xs : List V} (h : H a = some (.tup xs)) : H' a = some (.tup xs) :=
  k.at h fun z => by
    obtain ⟨o, e, n⟩ := hx a z
    rw [h] at e
    exact n xs (Option.some.inj e).symm
theorem lst_ex {H : Hp} {p : Addr} {xs : List V} (h : H p = some (.lst xs)) : ∀ b ∈ [p], ∃ o, H b = some o ∧ ∀ xs, o ≠ .tup xs := fun b hb => by
  rw [List.mem_singleton.mp hb]
  exact ⟨_, h, fun _ z => nomatch z⟩
theorem PairsAt.keep {ex : List Addr} {H H' : Hp} {l : Addr} {ps : List (Str × Str)} (h : PairsAt H l ps) (k : Keep ex H H') (hl : l ∉ ex) (hx : ∀ b ∈ ex, ∃ o, H b = some o ∧ ∀ xs, o ≠ .tup xs) : PairsAt H' l ps := by
  obtain ⟨as, e, t⟩ := h
  exact ⟨as, k.at e hl, t.map fun a xs q => k.tup hx q⟩
theorem PairsAt.some {H : Hp} {l : Addr} {ps : List (Str × Str)} (h : PairsAt H l ps) : ∃ xs, H l = some (.lst xs) := by
  obtain ⟨as, e, _⟩ := h
  exact ⟨_, e⟩
/-- [name for name, above in pairs]: slots i, j -/
theorem names_run {K : PySem.W.Frag} {l D : Addr} {ps : List (Str × Str)} {i j : Nat} {σ : L2.St} {H1 : Hp} {Qd : Hp → Prop} (h : PairsAt H1 l ps) (hD : H1 D = none) (hlen : ps.length ≤ 1000)
    (hw : ∀ v u, wipe (((wipe σ [i, j]).set i (some v)).set j (some u)) [i, j] = wipe σ [i, j]) (hv : ∀ v u, (((wipe σ [i, j]).set i (some v)).set j (some u))[i]? = some (some v))
    (hq : ∀ H, H D = some (.lst ((ps.map Prod.fst).map V.str)) → Keep [] H1 H → Qd H) :
    ∃ W : Nat → Nat → Hp → Prop, (∃ m, W 0 m (upd H1 D (.lst []))) ∧ ∀ k m H, W k m H →
      ((Itl K l).stop k H ∧ Qd H) ∨ ((Itl K l).go k H ∧ ∃ Nx : Hp → Prop, (∀ H', Nx H' → ∃ m', m' < m ∧ W (k + 1) m' H') ∧ ∀ x H', (Itl K l).yld k H x H' → gTup K 2 (gCons (gName i) (gCons (gName j) gNil)) x (wipe σ [i, j]) H' fun σ2 H2 => wipe σ2 [i, j] = wipe σ [i, j] ∧ tYes σ2 H2 fun b H3 =>
        if b = true then tVar i σ2 H3 fun y H4 => ∃ acc, H4 D = some (.lst acc) ∧ acc.length < sizeLine ∧ Nx (upd H4 D (.lst (acc ++ [y]))) else Nx H3) := by
  obtain ⟨as, e, t⟩ := h
  have hl := t.len
  refine lc_list (K := K) (a := l) (xs := as.map V.ref) (fun k H => H D = some (.lst (((ps.take k).map Prod.fst).map V.str)) ∧ Keep [] H1 H) ⟨upd_same, Keep.new hD⟩ (fun k H _ hI => SqL.of (hI.2.at e nin0)) (fun k x H hx hI => ?_) (fun H hI => ?_)
  · obtain ⟨a, ha, rfl⟩ : ∃ a, as[k]? = some a ∧ x = V.ref a := by
      rw [List.getElem?_map] at hx
      cases q : as[k]? with
      | none => rw [q] at hx; cases hx
      | some a => rw [q] at hx; exact ⟨a, rfl, (Option.some.inj hx).symm⟩
    obtain ⟨q, hq2, hta⟩ := t.at ha
    have hk : k < ps.length := (List.getElem?_eq_some_iff.mp hq2).1
    refine ⟨a, _, rfl, SqT.of (hI.2.at hta nin0), rfl, _, _, rfl, _, _, rfl, rfl, hw _ _, tyes ?_⟩
    refine ⟨_, hv _ _, _, hI.1, ?_, ?_, fun b o hb ho => ?_⟩
    · rw [List.length_map, List.length_map, List.length_take]
      exact Nat.lt_of_le_of_lt (by omega : min k ps.length ≤ 1000) (by decide)
    · rw [upd_same, List.take_add_one, hq2, List.map_append, List.map_append]
      rfl
    · rw [upd_ne (ne_of_none ho hD)]
      exact hI.2 b o hb ho
  · rw [List.length_map, hl, List.take_length] at hI
    exact hq H hI.1 hI.2
theorem Keep.freshTo {ex : List Addr} {H H1 : Hp} {p : Addr} {o : HO} (a : Keep ex H H1) (h : H p = none) : Keep ex H (upd H1 p o) := fun b u n q => by
  rw [upd_ne (ne_of_none q h)]
  exact a b u n q
theorem digit_in {α : Type} {l : List α} {d : Int} (h0 : 0 ≤ d) (h1 : d < (l.length : Int)) : ∃ c, c ∈ l ∧ l[d.toNat]? = some c ∧ ((d.toNat : Nat) : Int) = d := by
  have h2 : d.toNat < l.length := by omega
  exact ⟨l[d.toNat], List.getElem_mem h2, List.getElem?_eq_getElem h2, Int.toNat_of_nonneg h0⟩
theorem keep_of_dig {p : Addr} {H H' : Hp} (h : ∀ b, b ≠ p → H' b = H b) : Keep [p] H H' := fun b o hb e => by
  rw [h b (fun z => hb (by rw [z]; exact in1))]
  exact e
end Fs
/-! What is a whole number, a text, a name; the kinds. -/
namespace Fs
open PySem L2 TL
abbrev sIsText : Stmt := top 3
abbrev sIsName : Stmt := top 4
theorem scIsText : FnScope ["thing"] ["thing"] (defScope sIsText) := ⟨rfl, rfl, rfl, by decide +kernel, rfl, by decide +kernel, by decide +kernel⟩
theorem scIsName : FnScope ["thing"] ["thing"] (defScope sIsName) := ⟨rfl, rfl, rfl, by decide +kernel, rfl, by decide +kernel, by decide +kernel⟩
def spWhole : Sp := fun vs H Q _ => ∃ i : Int, vs = [.int i] ∧ Q (.bl true) H
def spIsText : Sp := fun vs H Q _ => ∃ z : Str, vs = [.str z] ∧ Q (.bl true) H
def spIsName (Pt : Addr) : Sp := fun vs H Q _ => ∃ z : Str, vs = [.str z] ∧ IsNm z ∧ GxR.TabG H Pt ∧ ∀ H2, GxR.Tabbed Pt H H2 → Q (.bl true) H2
/-- 'a' <= sign <= 'z' -/
def pbN (c : Nat) : Bool := (!decide ([c] < (Str.ofString "a").cps.toList)) && (!decide ((Str.ofString "z").cps.toList < [c]))
theorem one_lt {a b : Nat} : ([a] < [b]) ↔ a < b := by
  constructor
  · intro h
    cases h with
    | rel h => exact h
    | cons h => cases h
  · intro h
    exact List.Lex.rel h
theorem pbN_small {c : Nat} (h : small c = true) : pbN c = true := by
  unfold small at h
  simp only [Bool.and_eq_true, decide_eq_true_eq] at h
  have ea : (Str.ofString "a").cps.toList = [97] := by decide +kernel
  have ez : (Str.ofString "z").cps.toList = [122] := by decide +kernel
  have h1 : ¬ ([c] < [97]) := fun q => by have := one_lt.mp q; omega
  have h2 : ¬ ([122] < [c]) := fun q => by have := one_lt.mp q; omega
  unfold pbN
  rw [ea, ez, decide_eq_false h1, decide_eq_false h2]
  rfl
theorem elt_name {prog : Program} {w : World} {scope : Scope} {x : Str} {j1 j2 : Nat} {p1 p2 p3 p4 : Pos} (hk : scope.kind = .function) (hl : scope.names.lookup x = some .local) (hd : (x == ("__debug__" : Str)) = false := by decide) :
    GxR.EltP prog w scope x (.Compare (.Constant (.str "a") j1 p1) [.LtE, .LtE] [.Name x p2, .Constant (.str "z") j2 p3] p4) pbN := by
  intro cenv A' E' c t s₂ m₂ hs hn hm
  have name : ∀ (s : Shared) (Q : Value → Shared → Prop), s.heap.Ns cenv.locals m₂ → Q (.str ⟨#[c]⟩ t) s → wpAny (model prog w) A' (eval (.Name x p2) cenv) Q E' s := fun s Q hn' h =>
    wpAny_Name (wpAny_loadName_local (by rw [hs]; exact hk) (show cenv.scope.names.lookup x = some .local by rw [hs]; exact hl) hn' hm h) hd
  refine PyProof.Rows.Compare_chain (PySem.Calls.Constant_str (PyProof.Rows.chain_link (name _ _ hn (PySem.P.le_str ?_)))) (by with_unfolding_all rfl)
  refine wpAny_truthy_bool ?_
  by_cases h : [c] < (Str.ofString "a").cps.toList
  · have e : pbN c = false := by unfold pbN; rw [decide_eq_true h]; rfl
    have e2 : (!decide ((Str.mk #[c]).cps.toList < (Str.ofString "a").cps.toList)) = false := by
      show (!decide ([c] < _)) = false
      rw [decide_eq_true h]; rfl
    rw [e2]
    exact PyProof.Rows.ite_ff ⟨by rw [e], GxR.keeps_tok _ _⟩
  · have e2 : (!decide ((Str.mk #[c]).cps.toList < (Str.ofString "a").cps.toList)) = true := by
      show (!decide ([c] < _)) = true
      rw [decide_eq_false h]; rfl
    rw [e2]
    refine PyProof.Rows.ite_tt (PyProof.Rows.chain_last (PySem.Calls.Constant_str (PySem.P.le_str ⟨?_, GxR.keeps_tok _ _⟩)))
    · have e : pbN c = (!decide ((Str.ofString "z").cps.toList < [c])) := by unfold pbN; rw [decide_eq_false h]; rfl
      rw [e]
section
variable {P : Program} {w : World} {K : PySem.W.Frag} {mg : Str → Option Value} {base : Heap}
theorem ok_isText {f : Addr} {fd : FuncData} (F : Fun K "is_text" "is_text" sIsText f fd) (mI : mg "isinstance" = none) (mS : mg "str" = none) : FnOk P w K mg base CX0 1 f fd ["thing"] spIsText := by
  refine F.ok scIsText (fun vs H Q E h => ?_) (fun cdv A outer s H vs Q E hr h => ?_)
  · obtain ⟨i, rfl, _⟩ := h
    rfl
  · obtain ⟨i, rfl, kk⟩ := h
    refine ⟨_, pss_one (ps_ret (pe_callB call_isi (by rfl) mI (by decide +kernel) (pa_cons (pv 0) (pa_cons (pe_bltn (v := .ty "str") (u := .type "str") (by rfl) mS (by decide +kernel) rfl) pa_nil)))), ?_⟩
    exact ⟨_, rfl, _, _, _, _, _, rfl, .ty "str", .base (.str i), kit_ty (r := true) (by decide +kernel), kk⟩
theorem ok_isName {f fT c Pt : Addr} {fdT : FuncData} {oc dV kV doc pm ct : Value} {an od : Option Addr} {osl : Array (Option Value)} (lk : K.lookup f = some ⟨oc, od, .func (PySem.W.fnOf "is_name" "is_name" (defArgs sIsName) (defBody sIsName) (defScope sIsName) dV kV doc pm an (.ref c) ct), osl⟩) (hcd : PySem.W.codeIn K (.ref c) "is_name" = true)
    (TB : GxR.TabB base mg c Pt) (FT : FnOk P w K mg base CX0 1 fT fdT ["thing"] spIsText) (mT : mg "is_text" = some (.ref fT)) (kT : PySem.W.keepIn K (.ref fT) = true) (bT : Binds K fdT ["thing"] []) (mL : mg "len" = none) (mA : mg "all" = none) :
    FnOk P w K mg base CX0 2 f (PySem.W.fnOf "is_name" "is_name" (defArgs sIsName) (defBody sIsName) (defScope sIsName) dV kV doc pm an (.ref c) ct) ["thing"] (spIsName Pt) := by
  refine fn_of (CX := CX0) lk hcd scIsName (fun vs H Q E h => ?_) (fun A outer s H vs Q E hr h => ?_)
  · obtain ⟨z, rfl, _⟩ := h
    rfl
  · obtain ⟨z, rfl, ⟨h1, h2, h3⟩, hT, kk⟩ := h
    refine ⟨_, PSs.nox (pss_one (ps_ret (pe_and (pe_call FT hr rfl mT kT bT .nil pass0 (pa_cons (pv 0) pa_nil)) (pe_and (pe_chain op_le op_le pe_int (pe_callB call_len_str (by rfl) mL PySem.boot_len (pa_cons (pv 0) pa_nil)) pe_int)
      (pe_one (GxR.pe_allS hr (by rfl) mA (by decide +kernel) TB rfl ⟨rfl, rfl, by decide +kernel, rfl, rfl, fun y hy e => ?_⟩ (pv 0) (elt_name rfl rfl) (fun v => rfl))))))), ?_⟩
    · have q : ∀ y ∈ ([((".0" : Str), NameKind.local), (("sign" : Str), NameKind.local)] : List (Str × NameKind)), y.2 = NameKind.free → False := by decide
      exact (q y hy e).elim
    have hzl : z.length = z.cps.toList.length := by simp [Str.length]
    refine ⟨_, rfl, z, rfl, true, rfl, iteT ?_⟩
    refine ⟨_, rfl, z, rfl, Nat.le_of_lt (Nat.lt_of_lt_of_le (by omega : z.length < 1000) (by decide)), _, _, rfl, rfl, _, rfl, ?_⟩
    rw [decide_eq_true (show (1 : Int) ≤ (z.length : Int) by omega)]
    refine iteT ⟨_, _, rfl, rfl, _, rfl, ?_⟩
    rw [decide_eq_true (show (z.length : Int) ≤ (8 : Int) by omega)]
    refine iteT ⟨_, rfl, z, rfl, hT, fun H2 hH => ?_⟩
    have ea : z.cps.toList.all pbN = true := List.all_eq_true.mpr fun c hc => pbN_small (h3 c hc)
    rw [ea]
    exact kk H2 hH
end
end Fs
/-! The class of kinds. -/
namespace Fs
open PySem L2 TL
abbrev sKInit : Stmt := inClass (top 25) 0
abbrev sIsKind : Stmt := inClass (top 25) 2
abbrev sChkNew : Stmt := inClass (top 25) 6
theorem scKInit : FnScope ["self", "pairs", "name", "above"] ["self", "pairs"] (defScope sKInit) := ⟨rfl, rfl, rfl, by decide +kernel, rfl, by decide +kernel, by decide +kernel⟩
theorem scIsKind : FnScope ["self", "thing"] ["self", "thing"] (defScope sIsKind) := ⟨rfl, rfl, rfl, by decide +kernel, rfl, by decide +kernel, by decide +kernel⟩
theorem scChkNew : FnScope ["self", "name", "above"] ["self", "name", "above"] (defScope sChkNew) := ⟨rfl, rfl, rfl, by decide +kernel, rfl, by decide +kernel, by decide +kernel⟩
/-- what a kinds' dict holds -/
def kvsOf (ps : List (Str × Str)) : List (Key × V) := [(.inr sF, .non), (.inr sS, .str sF)] ++ ps.map fun q => (.inr q.1, .str q.2)
theorem sFS : ¬ sF = sS := by decide +kernel
theorem kvs_some (z : Str) : ∀ ps : List (Str × Str), (valV (ps.map fun q => ((.inr q.1 : Key), V.str q.2)) (.inr z)).isSome = decide (z ∈ ps.map Prod.fst)
  | [] => rfl
  | q :: r => by
    rw [List.map_cons, List.map_cons]
    by_cases h : q.1 = z
    · rw [valV_pos (by rw [h]), decide_eq_true (by rw [h]; exact List.mem_cons_self)]
      rfl
    · rw [valV_neg (fun e => h (Sum.inr.inj e)), kvs_some z r]
      have h2 : ¬ z = q.1 := fun e => h e.symm
      simp only [List.mem_cons, h2, false_or]
theorem kvs_is (z : Str) (ps : List (Str × Str)) : (valV (kvsOf ps) (.inr z)).isSome = decide (z ∈ sF :: sS :: ps.map Prod.fst) := by
  show (valV ((.inr sF, V.non) :: (.inr sS, V.str sF) :: ps.map fun q => ((.inr q.1 : Key), V.str q.2)) (.inr z)).isSome = _
  by_cases h : sF = z
  · rw [valV_pos (by rw [h]), decide_eq_true (by rw [h]; exact List.mem_cons_self)]
    rfl
  · rw [valV_neg (fun e => h (Sum.inr.inj e))]
    have h' : ¬ z = sF := fun e => h e.symm
    by_cases h2 : sS = z
    · rw [valV_pos (by rw [h2]), decide_eq_true (by rw [h2]; exact List.mem_cons_of_mem _ List.mem_cons_self)]
      rfl
    · have h2' : ¬ z = sS := fun e => h2 e.symm
      rw [valV_neg (fun e => h2 (Sum.inr.inj e)), kvs_some]
      simp only [List.mem_cons, h', h2', false_or]
theorem kvs_put {z y : Str} {ps : List (Str × Str)} (h : z ∉ sF :: sS :: ps.map Prod.fst) : putK (kvsOf ps) (.inr z) (.str y) = kvsOf (ps ++ [(z, y)]) := by
  have hn : ((kvsOf ps).any fun kv => decide (kv.1 = (.inr z : Key))) = false := by
    rw [List.any_eq_false]
    intro kv hkv e
    have e' := of_decide_eq_true e
    rcases List.mem_append.mp hkv with m | m
    · rcases List.mem_cons.mp m with m | m
      · rw [m] at e'
        exact h (by rw [← Sum.inr.inj e']; exact List.mem_cons_self)
      · rw [List.mem_singleton.mp m] at e'
        exact h (by rw [← Sum.inr.inj e']; exact List.mem_cons_of_mem _ List.mem_cons_self)
    · obtain ⟨q, hq, rfl⟩ := List.mem_map.mp m
      exact h (by rw [← Sum.inr.inj e']; exact List.mem_cons_of_mem _ (List.mem_cons_of_mem _ (List.mem_map.mpr ⟨q, hq, rfl⟩)))
  unfold putK
  rw [hn, if_neg Bool.false_ne_true]
  unfold kvsOf
  rw [List.map_append, ← List.append_assoc]
  rfl
theorem kvs_len (ps : List (Str × Str)) : (kvsOf ps).length = ps.length + 2 := by
  unfold kvsOf
  rw [List.length_append, List.length_map]
  show 2 + ps.length = _
  omega
/-- kinds of these pairs at kd, its dict at d -/
def KindsAt (C : Addr) (H : Hp) (kd : Addr) (ps : List (Str × Str)) : Prop := ∃ dx d, H kd = some (.ins C dx [("_above", .ref d)]) ∧ H d = some (.dK (kvsOf ps))
theorem ab_look (v : V) : ([(("_above" : Str), v)] : List (Str × V)).lookup ("_above" : Str) = some v := by simp [List.lookup]
theorem ab_no (v : V) {m : Str} (h : ¬ m = "_above") : ([(("_above" : Str), v)] : List (Str × V)).lookup m = none := by
  have e : (m == ("_above" : Str)) = false := by simpa using h
  simp [List.lookup, e]
theorem KindsAt.keep {C : Addr} {ex : List Addr} {H H' : Hp} {kd : Addr} {ps : List (Str × Str)} (h : KindsAt C H kd ps) (k : Keep ex H H') (hx : ∀ b ∈ ex, ∃ o, H b = some o ∧ (∀ C dx fs, o ≠ .ins C dx fs) ∧ ∀ kvs, o ≠ .dK kvs) : KindsAt C H' kd ps := by
  obtain ⟨dx, d, e1, e2⟩ := h
  refine ⟨dx, d, k.at e1 fun z => ?_, k.at e2 fun z => ?_⟩
  · obtain ⟨o, e, n, _⟩ := hx _ z
    rw [e1] at e
    exact n _ _ _ (Option.some.inj e).symm
  · obtain ⟨o, e, _, n⟩ := hx _ z
    rw [e2] at e
    exact n _ (Option.some.inj e).symm
/-- the class's own text -/
structure KTxt (K : PySem.W.Frag) (mg : Str → Option Value) (C fI fK fN : Addr) : Prop where
  cl : Cls K C
  nA : NoAttr K C "_above"
  mK : Meth K C "is_kind" fK
  mN : Meth K C "_check_new" fN
/-- a new object is told the pairs -/
def spKInit (C Pt : Addr) : Sp := fun vs H Q _ => ∃ (p l dx : Addr) (ps : List (Str × Str)), vs = [.ref p, .ref l] ∧ H p = some (.ins C dx []) ∧ PairsAt H l ps ∧ Wf ps ∧ ps.length ≤ 30 ∧ GxR.TabG H Pt ∧
  ∀ H' : Hp, Keep [p, Pt] H H' → KindsAt C H' p ps → GxR.TabG H' Pt → Q .non H'
theorem Wf.not_sheaf {ps : List (Str × Str)} (h : Wf ps) : ∀ y ∈ sF :: ps.map Prod.fst, ¬ y = sS := by
  induction h with
  | nil =>
    intro y hy e
    rw [List.mem_singleton.mp hy] at e
    exact sFS e
  | @snoc ps z y hw hz hn hy ih =>
    intro x hx e
    rw [List.map_append] at hx
    rcases List.mem_cons.mp hx with q | q
    · exact ih x (by rw [q]; exact List.mem_cons_self) e
    · rcases List.mem_append.mp q with q | q
      · exact ih x (List.mem_cons_of_mem _ q) e
      · have e2 : x = z := by simpa using q
        exact hn (by rw [← e2, e]; exact List.mem_cons_self)
/-- the first pairs, and the next one -/
theorem Wf.step {ps : List (Str × Str)} (h : Wf ps) : ∀ {i : Nat} {q : Str × Str}, ps[i]? = some q → IsNm q.1 ∧ q.1 ∉ sF :: sS :: (ps.take i).map Prod.fst ∧ q.2 ∈ sF :: (ps.take i).map Prod.fst := by
  induction h with
  | nil => intro i q e; simp at e
  | @snoc ps z y hw hz hn hy ih =>
    intro i q e
    by_cases hi : i < ps.length
    · rw [List.getElem?_append_left hi] at e
      rw [List.take_append_of_le_length (Nat.le_of_lt hi)]
      exact ih e
    · have hi2 : i = ps.length := by
        have := (List.getElem?_eq_some_iff.mp e).1
        rw [List.length_append, List.length_singleton] at this
        omega
      subst hi2
      rw [List.getElem?_append_right (Nat.le_refl _), Nat.sub_self] at e
      have e' : (z, y) = q := by simpa using e
      subst e'
      rw [List.take_left]
      refine ⟨hz, fun m => hn ?_, hy⟩
      rcases List.mem_cons.mp m with m | m
      · exact (show z = sF from m) ▸ List.mem_cons_of_mem _ List.mem_cons_self
      · rcases List.mem_cons.mp m with m | m
        · exact (show z = sS from m) ▸ List.mem_cons_self
        · exact List.mem_cons_of_mem _ (List.mem_cons_of_mem _ m)
def spIsKind (C : Addr) : Sp := fun vs H Q _ => ∃ (kd : Addr) (z : Str) (ps : List (Str × Str)), vs = [.ref kd, .str z] ∧ KindsAt C H kd ps ∧ Q (.bl (decide (z ∈ sF :: sS :: ps.map Prod.fst))) H
def spChkNew (C Pt : Addr) : Sp := fun vs H Q _ => ∃ (kd : Addr) (z y : Str) (ps : List (Str × Str)), vs = [.ref kd, .str z, .str y] ∧ KindsAt C H kd ps ∧ IsNm z ∧ z ∉ sF :: sS :: ps.map Prod.fst ∧ y ∈ sF :: ps.map Prod.fst ∧ ¬ y = sS ∧ GxR.TabG H Pt ∧ ∀ H2, GxR.Tabbed Pt H H2 → Q .non H2
theorem tab_keep {Pt : Addr} {H H' : Hp} (h : GxR.Tabbed Pt H H') : Keep [Pt] H H' := fun b o hb e => by
  rw [h.2 b (fun z => hb (by rw [z]; exact in1))]
  exact e
theorem tab_ex {H : Hp} {Pt : Addr} (h : GxR.TabG H Pt) : ∀ b ∈ [Pt], ∃ o, H b = some o ∧ (∀ C dx fs, o ≠ .ins C dx fs) ∧ ∀ kvs, o ≠ .dK kvs := fun b hb => by
  obtain ⟨ps, e, _⟩ := h
  rw [List.mem_singleton.mp hb]
  exact ⟨_, e, (fun _ _ _ z => by cases z), fun _ z => by cases z⟩
section
variable {P : Program} {w : World} {K : PySem.W.Frag} {mg : Str → Option Value} {base : Heap} {C fI fK fN : Addr}
theorem ok_isKind {fT : Addr} {fd fdT : FuncData} (F : Fun K "is_kind" "Kinds.is_kind" sIsKind fK fd) (T : KTxt K mg C fI fK fN) (FT : FnOk P w K mg base CX0 1 fT fdT ["thing"] spIsText) (mT : mg "is_text" = some (.ref fT)) (kT : PySem.W.keepIn K (.ref fT) = true) (bT : Binds K fdT ["thing"] []) :
    FnOk P w K mg base CX0 2 fK fd ["self", "thing"] (spIsKind C) := by
  refine F.ok scIsKind (fun vs H Q E h => ?_) (fun cdv A outer s H vs Q E hr h => ?_)
  · obtain ⟨kd, z, ps, rfl, _⟩ := h
    rfl
  · obtain ⟨kd, z, ps, rfl, ⟨dx, d, e1, e2⟩, kk⟩ := h
    refine ⟨_, pss_one (ps_ret (pe_and (pe_call FT hr rfl mT kT bT .nil pass0 (pa_cons (pv 1) pa_nil)) (pe_one (pe_cmp (pc_din (hu_of hr) (pv 1) (pe_fld (pv 0) rfl)) rfl)))), ?_⟩
    refine ⟨_, rfl, z, rfl, true, rfl, iteT ⟨_, rfl, _, rfl, kd, C, dx, _, _, rfl, e1, T.cl, T.nA, ab_look _, d, _, rfl, DGet.k (k := Sum.inr z) e2, ?_⟩⟩
    rw [kvs_is]
    exact kk
theorem ok_chkNew {fM : Addr} {fd fdM fdK : FuncData} {Pt : Addr} (F : Fun K "_check_new" "Kinds._check_new" sChkNew fN fd) (T : KTxt K mg C fI fK fN) (FM : FnOk P w K mg base CX0 2 fM fdM ["thing"] (spIsName Pt)) (mM : mg "is_name" = some (.ref fM)) (kM : PySem.W.keepIn K (.ref fM) = true) (bM : Binds K fdM ["thing"] [])
    (FK : FnOk P w K mg base CX0 2 fK fdK ["self", "thing"] (spIsKind C)) (bK : Binds K fdK ["self", "thing"] []) : FnOk P w K mg base CX0 3 fN fd ["self", "name", "above"] (spChkNew C Pt) := by
  refine F.ok scChkNew (fun vs H Q E h => ?_) (fun cdv A outer s H vs Q E hr h => ?_)
  · obtain ⟨kd, z, y, ps, rfl, _⟩ := h
    rfl
  · obtain ⟨kd, z, y, ps, rfl, hk, hz, hz2, hy, hy2, hT, kk⟩ := h
    refine ⟨_, pss_cons (ps_if (PW.pt (pw_or (pt_not (pt_val (pe_call FM hr rfl mM kM bM .nil pass0 (pa_cons (pv 1) pa_nil)))) (pw_or1 (pt_val (pe_meth (pv 0) T.cl T.mK FK hr bK .nil pass0 (pa_cons (pv 1) pa_nil)))))) (pss_one ps_never) pss_nil)
      (pss_one (ps_if (PW.pt (pw_or (pt_not (pt_val (pe_meth (pv 0) T.cl T.mK FK hr bK .nil pass0 (pa_cons (pv 2) pa_nil)))) (pw_or1 (pt_cmpR op_eq (pv 2) pe_str (nomark _))))) (pss_one ps_never) pss_nil)), ?_⟩
    refine ⟨_, rfl, z, rfl, hz, hT, fun H2 hH => ⟨true, rfl, iteF ?_⟩⟩
    have hk2 := hk.keep (tab_keep hH) (tab_ex hT)
    obtain ⟨dx, d, e1, e2⟩ := id hk2
    have noK : ([(("_above" : Str), V.ref d)] : List (Str × V)).lookup ("is_kind" : Str) = none := ab_no _ (by decide +kernel)
    refine ⟨_, rfl, kd, dx, _, rfl, e1, noK, _, rfl, kd, z, ps, rfl, hk2, _, rfl, ?_⟩
    rw [decide_eq_false hz2]
    refine iteF ?_
    refine ⟨_, rfl, kd, dx, _, rfl, e1, noK, _, rfl, kd, y, ps, rfl, hk2, _, rfl, ?_⟩
    have hy3 : y ∈ sF :: sS :: ps.map Prod.fst := by
      rcases List.mem_cons.mp hy with q | q
      · rw [q]; exact List.mem_cons_self
      · exact List.mem_cons_of_mem _ (List.mem_cons_of_mem _ q)
    rw [decide_eq_true hy3]
    refine iteF ⟨_, rfl, rfl, _, rfl, ?_⟩
    rw [decide_eq_false (fun e => hy2 (V.str.inj e))]
    exact iteF (kk H2 hH)
theorem ok_kInit {fd fdN : FuncData} {Pt : Addr} (F : Fun K "__init__" "Kinds.__init__" sKInit fI fd) (T : KTxt K mg C fI fK fN) (FN : FnOk P w K mg base CX0 3 fN fdN ["self", "name", "above"] (spChkNew C Pt)) (bN : Binds K fdN ["self", "name", "above"] []) :
    FnOk P w K mg base CX0 4 fI fd ["self", "pairs"] (spKInit C Pt) := by
  refine F.ok scKInit (fun vs H Q E h => ?_) (fun cdv A outer s H vs Q E hr h => ?_)
  · obtain ⟨p, l, dx, ps, rfl, _⟩ := h
    rfl
  · obtain ⟨p, l, dx, ps, rfl, hp, hP, hw, hlen, hT, kk⟩ := h
    refine ⟨_, pss_cons (ps_fld (pv 0) (pe_disp (pps_cons pe_str pe_non (pps_cons pe_str pe_str pps_nil)) (by rfl) (by rfl) (fun z => by cases z) (by decide)) rfl)
      (pss_one (ps_for PassesOwn.never rfl (pi_list (pv 1)) (pg_tup rfl (pgs_cons (pg_name (i := 2) scKInit.nd rfl (Or.inl rfl)) (pgs_cons (pg_name (i := 3) scKInit.nd rfl (Or.inl rfl)) pgs_nil)))
        (pss_cons (ps_expr (pe_meth (pv 0) T.cl T.mN FN hr bN .nil pass0 (pa_cons (pv 2) (pa_cons (pv 3) pa_nil)))) (pss_one (ps_dput (hu_of hr) (pe_fld (pv 0) rfl) (pv 2) (pv 3) rfl))))), ?_⟩
    intro d hd
    refine ⟨upd_same, kvsOf [], rfl, by decide, ?_⟩
    have npd : p ≠ d := ne_of_none hp hd
    have eK : mergeK [] (kvsOf []) = kvsOf [] := by decide +kernel
    rw [eK, upd_upd]
    refine ⟨_, rfl, p, C, dx, [], rfl, by rw [upd_ne npd]; exact hp, T.cl, T.nA, by decide, ?_⟩
    have k0 : Keep [p, Pt] H (upd (upd H d (.dK (kvsOf []))) p (.ins C dx [("_above", .ref d)])) := (Keep.new hd).ownTo List.mem_cons_self
    obtain ⟨as, el, tl⟩ := hP
    obtain ⟨tb, et, ht⟩ := hT
    have nlp : l ≠ p := ne_of el hp (fun z => nomatch z)
    have nlT : l ≠ Pt := ne_of el et (fun z => nomatch z)
    have nld : l ≠ d := ne_of_none el hd
    have npT : p ≠ Pt := ne_of hp et (fun z => nomatch z)
    have ndT : d ≠ Pt := fun z => by rw [z, et] at hd; cases hd
    have nlx : l ∉ [p, Pt] := fun z => by
      rcases List.mem_cons.mp z with z | z
      · exact nlp z
      · exact nlT (List.mem_singleton.mp z)
    have tx : ∀ a xs, H a = some (.tup xs) → a ∉ [p, Pt] := fun a xs q z => by
      rcases List.mem_cons.mp z with z | z
      · rw [z, hp] at q; cases q
      · rw [List.mem_singleton.mp z, et] at q; cases q
    refine ⟨_, rfl, l, rfl, ⟨_, SqL.of (k0.at el nlx)⟩, for_list (K := K) (a := l) (xs := as.map V.ref) (fun i σ H' => ∃ v2 v3 : Option V, σ = [some (.ref p), some (.ref l), v2, v3] ∧ Keep [p, Pt] H H' ∧ H' p = some (.ins C dx [("_above", .ref d)]) ∧ H' d = some (.dK (kvsOf (ps.take i))) ∧ GxR.TabG H' Pt)
      ⟨none, none, rfl, k0, upd_same, by rw [upd_ne npd.symm, upd_same]; rfl, ⟨tb, by rw [upd_ne npT.symm, upd_ne ndT.symm]; exact et, ht⟩⟩
      (fun i σ H' _ ⟨_, _, _, k, _⟩ => SqL.of (k.at el nlx)) ?_ ?_⟩
    · rintro i x σ H1 hx ⟨v2, v3, rfl, k1, e1, e2, hT1⟩
      obtain ⟨a, ha, rfl⟩ : ∃ a, as[i]? = some a ∧ x = V.ref a := by
        rw [List.getElem?_map] at hx
        cases q : as[i]? with
        | none => rw [q] at hx; cases hx
        | some a => rw [q] at hx; exact ⟨a, rfl, (Option.some.inj hx).symm⟩
      obtain ⟨q, hq2, hta⟩ := tl.at ha
      obtain ⟨w1, w2, w3⟩ := hw.step hq2
      have hns := hw.not_sheaf
      have hta1 : H1 a = some (.tup [.str q.1, .str q.2]) := k1.at hta (tx a _ hta)
      refine ⟨a, _, rfl, SqT.of hta1, rfl, _, _, rfl, _, _, rfl, rfl, ?_⟩
      have noN : ([(("_above" : Str), V.ref d)] : List (Str × V)).lookup ("_check_new" : Str) = none := ab_no _ (by decide +kernel)
      have hy : ¬ q.2 = sS := by
        refine hns q.2 ?_
        rcases List.mem_cons.mp w3 with m | m
        · rw [m]; exact List.mem_cons_self
        · obtain ⟨u, hu, eu⟩ := List.mem_map.mp m
          exact List.mem_cons_of_mem _ (List.mem_map.mpr ⟨u, List.mem_of_mem_take hu, eu⟩)
      refine ⟨_, rfl, p, dx, _, rfl, e1, noN, _, rfl, _, rfl, p, q.1, q.2, ps.take i, rfl, ⟨dx, d, e1, e2⟩, w1, w2, w3, hy, hT1, fun H2 hH => ?_⟩
      have k2 := tab_keep hH
      have e12 : H2 p = some (.ins C dx [("_above", .ref d)]) := k2.at e1 (nin1 npT)
      have e22 : H2 d = some (.dK (kvsOf (ps.take i))) := k2.at e2 (nin1 ndT)
      have hil : i < ps.length := (List.getElem?_eq_some_iff.mp hq2).1
      refine ⟨_, rfl, _, rfl, p, C, dx, _, _, rfl, e12, T.cl, T.nA, ab_look _, ?_⟩
      have hlk : (kvsOf (ps.take i)).length < sizeLine := by
        rw [kvs_len, List.length_take]
        exact Nat.lt_of_lt_of_le (by omega : min i ps.length + 2 < 1000) (by decide)
      refine ⟨_, rfl, d, _, rfl, DPut.k (k := Sum.inr q.1) e22 hlk, ?_⟩
      have eT : ps.take (i + 1) = ps.take i ++ [(q.1, q.2)] := by rw [List.take_add_one, hq2]; rfl
      rw [kvs_put w2, ← eT]
      refine ⟨_, _, rfl, ((k1.trans (k2.more fun b hb => List.mem_cons_of_mem _ hb)).freshTo hd), by rw [upd_ne npd]; exact e12, upd_same, ?_⟩
      obtain ⟨tb2, et2, ht2⟩ := hH.1
      exact ⟨tb2, by rw [upd_ne ndT.symm]; exact et2, ht2⟩
    · rintro σ H1 ⟨v2, v3, rfl, k1, e1, e2, hT1⟩
      rw [List.length_map, tl.len, List.take_length] at e2
      exact kk H1 k1 ⟨dx, d, e1, e2⟩ hT1
end
end Fs
/-! The ledger: what it holds. -/
namespace Fs
open PySem L2 TL
/-- a fault -/
structure Ent where
  kind : Str
  text : Str
  mem : List Nat
  notes : List Str
  cause : Option Nat
  atw : Option Nat
def optV : Option Nat → V
  | none => .non
  | some k => .int (k : Int)
/-- where a ledger's own lists stand -/
structure LA where
  dx : Addr
  kd : Addr
  l1 : Addr
  l2 : Addr
  l3 : Addr
  l4 : Addr
  l5 : Addr
  l6 : Addr
def LA.ls (A : LA) : List Addr := [A.l1, A.l2, A.l3, A.l4, A.l5, A.l6]
def fldsL (A : LA) : List (Str × V) := [("_kinds", .ref A.kd), ("_kind_of", .ref A.l1), ("_text_of", .ref A.l2), ("_members_of", .ref A.l3), ("_notes_of", .ref A.l4), ("_cause_of", .ref A.l5), ("_at_work_of", .ref A.l6)]
theorem fl0 (A : LA) : (fldsL A).lookup ("_kinds" : Str) = some (.ref A.kd) := rfl
theorem fl1 (A : LA) : (fldsL A).lookup ("_kind_of" : Str) = some (.ref A.l1) := rfl
theorem fl2 (A : LA) : (fldsL A).lookup ("_text_of" : Str) = some (.ref A.l2) := rfl
theorem fl3 (A : LA) : (fldsL A).lookup ("_members_of" : Str) = some (.ref A.l3) := rfl
theorem fl4 (A : LA) : (fldsL A).lookup ("_notes_of" : Str) = some (.ref A.l4) := rfl
theorem fl5 (A : LA) : (fldsL A).lookup ("_cause_of" : Str) = some (.ref A.l5) := rfl
theorem fl6 (A : LA) : (fldsL A).lookup ("_at_work_of" : Str) = some (.ref A.l6) := rfl
theorem flno (A : LA) : (fldsL A).lookup ("_check_fault" : Str) = none := rfl
/-- a list of tuples of whole numbers, as the faults have them -/
def MemsAt (H : Hp) : List Addr → List Ent → Prop
  | [], [] => True
  | a :: as, e :: es => H a = some (.tup (e.mem.map fun k : Nat => V.int (k : Int))) ∧ MemsAt H as es
  | _, _ => False
def NotesAt (H : Hp) : List Addr → List Ent → Prop
  | [], [] => True
  | a :: as, e :: es => H a = some (.lst (e.notes.map V.str)) ∧ NotesAt H as es
  | _, _ => False
theorem MemsAt.map {H H' : Hp} (k : ∀ a xs, H a = some (.tup xs) → H' a = some (.tup xs)) : ∀ {as : List Addr} {es : List Ent}, MemsAt H as es → MemsAt H' as es
  | [], [], _ => True.intro
  | _ :: as, _ :: es, h => ⟨k _ _ h.1, MemsAt.map k h.2⟩
  | [], _ :: _, h => h.elim
  | _ :: _, [], h => h.elim
theorem MemsAt.len {H : Hp} : ∀ {as : List Addr} {es : List Ent}, MemsAt H as es → as.length = es.length
  | [], [], _ => rfl
  | _ :: as, _ :: es, h => by rw [List.length_cons, List.length_cons, MemsAt.len h.2]
  | [], _ :: _, h => h.elim
  | _ :: _, [], h => h.elim
theorem MemsAt.snoc {H : Hp} {b : Addr} {e : Ent} (hb : H b = some (.tup (e.mem.map fun k : Nat => V.int (k : Int)))) : ∀ {as : List Addr} {es : List Ent}, MemsAt H as es → MemsAt H (as ++ [b]) (es ++ [e])
  | [], [], _ => ⟨hb, True.intro⟩
  | _ :: as, _ :: es, h => ⟨h.1, MemsAt.snoc hb h.2⟩
  | [], _ :: _, h => h.elim
  | _ :: _, [], h => h.elim
theorem MemsAt.at {H : Hp} : ∀ {as : List Addr} {es : List Ent} {i : Nat} {e : Ent}, MemsAt H as es → es[i]? = some e → ∃ a, as[i]? = some a ∧ H a = some (.tup (e.mem.map fun k : Nat => V.int (k : Int)))
  | _, [], _, _, _, q => by simp at q
  | [], _ :: _, _, _, h, _ => h.elim
  | b :: as, f :: es, 0, e, h, q => by
    have e' : f = e := by simpa using q
    subst e'
    exact ⟨b, rfl, h.1⟩
  | b :: as, f :: es, i + 1, e, h, q => MemsAt.at (i := i) h.2 (by simpa using q)
theorem NotesAt.map {H H' : Hp} : ∀ {as : List Addr} {es : List Ent}, (∀ a ∈ as, ∀ xs, H a = some (.lst xs) → H' a = some (.lst xs)) → NotesAt H as es → NotesAt H' as es
  | [], [], _, _ => True.intro
  | _ :: as, _ :: es, k, h => ⟨k _ List.mem_cons_self _ h.1, NotesAt.map (fun a ha => k a (List.mem_cons_of_mem _ ha)) h.2⟩
  | [], _ :: _, _, h => h.elim
  | _ :: _, [], _, h => h.elim
theorem NotesAt.len {H : Hp} : ∀ {as : List Addr} {es : List Ent}, NotesAt H as es → as.length = es.length
  | [], [], _ => rfl
  | _ :: as, _ :: es, h => by rw [List.length_cons, List.length_cons, NotesAt.len h.2]
  | [], _ :: _, h => h.elim
  | _ :: _, [], h => h.elim
theorem NotesAt.snoc {H : Hp} {b : Addr} {e : Ent} (hb : H b = some (.lst (e.notes.map V.str))) : ∀ {as : List Addr} {es : List Ent}, NotesAt H as es → NotesAt H (as ++ [b]) (es ++ [e])
  | [], [], _ => ⟨hb, True.intro⟩
  | _ :: as, _ :: es, h => ⟨h.1, NotesAt.snoc hb h.2⟩
  | [], _ :: _, h => h.elim
  | _ :: _, [], h => h.elim
theorem NotesAt.at {H : Hp} : ∀ {as : List Addr} {es : List Ent} {i : Nat} {e : Ent}, NotesAt H as es → es[i]? = some e → ∃ a, as[i]? = some a ∧ H a = some (.lst (e.notes.map V.str))
  | _, [], _, _, _, q => by simp at q
  | [], _ :: _, _, _, h, _ => h.elim
  | b :: as, f :: es, 0, e, h, q => by
    have e' : f = e := by simpa using q
    subst e'
    exact ⟨b, rfl, h.1⟩
  | b :: as, f :: es, i + 1, e, h, q => NotesAt.at (i := i) h.2 (by simpa using q)
theorem NotesAt.is {H : Hp} : ∀ {as : List Addr} {es : List Ent}, NotesAt H as es → ∀ a ∈ as, ∃ xs, H a = some (.lst xs)
  | [], [], _, _, h => absurd h List.not_mem_nil
  | _ :: as, _ :: es, h, a, m => by
    rcases List.mem_cons.mp m with m | m
    · rw [m]; exact ⟨_, h.1⟩
    · exact NotesAt.is h.2 a m
  | [], _ :: _, h, _, _ => h.elim
  | _ :: _, [], h, _, _ => h.elim
/-- a ledger at p with these faults -/
structure LedAt (C : Addr) (H : Hp) (p : Addr) (A : LA) (ms ns : List Addr) (es : List Ent) : Prop where
  ins : H p = some (.ins C A.dx (fldsL A))
  h1 : H A.l1 = some (.lst (es.map fun e => V.str e.kind))
  h2 : H A.l2 = some (.lst (es.map fun e => V.str e.text))
  h3 : H A.l3 = some (.lst (ms.map V.ref))
  h4 : H A.l4 = some (.lst (ns.map V.ref))
  h5 : H A.l5 = some (.lst (es.map fun e => optV e.cause))
  h6 : H A.l6 = some (.lst (es.map fun e => optV e.atw))
  mems : MemsAt H ms es
  notes : NotesAt H ns es
  nd : (A.ls ++ ns).Nodup
theorem LedAt.isl {C : Addr} {H : Hp} {p : Addr} {A : LA} {ms ns : List Addr} {es : List Ent} (h : LedAt C H p A ms ns es) : ∀ a ∈ A.ls, ∃ xs, H a = some (.lst xs) := by
  intro a ha
  have q : a = A.l1 ∨ a = A.l2 ∨ a = A.l3 ∨ a = A.l4 ∨ a = A.l5 ∨ a = A.l6 := by simpa [LA.ls] using ha
  rcases q with q | q | q | q | q | q <;> rw [q]
  · exact ⟨_, h.h1⟩
  · exact ⟨_, h.h2⟩
  · exact ⟨_, h.h3⟩
  · exact ⟨_, h.h4⟩
  · exact ⟨_, h.h5⟩
  · exact ⟨_, h.h6⟩
/-- what does not touch its lists leaves a ledger as it is -/
theorem LedAt.keep {C : Addr} {H H' : Hp} {p : Addr} {A : LA} {ms ns : List Addr} {es : List Ent} {ex : List Addr} (h : LedAt C H p A ms ns es) (k : Keep ex H H') (hl : ∀ b ∈ ex, b ∉ A.ls ++ ns) (hx : ∀ b ∈ ex, ∃ xs, H b = some (.lst xs)) : LedAt C H' p A ms ns es := by
  have nl : ∀ a ∈ A.ls ++ ns, a ∉ ex := fun a ha z => hl a z ha
  have ni : ∀ o, (∀ xs, o ≠ .lst xs) → ∀ b, H b = some o → b ∉ ex := fun o ho b e z => by
    obtain ⟨xs, q⟩ := hx b z
    rw [e] at q
    exact ho xs (Option.some.inj q)
  have m : ∀ a, a ∈ A.ls → a ∉ ex := fun a ha => nl a (List.mem_append_left _ ha)
  exact ⟨k.at h.ins (ni _ (fun _ z => by cases z) _ h.ins), k.at h.h1 (m _ (by simp [LA.ls])), k.at h.h2 (m _ (by simp [LA.ls])), k.at h.h3 (m _ (by simp [LA.ls])), k.at h.h4 (m _ (by simp [LA.ls])), k.at h.h5 (m _ (by simp [LA.ls])), k.at h.h6 (m _ (by simp [LA.ls])),
    h.mems.map fun a xs q => k.at q (ni _ (fun _ z => by cases z) _ q), h.notes.map fun a ha xs q => k.at q (nl a (List.mem_append_right _ ha)), h.nd⟩
end Fs
/-! Slices of tuples. -/
namespace Fs
open PySem L2 TL
theorem slA_one {K : PySem.W.Frag} {H : Hp} {a : Addr} {xs : List V} {lo hi : Option Int} {Q : VK} (ha : H a = some (.tup xs)) (h : ∀ (c : Addr) (H' : Hp), Keep [] H H' → H' c = some (.tup (cutV xs lo hi)) → Q (.ref c) H') : rSlA K (.ref a) lo hi H Q :=
  ⟨a, xs, rfl, SqT.of ha, fun e => h a H (Keep.refl _ _) (by rw [ha]; unfold cutV; rw [e.1, e.2, List.drop_zero, Nat.sub_zero, List.take_length]), fun _ p hp => h p _ (Keep.new hp) upd_same⟩
end Fs
/-! list.extend with a tuple. -/
namespace Fs
open PySem PySem.Spec PyProof.Rows L2 TL
theorem list_extTup (l : Addr) (items : Array Value) (n : Nat) (b : Addr) (items2 : Array Value) (n2 : Nat) (dd : Option Addr) (sl : Array (Option Value)) (hs0 : ¬(!items.isEmpty && Builtin.List.listTooLong (items.size + items2.size)) = true) (hs1 : items.size ≤ sizeLine) (hs2 : items.size + items2.size ≤ sizeLine + 1) :
    Meets (Builtin.«list.extend» ⟨[.ref l, .ref b], []⟩) (fun _ R s => s.heap.get? l = some { cls := .type "list", dict := none, data := .seq items n, slots := #[] } ∧ s.heap.get? b = some { cls := .type "tuple", dict := dd, data := .seq items2 n2, slots := sl } ∧ R (.ok (.ret Value.none)) { s with heap := s.heap.update l (Obj.mapSeq fun x => x ++ items2), toks := s.toks }) :=
  .of_wp fun prog w A R s h => by
    obtain ⟨hp, g, d, tk, os⟩ := s
    obtain ⟨hl, hb, h⟩ := h
    have f1 := AutoSeq1.idx_int; have f2 := AutoSeq1.sub_tuple_tuple; have f3 := AutoSeq1.sub_list_list; have f4 := AutoSeq1.sub_tuple_list; have f5 := AutoSeq1.sub_list_tuple
    have hz' : (items ++ items2).size ≤ sizeLine + 1 := by rw [Array.size_append]; exact hs2
    wp_walk using (wpAny_updateSeq hl rfl (hz := hs1) (_hz' := hz')), AutoSeq1.wpAny_loadPart' hl, AutoSeq1.wpAny_loadPart' hb
    exact ⟨_, rfl, h⟩
def rExtT (K : PySem.W.Frag) : V → List V → Hp → VK → Prop := fun x vs H Q => ∃ l b xs zs, x = .ref l ∧ vs = [.ref b] ∧ H l = some (.lst xs) ∧ SqT K H b zs ∧ xs.length + zs.length ≤ 10000 ∧ Q .non (upd H l (.lst (xs ++ zs)))
section
variable {X : Cx}
theorem mt_extT : MtR X "list.extend" (rExtT X.K) := by
  intro pins s σ H x vs v us Q I rx rv h
  obtain ⟨l, b, xs, zs, rfl, rfl, hH, hB, hz, q⟩ := h
  cases rx
  obtain ⟨u, rfl, ru⟩ := rv.one
  cases ru
  obtain ⟨z, its, n, r, hl, e⟩ := I.lstM hH
  obtain ⟨its2, r2, pl, hz2⟩ := I.tuple hB
  obtain ⟨⟨cls, dd, data, sl⟩, ho, hc, n2, hd⟩ := pl
  have hc1 : cls = Value.type "tuple" := hc
  have hd1 : data = Data.seq its2.toArray n2 := hd
  subst hc1 hd1
  have hl2 := r2.length
  have hs : (10000 : Nat) ≤ sizeLine := by decide
  have hsz : its.toArray.size + its2.toArray.size ≤ sizeLine := by rw [List.size_toArray, List.size_toArray]; omega
  have hlong : ¬ (!its.toArray.isEmpty && Builtin.List.listTooLong (its.toArray.size + its2.toArray.size)) = true := by
    rw [notLongL hsz, Bool.and_false]
    exact Bool.false_ne_true
  refine call_meets F.slot_list_extend ⟨_, e, rfl⟩ F.entry_list_extend (F.args_list_extend_2 _ _)
    (list_extTup l its.toArray n b its2.toArray n2 dd sl hlong (by rw [List.size_toArray]; omega) (by omega)) ⟨e, ho, ?_⟩
  refine ⟨.non, _, I.lset (its' := its ++ its2) hH e (by simp) (r.append r2) ?_, rfl, q⟩
  rw [List.length_append]
  omega
end
end Fs
/-! The kinds, and what stands under what. -/
namespace Fs
open PySem L2 TL
def upV : Option Str → V
  | none => .non
  | some y => .str y
def dueL (ps : List (Str × Str)) : List (Str × Option Str) := (sF, none) :: (sS, some sF) :: ps.map fun q => (q.1, some q.2)
theorem valV_app {κ : Type} [DecidableEq κ] {l m : List (κ × V)} {k : κ} (h : valV l k = none) : valV (l ++ m) k = valV m k := by
  unfold valV at h ⊢
  rw [List.find?_append]
  have : l.find? (fun kv => decide (kv.1 = k)) = none := by
    cases q : l.find? (fun kv => decide (kv.1 = k)) with
    | none => rfl
    | some v => rw [q] at h; cases h
  rw [this]; rfl
theorem valV_app1 {κ : Type} [DecidableEq κ] {l m : List (κ × V)} {k : κ} {v : V} (h : valV l k = some v) : valV (l ++ m) k = some v := by
  unfold valV at h ⊢
  rw [List.find?_append]
  cases q : l.find? (fun kv => decide (kv.1 = k)) with
  | none => rw [q] at h; cases h
  | some v => rw [q] at h; exact h
theorem kvs_at {ps : List (Str × Str)} (h : Wf ps) : ∀ q ∈ ps, valV (kvsOf ps) (.inr q.1) = some (.str q.2) := by
  induction h with
  | nil => exact fun q h => absurd h List.not_mem_nil
  | @snoc ps z y hw hz hn hy ih =>
    intro q hq
    have e : kvsOf (ps ++ [(z, y)]) = kvsOf ps ++ [(.inr z, .str y)] := by
      unfold kvsOf
      rw [List.map_append, ← List.append_assoc]; rfl
    rw [e]
    rcases List.mem_append.mp hq with w | w
    · exact valV_app1 (ih q w)
    · rw [List.mem_singleton.mp w]
      have no : valV (kvsOf ps) (.inr z) = none := by
        have := kvs_is z ps
        rw [decide_eq_false (fun m => hn (by
          rcases List.mem_cons.mp m with a | a
          · rw [a]; exact List.mem_cons_of_mem _ List.mem_cons_self
          · rcases List.mem_cons.mp a with b | b
            · rw [b]; exact List.mem_cons_self
            · exact List.mem_cons_of_mem _ (List.mem_cons_of_mem _ b)))] at this
        cases r : valV (kvsOf ps) (.inr z) with
        | none => rfl
        | some v => rw [r] at this; cases this
      rw [valV_app no]
      exact valV_pos rfl
theorem due_at {ps : List (Str × Str)} (h : Wf ps) : ∀ q ∈ dueL ps, valV (kvsOf ps) (.inr q.1) = some (upV q.2) := fun q hq => by
  unfold dueL at hq
  rcases List.mem_cons.mp hq with z | z
  · rw [z]; exact valV_pos rfl
  · rcases List.mem_cons.mp z with z | z
    · rw [z]
      show valV ((.inr sF, V.non) :: (.inr sS, V.str sF) :: ps.map fun q => ((.inr q.1 : Key), V.str q.2)) (.inr sS) = _
      rw [valV_neg (fun e => sFS (Sum.inr.inj e))]
      exact valV_pos rfl
    · obtain ⟨r, hr, e⟩ := List.mem_map.mp z
      rw [← e]
      exact kvs_at h r hr

theorem Wf.not_keys {ps : List (Str × Str)} (h : Wf ps) : ∀ x ∈ ps.map Prod.fst, x ≠ sF ∧ x ≠ sS := by
  induction h with
  | nil => exact fun x h => absurd h List.not_mem_nil
  | @snoc ps z y hw hz hn hy ih =>
    intro x hx
    rw [List.map_append] at hx
    rcases List.mem_append.mp hx with v | v
    · exact ih x v
    · have e : x = z := by simpa using v
      rw [e]
      exact ⟨fun q => hn (by rw [q]; exact List.mem_cons_of_mem _ List.mem_cons_self), fun q => hn (by rw [q]; exact List.mem_cons_self)⟩
abbrev allK (ps : List (Str × Str)) : List Str := sF :: sS :: ps.map Prod.fst
def upOf (ps : List (Str × Str)) (x : Str) : Option Str := match valV (kvsOf ps) (.inr x) with
  | some (.str y) => some y
  | _ => none
theorem due_all (ps : List (Str × Str)) : (dueL ps).map Prod.fst = allK ps := by
  unfold dueL allK
  rw [List.map_cons, List.map_cons, List.map_map]
  rfl
theorem up_at {ps : List (Str × Str)} (hw : Wf ps) {x : Str} (hx : x ∈ allK ps) : valV (kvsOf ps) (.inr x) = some (upV (upOf ps x)) := by
  rw [← due_all] at hx
  obtain ⟨q, hq, rfl⟩ := List.mem_map.mp hx
  have h := due_at hw q hq
  unfold upOf
  rw [h]
  cases q.2 <;> rfl
theorem up_mem {ps : List (Str × Str)} (hw : Wf ps) {q : Str × Option Str} (hq : q ∈ dueL ps) : upOf ps q.1 = q.2 := by
  have h := due_at hw q hq
  unfold upOf
  rw [h]
  cases q.2 <;> rfl
theorem up_F {ps : List (Str × Str)} (hw : Wf ps) : upOf ps sF = none := up_mem hw (q := (sF, none)) List.mem_cons_self
theorem up_S {ps : List (Str × Str)} (hw : Wf ps) : upOf ps sS = some sF := up_mem hw (q := (sS, some sF)) (List.mem_cons_of_mem _ List.mem_cons_self)
theorem up_pair {ps : List (Str × Str)} (hw : Wf ps) {q : Str × Str} (hq : q ∈ ps) : upOf ps q.1 = some q.2 := up_mem hw (q := (q.1, some q.2)) (List.mem_cons_of_mem _ (List.mem_cons_of_mem _ (List.mem_map.mpr ⟨q, hq, rfl⟩)))
theorem up_none {ps : List (Str × Str)} (hw : Wf ps) {x : Str} (hx : x ∈ allK ps) (h : upOf ps x = none) : x = sF := by
  rcases List.mem_cons.mp hx with z | z
  · exact z
  · rcases List.mem_cons.mp z with z | z
    · rw [z, up_S hw] at h; cases h
    · obtain ⟨q, hq, rfl⟩ := List.mem_map.mp z
      rw [up_pair hw hq] at h; cases h
theorem Wf.pair_up {ps : List (Str × Str)} (hw : Wf ps) : ∀ q ∈ ps, q.2 ∈ sF :: ps.map Prod.fst := by
  induction hw with
  | nil => exact fun q h => absurd h List.not_mem_nil
  | @snoc ps z y hw hz hn hy ih =>
    intro q hq
    rw [List.map_append]
    have lift : ∀ u, u ∈ sF :: ps.map Prod.fst → u ∈ sF :: (ps.map Prod.fst ++ [(z, y)].map Prod.fst) := fun u hu => by
      rcases List.mem_cons.mp hu with a | a
      · rw [a]; exact List.mem_cons_self
      · exact List.mem_cons_of_mem _ (List.mem_append_left _ a)
    rcases List.mem_append.mp hq with v | v
    · exact lift _ (ih q v)
    · rw [List.mem_singleton.mp v]; exact lift y hy
theorem up_in {ps : List (Str × Str)} (hw : Wf ps) {x y : Str} (hx : x ∈ allK ps) (h : upOf ps x = some y) : y ∈ sF :: ps.map Prod.fst := by
  rcases List.mem_cons.mp hx with z | z
  · rw [z, up_F hw] at h; cases h
  · rcases List.mem_cons.mp z with z | z
    · rw [z, up_S hw] at h
      rw [← Option.some.inj h]; exact List.mem_cons_self
    · obtain ⟨q, hq, rfl⟩ := List.mem_map.mp z
      rw [up_pair hw hq] at h
      rw [← Option.some.inj h]; exact hw.pair_up q hq
theorem kept_all {ps : List (Str × Str)} {y : Str} (h : y ∈ sF :: ps.map Prod.fst) : y ∈ allK ps := by
  rcases List.mem_cons.mp h with z | z
  · rw [z]; exact List.mem_cons_self
  · exact List.mem_cons_of_mem _ (List.mem_cons_of_mem _ z)
/-- the way up ends -/
theorem Wf.rank {ps : List (Str × Str)} (hw : Wf ps) : ∃ r : Str → Nat, r sF = 0 ∧ r sS = 1 ∧ (∀ q ∈ ps, r q.2 < r q.1) ∧ ∀ x ∈ allK ps, r x ≤ ps.length + 1 := by
  induction hw with
  | nil =>
    refine ⟨fun x => if x = sF then 0 else 1, if_pos rfl, if_neg fun e => sFS e.symm, fun q h => absurd h List.not_mem_nil, fun x _ => ?_⟩
    show (if x = sF then 0 else 1) ≤ 1
    split <;> omega
  | @snoc ps z y hw hz hn hy ih =>
    obtain ⟨r, r1, r2, r3, r4⟩ := ih
    have nF : ¬ sF = z := fun e => hn (by rw [← e]; exact List.mem_cons_of_mem _ List.mem_cons_self)
    have nS : ¬ sS = z := fun e => hn (by rw [← e]; exact List.mem_cons_self)
    have nP : ∀ q ∈ ps, ¬ q.1 = z := fun q hq e => hn (List.mem_cons_of_mem _ (List.mem_cons_of_mem _ (List.mem_map.mpr ⟨q, hq, e⟩)))
    have nY : ∀ u, u ∈ sF :: ps.map Prod.fst → ¬ u = z := fun u hu e => by
      rcases List.mem_cons.mp hu with a | a
      · exact nF (a.symm.trans e)
      · obtain ⟨q, hq, h⟩ := List.mem_map.mp a
        exact nP q hq (h.trans e)
    refine ⟨fun x => if x = z then ps.length + 2 else r x, by show (if sF = z then _ else r sF) = 0; rw [if_neg nF]; exact r1, by show (if sS = z then _ else r sS) = 1; rw [if_neg nS]; exact r2, fun q hq => ?_, fun x hx => ?_⟩
    · rcases List.mem_append.mp hq with v | v
      · simp only [if_neg (nP q v), if_neg (nY _ (hw.pair_up q v))]
        exact r3 q v
      · rw [List.mem_singleton.mp v]
        simp only [if_neg (nY y hy), if_true]
        have := r4 y (kept_all hy)
        omega
    · rw [List.length_append]
      show (if x = z then ps.length + 2 else r x) ≤ ps.length + 1 + 1
      split
      · exact Nat.le_refl _
      · rename_i h
        have hx' : x ∈ allK ps := by
          rcases List.mem_cons.mp hx with a | a
          · rw [a]; exact List.mem_cons_self
          · rcases List.mem_cons.mp a with a | a
            · rw [a]; exact List.mem_cons_of_mem _ List.mem_cons_self
            · rw [List.map_append] at a
              rcases List.mem_append.mp a with a | a
              · exact List.mem_cons_of_mem _ (List.mem_cons_of_mem _ a)
              · exact absurd (by simpa using a) h
        exact Nat.le_succ_of_le (r4 x hx')
/-- one step up; fault stays -/
def nx (ps : List (Str × Str)) (x : Str) : Str := (upOf ps x).getD sF
def nxN (ps : List (Str × Str)) : Nat → Str → Str
  | 0, x => x
  | n + 1, x => nx ps (nxN ps n x)
theorem nx_in {ps : List (Str × Str)} (hw : Wf ps) {x : Str} (hx : x ∈ allK ps) : nx ps x ∈ allK ps := by
  unfold nx
  cases h : upOf ps x with
  | none => exact List.mem_cons_self
  | some y => exact kept_all (up_in hw hx h)
theorem nxN_in {ps : List (Str × Str)} (hw : Wf ps) {x : Str} (hx : x ∈ allK ps) : ∀ n, nxN ps n x ∈ allK ps
  | 0 => hx
  | n + 1 => nx_in hw (nxN_in hw hx n)
def under (ps : List (Str × Str)) (a b : Str) : Bool := (List.range (ps.length + 2)).any fun i => decide (nxN ps i a = b)
theorem under_t {ps : List (Str × Str)} {a b : Str} {i : Nat} (hi : i < ps.length + 2) (h : nxN ps i a = b) : under ps a b = true := by
  unfold under
  rw [List.any_eq_true]
  exact ⟨i, List.mem_range.mpr hi, decide_eq_true h⟩
theorem under_f {ps : List (Str × Str)} {a b : Str} (h : ∀ i, i < ps.length + 2 → nxN ps i a ≠ b) : under ps a b = false := by
  unfold under
  rw [List.any_eq_false]
  intro i hi
  rw [decide_eq_false (h i (List.mem_range.mp hi))]
  exact Bool.false_ne_true
theorem nx_rank {ps : List (Str × Str)} (hw : Wf ps) {r : Str → Nat} (r1 : r sF = 0) (r2 : r sS = 1) (r3 : ∀ q ∈ ps, r q.2 < r q.1) {x y : Str} (hx : x ∈ allK ps) (h : upOf ps x = some y) : r y < r x := by
  rcases List.mem_cons.mp hx with z | z
  · rw [z, up_F hw] at h; cases h
  · rcases List.mem_cons.mp z with z | z
    · rw [z, up_S hw] at h
      rw [← Option.some.inj h, z, r1, r2]; decide
    · obtain ⟨q, hq, rfl⟩ := List.mem_map.mp z
      rw [up_pair hw hq] at h
      rw [← Option.some.inj h]; exact r3 q hq
/-- from fault on it stays -/
theorem nxN_F {ps : List (Str × Str)} (hw : Wf ps) {a : Str} {i : Nat} (h : nxN ps i a = sF) : ∀ j, nxN ps (i + j) a = sF
  | 0 => h
  | j + 1 => by
    show nx ps (nxN ps (i + j) a) = sF
    rw [nxN_F hw h j]
    unfold nx
    rw [up_F hw]; rfl
def pr (q : Str × Str) : Key × V := (.inr q.1, .str q.2)
theorem merge_wf {ps : List (Str × Str)} (hw : Wf ps) : mergeK [] (ps.map pr) = ps.map pr := by
  induction hw with
  | nil => rfl
  | @snoc ps z y hw hz hn hy ih =>
    unfold mergeK at ih ⊢
    rw [List.map_append, List.foldl_append, ih]
    show putK (ps.map pr) (.inr z) (.str y) = _
    have no : ((ps.map pr).any fun kv => decide (kv.1 = (.inr z : Key))) = false := by
      rw [List.any_eq_false]
      intro kv hkv e
      obtain ⟨q, hq, rfl⟩ := List.mem_map.mp hkv
      exact hn (by rw [← Sum.inr.inj (of_decide_eq_true e)]; exact List.mem_cons_of_mem _ (List.mem_cons_of_mem _ (List.mem_map.mpr ⟨q, hq, rfl⟩)))
    unfold putK
    rw [no, if_neg Bool.false_ne_true]
    rfl
theorem law_up {ps : List (Str × Str)} (hw : Wf ps) {x : Str} (hx : x ∈ allK ps) : (valV (ps.map pr) (.inr x)).getD (.str sF) = .str (nx ps x) := by
  have nP : x ∉ ps.map Prod.fst → valV (ps.map pr) (.inr x) = none := fun h => by
    unfold valV
    rw [List.find?_eq_none.mpr fun kv hkv e => ?_]; rfl
    obtain ⟨q, hq, rfl⟩ := List.mem_map.mp hkv
    exact h (List.mem_map.mpr ⟨q, hq, Sum.inr.inj (of_decide_eq_true e)⟩)
  by_cases h : x ∈ ps.map Prod.fst
  · obtain ⟨q, hq, rfl⟩ := List.mem_map.mp h
    have e1 := kvs_at hw q hq
    have e2 : valV (kvsOf ps) (.inr q.1) = valV (ps.map pr) (.inr q.1) := by
      have n1 : ¬ sF = q.1 := fun e => (hw.not_keys q.1 h).1 e.symm
      have n2 : ¬ sS = q.1 := fun e => (hw.not_keys q.1 h).2 e.symm
      show valV ((.inr sF, V.non) :: (.inr sS, V.str sF) :: ps.map fun q => ((.inr q.1 : Key), V.str q.2)) (.inr q.1) = _
      rw [valV_neg (fun e => n1 (Sum.inr.inj e)), valV_neg (fun e => n2 (Sum.inr.inj e))]
      rfl
    rw [← e2, e1]
    unfold nx
    rw [up_pair hw hq]; rfl
  · rw [nP h]
    rcases List.mem_cons.mp hx with z | z
    · unfold nx; rw [z, up_F hw]; rfl
    · rcases List.mem_cons.mp z with z | z
      · unfold nx; rw [z, up_S hw]; rfl
      · exact absurd z h
end Fs
/-! Kinds stay. -/
namespace Fs
open PySem L2 TL
theorem KindsAt.keep0 {C : Addr} {H H' : Hp} {kd : Addr} {ps : List (Str × Str)} (h : KindsAt C H kd ps) (k : Keep [] H H') : KindsAt C H' kd ps := h.keep k fun b z => absurd z nin0
end Fs
/-! Odd things, as trees. -/
namespace Fs
open PySem L2 TL
inductive Th where
  | flat (v : V)
  | lis (z : Str)
  | box
  | tup (l : List Th)
def Flt : V → Prop
  | .non => True
  | .bl _ => True
  | .int _ => True
  | .str z => IsTx z
  | _ => False
mutual
def ThAt (p : List Addr) (H : Hp) : Th → V → Prop
  | .flat u, v => v = u ∧ Flt u
  | .lis z, v => ∃ a, v = .ref a ∧ a ∉ p ∧ H a = some (.lst [.str z]) ∧ IsTx z
  | .box, v => ∃ a, v = .ref a ∧ a ∉ p ∧ ((∃ ys, H a = some (.lst ys)) ∨ ∃ kvs, H a = some (.dK kvs))
  | .tup l, v => ∃ a ys, v = .ref a ∧ H a = some (.tup ys) ∧ ThsAt p H l ys
def ThsAt (p : List Addr) (H : Hp) : List Th → List V → Prop
  | [], [] => True
  | x :: l, y :: ys => ThAt p H x y ∧ ThsAt p H l ys
  | [], _ :: _ => False
  | _ :: _, [] => False
end
mutual
def Th.sz : Th → Nat
  | .tup l => Th.szs l + 1
  | _ => 1
def Th.szs : List Th → Nat
  | [] => 0
  | x :: l => x.sz + Th.szs l
end
mutual
def Th.dp : Th → Nat
  | .tup l => Th.dps l + 1
  | _ => 0
def Th.dps : List Th → Nat
  | [] => 0
  | x :: l => max x.dp (Th.dps l)
end
def isS : Th → Bool
  | .flat (.str _) => true
  | _ => false
mutual
theorem ThAt.map {p : List Addr} {H H' : Hp} (k1 : ∀ a xs, H a = some (.tup xs) → H' a = some (.tup xs)) (k2 : ∀ a xs, a ∉ p → H a = some (.lst xs) → H' a = some (.lst xs)) (k3 : ∀ a xs, H a = some (.dK xs) → H' a = some (.dK xs)) : ∀ {t : Th} {v : V}, ThAt p H t v → ThAt p H' t v
  | .flat u, v, h => by
    simp only [ThAt] at h ⊢
    exact h
  | .lis z, v, h => by
    simp only [ThAt] at h ⊢
    obtain ⟨a, e, n, g, t⟩ := h
    exact ⟨a, e, n, k2 _ _ n g, t⟩
  | .box, v, h => by
    simp only [ThAt] at h ⊢
    obtain ⟨a, e, n, g⟩ := h
    refine ⟨a, e, n, ?_⟩
    rcases g with ⟨ys, g⟩ | ⟨ys, g⟩
    · exact .inl ⟨ys, k2 _ _ n g⟩
    · exact .inr ⟨ys, k3 _ _ g⟩
  | .tup l, v, h => by
    simp only [ThAt] at h ⊢
    obtain ⟨a, ys, e, g, t⟩ := h
    exact ⟨a, ys, e, k1 _ _ g, ThsAt.map k1 k2 k3 t⟩
theorem ThsAt.map {p : List Addr} {H H' : Hp} (k1 : ∀ a xs, H a = some (.tup xs) → H' a = some (.tup xs)) (k2 : ∀ a xs, a ∉ p → H a = some (.lst xs) → H' a = some (.lst xs)) (k3 : ∀ a xs, H a = some (.dK xs) → H' a = some (.dK xs)) : ∀ {l : List Th} {ys : List V}, ThsAt p H l ys → ThsAt p H' l ys
  | [], [], _ => by simp only [ThsAt]
  | x :: l, y :: ys, h => by
    simp only [ThsAt] at h ⊢
    exact ⟨ThAt.map k1 k2 k3 h.1, ThsAt.map k1 k2 k3 h.2⟩
  | [], _ :: _, h => by simp only [ThsAt] at h
  | _ :: _, [], h => by simp only [ThsAt] at h
end
theorem ThAt.keep0 {p : List Addr} {H H' : Hp} {t : Th} {v : V} (h : ThAt p H t v) (k : Keep [] H H') : ThAt p H' t v := h.map (fun a xs e => k.at e nin0) (fun a xs _ e => k.at e nin0) (fun a xs e => k.at e nin0)
theorem ThsAt.keep0 {p : List Addr} {H H' : Hp} {t : List Th} {v : List V} (h : ThsAt p H t v) (k : Keep [] H H') : ThsAt p H' t v := h.map (fun a xs e => k.at e nin0) (fun a xs _ e => k.at e nin0) (fun a xs e => k.at e nin0)
theorem ThAt.keepP {p : List Addr} {c : Addr} {H H' : Hp} {t : Th} {v : V} (h : ThAt p H t v) (hc : c ∈ p) (k : Keep [c] H H') (hp : ∃ xs, H c = some (.lst xs)) : ThAt p H' t v := by
  obtain ⟨xs, ep⟩ := hp
  exact h.map (fun a ys e => k.at e (nin1 (ne_of e ep (fun z => by cases z)))) (fun a ys n e => k.at e (nin1 fun z => n (by rw [z]; exact hc))) (fun a ys e => k.at e (nin1 (ne_of e ep (fun z => by cases z))))
theorem ThsAt.keepP {p : List Addr} {c : Addr} {H H' : Hp} {t : List Th} {v : List V} (h : ThsAt p H t v) (hc : c ∈ p) (k : Keep [c] H H') (hp : ∃ xs, H c = some (.lst xs)) : ThsAt p H' t v := by
  obtain ⟨xs, ep⟩ := hp
  exact h.map (fun a ys e => k.at e (nin1 (ne_of e ep (fun z => by cases z)))) (fun a ys n e => k.at e (nin1 fun z => n (by rw [z]; exact hc))) (fun a ys e => k.at e (nin1 (ne_of e ep (fun z => by cases z))))
theorem ThsAt.len {p : List Addr} {H : Hp} : ∀ {l : List Th} {ys : List V}, ThsAt p H l ys → ys.length = l.length
  | [], [], _ => rfl
  | x :: l, y :: ys, h => by
    simp only [ThsAt] at h
    rw [List.length_cons, List.length_cons, ThsAt.len h.2]
  | [], _ :: _, h => by simp only [ThsAt] at h
  | _ :: _, [], h => by simp only [ThsAt] at h
theorem Th.pos (t : Th) : 1 ≤ t.sz := by
  cases t <;> simp [Th.sz]
def isTu : Th → Bool
  | .tup _ => true
  | _ => false
theorem isi_th {K : PySem.W.Frag} {p : List Addr} {H : Hp} {t : Th} {v : V} (h : ThAt p H t v) : ∃ ty, TyX K H v (.type ty) ∧ kitB ty "tuple" = some (isTu t) ∧ kitB ty "str" = some (isS t) := by
  have no : ∀ ty : String, (kitB ty "tuple" = some false ∧ kitB ty "str" = some false) → isTu t = false → isS t = false → kitB ty "tuple" = some (isTu t) ∧ kitB ty "str" = some (isS t) := fun ty h a b => by rw [a, b]; exact h
  cases t with
  | flat u =>
    simp only [ThAt] at h
    obtain ⟨rfl, f⟩ := h
    cases v with
    | non => exact ⟨"NoneType", .base .non, no _ (by decide +kernel) rfl rfl⟩
    | bl b => exact ⟨"bool", .base (.bl b), no _ (by decide +kernel) rfl rfl⟩
    | int i => exact ⟨"int", .base (.int i), no _ (by decide +kernel) rfl rfl⟩
    | str z => exact ⟨"str", .base (.str z), show kitB "str" "tuple" = some false ∧ kitB "str" "str" = some true by decide +kernel⟩
    | byt b => exact f.elim
    | flt b => exact f.elim
    | ref a => exact f.elim
    | ty n => exact f.elim
  | lis z =>
    simp only [ThAt] at h
    obtain ⟨a, rfl, n, g, _⟩ := h
    exact ⟨"list", .base (.lst g), no _ (by decide +kernel) rfl rfl⟩
  | box =>
    simp only [ThAt] at h
    obtain ⟨a, rfl, n, g⟩ := h
    rcases g with ⟨ys, g⟩ | ⟨ys, g⟩
    · exact ⟨"list", .base (.lst g), no _ (by decide +kernel) rfl rfl⟩
    · exact ⟨"dict", .base (.dK g), no _ (by decide +kernel) rfl rfl⟩
  | tup l =>
    simp only [ThAt] at h
    obtain ⟨a, ys, rfl, g, _⟩ := h
    exact ⟨"tuple", .base (.tup g), show kitB "tuple" "tuple" = some true ∧ kitB "tuple" "str" = some false by decide +kernel⟩
theorem isS_of {p : List Addr} {H : Hp} {t : Th} {v : V} (h : ThAt p H t v) : isS t = true ↔ ∃ z, v = .str z := by
  cases t with
  | flat u =>
    simp only [ThAt] at h
    obtain ⟨rfl, f⟩ := h
    cases v <;> simp [isS]
  | lis z =>
    simp only [ThAt] at h
    obtain ⟨a, rfl, _⟩ := h
    simp [isS]
  | box =>
    simp only [ThAt] at h
    obtain ⟨a, rfl, _⟩ := h
    simp [isS]
  | tup l =>
    simp only [ThAt] at h
    obtain ⟨a, ys, rfl, _⟩ := h
    simp [isS]
theorem tx_go (z : Str) (h : (decide (z.cps.toList.length ≤ 40) && z.cps.toList.all fun c => decide (c < 128)) = true) : IsTx z := by
  rw [Bool.and_eq_true, List.all_eq_true] at h
  exact ⟨of_decide_eq_true h.1, fun c hc => of_decide_eq_true (h.2 c hc)⟩
end Fs
/-! is_text and is_kind, of anything. -/
namespace Fs
open PySem L2 TL
def isK (ps : List (Str × Str)) : Th → Bool
  | .flat (.str z) => decide (z ∈ allK ps)
  | _ => false
theorem isK_no {ps : List (Str × Str)} {t : Th} (h : isS t = false) : isK ps t = false := by
  cases t with
  | flat v => cases v <;> first | rfl | (simp [isS] at h)
  | lis z => rfl
  | box => rfl
  | tup l => rfl
def spTxT : Sp := fun vs H Q _ => ∃ (p : List Addr) (t : Th) (v : V), vs = [v] ∧ ThAt p H t v ∧ Q (.bl (isS t)) H
def spKdT (C : Addr) : Sp := fun vs H Q _ => ∃ (p : List Addr) (kd : Addr) (t : Th) (v : V) (ps : List (Str × Str)), vs = [.ref kd, v] ∧ KindsAt C H kd ps ∧ ThAt p H t v ∧ Q (.bl (isK ps t)) H
section
variable {P : Program} {w : World} {K : PySem.W.Frag} {mg : Str → Option Value} {base : Heap} {CK fI fK fN fT fS dT : Addr}
theorem ok_txT {f : Addr} {fd : FuncData} (F : Fun K "is_text" "is_text" sIsText f fd) (mI : mg "isinstance" = none) (mS : mg "str" = none) : FnOk P w K mg base CX0 1 f fd ["thing"] spTxT := by
  refine F.ok scIsText (fun vs H Q E h => ?_) (fun cdv A outer s H vs Q E hr h => ?_)
  · obtain ⟨p, t, v, rfl, _⟩ := h
    rfl
  · obtain ⟨p, t, v, rfl, th, kk⟩ := h
    refine ⟨_, pss_one (ps_ret (pe_callB call_isi (by rfl) mI (by decide +kernel) (pa_cons (pv 0) (pa_cons (pe_bltn (v := .ty "str") (u := .type "str") (by rfl) mS (by decide +kernel) rfl) pa_nil)))), ?_⟩
    obtain ⟨ty, h1, h2, h3⟩ := isi_th (K := K) th
    exact ⟨_, rfl, _, _, _, _, _, rfl, .ty "str", h1, kit_ty h3, kk⟩
theorem ok_kdT {fd fdT : FuncData} (F : Fun K "is_kind" "Kinds.is_kind" sIsKind fK fd) (T : KTxt K mg CK fI fK fN) (FT : FnOk P w K mg base CX0 1 fT fdT ["thing"] spTxT) (mT : mg "is_text" = some (.ref fT)) (kT : PySem.W.keepIn K (.ref fT) = true) (bT : Binds K fdT ["thing"] []) : FnOk P w K mg base CX0 2 fK fd ["self", "thing"] (spKdT CK) := by
  refine F.ok scIsKind (fun vs H Q E h => ?_) (fun cdv A outer s H vs Q E hr h => ?_)
  · obtain ⟨p, kd, t, v, ps, rfl, _⟩ := h
    rfl
  · obtain ⟨p, kd, t, v, ps, rfl, ⟨dx, d, e1, e2⟩, th, kk⟩ := h
    refine ⟨_, pss_one (ps_ret (pe_and (pe_call FT hr rfl mT kT bT .nil pass0 (pa_cons (pv 1) pa_nil)) (pe_one (pe_cmp (pc_din (hu_of hr) (pv 1) (pe_fld (pv 0) rfl)) rfl)))), ?_⟩
    refine ⟨_, rfl, p, t, v, rfl, th, _, rfl, ?_⟩
    cases hs : isS t with
    | false =>
      refine iteF ?_
      have e : isK ps t = false := isK_no hs
      rw [e] at kk
      exact kk
    | true =>
      obtain ⟨z, rfl⟩ := (isS_of th).mp hs
      have et : t = .flat (.str z) := by
        cases t with
        | flat u => simp only [ThAt] at th; rw [th.1]
        | lis y => simp only [ThAt] at th; obtain ⟨a, e, _⟩ := th; cases e
        | box => simp only [ThAt] at th; obtain ⟨a, e, _⟩ := th; cases e
        | tup l => simp only [ThAt] at th; obtain ⟨a, ys, e, _⟩ := th; cases e
      subst et
      refine iteT ⟨_, rfl, _, rfl, kd, CK, dx, _, _, rfl, e1, T.cl, T.nA, ab_look _, d, _, rfl, DGet.k (k := Sum.inr z) e2, ?_⟩
      rw [kvs_is]
      exact kk
end
end Fs
/-! Words of tests; what is a test, of anything: the mathematics. -/
namespace Fs
open PySem L2 TL
abbrev wKind : Str := Str.ofString "kind"
abbrev wSays : Str := Str.ofString "says"
abbrev wNoted : Str := Str.ofString "noted"
abbrev wNot : Str := Str.ofString "not"
abbrev wAnd : Str := Str.ofString "and"
abbrev wOr : Str := Str.ofString "or"
/-- the words that have tests behind them -/
structure TBx (K : PySem.W.Frag) (mg : Str → Option Value) (w : World) (d : Addr) : Prop where
  g : mg "_TESTS_BEHIND" = some (.ref d)
  kd : ∃ es n, KDict K w d es n
  hN : ∃ u, PySem.W.nsIn K d wNot = some (some u) ∧ RelV (.int 1) u
  hA : ∃ u, PySem.W.nsIn K d wAnd = some (some u) ∧ RelV (.int 2) u
  hO : ∃ u, PySem.W.nsIn K d wOr = some (some u) ∧ RelV (.int 2) u
  nK : PySem.W.nsIn K d wKind = some none
  nS : PySem.W.nsIn K d wSays = some none
  nN : PySem.W.nsIn K d wNoted = some none
theorem TBx.dct {K : PySem.W.Frag} {mg : Str → Option Value} {w : World} {d : Addr} (T : TBx K mg w d) {z : Str} {v : V} (h : ∃ u, PySem.W.nsIn K d z = some (some u) ∧ RelV v u) : KDct K w d z v := by
  obtain ⟨es, n, D⟩ := T.kd
  obtain ⟨u, e, r⟩ := h
  exact ⟨es, n, u, D.at_, D.lit, e, r⟩
abbrev sSing : Stmt := top 11 --def _is_single
abbrev nSing : List Str := ["kinds", "thing", "word", "told"]
theorem scSing : FnScope nSing ["kinds", "thing"] (defScope sSing) := ⟨rfl, rfl, rfl, by decide +kernel, rfl, by decide +kernel, by decide +kernel⟩
abbrev sIsT : Stmt := top 10 --def is_test
abbrev nIsT : List Str := ["kinds", "thing", "waiting", "found"]
theorem scIsT : FnScope nIsT ["kinds", "thing"] (defScope sIsT) := ⟨rfl, rfl, rfl, by decide +kernel, rfl, by decide +kernel, by decide +kernel⟩
def oneT (ps : List (Str × Str)) (w : Str) : Th → Bool
  | .flat (.str z) => if w = wKind then decide (z ∈ allK ps) else decide (w = wSays) || decide (w = wNoted)
  | _ => false
def oneL (ps : List (Str × Str)) (w : Str) : List Th → Bool
  | [y] => oneT ps w y
  | _ => false
mutual
def isP (ps : List (Str × Str)) : Th → Bool
  | .tup l => isL ps l
  | _ => false
def isL (ps : List (Str × Str)) : List Th → Bool
  | [] => false
  | .flat (.str w) :: r => if w = wNot then decide (r.length = 1) && allP ps r else if w = wAnd ∨ w = wOr then decide (r.length = 2) && allP ps r else oneL ps w r
  | _ :: _ => false
def allP (ps : List (Str × Str)) : List Th → Bool
  | [] => true
  | x :: r => isP ps x && allP ps r
end
end Fs
/-! The program: what is a test, of anything. -/
namespace Fs
open PySem L2 TL
theorem wf1 {a b : Str} {A B : Prop} (h : a ≠ b) (x : B) : if decide (V.str a = V.str b) = true then A else B := by
  rw [decide_eq_false (fun z => h (V.str.inj z))]
  exact iteF x
theorem wt1 {a b : Str} {A B : Prop} (h : a = b) (x : A) : if decide (V.str a = V.str b) = true then A else B := by
  rw [decide_eq_true (show V.str a = V.str b by rw [h])]
  exact iteT x
theorem oneT_kind {ps : List (Str × Str)} {w : Str} (h : w = wKind) (t : Th) : oneT ps w t = isK ps t := by
  cases t with
  | flat v => cases v <;> first | rfl | exact if_pos h
  | lis z => rfl
  | box => rfl
  | tup l => rfl
theorem oneT_not {ps : List (Str × Str)} {w : Str} (h : w ≠ wKind) (t : Th) : oneT ps w t = ((decide (w = wSays) || decide (w = wNoted)) && isS t) := by
  cases t with
  | flat v => cases v <;> first | exact (Bool.and_false _).symm | exact (if_neg h).trans (Bool.and_true _).symm
  | lis z => exact (Bool.and_false _).symm
  | box => exact (Bool.and_false _).symm
  | tup l => exact (Bool.and_false _).symm
def spSiT (CK : Addr) : Sp := fun vs H Q _ => ∃ (p : List Addr) (kd q : Addr) (ps : List (Str × Str)) (w : Str) (r : List Th) (ys : List V), vs = [.ref kd, .ref q] ∧ KindsAt CK H kd ps ∧ H q = some (.tup (.str w :: ys)) ∧ ThsAt p H r ys ∧ ∀ H', Keep [] H H' → Q (.bl (oneL ps w r)) H'
def spTeT (CK : Addr) : Sp := fun vs H Q _ => ∃ (p : List Addr) (kd : Addr) (v : V) (ps : List (Str × Str)) (t : Th), vs = [.ref kd, v] ∧ KindsAt CK H kd ps ∧ ThAt p H t v ∧ t.sz ≤ 9000 ∧ ∀ H', Keep [] H H' → Q (.bl (isP ps t)) H'
structure TBy (K : PySem.W.Frag) (mg : Str → Option Value) (w : World) (d : Addr) : Prop extends TBx K mg w d where
  no : ∀ z, z ≠ wNot → z ≠ wAnd → z ≠ wOr → PySem.W.nsIn K d z = some none
section
variable {P : Program} {w : World} {K : PySem.W.Frag} {mg : Str → Option Value} {base : Heap} {CK fI fK fN fT fS dT : Addr}
theorem ok_siT {f : Addr} {fd dK dTx : FuncData} (F : Fun K "_is_single" "_is_single" sSing f fd) (T : KTxt K mg CK fI fK fN) (FK : FnOk P w K mg base CX0 2 fK dK ["self", "thing"] (spKdT CK)) (bK : Binds K dK ["self", "thing"] [])
    (FT : FnOk P w K mg base CX0 1 fT dTx ["thing"] spTxT) (gT : mg "is_text" = some (.ref fT)) (kT : PySem.W.keepIn K (.ref fT) = true) (bT : Binds K dTx ["thing"] []) (mL : mg "len" = none) :
    FnOk P w K mg base CX0 3 f fd ["kinds", "thing"] (spSiT CK) := by
  refine F.ok scSing (fun vs H Q E h => ?_) (fun cdv A outer s H vs Q E hr h => ?_)
  · obtain ⟨p, kd, q, ps, wd, r, ys, rfl, _⟩ := h
    rfl
  · obtain ⟨p, kd, q, ps, wd, r, ys, rfl, hK, hp, th, kk⟩ := h
    have hr1 : Room 1 _ := hr.mono (by omega)
    obtain ⟨dk, dd, g1, g2⟩ := id hK
    refine ⟨_, pss_cons (ps_if (pt_cmpR op_ne (pe_callB call_len_seq (by rfl) mL PySem.boot_len (pa_cons (pv 1) pa_nil)) pe_int (nomark _)) (pss_one (ps_ret pe_bl)) pss_nil)
      (pss_cons (ps_asg (pv 1) (pg_tup rfl (pgs_cons (pg_name (i := 2) scSing.nd rfl (Or.inl rfl)) (pgs_cons (pg_name (i := 3) scSing.nd rfl (Or.inl rfl)) pgs_nil))))
      (pss_cons (ps_if (pt_cmpR op_eq (pv 2) pe_str (nomark _)) (pss_one (ps_ret (pe_meth (pv 0) T.cl T.mK FK hr bK .nil pass0 (pa_cons (pv 3) pa_nil)))) pss_nil)
      (pss_one (ps_ret (pe_and (pe_cmpR op_in_seq (pv 2) (pe_tup (pa_cons pe_str (pa_cons pe_str pa_nil))) (by rfl)) (pe_one (pe_call FT hr1 rfl gT kT bT .nil pass0 (pa_cons (pv 3) pa_nil)))))))), ?_⟩
    refine ⟨_, rfl, q, _, rfl, .inr (SqT.of hp), rfl, _, rfl, ?_⟩
    have lr := th.len
    rw [List.length_cons, lr]
    by_cases h1 : r.length = 1
    case neg =>
      rw [decide_eq_false (show ¬ V.int ((r.length + 1 : Nat) : Int) = V.int 2 from fun z => h1 (by have := V.int.inj z; omega))]
      refine iteT ?_
      have e : oneL ps wd r = false := by
        match r, h1 with
        | [], _ => rfl
        | _ :: _ :: _, _ => rfl
      have := kk H (Keep.refl _ _)
      rw [e] at this
      exact this
    rw [decide_eq_true (show V.int ((r.length + 1 : Nat) : Int) = V.int 2 by rw [h1]; rfl)]
    refine iteF ?_
    obtain ⟨y, rfl⟩ : ∃ y, r = [y] := by
      match r, h1 with
      | [y], _ => exact ⟨y, rfl⟩
    obtain ⟨v, rfl⟩ : ∃ v, ys = [v] := by
      match ys, lr with
      | [v], _ => exact ⟨v, rfl⟩
    have ty : ThAt p H y v := by simp only [ThsAt] at th; exact th.1
    refine ⟨_, rfl, q, _, rfl, SqT.of hp, rfl, _, _, rfl, _, _, rfl, rfl, ?_⟩
    refine ⟨_, rfl, rfl, _, rfl, ?_⟩
    by_cases hk : wd = wKind
    · refine wt1 hk ?_
      refine ⟨_, rfl, kd, dk, _, rfl, g1, ab_no _ (by decide +kernel), _, rfl, p, kd, y, v, ps, rfl, hK, ty, ?_⟩
      have := kk H (Keep.refl _ _)
      have e : oneL ps wd [y] = isK ps y := oneT_kind hk y
      rw [e] at this
      exact this
    · refine wf1 hk ?_
      refine ⟨_, rfl, (by show 2 ≤ sizeLine; decide), fun t ht => ?_⟩
      have e2 : inV (.str wd) [V.str wSays, V.str wNoted] = (decide (wd = wSays) || decide (wd = wNoted)) := by
        have a1 : eqV (.str wSays) (.str wd) = decide (wd = wSays) := by
          show (wSays == wd) = _
          rw [Bool.eq_iff_iff, beq_iff_eq, decide_eq_true_eq]
          exact ⟨fun h => h.symm, fun h => h.symm⟩
        have a2 : eqV (.str wNoted) (.str wd) = decide (wd = wNoted) := by
          show (wNoted == wd) = _
          rw [Bool.eq_iff_iff, beq_iff_eq, decide_eq_true_eq]
          exact ⟨fun h => h.symm, fun h => h.symm⟩
        show (eqV (.str wSays) (.str wd) || (eqV (.str wNoted) (.str wd) || false)) = _
        rw [a1, a2, Bool.or_false]
      refine ⟨t, _, rfl, .inr (SqT.of upd_same), rfl, rfl, (decide (wd = wSays) || decide (wd = wNoted)), congrArg V.bl e2, ?_⟩
      have kt : Keep [] H (upd H t (.tup [V.str wSays, V.str wNoted])) := Keep.new ht
      have last := kk _ kt
      have e : oneL ps wd [y] = ((decide (wd = wSays) || decide (wd = wNoted)) && isS y) := oneT_not hk y
      rw [e] at last
      cases hw : (decide (wd = wSays) || decide (wd = wNoted)) with
      | false =>
        rw [hw, Bool.false_and] at last
        exact iteF last
      | true =>
        rw [hw, Bool.true_and] at last
        refine iteT ⟨_, rfl, p, y, v, rfl, ty.keep0 kt, ?_⟩
        exact last
end
end Fs
/-! The program: is_test, of anything. -/
namespace Fs
open PySem L2 TL
theorem two_ne {wd : Str} (h : wd = wAnd ∨ wd = wOr) : wd ≠ wKind ∧ wd ≠ wSays ∧ wd ≠ wNoted ∧ wd ≠ wNot := by
  rcases h with h | h <;> rw [h] <;> decide +kernel
theorem cut_from {xs : List V} {k : Nat} (h : k ≤ xs.length) : cutV xs (some (k : Int)) none = xs.drop k := by
  unfold cutV
  rw [HT.sIx_nat, HT.sIx_none, Nat.min_eq_left h]
  exact List.take_of_length_le (by rw [List.length_drop]; exact Nat.le_refl _)
theorem cut_to {xs : List V} {k : Nat} (h : k ≤ xs.length) : cutV xs none (some (k : Int)) = xs.take k := by
  unfold cutV
  rw [HT.sIx_nat, HT.sIx_none, Nat.min_eq_left h, List.drop_zero, Nat.sub_zero]
theorem cut_1 {x : V} {xs : List V} : cutV (x :: xs) (some 1) none = xs := cut_from (k := 1) (Nat.le_add_left 1 _)
theorem cut_h1 {x : V} {xs : List V} : cutV (x :: xs) none (some 1) = [x] := cut_to (k := 1) (Nat.le_add_left 1 _)
theorem at0 {α : Type} (y : α) (ys : List α) : atI (y :: ys) 0 = some y := atI_nat (j := 0) rfl
mutual
theorem ThAt.re {p : List Addr} {W : Addr} {H : Hp} (n : H W = none) : ∀ {t : Th} {v : V}, ThAt p H t v → ThAt [W] H t v
  | .flat u, v, h => by simp only [ThAt] at h ⊢; exact h
  | .lis z, v, h => by
    simp only [ThAt] at h ⊢
    obtain ⟨a, e, _, g, t⟩ := h
    exact ⟨a, e, fun z => (by rw [List.mem_singleton.mp z, n] at g; cases g), g, t⟩
  | .box, v, h => by
    simp only [ThAt] at h ⊢
    obtain ⟨a, e, _, g⟩ := h
    refine ⟨a, e, fun z => ?_, g⟩
    rw [List.mem_singleton.mp z, n] at g
    rcases g with ⟨ys, g⟩ | ⟨ys, g⟩ <;> cases g
  | .tup l, v, h => by
    simp only [ThAt] at h ⊢
    obtain ⟨a, ys, e, g, t⟩ := h
    exact ⟨a, ys, e, g, ThsAt.re n t⟩
theorem ThsAt.re {p : List Addr} {W : Addr} {H : Hp} (n : H W = none) : ∀ {l : List Th} {ys : List V}, ThsAt p H l ys → ThsAt [W] H l ys
  | [], [], _ => by simp only [ThsAt]
  | x :: l, y :: ys, h => by
    simp only [ThsAt] at h ⊢
    exact ⟨ThAt.re n h.1, ThsAt.re n h.2⟩
  | [], _ :: _, h => by simp only [ThsAt] at h
  | _ :: _, [], h => by simp only [ThsAt] at h
end
theorem ThAt.up {W : Addr} {H : Hp} {t : Th} {v : V} {xs ys : List V} (h : ThAt [W] H t v) (e : H W = some (.lst xs)) : ThAt [W] (upd H W (.lst ys)) t v :=
  h.map (fun a zs g => by rw [upd_ne (ne_of g e (fun z => by cases z))]; exact g) (fun a zs n g => by rw [upd_ne (fun z => n (by rw [z]; exact List.mem_singleton_self _))]; exact g) (fun a zs g => by rw [upd_ne (ne_of g e (fun z => by cases z))]; exact g)
theorem ThsAt.up {W : Addr} {H : Hp} {t : List Th} {v : List V} {xs ys : List V} (h : ThsAt [W] H t v) (e : H W = some (.lst xs)) : ThsAt [W] (upd H W (.lst ys)) t v :=
  h.map (fun a zs g => by rw [upd_ne (ne_of g e (fun z => by cases z))]; exact g) (fun a zs n g => by rw [upd_ne (fun z => n (by rw [z]; exact List.mem_singleton_self _))]; exact g) (fun a zs g => by rw [upd_ne (ne_of g e (fun z => by cases z))]; exact g)
theorem ThsAt.zip {p : List Addr} {H : Hp} (ps : List (Str × Str)) : ∀ {r : List Th} {ys : List V}, ThsAt p H r ys → (∀ z ∈ r.zip ys, ThAt p H z.1 z.2) ∧ (r.zip ys).map Prod.snd = ys ∧ ((r.zip ys).map fun z => z.1.sz).sum = Th.szs r ∧ ((r.zip ys).all fun z => isP ps z.1) = allP ps r
  | [], [], _ => ⟨fun z h => (List.not_mem_nil h).elim, rfl, by simp [Th.szs], by simp [allP]⟩
  | x :: l, y :: ys, h => by
    simp only [ThsAt] at h
    obtain ⟨a, b, c, d⟩ := ThsAt.zip ps h.2
    refine ⟨fun z hz => ?_, ?_, ?_, ?_⟩
    · rcases List.mem_cons.mp hz with q | q
      · rw [q]; exact h.1
      · exact a z q
    · rw [List.zip_cons_cons, List.map_cons, b]
    · rw [List.zip_cons_cons, List.map_cons, List.sum_cons, c]; simp only [Th.szs]
    · rw [List.zip_cons_cons, List.all_cons, d]; simp only [allP]
  | [], _ :: _, h => by simp only [ThsAt] at h
  | _ :: _, [], h => by simp only [ThsAt] at h
theorem isL_w (ps : List (Str × Str)) (w : Str) (r : List Th) : isL ps (.flat (.str w) :: r) = (if w = wNot then decide (r.length = 1) && allP ps r else if w = wAnd ∨ w = wOr then decide (r.length = 2) && allP ps r else oneL ps w r) := by simp only [isL]
theorem isL_not (ps : List (Str × Str)) (r : List Th) : isL ps (.flat (.str wNot) :: r) = (decide (r.length = 1) && allP ps r) := (isL_w ps wNot r).trans (if_pos rfl)
theorem isL_two (ps : List (Str × Str)) {w : Str} (h : w = wAnd ∨ w = wOr) (r : List Th) : isL ps (.flat (.str w) :: r) = (decide (r.length = 2) && allP ps r) := (isL_w ps w r).trans ((if_neg (two_ne h).2.2.2).trans (if_pos h))
theorem isL_one (ps : List (Str × Str)) {w : Str} (h1 : w ≠ wNot) (h2 : ¬ (w = wAnd ∨ w = wOr)) (r : List Th) : isL ps (.flat (.str w) :: r) = oneL ps w r := (isL_w ps w r).trans ((if_neg h1).trans (if_neg h2))
theorem isL_no {ps : List (Str × Str)} {x : Th} {r : List Th} (h : isS x = false) : isL ps (x :: r) = false := by
  cases x with
  | flat v => cases v <;> first | (simp [isL]; done) | (simp [isS] at h)
  | lis z => simp [isL]
  | box => simp [isL]
  | tup l => simp [isL]
theorem isP_no {ps : List (Str × Str)} {t : Th} (h : isTu t = false) : isP ps t = false := by
  cases t with
  | tup l => simp [isTu] at h
  | _ => simp [isP]
theorem th_tot : ∀ zs : List (Th × V), zs.length ≤ (zs.map fun z => z.1.sz).sum := fun zs => by
  induction zs with
  | nil => exact Nat.le_refl _
  | cons z r ih => rw [List.map_cons, List.sum_cons, List.length_cons]; have := z.1.pos; omega
theorem szs_len : ∀ r : List Th, r.length ≤ Th.szs r := fun r => by
  induction r with
  | nil => exact Nat.zero_le _
  | cons z r ih => rw [List.length_cons]; simp only [Th.szs]; have := z.pos; omega
section
variable {P : Program} {w : World} {K : PySem.W.Frag} {mg : Str → Option Value} {base : Heap} {CK fI fK fN fT fS dT : Addr}
theorem ok_isTT {f fS : Addr} {fd dS dTx : FuncData} (F : Fun K "is_test" "is_test" sIsT f fd) (B : TBy K mg w dT) (FS : FnOk P w K mg base CX0 3 fS dS ["kinds", "thing"] (spSiT CK)) (gS : mg "_is_single" = some (.ref fS)) (kS : PySem.W.keepIn K (.ref fS) = true) (bS : Binds K dS ["kinds", "thing"] [])
    (FT : FnOk P w K mg base CX0 1 fT dTx ["thing"] spTxT) (gT : mg "is_text" = some (.ref fT)) (kT : PySem.W.keepIn K (.ref fT) = true) (bT : Binds K dTx ["thing"] []) (mL : mg "len" = none) (mI : mg "isinstance" = none) (mT : mg "tuple" = none) :
    FnOk P w K mg base CX0 4 f fd ["kinds", "thing"] (spTeT CK) := by
  refine F.ok scIsT (fun vs H Q E h => ?_) (fun cdv A outer s H vs Q E hr h => ?_)
  · obtain ⟨p, kd, v, ps, t, rfl, _⟩ := h
    rfl
  · obtain ⟨p, kd, v, ps, t, rfl, hK, ta, hsz, kk⟩ := h
    have hr1 : Room 1 _ := hr.mono (by omega)
    obtain ⟨es, nn, D⟩ := B.kd
    refine ⟨_, pss_cons (ps_set (i := 2) scIsT.nd rfl (Or.inl rfl) (pe_lst (pa_cons (pv 1) pa_nil)))
      (pss_cons (ps_while PassesOwn.never (pt_truth (pv 2) (fun _ => rfl))
        (pss_cons (ps_set (i := 3) scIsT.nd rfl (Or.inl rfl) (pe_bm0 PySem.F.plainAttrs_list PySem.F.slot_list_pop PySem.F.type_list_pop mt_pop (pv 2)))
        (pss_cons (ps_if (PW.pt (pw_or (pt_not (pt_val (pe_callB call_isi (by rfl) mI (by decide +kernel) (pa_cons (pv 3) (pa_cons (pe_bltn (v := .ty "tuple") (u := .type "tuple") (by rfl) mT (by decide +kernel) rfl) pa_nil)))))
            (pw_or (pt_not (pt_truth (pv 3) (fun _ => rfl))) (pw_or1 (pt_not (pt_val (pe_call FT hr1 rfl gT kT bT .nil pass0 (pa_cons (pe_ix ix_tup (pv 3) pe_int (fun _ _ => rfl)) pa_nil))))))))
          (pss_one (ps_ret pe_bl)) pss_nil)
        (pss_one (ps_if (pt_cmpR (op_in_kd D) (pe_ix ix_tup (pv 3) pe_int (fun _ _ => rfl)) (pe_glob (v := .ref dT) rfl B.g rfl) (by rfl))
          (pss_cons (ps_if (pt_cmpR op_ne (pe_callB call_len_seq (by rfl) mL PySem.boot_len (pa_cons (pv 3) pa_nil)) (pe_op op_add pe_int (pe_ix ix_kdict (pe_glob (v := .ref dT) rfl B.g rfl) (pe_ix ix_tup (pv 3) pe_int (fun _ _ => rfl)) (fun _ _ => rfl))) (nomark _)) (pss_one (ps_ret pe_bl)) pss_nil)
          (pss_one (ps_expr (pe_bm PySem.F.plainAttrs_list PySem.F.slot_list_extend PySem.F.type_list_extend mt_extT (pv 2) (pa_cons (pe_slice sl_tupA (pv 3) (po_some pe_int) po_none) pa_nil)))))
          (pss_one (ps_if (pt_not (pt_val (pe_call FS hr rfl gS kS bS .nil pass0 (pa_cons (pv 0) (pa_cons (pv 3) pa_nil))))) (pss_one (ps_ret pe_bl)) pss_nil)))))))
      (pss_one (ps_ret pe_bl))), ?_⟩
    refine ⟨_, rfl, (by show 1 ≤ sizeLine; decide), fun W hW => ?_⟩
    have k0 : Keep [] H (upd H W (.lst [v])) := Keep.new hW
    have e0 : (upd H W (.lst [v])) W = some (.lst [v]) := upd_same
    have ta0 : ThAt [W] (upd H W (.lst [v])) t v := (ta.re hW).keep0 k0
    generalize (upd H W (.lst [v])) = G0 at k0 e0 ta0 ⊢
    let Inv : Nat → L2.St → Hp → Prop := fun m σ G => ∃ (zs : List (Th × V)) (v3 : Option V), σ = [some (.ref kd), some v, some (.ref W), v3] ∧ Keep [] H G ∧ G W = some (.lst (zs.map Prod.snd)) ∧ (∀ z ∈ zs, ThAt [W] G z.1 z.2) ∧ isP ps t = (zs.all fun z => isP ps z.1) ∧ m = (zs.map fun z => z.1.sz).sum ∧ m ≤ 9000
    refine ⟨Inv, ⟨_, [(t, v)], none, rfl, k0, e0, fun z hz => ?_, by simp, rfl, by simpa using hsz⟩, ?_⟩
    · rw [List.mem_singleton.mp hz]
      exact ta0
    rintro m σ G ⟨zs, v3, rfl, kG, eW, hz, hall, rfl, hm⟩
    refine ⟨_, rfl, !(zs.map Prod.snd).isEmpty, .inl ⟨_, SqL.of eW, rfl⟩, ?_⟩
    rcases List.eq_nil_or_concat zs with hst | ⟨l0, x, hst⟩
    · subst hst
      refine iteF ?_
      have := kk G kG
      rw [hall] at this
      exact this
    rw [List.concat_eq_append] at hst
    subst hst
    have ene : ((l0 ++ [x]).map Prod.snd).isEmpty = false := by cases l0 <;> rfl
    rw [ene]
    refine iteT ⟨fun σ' H' => ∃ m', m' < ((l0 ++ [x]).map fun z => z.1.sz).sum ∧ Inv m' σ' H', fun σ' H' h => h, ?_⟩
    have get : ((l0 ++ [x]).map Prod.snd)[((l0 ++ [x]).map Prod.snd).length - 1]? = some x.2 := by
      rw [List.map_append, List.length_append, List.getElem?_append_right (by simp)]
      simp
    refine ⟨_, rfl, .inl ⟨rfl, _, SqL.of eW⟩, W, _, x.2, rfl, rfl, eW, get, ?_⟩
    have edr : ((l0 ++ [x]).map Prod.snd).dropLast = l0.map Prod.snd := by rw [List.map_append]; simp
    rw [edr]
    have kG2 : Keep [] H (upd G W (.lst (l0.map Prod.snd))) := kG.freshTo hW
    have hz2 : ∀ z ∈ l0, ThAt [W] (upd G W (.lst (l0.map Prod.snd))) z.1 z.2 := fun z h => (hz z (List.mem_append_left _ h)).up eW
    have tx : ThAt [W] (upd G W (.lst (l0.map Prod.snd))) x.1 x.2 := (hz x (List.mem_append_right _ List.mem_cons_self)).up eW
    have eW2 : (upd G W (.lst (l0.map Prod.snd))) W = some (.lst (l0.map Prod.snd)) := upd_same
    generalize (upd G W (.lst (l0.map Prod.snd))) = G2 at kG2 hz2 tx eW2 ⊢
    have sum2 : ((l0 ++ [x]).map fun z => z.1.sz).sum = (l0.map fun z => z.1.sz).sum + x.1.sz := by rw [List.map_append, List.sum_append]; simp
    rw [sum2] at hm ⊢
    have ll := th_tot l0
    have all2 : isP ps t = ((l0.all fun z => isP ps z.1) && isP ps x.1) := by rw [hall, List.all_append]; simp
    have out : isP ps x.1 = false → ∀ H', Keep [] H H' → Q (.bl false) H' := fun e H' k => by
      have := kk H' k
      rw [all2, e, Bool.and_false] at this
      exact this
    obtain ⟨x, y⟩ := x
    dsimp only at tx all2 out hm sum2 ⊢
    obtain ⟨ty, h1, h2, _⟩ := isi_th (K := K) tx
    refine ⟨_, rfl, _, _, _, _, _, rfl, .ty "tuple", h1, kit_ty h2, isTu x, rfl, ?_⟩
    cases hx : isTu x with
    | false => exact iteT (out (isP_no hx) _ kG2)
    | true =>
    refine iteF ?_
    obtain ⟨l, rfl⟩ : ∃ l, x = .tup l := by
      cases x with
      | tup l => exact ⟨l, rfl⟩
      | _ => simp [isTu] at hx
    simp only [ThAt] at tx
    obtain ⟨q, us, rfl, hp, tl⟩ := tx
    refine ⟨_, rfl, !us.isEmpty, .inr (.inl ⟨_, SqT.of hp, rfl⟩), ?_⟩
    cases l with
    | nil =>
      obtain rfl : us = [] := by
        cases us with
        | nil => rfl
        | cons _ _ => simp only [ThsAt] at tl
      exact iteT (out (by simp [isP, isL]) _ kG2)
    | cons h0 r =>
    cases us with
    | nil => simp only [ThsAt] at tl
    | cons y0 ys =>
    simp only [ThsAt] at tl
    obtain ⟨t0, tr⟩ := tl
    refine iteF ?_
    refine ⟨_, rfl, q, _, 0, y0, rfl, rfl, SqT.of hp, at0 _ _, [W], h0, y0, rfl, t0, _, rfl, ?_⟩
    cases h0s : isS h0 with
    | false => exact iteT (out (by simp only [isP]; exact isL_no h0s) _ kG2)
    | true =>
    refine iteF ?_
    obtain ⟨wd, rfl⟩ : ∃ wd, h0 = .flat (.str wd) := by
      cases h0 with
      | flat v => cases v <;> first | exact ⟨_, rfl⟩ | (simp [isS] at h0s)
      | _ => simp [isS] at h0s
    simp only [ThAt] at t0
    obtain ⟨rfl, twd⟩ := t0
    obtain ⟨z1, z2, z3, z4⟩ := tr.zip ps
    have sl := szs_len r
    have lr := tr.len
    have szx : Th.sz (.tup (.flat (.str wd) :: r)) = 2 + Th.szs r := by simp only [Th.sz, Th.szs]; omega
    rw [szx] at hm ⊢
    have eP : isP ps (.tup (.flat (.str wd) :: r)) = isL ps (.flat (.str wd) :: r) := by simp only [isP]
    by_cases hw : wd = wNot ∨ wd = wAnd ∨ wd = wOr
    · obtain ⟨n, hn, hb, eL⟩ : ∃ n : Nat, n ≤ 2 ∧ (∃ u, PySem.W.nsIn K dT wd = some (some u) ∧ RelV (.int (n : Int)) u) ∧ isL ps (.flat (.str wd) :: r) = (decide (r.length = n) && allP ps r) := by
        rcases hw with rfl | rfl | rfl
        · exact ⟨1, by decide, B.hN, isL_not ps r⟩
        · exact ⟨2, by decide, B.hA, isL_two ps (Or.inl rfl) r⟩
        · exact ⟨2, by decide, B.hO, isL_two ps (Or.inr rfl) r⟩
      obtain ⟨u0, b1, b2⟩ := id hb
      refine ⟨_, rfl, q, _, 0, .str wd, rfl, rfl, SqT.of hp, at0 _ _, wd, some u0, rfl, rfl, b1, _, rfl, iteT ?_⟩
      refine ⟨_, rfl, q, _, rfl, .inr (SqT.of hp), _, rfl, q, _, 0, .str wd, rfl, rfl, SqT.of hp, at0 _ _, dT, wd, .int (n : Int), rfl, rfl, B.dct hb, 1, (n : Int), rfl, rfl, rfl, _, rfl, ?_⟩
      rw [List.length_cons, lr]
      by_cases hl : r.length = n
      case neg =>
        rw [decide_eq_false (show ¬ V.int ((r.length + 1 : Nat) : Int) = V.int (1 + (n : Int)) from fun z => hl (by have := V.int.inj z; omega))]
        exact iteT (out (by rw [eP, eL, decide_eq_false hl, Bool.false_and]) _ kG2)
      rw [decide_eq_true (show V.int ((r.length + 1 : Nat) : Int) = V.int (1 + (n : Int)) by rw [hl]; congr 1; omega)]
      refine iteF ?_
      refine ⟨_, rfl, .inl ⟨rfl, _, SqL.of eW2⟩, _, rfl, _, rfl, ?_⟩
      dsimp only [tNoPart]
      refine slA_one hp fun c H3 k3 ec => ?_
      rw [cut_1] at ec
      have eW3 := k3.at eW2 nin0
      refine ⟨W, c, _, _, rfl, rfl, eW3, SqT.of ec, by rw [List.length_map]; omega, ?_⟩
      have kG4 : Keep [] H (upd H3 W (.lst (l0.map Prod.snd ++ ys))) := (kG2.trans k3).freshTo hW
      have eW4 : (upd H3 W (.lst (l0.map Prod.snd ++ ys))) W = some (.lst ((l0 ++ r.zip ys).map Prod.snd)) := by rw [upd_same, List.map_append, z2]
      have se : ((l0 ++ r.zip ys).map fun z => z.1.sz).sum = (l0.map fun z => z.1.sz).sum + Th.szs r := by rw [List.map_append, List.sum_append, z3]
      refine ⟨_, by rw [se]; omega, l0 ++ r.zip ys, _, rfl, kG4, eW4, fun z h => ?_, ?_, rfl, ?_⟩
      · rcases List.mem_append.mp h with h | h
        · exact ((hz2 z h).keep0 k3).up eW3
        · exact ((z1 z h).keep0 k3).up eW3
      · rw [List.all_append, z4, all2, eP, eL, decide_eq_true hl, Bool.true_and]
      · rw [se]; omega
    · have hn := not_or.mp hw
      have hn2 := not_or.mp hn.2
      have eL : isL ps (.flat (.str wd) :: r) = oneL ps wd r := isL_one ps hn.1 hn.2 r
      refine ⟨_, rfl, q, _, 0, .str wd, rfl, rfl, SqT.of hp, at0 _ _, wd, none, rfl, rfl, B.no wd hn.1 hn2.1 hn2.2, _, rfl, iteF ?_⟩
      refine ⟨_, rfl, _, rfl, [W], kd, q, ps, wd, r, ys, rfl, hK.keep0 kG2, hp, tr, fun H3 k3 => ⟨_, rfl, ?_⟩⟩
      cases ho : oneL ps wd r with
      | false => exact iteT (out (by rw [eP, eL, ho]) _ (kG2.trans k3))
      | true =>
        refine iteF ?_
        refine ⟨(l0.map fun z => z.1.sz).sum, by omega, l0, _, rfl, kG2.trans k3, k3.at eW2 nin0, fun z h => (hz2 z h).keep0 k3, ?_, rfl, by omega⟩
        rw [all2, eP, eL, ho, Bool.and_true]
end
end Fs
/-! Things of which programs are: lists and tuples of any depth. -/
namespace Fs
open PySem L2 TL
inductive Dt where
  | flat (v : V)
  | lst (l : List Dt)
  | tup (l : List Dt)
  | dct
mutual
def DtAt (p : List Addr) (H : Hp) : Dt → V → Prop
  | .flat u, v => v = u ∧ Flt u
  | .lst l, v => ∃ a ys, v = .ref a ∧ a ∉ p ∧ H a = some (.lst ys) ∧ DtsAt p H l ys
  | .tup l, v => ∃ a ys, v = .ref a ∧ H a = some (.tup ys) ∧ DtsAt p H l ys
  | .dct, v => ∃ a kvs, v = .ref a ∧ a ∉ p ∧ H a = some (.dK kvs)
def DtsAt (p : List Addr) (H : Hp) : List Dt → List V → Prop
  | [], [] => True
  | x :: l, y :: ys => DtAt p H x y ∧ DtsAt p H l ys
  | [], _ :: _ => False
  | _ :: _, [] => False
end
mutual
def Dt.sz : Dt → Nat
  | .lst l => Dt.szs l + 1
  | .tup l => Dt.szs l + 1
  | _ => 1
def Dt.szs : List Dt → Nat
  | [] => 0
  | x :: l => x.sz + Dt.szs l
end
mutual
def Dt.dp : Dt → Nat
  | .lst l => Dt.dps l + 1
  | .tup l => Dt.dps l + 1
  | _ => 0
def Dt.dps : List Dt → Nat
  | [] => 0
  | x :: l => max x.dp (Dt.dps l)
end
theorem Dt.dp_in {x : Dt} : ∀ {l : List Dt}, x ∈ l → x.dp ≤ Dt.dps l
  | [], h => absurd h List.not_mem_nil
  | y :: l, h => by
    simp only [Dt.dps]
    rcases List.mem_cons.mp h with z | z
    · rw [z]; exact Nat.le_max_left _ _
    · exact Nat.le_trans (Dt.dp_in z) (Nat.le_max_right _ _)
theorem Dt.sz_in {x : Dt} : ∀ {l : List Dt}, x ∈ l → x.sz ≤ Dt.szs l
  | [], h => absurd h List.not_mem_nil
  | y :: l, h => by
    simp only [Dt.szs]
    rcases List.mem_cons.mp h with z | z
    · rw [z]; omega
    · have := Dt.sz_in z; omega
mutual
theorem DtAt.map {p p' : List Addr} {H H' : Hp} (k1 : ∀ a xs, H a = some (.tup xs) → H' a = some (.tup xs)) (k2 : ∀ a xs, a ∉ p → H a = some (.lst xs) → H' a = some (.lst xs) ∧ a ∉ p') (k3 : ∀ a xs, a ∉ p → H a = some (.dK xs) → H' a = some (.dK xs) ∧ a ∉ p') : ∀ {t : Dt} {v : V}, DtAt p H t v → DtAt p' H' t v
  | .flat u, v, h => by
    simp only [DtAt] at h ⊢
    exact h
  | .dct, v, h => by
    simp only [DtAt] at h ⊢
    obtain ⟨a, ys, e, n, g⟩ := h
    exact ⟨a, ys, e, (k3 _ _ n g).2, (k3 _ _ n g).1⟩
  | .lst l, v, h => by
    simp only [DtAt] at h ⊢
    obtain ⟨a, ys, e, n, g, t⟩ := h
    exact ⟨a, ys, e, (k2 _ _ n g).2, (k2 _ _ n g).1, DtsAt.map k1 k2 k3 t⟩
  | .tup l, v, h => by
    simp only [DtAt] at h ⊢
    obtain ⟨a, ys, e, g, t⟩ := h
    exact ⟨a, ys, e, k1 _ _ g, DtsAt.map k1 k2 k3 t⟩
theorem DtsAt.map {p p' : List Addr} {H H' : Hp} (k1 : ∀ a xs, H a = some (.tup xs) → H' a = some (.tup xs)) (k2 : ∀ a xs, a ∉ p → H a = some (.lst xs) → H' a = some (.lst xs) ∧ a ∉ p') (k3 : ∀ a xs, a ∉ p → H a = some (.dK xs) → H' a = some (.dK xs) ∧ a ∉ p') : ∀ {l : List Dt} {ys : List V}, DtsAt p H l ys → DtsAt p' H' l ys
  | [], [], _ => by simp only [DtsAt]
  | x :: l, y :: ys, h => by
    simp only [DtsAt] at h ⊢
    exact ⟨DtAt.map k1 k2 k3 h.1, DtsAt.map k1 k2 k3 h.2⟩
  | [], _ :: _, h => by simp only [DtsAt] at h
  | _ :: _, [], h => by simp only [DtsAt] at h
end
/-- what changes are none of its lists -/
theorem DtAt.keep {p ex : List Addr} {H H' : Hp} {t : Dt} {v : V} (h : DtAt p H t v) (k : Keep ex H H') (hx : ∀ b ∈ ex, b ∈ p ∨ ∃ o, H b = some o ∧ (∀ xs, o ≠ .tup xs) ∧ (∀ xs, o ≠ .lst xs) ∧ ∀ xs, o ≠ .dK xs) (hp : ∀ b ∈ p, ∀ xs, H b ≠ some (.tup xs)) : DtAt p H' t v :=
  h.map (fun a ys e => k.at e fun z => by
      rcases hx a z with q | ⟨o, q, n, _⟩
      · exact hp a q _ e
      · rw [e] at q; exact n _ (Option.some.inj q).symm)
    (fun a ys n e => ⟨k.at e fun z => by
      rcases hx a z with q | ⟨o, q, _, n2, _⟩
      · exact n q
      · rw [e] at q; exact n2 _ (Option.some.inj q).symm, n⟩)
    (fun a ys n e => ⟨k.at e fun z => by
      rcases hx a z with q | ⟨o, q, _, _, n2⟩
      · exact n q
      · rw [e] at q; exact n2 _ (Option.some.inj q).symm, n⟩)
theorem DtsAt.keep {p ex : List Addr} {H H' : Hp} {t : List Dt} {v : List V} (h : DtsAt p H t v) (k : Keep ex H H') (hx : ∀ b ∈ ex, b ∈ p ∨ ∃ o, H b = some o ∧ (∀ xs, o ≠ .tup xs) ∧ (∀ xs, o ≠ .lst xs) ∧ ∀ xs, o ≠ .dK xs) (hp : ∀ b ∈ p, ∀ xs, H b ≠ some (.tup xs)) : DtsAt p H' t v :=
  h.map (fun a ys e => k.at e fun z => by
      rcases hx a z with q | ⟨o, q, n, _⟩
      · exact hp a q _ e
      · rw [e] at q; exact n _ (Option.some.inj q).symm)
    (fun a ys n e => ⟨k.at e fun z => by
      rcases hx a z with q | ⟨o, q, _, n2, _⟩
      · exact n q
      · rw [e] at q; exact n2 _ (Option.some.inj q).symm, n⟩)
    (fun a ys n e => ⟨k.at e fun z => by
      rcases hx a z with q | ⟨o, q, _, _, n2⟩
      · exact n q
      · rw [e] at q; exact n2 _ (Option.some.inj q).symm, n⟩)
theorem DtAt.keep0 {p : List Addr} {H H' : Hp} {t : Dt} {v : V} (h : DtAt p H t v) (k : Keep [] H H') : DtAt p H' t v := h.map (fun a xs e => k.at e nin0) (fun a xs n e => ⟨k.at e nin0, n⟩) (fun a xs n e => ⟨k.at e nin0, n⟩)
theorem DtsAt.keep0 {p : List Addr} {H H' : Hp} {t : List Dt} {v : List V} (h : DtsAt p H t v) (k : Keep [] H H') : DtsAt p H' t v := h.map (fun a xs e => k.at e nin0) (fun a xs n e => ⟨k.at e nin0, n⟩) (fun a xs n e => ⟨k.at e nin0, n⟩)
/-- other places that none of its lists is -/
theorem DtAt.off {p p' : List Addr} {H : Hp} {t : Dt} {v : V} (h : DtAt p H t v) (n : ∀ b ∈ p', b ∈ p ∨ H b = none) : DtAt p' H t v :=
  h.map (fun a xs e => e) (fun a xs m e => ⟨e, fun z => by
      rcases n a z with q | q
      · exact m q
      · rw [e] at q; cases q⟩) (fun a xs m e => ⟨e, fun z => by
      rcases n a z with q | q
      · exact m q
      · rw [e] at q; cases q⟩)
theorem DtsAt.len {p : List Addr} {H : Hp} : ∀ {l : List Dt} {ys : List V}, DtsAt p H l ys → ys.length = l.length
  | [], [], _ => rfl
  | x :: l, y :: ys, h => by
    simp only [DtsAt] at h
    rw [List.length_cons, List.length_cons, DtsAt.len h.2]
  | [], _ :: _, h => by simp only [DtsAt] at h
  | _ :: _, [], h => by simp only [DtsAt] at h
theorem DtsAt.get {p : List Addr} {H : Hp} : ∀ {l : List Dt} {ys : List V} (i : Nat) (x : Dt), DtsAt p H l ys → l[i]? = some x → ∃ y, ys[i]? = some y ∧ DtAt p H x y
  | [], _, i, x, _, e => by simp at e
  | z :: l, [], i, x, h, _ => by simp only [DtsAt] at h
  | z :: l, y :: ys, 0, x, h, e => by
    simp only [DtsAt] at h
    have e : z = x := by simpa using e
    subst e
    exact ⟨y, rfl, h.1⟩
  | z :: l, y :: ys, i + 1, x, h, e => by
    simp only [DtsAt] at h
    exact DtsAt.get (l := l) (ys := ys) i x h.2 (by simpa using e)
mutual
def toTh : Dt → Th
  | .flat v => .flat v
  | .lst _ => .box
  | .tup l => .tup (toThs l)
  | .dct => .box
def toThs : List Dt → List Th
  | [] => []
  | x :: l => toTh x :: toThs l
end
mutual
theorem DtAt.th {p : List Addr} {H : Hp} : ∀ {t : Dt} {v : V}, DtAt p H t v → ThAt p H (toTh t) v
  | .flat u, v, h => by
    simp only [DtAt] at h
    simp only [toTh, ThAt]
    exact h
  | .dct, v, h => by
    simp only [DtAt] at h
    obtain ⟨a, ys, e, n, g⟩ := h
    simp only [toTh, ThAt]
    exact ⟨a, e, n, .inr ⟨ys, g⟩⟩
  | .lst l, v, h => by
    simp only [DtAt] at h
    obtain ⟨a, ys, e, n, g, _⟩ := h
    simp only [toTh, ThAt]
    exact ⟨a, e, n, .inl ⟨ys, g⟩⟩
  | .tup l, v, h => by
    simp only [DtAt] at h
    obtain ⟨a, ys, e, g, t⟩ := h
    simp only [toTh, ThAt]
    exact ⟨a, ys, e, g, DtsAt.th t⟩
theorem DtsAt.th {p : List Addr} {H : Hp} : ∀ {l : List Dt} {ys : List V}, DtsAt p H l ys → ThsAt p H (toThs l) ys
  | [], [], _ => by simp only [toThs, ThsAt]
  | x :: l, y :: ys, h => by
    simp only [DtsAt] at h
    simp only [toThs, ThsAt]
    exact ⟨h.1.th, h.2.th⟩
  | [], _ :: _, h => by simp only [DtsAt] at h
  | _ :: _, [], h => by simp only [DtsAt] at h
end
mutual
theorem sz_th : ∀ t : Dt, (toTh t).sz ≤ t.sz
  | .flat v => by simp only [toTh, Th.sz, Dt.sz]; exact Nat.le_refl _
  | .dct => by simp only [toTh, Th.sz, Dt.sz]; exact Nat.le_refl _
  | .lst l => by simp only [toTh, Th.sz, Dt.sz]; omega
  | .tup l => by have := szs_th l; simp only [toTh, Th.sz, Dt.sz]; omega
theorem szs_th : ∀ l : List Dt, Th.szs (toThs l) ≤ Dt.szs l
  | [] => by simp only [toThs, Th.szs, Dt.szs]; exact Nat.le_refl _
  | x :: l => by have h1 := sz_th x; have h2 := szs_th l; simp only [toThs, Th.szs, Dt.szs]; omega
end
/-! what it is an instance of -/
def isLs : Dt → Bool
  | .lst _ => true
  | _ => false
def isTp : Dt → Bool
  | .tup _ => true
  | _ => false
def isI : Dt → Bool
  | .flat (.int _) => true
  | _ => false
def isSt : Dt → Bool
  | .flat (.str _) => true
  | _ => false
theorem isSt_th (t : Dt) : isS (toTh t) = isSt t := by
  cases t with
  | flat v => cases v <;> rfl
  | _ => rfl
theorem isi_dt {K : PySem.W.Frag} {p : List Addr} {H : Hp} {t : Dt} {v : V} (h : DtAt p H t v) : ∃ ty, TyX K H v (.type ty) ∧ kitB ty "tuple" = some (isTp t) ∧ kitB ty "list" = some (isLs t) := by
  have no : ∀ ty : String, (kitB ty "tuple" = some false ∧ kitB ty "list" = some false) → isTp t = false → isLs t = false → kitB ty "tuple" = some (isTp t) ∧ kitB ty "list" = some (isLs t) := fun ty h a b => by rw [a, b]; exact h
  cases t with
  | flat u =>
    simp only [DtAt] at h
    obtain ⟨rfl, f⟩ := h
    cases v with
    | non => exact ⟨"NoneType", .base .non, no _ (by decide +kernel) rfl rfl⟩
    | bl b => exact ⟨"bool", .base (.bl b), no _ (by decide +kernel) rfl rfl⟩
    | int i => exact ⟨"int", .base (.int i), no _ (by decide +kernel) rfl rfl⟩
    | str z => exact ⟨"str", .base (.str z), no _ (by decide +kernel) rfl rfl⟩
    | byt b => exact f.elim
    | flt b => exact f.elim
    | ref a => exact f.elim
    | ty n => exact f.elim
  | lst l =>
    simp only [DtAt] at h
    obtain ⟨a, ys, rfl, n, g, _⟩ := h
    exact ⟨"list", .base (.lst g), show kitB "list" "tuple" = some false ∧ kitB "list" "list" = some true by decide +kernel⟩
  | dct =>
    simp only [DtAt] at h
    obtain ⟨a, ys, rfl, n, g⟩ := h
    exact ⟨"dict", .base (.dK g), no _ (by decide +kernel) rfl rfl⟩
  | tup l =>
    simp only [DtAt] at h
    obtain ⟨a, ys, rfl, g, _⟩ := h
    exact ⟨"tuple", .base (.tup g), show kitB "tuple" "tuple" = some true ∧ kitB "tuple" "list" = some false by decide +kernel⟩
/-- bool, and int (of which bool is one) -/
def isB : Dt → Bool
  | .flat (.bl _) => true
  | _ => false
theorem isw_dt {K : PySem.W.Frag} {p : List Addr} {H : Hp} {t : Dt} {v : V} (h : DtAt p H t v) : ∃ ty, TyX K H v (.type ty) ∧ kitB ty "int" = some (isI t || isB t) ∧ kitB ty "bool" = some (isB t) := by
  have no : ∀ ty : String, (kitB ty "int" = some false ∧ kitB ty "bool" = some false) → isI t = false → isB t = false → kitB ty "int" = some (isI t || isB t) ∧ kitB ty "bool" = some (isB t) := fun ty h a b => by rw [a, b]; exact h
  cases t with
  | flat u =>
    simp only [DtAt] at h
    obtain ⟨rfl, f⟩ := h
    cases v with
    | non => exact ⟨"NoneType", .base .non, no _ (by decide +kernel) rfl rfl⟩
    | bl b => exact ⟨"bool", .base (.bl b), show kitB "bool" "int" = some true ∧ kitB "bool" "bool" = some true by decide +kernel⟩
    | int i => exact ⟨"int", .base (.int i), show kitB "int" "int" = some true ∧ kitB "int" "bool" = some false by decide +kernel⟩
    | str z => exact ⟨"str", .base (.str z), no _ (by decide +kernel) rfl rfl⟩
    | byt b => exact f.elim
    | flt b => exact f.elim
    | ref a => exact f.elim
    | ty n => exact f.elim
  | lst l =>
    simp only [DtAt] at h
    obtain ⟨a, ys, rfl, n, g, _⟩ := h
    exact ⟨"list", .base (.lst g), no _ (by decide +kernel) rfl rfl⟩
  | dct =>
    simp only [DtAt] at h
    obtain ⟨a, ys, rfl, n, g⟩ := h
    exact ⟨"dict", .base (.dK g), no _ (by decide +kernel) rfl rfl⟩
  | tup l =>
    simp only [DtAt] at h
    obtain ⟨a, ys, rfl, g, _⟩ := h
    exact ⟨"tuple", .base (.tup g), no _ (by decide +kernel) rfl rfl⟩
theorem isSt_of {p : List Addr} {H : Hp} {t : Dt} {v : V} (h : DtAt p H t v) (e : isSt t = true) : ∃ z, t = .flat (.str z) ∧ v = .str z := by
  cases t with
  | flat u =>
    simp only [DtAt] at h
    obtain ⟨rfl, f⟩ := h
    cases v <;> first | exact ⟨_, rfl, rfl⟩ | cases e
  | _ => cases e
end Fs
/-! is_whole and is_name, of anything; what a look knows; words with their numbers of parts. -/
namespace Fs
open PySem L2 TL
abbrev sWhole : Stmt := top 2 --def is_whole
theorem scWhole : FnScope ["thing"] ["thing"] (defScope sWhole) := ⟨rfl, rfl, rfl, by decide +kernel, rfl, by decide +kernel, by decide +kernel⟩
def spWhD : Sp := fun vs H Q _ => ∃ (p : List Addr) (t : Dt) (v : V), vs = [v] ∧ DtAt p H t v ∧ Q (.bl (isI t)) H
/-- a name -/
def nmB (z : Str) : Bool := decide (1 ≤ z.cps.toList.length) && (decide (z.cps.toList.length ≤ 8) && z.cps.toList.all small)
def isNmD : Dt → Bool
  | .flat (.str z) => nmB z
  | _ => false
theorem nmB_iff {z : Str} : nmB z = true ↔ IsNm z := by
  unfold nmB IsNm
  rw [Bool.and_eq_true, Bool.and_eq_true, decide_eq_true_eq, decide_eq_true_eq, List.all_eq_true]
theorem pbN_eq (c : Nat) : pbN c = small c := by
  have ea : (Str.ofString "a").cps.toList = [97] := by decide +kernel
  have ez : (Str.ofString "z").cps.toList = [122] := by decide +kernel
  unfold pbN small
  rw [ea, ez]
  congr 1
  · rw [Bool.eq_iff_iff, Bool.not_eq_true', decide_eq_false_iff_not, decide_eq_true_eq, one_lt]; omega
  · rw [Bool.eq_iff_iff, Bool.not_eq_true', decide_eq_false_iff_not, decide_eq_true_eq, one_lt]; omega
def spNmD (Pt : Addr) : Sp := fun vs H Q _ => ∃ (p : List Addr) (t : Dt) (v : V), vs = [v] ∧ DtAt p H t v ∧ GxR.TabG H Pt ∧ ∀ H2, Keep [Pt] H H2 → GxR.TabG H2 Pt → Q (.bl (isNmD t)) H2
section
variable {P : Program} {w : World} {K : PySem.W.Frag} {mg : Str → Option Value} {base : Heap}
theorem ok_whD {f : Addr} {fd : FuncData} (F : Fun K "is_whole" "is_whole" sWhole f fd) (mI : mg "isinstance" = none) (mT : mg "int" = none) (mB : mg "bool" = none) : FnOk P w K mg base CX0 1 f fd ["thing"] spWhD := by
  refine F.ok scWhole (fun vs H Q E h => ?_) (fun cdv A outer s H vs Q E hr h => ?_)
  · obtain ⟨p, t, v, rfl, _⟩ := h
    rfl
  · obtain ⟨p, t, v, rfl, ht, kk⟩ := h
    refine ⟨_, pss_one (ps_ret (pe_and (pe_callB call_isi (by rfl) mI (by decide +kernel) (pa_cons (pv 0) (pa_cons (pe_bltn (v := .ty "int") (u := .type "int") (by rfl) mT (by decide +kernel) rfl) pa_nil)))
      (pe_one (pe_not (pe_callB call_isi (by rfl) mI (by decide +kernel) (pa_cons (pv 0) (pa_cons (pe_bltn (v := .ty "bool") (u := .type "bool") (by rfl) mB (by decide +kernel) rfl) pa_nil))))))), ?_⟩
    obtain ⟨ty, h1, h2, h3⟩ := isw_dt (K := K) ht
    refine ⟨_, rfl, _, _, _, _, _, rfl, .ty "int", h1, kit_ty h2, isI t || isB t, rfl, ?_⟩
    have cs : (isI t = true ∧ isB t = false) ∨ (isI t = false ∧ isB t = true) ∨ (isI t = false ∧ isB t = false) := by
      cases t with
      | flat v => cases v <;> first | exact .inl ⟨rfl, rfl⟩ | exact .inr (.inl ⟨rfl, rfl⟩) | exact .inr (.inr ⟨rfl, rfl⟩)
      | _ => exact .inr (.inr ⟨rfl, rfl⟩)
    rcases cs with ⟨a, b⟩ | ⟨a, b⟩ | ⟨a, b⟩ <;> rw [a] at kk ⊢ <;> rw [b]
    · refine iteT ⟨_, rfl, _, _, _, _, _, rfl, .ty "bool", h1, kit_ty h3, isB t, rfl, ?_⟩
      rw [b]; exact kk
    · refine iteT ⟨_, rfl, _, _, _, _, _, rfl, .ty "bool", h1, kit_ty h3, isB t, rfl, ?_⟩
      rw [b]; exact kk
    · exact iteF kk
theorem ok_nmD {f fT c Pt : Addr} {fdT : FuncData} {oc dV kV doc pm ct : Value} {an od : Option Addr} {osl : Array (Option Value)} (lk : K.lookup f = some ⟨oc, od, .func (PySem.W.fnOf "is_name" "is_name" (defArgs sIsName) (defBody sIsName) (defScope sIsName) dV kV doc pm an (.ref c) ct), osl⟩) (hcd : PySem.W.codeIn K (.ref c) "is_name" = true)
    (TB : GxR.TabB base mg c Pt) (FT : FnOk P w K mg base CX0 1 fT fdT ["thing"] spTxT) (mT : mg "is_text" = some (.ref fT)) (kT : PySem.W.keepIn K (.ref fT) = true) (bT : Binds K fdT ["thing"] []) (mL : mg "len" = none) (mA : mg "all" = none) :
    FnOk P w K mg base CX0 2 f (PySem.W.fnOf "is_name" "is_name" (defArgs sIsName) (defBody sIsName) (defScope sIsName) dV kV doc pm an (.ref c) ct) ["thing"] (spNmD Pt) := by
  refine fn_of (CX := CX0) lk hcd scIsName (fun vs H Q E h => ?_) (fun A outer s H vs Q E hr h => ?_)
  · obtain ⟨p, t, v, rfl, _⟩ := h
    rfl
  · obtain ⟨p, t, v, rfl, ht, hT, kk⟩ := h
    refine ⟨_, PSs.nox (pss_one (ps_ret (pe_and (pe_call FT hr rfl mT kT bT .nil pass0 (pa_cons (pv 0) pa_nil)) (pe_and (pe_chain op_le op_le pe_int (pe_callB call_len_str (by rfl) mL PySem.boot_len (pa_cons (pv 0) pa_nil)) pe_int)
      (pe_one (GxR.pe_allS hr (by rfl) mA (by decide +kernel) TB rfl ⟨rfl, rfl, by decide +kernel, rfl, rfl, fun y hy e => ?_⟩ (pv 0) (elt_name rfl rfl) (fun v => rfl))))))), ?_⟩
    · have q : ∀ y ∈ ([((".0" : Str), NameKind.local), (("sign" : Str), NameKind.local)] : List (Str × NameKind)), y.2 = NameKind.free → False := by decide
      exact (q y hy e).elim
    refine ⟨_, rfl, p, toTh t, v, rfl, ht.th, ?_⟩
    rw [isSt_th]
    refine ⟨isSt t, rfl, ?_⟩
    cases hs : isSt t with
    | false =>
      refine iteF ?_
      have e : isNmD t = false := by
        cases t with
        | flat v => cases v <;> first | rfl | cases hs
        | _ => rfl
      rw [e] at kk
      exact kk H (Keep.refl _ _) hT
    | true =>
      obtain ⟨z, rfl, rfl⟩ := isSt_of ht hs
      have hz : z.cps.toList.length ≤ 40 := by
        simp only [DtAt] at ht
        exact ht.2.1
      have hzl : z.length = z.cps.toList.length := by simp [Str.length]
      refine iteT ?_
      refine ⟨_, rfl, z, rfl, Nat.le_of_lt (Nat.lt_of_lt_of_le (by omega : z.length < 1000) (by decide)), _, _, rfl, rfl, _, rfl, ?_⟩
      have eN : isNmD (.flat (.str z)) = nmB z := rfl
      rw [eN] at kk
      by_cases c1 : 1 ≤ z.cps.toList.length
      case neg =>
        rw [decide_eq_false (show ¬ (1 : Int) ≤ (z.length : Int) by omega)]
        refine iteF ?_
        have e : nmB z = false := by unfold nmB; rw [decide_eq_false c1]; rfl
        rw [e] at kk
        exact ⟨_, rfl, iteF (kk H (Keep.refl _ _) hT)⟩
      rw [decide_eq_true (show (1 : Int) ≤ (z.length : Int) by omega)]
      refine iteT ⟨_, _, rfl, rfl, _, rfl, ?_⟩
      by_cases c2 : z.cps.toList.length ≤ 8
      case neg =>
        rw [decide_eq_false (show ¬ (z.length : Int) ≤ (8 : Int) by omega)]
        have e : nmB z = false := by unfold nmB; rw [decide_eq_false c2]; simp
        rw [e] at kk
        exact iteF (kk H (Keep.refl _ _) hT)
      rw [decide_eq_true (show (z.length : Int) ≤ (8 : Int) by omega)]
      refine iteT ⟨_, rfl, z, rfl, hT, fun H2 hH => ?_⟩
      have ea : z.cps.toList.all pbN = nmB z := by
        unfold nmB
        rw [decide_eq_true c1, decide_eq_true c2, Bool.true_and, Bool.true_and]
        congr 1
        exact funext pbN_eq
      rw [ea]
      exact kk H2 (tab_keep hH) hH.1
end
end Fs
/-! d.get(z), d a dict that the module has written. -/
namespace Fs
open PySem PySem.Spec PyProof.Rows L2
def tKGet (K : PySem.W.Frag) (d : Addr) (td ty : TE) : TE := fun σ H Q => td σ H fun x H1 => x = .ref d ∧ ty σ H1 fun y H2 => ∃ (z : Str) (r : Option Value) (v : V), y = .str z ∧ PySem.W.nsIn K d z = some r ∧ RelV v (r.getD .none) ∧ Q v H2
theorem pe_kget {X : Cx} {d : Addr} {es : Array DictEntry} {n : Nat} {o e : Expr} {apos cpos : Pos} {td ty : TE} (D : KDict X.K X.w d es n) (ho : PE X o td) (he : PE X e ty) (m : M1 X o "get" apos e cpos) : PE X (.Call (.Attribute o "get" apos) [e] [] cpos) (tKGet X.K d td ty) := by
  refine ⟨fun pins s σ H Q I h => ?_⟩
  refine wpAny_Call_method m.base m.few m.line PySem.F.plainAttrs_dict PySem.F.slot_dict_get PySem.F.type_dict_get (thn (ho.run pins s σ H _ I h) fun u s1 ⟨x, H1, I1, rx, ex, q1⟩ => ?_)
  subst ex
  obtain rfl : u = Value.ref d := rx
  refine ⟨kd_type D I1, fun b q => ?_, ?_⟩
  · cases q
    exact ⟨_, I1.kIn _ _ D.at_, rfl⟩
  rw [m.trees]
  refine Calls.callWith_builtin rfl (Calls.evalArgs_plain (Calls.spliced_cons (thn (he.run pins s1 σ H1 _ I1 q1) fun iv s2 ⟨y, H2, I2, ry, z, r, v, ey, en, rv, q2⟩ => Calls.spliced_nil ?_)))
  subst ey
  obtain ⟨t, rfl⟩ := ry
  refine call_meetsIn PySem.F.slot_dict_get (kd_type D I2) PySem.F.entry_dict_get (PySem.F.args_dict_get_2 _ _) (meets_dict_get (PySem.strKind X.prog X.w) d (PySem.strKind_is X.prog X.w z t) D.low) ⟨_, PySem.W.mapOf_K (prog := X.prog) I2.kIn D.at_ D.lit, ?_⟩
  rw [PySem.W.find_K D.at_ en]
  exact ⟨v, H2, I2.tok _, rv, q2⟩
end Fs
/-! What is a program: the mathematics; what a look knows. -/
namespace Fs
open PySem L2 TL
abbrev pSay : Str := Str.ofString "say"
abbrev pRaise : Str := Str.ofString "raise"
abbrev pAnswer : Str := Str.ofString "answer"
abbrev pCall : Str := Str.ofString "call"
abbrev pGather : Str := Str.ofString "gather"
abbrev pAgain : Str := Str.ofString "again"
abbrev pNote : Str := Str.ofString "note"
abbrev pRaiseof : Str := Str.ofString "raiseof"
abbrev pRoom : Str := Str.ofString "room"
abbrev pWhole : Str := Str.ofString "whole"
abbrev pOut : Str := Str.ofString "out"
def partsN (w : Str) : Option Nat :=
  if w = pSay then some 2 else if w = pRaise then some 3 else if w = pAnswer then some 2 else if w = pCall then some 2 else if w = pGather then some 3 else if w = pAgain then some 1 else if w = pNote then some 2 else if w = pRaiseof then some 3 else if w = pRoom then some 7 else none
def isFl : Dt → Bool
  | .flat _ => true
  | _ => false
def niceL : List Dt → Bool
  | .flat (.str w) :: r => if w = pCall then isFl (r.getD 0 .dct) else if w = pRoom then isFl (r.getD 2 .dct) else true
  | _ => true
mutual
def nice : Dt → Bool
  | .tup l => nices l && niceL l
  | .lst l => nices l
  | _ => true
def nices : List Dt → Bool
  | [] => true
  | x :: l => nice x && nices l
end
theorem nices_in {x : Dt} : ∀ {l : List Dt}, nices l = true → x ∈ l → nice x = true
  | [], _, h => absurd h List.not_mem_nil
  | y :: l, n, h => by
    simp only [nices, Bool.and_eq_true] at n
    rcases List.mem_cons.mp h with z | z
    · rw [z]; exact n.1
    · exact nices_in n.2 z
/-- one behind another, as long as each is well -/
def foldO {α : Type} (f : Dt → α → Option α) : List Dt → α → Option α
  | [], r => some r
  | x :: l, r => (f x r).bind (foldO f l)
theorem foldO_app {α : Type} {f : Dt → α → Option α} : ∀ {l m : List Dt} {r : α}, foldO f (l ++ m) r = (foldO f l r).bind (foldO f m)
  | [], _, _ => rfl
  | x :: l, m, r => by
    show (f x r).bind (foldO f (l ++ m)) = ((f x r).bind (foldO f l)).bind (foldO f m)
    cases f x r with
    | none => rfl
    | some s => exact foldO_app (l := l)
theorem foldO_step {α : Type} {f : Dt → α → Option α} {l : List Dt} {i : Nat} {x : Dt} {r s : α} (h : l[i]? = some x) (h0 : foldO f (l.take i) r = some s) : foldO f (l.take (i + 1)) r = f x s ∧ (f x s = none → foldO f l r = none) := by
  have h1 : foldO f (l.take (i + 1)) r = f x s := by
    rw [List.take_add_one, h, foldO_app, h0]
    show (f x s).bind _ = _
    cases f x s <;> rfl
  refine ⟨h1, fun hn => ?_⟩
  rw [← List.take_append_drop (i + 1) l, foldO_app, h1, hn]
  rfl
def plainK (ps : List (Str × Str)) : Dt → Bool
  | .flat (.str z) => decide (z ∈ sF :: ps.map Prod.fst)
  | _ => false
def inAhead (ah : List Str) : Dt → Bool
  | .flat (.str z) => decide (z ∈ ah)
  | _ => false
def wayOk : Dt → Bool
  | .flat (.str z) => decide (z = pWhole) || decide (z = pOut)
  | _ => false
def isWay (w : Str) : Dt → Bool
  | .flat (.str z) => decide (z = w)
  | _ => false
abbrev Rms : Type := List Str
/-- a room's parts: name, body, way, catchers, otherwise, leaving -/
def roomB (body : Bool → Dt → Rms → Option Rms) (cats : Bool → Dt → Rms → Option Rms) (free : Bool) : List Dt → Rms → Option Rms
  | [_, .flat (.str name), b, way, cs, ow, lv], r =>
    if nmB name && !decide (name ∈ r) then
      if wayOk way then (((body free b (r ++ [name])).bind (body free ow)).bind (body free lv)).bind (cats (free && isWay pWhole way) cs) else none
    else none
  | _, _ => none
def stepL (ps : List (Str × Str)) (ah : List Str) (body : Bool → Dt → Rms → Option Rms) (cats : Bool → Dt → Rms → Option Rms) (gath : Dt → Rms → Option Rms) (held free : Bool) : List Dt → Rms → Option Rms
  | .flat (.str w) :: l, r =>
    if partsN w = some (l.length + 1) then
      if w = pRoom then roomB body cats free (.flat (.str w) :: l) r
      else if w = pGather then if isSt (l.getD 0 .dct) then gath (l.getD 1 .dct) r else none
      else if w = pAnswer then if free && isI (l.getD 0 .dct) then some r else none
      else if w = pCall then if inAhead ah (l.getD 0 .dct) then some r else none
      else if (w = pAgain ∨ w = pNote ∨ w = pRaiseof) ∧ held = false then none
      else if w = pRaise ∨ w = pRaiseof then if plainK ps (l.getD 0 .dct) && isSt (l.getD 1 .dct) then some r else none
      else if decide (w = pAgain) || isSt (l.getD 0 .dct) then some r else none
    else none
  | _, _ => none
mutual
def bodyF (ps : List (Str × Str)) (ah : List Str) : Nat → Nat → Bool → Bool → Dt → Rms → Option Rms
  | 0, _, _, _, _, _ => none
  | d + 1, lev, held, free, .lst l, r => if 60 < lev then none else foldO (stepF ps ah d lev held free) l r
  | _ + 1, _, _, _, _, _ => none
def stepF (ps : List (Str × Str)) (ah : List Str) : Nat → Nat → Bool → Bool → Dt → Rms → Option Rms
  | 0, _, _, _, _, _ => none
  | d + 1, lev, held, free, .tup l, r => stepL ps ah (fun fr => bodyF ps ah d (lev + 1) held fr) (fun fr => catsF ps ah d lev fr) (gathF ps ah d lev held) held free l r
  | _ + 1, _, _, _, _, _ => none
def gathF (ps : List (Str × Str)) (ah : List Str) : Nat → Nat → Bool → Dt → Rms → Option Rms
  | 0, _, _, _, _ => none
  | d + 1, lev, held, .lst l, r => if l.isEmpty then none else foldO (bodyF ps ah d (lev + 1) held false) l r
  | _ + 1, _, _, _, _ => none
def catsF (ps : List (Str × Str)) (ah : List Str) : Nat → Nat → Bool → Dt → Rms → Option Rms
  | 0, _, _, _, _ => none
  | d + 1, lev, free, .lst l, r => foldO (catF ps ah d lev free) l r
  | _ + 1, _, _, _, _ => none
def catF (ps : List (Str × Str)) (ah : List Str) : Nat → Nat → Bool → Dt → Rms → Option Rms
  | 0, _, _, _, _ => none
  | d + 1, lev, free, .tup [te, b], r => if isP ps (toTh te) then bodyF ps ah d (lev + 1) true free b r else none
  | _ + 1, _, _, _, _ => none
end
/-- the whole: bodies by their names -/
def pairF (ps : List (Str × Str)) (d : Nat) : Dt → List Str × Rms → Option (List Str × Rms)
  | .tup [.flat (.str name), b], s => if nmB name && !decide (name ∈ s.1) then (bodyF ps s.1 d 1 false true b s.2).map fun r => (s.1 ++ [name], r) else none
  | _, _ => none
def progF (ps : List (Str × Str)) (d : Nat) : Dt → Bool
  | .lst l => (foldO (pairF ps d) l ([], [])).isSome
  | _ => false
/-! what a look knows -/
structure LkAt (CL CK : Addr) (H : Hp) (lk dx kd A R Pt : Addr) (ps : List (Str × Str)) (ah rms : List Str) : Prop where
  ins : H lk = some (.ins CL dx [("known", .ref kd), ("ahead", .ref A), ("rooms", .ref R)])
  kin : KindsAt CK H kd ps
  ahd : H A = some (.lst (ah.map V.str))
  rms : H R = some (.lst (rms.map V.str))
  ne : A ≠ R
  tab : GxR.TabG H Pt
section
variable {CL CK : Addr} {H H' : Hp} {lk dx kd A R Pt : Addr} {ps : List (Str × Str)} {ah rms : List Str}
theorem LkAt.keep0 (L : LkAt CL CK H lk dx kd A R Pt ps ah rms) (k : Keep [] H H') : LkAt CL CK H' lk dx kd A R Pt ps ah rms := by
  obtain ⟨tb, hT, oT⟩ := L.tab
  exact ⟨k.at L.ins nin0, L.kin.keep0 k, k.at L.ahd nin0, k.at L.rms nin0, L.ne, ⟨tb, k.at hT nin0, oT⟩⟩
/-- the table of names is another -/
theorem LkAt.keepT (L : LkAt CL CK H lk dx kd A R Pt ps ah rms) (k : Keep [Pt] H H') (t : GxR.TabG H' Pt) : LkAt CL CK H' lk dx kd A R Pt ps ah rms := by
  obtain ⟨tb, hT, oT⟩ := L.tab
  have n : ∀ {b : Addr} {o : HO}, H b = some o → (∀ x, o ≠ .tbl x) → b ∉ [Pt] := fun e h => nin1 fun z => by
    rw [z, hT] at e; exact h _ (Option.some.inj e).symm
  exact ⟨k.at L.ins (n L.ins fun _ z => by cases z), L.kin.keep k (tab_ex L.tab), k.at L.ahd (n L.ahd fun _ z => by cases z), k.at L.rms (n L.rms fun _ z => by cases z), L.ne, t⟩
theorem LkAt.nRP (L : LkAt CL CK H lk dx kd A R Pt ps ah rms) : R ≠ Pt := fun z => by
  obtain ⟨tb, hT, oT⟩ := L.tab
  have := L.rms
  rw [z, hT] at this; cases this
theorem LkAt.nAP (L : LkAt CL CK H lk dx kd A R Pt ps ah rms) : A ≠ Pt := fun z => by
  obtain ⟨tb, hT, oT⟩ := L.tab
  have := L.ahd
  rw [z, hT] at this; cases this
/-- one room more -/
theorem LkAt.room (L : LkAt CL CK H lk dx kd A R Pt ps ah rms) (z : Str) : LkAt CL CK (upd H R (.lst (rms.map V.str ++ [.str z]))) lk dx kd A R Pt ps ah (rms ++ [z]) ∧ Keep [R, Pt] H (upd H R (.lst (rms.map V.str ++ [.str z]))) := by
  have k : Keep [R] H (upd H R (.lst (rms.map V.str ++ [.str z]))) := Keep.own in1
  obtain ⟨tb, hT, oT⟩ := L.tab
  refine ⟨⟨k.at L.ins (nin1 (ne_of L.ins L.rms fun z => by cases z)), L.kin.keep k fun b hb => ?_, k.at L.ahd (nin1 L.ne), by rw [upd_same, List.map_append]; rfl, L.ne, ⟨tb, k.at hT (nin1 L.nRP.symm), oT⟩⟩, k.more fun b hb => by rw [List.mem_singleton.mp hb]; exact List.mem_cons_self⟩
  rw [List.mem_singleton.mp hb]
  exact ⟨_, L.rms, (fun _ _ _ z => by cases z), (fun _ z => by cases z)⟩
theorem fl_known {v1 v2 v3 : V} : ([(("known" : Str), v1), ("ahead", v2), ("rooms", v3)] : List (Str × V)).lookup ("known" : Str) = some v1 := by
  have e1 : (("known" : Str) == ("known" : Str)) = true := by decide +kernel
  simp only [List.lookup, e1]
theorem fl_ahead {v1 v2 v3 : V} : ([(("known" : Str), v1), ("ahead", v2), ("rooms", v3)] : List (Str × V)).lookup ("ahead" : Str) = some v2 := by
  have e1 : (("ahead" : Str) == ("known" : Str)) = false := by decide +kernel
  have e2 : (("ahead" : Str) == ("ahead" : Str)) = true := by decide +kernel
  simp only [List.lookup, e1, e2]
theorem fl_rooms {v1 v2 v3 : V} : ([(("known" : Str), v1), ("ahead", v2), ("rooms", v3)] : List (Str × V)).lookup ("rooms" : Str) = some v3 := by
  have e1 : (("rooms" : Str) == ("known" : Str)) = false := by decide +kernel
  have e2 : (("rooms" : Str) == ("ahead" : Str)) = false := by decide +kernel
  have e3 : (("rooms" : Str) == ("rooms" : Str)) = true := by decide +kernel
  simp only [List.lookup, e1, e2, e3]
end
theorem strs_all (l : List Str) : (l.map V.str).all flatV = true := by
  rw [List.all_eq_true]
  intro v hv
  obtain ⟨z, _, rfl⟩ := List.mem_map.mp hv
  rfl
/-- a flat thing among texts -/
theorem inV_flat {p : List Addr} {H : Hp} {t : Dt} {v : V} (h : DtAt p H t v) (hf : isFl t = true) (l : List Str) : flatV v = true ∧ inV v (l.map V.str) = inAhead l t := by
  cases t with
  | flat u =>
    simp only [DtAt] at h
    obtain ⟨rfl, f⟩ := h
    have no : ∀ v : V, (∀ y, eqV (.str y) v = false) → inV v (l.map V.str) = false := fun v hv => by
      unfold inV
      rw [List.any_eq_false]
      intro x hx
      obtain ⟨y, _, rfl⟩ := List.mem_map.mp hx
      rw [hv]; exact Bool.false_ne_true
    cases v with
    | str z => exact ⟨rfl, inV_strs z l⟩
    | non => exact ⟨rfl, no _ fun y => rfl⟩
    | bl b => exact ⟨rfl, no _ fun y => rfl⟩
    | int i => exact ⟨rfl, no _ fun y => rfl⟩
    | _ => exact f.elim
  | _ => cases hf
end Fs
/-! The program: bodies, what is gathered, catchers. -/
namespace Fs
open PySem L2 TL
abbrev sPlK : Stmt := top 20 --def _is_plain_kind
abbrev aPlK : List Str := ["look", "thing"]
abbrev nPlK : List Str := ["look", "thing"]
theorem scPlK : FnScope nPlK aPlK (defScope sPlK) := ⟨rfl, rfl, rfl, by decide +kernel, rfl, by decide +kernel, by decide +kernel⟩
abbrev sBdy : Stmt := top 18 --def _is_body
abbrev aBdy : List Str := ["look", "thing", "level", "held", "free"]
abbrev nBdy : List Str := ["look", "thing", "level", "held", "free", "step"]
theorem scBdy : FnScope nBdy aBdy (defScope sBdy) := ⟨rfl, rfl, rfl, by decide +kernel, rfl, by decide +kernel, by decide +kernel⟩
abbrev sGth : Stmt := top 21 --def _are_gathered
abbrev aGth : List Str := ["look", "thing", "level", "held"]
abbrev nGth : List Str := ["look", "thing", "level", "held", "body"]
theorem scGth : FnScope nGth aGth (defScope sGth) := ⟨rfl, rfl, rfl, by decide +kernel, rfl, by decide +kernel, by decide +kernel⟩
abbrev sCts : Stmt := top 23 --def _are_catchers
abbrev aCts : List Str := ["look", "thing", "level", "free"]
abbrev nCts : List Str := ["look", "thing", "level", "free", "catcher", "test", "body"]
theorem scCts : FnScope nCts aCts (defScope sCts) := ⟨rfl, rfl, rfl, by decide +kernel, rfl, by decide +kernel, by decide +kernel⟩
structure PGx (K : PySem.W.Frag) (mg : Str → Option Value) (CL CK : Addr) (fBd fSt fRm fGa fCa fPk fTx fNm fWh fTe fIk : Addr) : Prop where
  clL : Cls K CL
  nKn : NoAttr K CL "known"
  nAh : NoAttr K CL "ahead"
  nRo : NoAttr K CL "rooms"
  cl : Cls K CK
  mK : Meth K CK "is_kind" fIk
  gBd : mg "_is_body" = some (.ref fBd)
  kBd : PySem.W.keepIn K (.ref fBd) = true
  gSt : mg "_is_step" = some (.ref fSt)
  kSt : PySem.W.keepIn K (.ref fSt) = true
  gRm : mg "_is_room" = some (.ref fRm)
  kRm : PySem.W.keepIn K (.ref fRm) = true
  gGa : mg "_are_gathered" = some (.ref fGa)
  kGa : PySem.W.keepIn K (.ref fGa) = true
  gCa : mg "_are_catchers" = some (.ref fCa)
  kCa : PySem.W.keepIn K (.ref fCa) = true
  gPk : mg "_is_plain_kind" = some (.ref fPk)
  kPk : PySem.W.keepIn K (.ref fPk) = true
  gTx : mg "is_text" = some (.ref fTx)
  kTx : PySem.W.keepIn K (.ref fTx) = true
  gNm : mg "is_name" = some (.ref fNm)
  kNm : PySem.W.keepIn K (.ref fNm) = true
  gWh : mg "is_whole" = some (.ref fWh)
  kWh : PySem.W.keepIn K (.ref fWh) = true
  gTe : mg "is_test" = some (.ref fTe)
  kTe : PySem.W.keepIn K (.ref fTe) = true
  dp : ∃ t, mg "_DEEPEST" = some (.int 60 t)
  isi : mg "isinstance" = none
  tup : mg "tuple" = none
  lst : mg "list" = none
  len : mg "len" = none
/-- how a look at a thing ends -/
def Goes (CL CK Pt lk dx kd A R : Addr) (ps : List (Str × Str)) (ah rms : List Str) (H : Hp) (n : Nat) (o : Option Rms) (Q : VK) : Prop :=
  ∀ (H' : Hp) (rms' : List Str), (∀ r, o = some r → rms' = r) → LkAt CL CK H' lk dx kd A R Pt ps ah rms' → Keep [R, Pt] H H' → rms'.length ≤ rms.length + n → Q (.bl o.isSome) H'
def spPlK (CL CK Pt : Addr) : Sp := fun vs H Q _ => ∃ (lk dx kd A R : Addr) (ps : List (Str × Str)) (ah rms : List Str) (p : List Addr) (t : Dt) (v : V), vs = [.ref lk, v] ∧ LkAt CL CK H lk dx kd A R Pt ps ah rms ∧ Wf ps ∧ DtAt p H t v ∧ Q (.bl (plainK ps t)) H
def spBdy (CL CK Pt : Addr) (d : Nat) : Sp := fun vs H Q _ => ∃ (lk dx kd A R : Addr) (ps : List (Str × Str)) (ah rms : List Str) (t : Dt) (v : V) (lev : Nat) (held free : Bool), vs = [.ref lk, v, .int (lev : Int), .bl held, .bl free] ∧ LkAt CL CK H lk dx kd A R Pt ps ah rms ∧ Wf ps ∧ DtAt [A, R] H t v ∧ nice t = true ∧ t.dp < d ∧ rms.length + t.sz ≤ 9000 ∧
  Goes CL CK Pt lk dx kd A R ps ah rms H t.sz (bodyF ps ah d lev held free t rms) Q
def spStp (CL CK Pt : Addr) (d : Nat) : Sp := fun vs H Q _ => ∃ (lk dx kd A R : Addr) (ps : List (Str × Str)) (ah rms : List Str) (t : Dt) (v : V) (lev : Nat) (held free : Bool), vs = [.ref lk, v, .int (lev : Int), .bl held, .bl free] ∧ LkAt CL CK H lk dx kd A R Pt ps ah rms ∧ Wf ps ∧ DtAt [A, R] H t v ∧ nice t = true ∧ t.dp < d ∧ rms.length + t.sz ≤ 9000 ∧
  Goes CL CK Pt lk dx kd A R ps ah rms H t.sz (stepF ps ah d lev held free t rms) Q
def spGth (CL CK Pt : Addr) (d : Nat) : Sp := fun vs H Q _ => ∃ (lk dx kd A R : Addr) (ps : List (Str × Str)) (ah rms : List Str) (t : Dt) (v : V) (lev : Nat) (held : Bool), vs = [.ref lk, v, .int (lev : Int), .bl held] ∧ LkAt CL CK H lk dx kd A R Pt ps ah rms ∧ Wf ps ∧ DtAt [A, R] H t v ∧ nice t = true ∧ t.dp < d ∧ rms.length + t.sz ≤ 9000 ∧
  Goes CL CK Pt lk dx kd A R ps ah rms H t.sz (gathF ps ah d lev held t rms) Q
def spCts (CL CK Pt : Addr) (d : Nat) : Sp := fun vs H Q _ => ∃ (lk dx kd A R : Addr) (ps : List (Str × Str)) (ah rms : List Str) (t : Dt) (v : V) (lev : Nat) (free : Bool), vs = [.ref lk, v, .int (lev : Int), .bl free] ∧ LkAt CL CK H lk dx kd A R Pt ps ah rms ∧ Wf ps ∧ DtAt [A, R] H t v ∧ nice t = true ∧ t.dp < d ∧ rms.length + t.sz ≤ 9000 ∧
  Goes CL CK Pt lk dx kd A R ps ah rms H t.sz (catsF ps ah d lev free t rms) Q
section
variable {CL CK : Addr} {H H' : Hp} {lk dx kd A R Pt : Addr} {ps : List (Str × Str)} {ah rms : List Str}
theorem LkAt.dt (L : LkAt CL CK H lk dx kd A R Pt ps ah rms) {t : Dt} {v : V} (h : DtAt [A, R] H t v) (k : Keep [R, Pt] H H') : DtAt [A, R] H' t v := by
  obtain ⟨tb, hT, oT⟩ := L.tab
  refine h.keep k (fun b hb => ?_) (fun b hb xs e => ?_)
  · rcases List.mem_cons.mp hb with z | z
    · rw [z]; exact .inl (List.mem_cons_of_mem _ List.mem_cons_self)
    · rw [List.mem_singleton.mp z]
      exact .inr ⟨_, hT, (fun _ z => by cases z), (fun _ z => by cases z), (fun _ z => by cases z)⟩
  · rcases List.mem_cons.mp hb with z | z
    · rw [z, L.ahd] at e; cases e
    · rw [List.mem_singleton.mp z, L.rms] at e; cases e
theorem LkAt.dts (L : LkAt CL CK H lk dx kd A R Pt ps ah rms) {t : List Dt} {v : List V} (h : DtsAt [A, R] H t v) (k : Keep [R, Pt] H H') : DtsAt [A, R] H' t v := by
  obtain ⟨tb, hT, oT⟩ := L.tab
  refine h.keep k (fun b hb => ?_) (fun b hb xs e => ?_)
  · rcases List.mem_cons.mp hb with z | z
    · rw [z]; exact .inl (List.mem_cons_of_mem _ List.mem_cons_self)
    · rw [List.mem_singleton.mp z]
      exact .inr ⟨_, hT, (fun _ z => by cases z), (fun _ z => by cases z), (fun _ z => by cases z)⟩
  · rcases List.mem_cons.mp hb with z | z
    · rw [z, L.ahd] at e; cases e
    · rw [List.mem_singleton.mp z, L.rms] at e; cases e
/-- a list, a tuple of it stays -/
theorem LkAt.lst (L : LkAt CL CK H lk dx kd A R Pt ps ah rms) {a : Addr} {ys : List V} (e : H a = some (.lst ys)) (n : a ∉ [A, R]) (k : Keep [R, Pt] H H') : H' a = some (.lst ys) := by
  obtain ⟨tb, hT, oT⟩ := L.tab
  refine k.at e fun z => ?_
  rcases List.mem_cons.mp z with z | z
  · exact n (by rw [z]; exact List.mem_cons_of_mem _ List.mem_cons_self)
  · rw [List.mem_singleton.mp z, hT] at e; cases e
theorem LkAt.tupl (L : LkAt CL CK H lk dx kd A R Pt ps ah rms) {a : Addr} {ys : List V} (e : H a = some (.tup ys)) (k : Keep [R, Pt] H H') : H' a = some (.tup ys) := by
  obtain ⟨tb, hT, oT⟩ := L.tab
  refine k.at e fun z => ?_
  rcases List.mem_cons.mp z with z | z
  · rw [z, L.rms] at e; cases e
  · rw [List.mem_singleton.mp z, hT] at e; cases e
end
theorem szs_take {l : List Dt} {i : Nat} {x : Dt} (h : l[i]? = some x) : Dt.szs (l.take (i + 1)) = Dt.szs (l.take i) + x.sz ∧ Dt.szs (l.take (i + 1)) ≤ Dt.szs l := by
  have app : ∀ a b : List Dt, Dt.szs (a ++ b) = Dt.szs a + Dt.szs b := fun a b => by
    induction a with
    | nil => simp [Dt.szs]
    | cons z r ih => rw [List.cons_append]; simp only [Dt.szs]; omega
  have h1 : l.take (i + 1) = l.take i ++ [x] := by rw [List.take_add_one, h]; rfl
  refine ⟨?_, ?_⟩
  · rw [h1, app]; simp only [Dt.szs]; omega
  · have h2 := app (l.take (i + 1)) (l.drop (i + 1))
    rw [List.take_append_drop] at h2
    omega
section
variable {P : Program} {w : World} {K : PySem.W.Frag} {mg : Str → Option Value} {base : Heap} {CL CK Pt fBd fSt fRm fGa fCa fPk fTx fNm fWh fTe fIk : Addr}
theorem ok_plK {f : Addr} {fd dI : FuncData} (F : Fun K "_is_plain_kind" "_is_plain_kind" sPlK f fd) (T : PGx K mg CL CK fBd fSt fRm fGa fCa fPk fTx fNm fWh fTe fIk) (FI : FnOk P w K mg base CX0 2 fIk dI ["self", "thing"] (spKdT CK)) (bI : Binds K dI ["self", "thing"] []) : FnOk P w K mg base CX0 3 f fd aPlK (spPlK CL CK Pt) := by
  refine F.ok scPlK (fun vs H Q E h => ?_) (fun cdv A0 outer s H vs Q Es hr h => ?_)
  · obtain ⟨lk, dx, kd, A, R, ps, ah, rms, p, t, v, rfl, _⟩ := h
    rfl
  · obtain ⟨lk, dx, kd, A, R, ps, ah, rms, p, t, v, rfl, L, hw, ht, kk⟩ := h
    refine ⟨_, (pss_one (ps_ret (pe_and (pe_meth (pe_fld (pv 0) rfl) T.cl T.mK FI hr bI .nil pass0 (pa_cons (pv 1) pa_nil)) (pe_one (pe_cmpR op_ne (pv 1) pe_str (nomark _)))))), ?_⟩
    obtain ⟨kx, dd, q1, q2⟩ := id L.kin
    refine ⟨_, rfl, lk, CL, dx, _, _, rfl, L.ins, T.clL, T.nKn, fl_known, kd, kx, _, rfl, q1, ab_no _ (by decide +kernel), _, rfl, p, kd, toTh t, v, ps, rfl, L.kin, ht.th, _, rfl, ?_⟩
    have nS := hw.not_sheaf
    cases t with
    | flat u =>
      simp only [DtAt] at ht
      obtain ⟨rfl, f⟩ := ht
      cases v with
      | str z =>
        have e : isK ps (toTh (.flat (.str z))) = decide (z ∈ allK ps) := rfl
        have e2 : plainK ps (.flat (.str z)) = decide (z ∈ sF :: ps.map Prod.fst) := rfl
        rw [e]
        rw [e2] at kk
        by_cases h : z ∈ allK ps
        · rw [decide_eq_true h]
          refine iteT ⟨_, rfl, rfl, ?_⟩
          by_cases hs : z = sS
          · subst hs
            rw [decide_eq_false (fun q => nS _ q rfl)] at kk
            rw [decide_eq_true (rfl : V.str sS = V.str sS)]
            exact kk
          · have m : z ∈ sF :: ps.map Prod.fst := by
              rcases List.mem_cons.mp h with q | q
              · rw [q]; exact List.mem_cons_self
              · rcases List.mem_cons.mp q with q | q
                · exact absurd q hs
                · exact List.mem_cons_of_mem _ q
            rw [decide_eq_true m] at kk
            show Q (.bl (!decide (V.str z = V.str sS))) H
            rw [decide_eq_false (fun q => hs (V.str.inj q))]
            exact kk
        · rw [decide_eq_false h]
          have m : ¬ z ∈ sF :: ps.map Prod.fst := fun q => h (by
            rcases List.mem_cons.mp q with q | q
            · rw [q]; exact List.mem_cons_self
            · exact List.mem_cons_of_mem _ (List.mem_cons_of_mem _ q))
          rw [decide_eq_false m] at kk
          exact iteF kk
      | _ => first | exact f.elim | exact iteF kk
    | _ => exact iteF kk
end
end Fs
/-! The program: bodies, what is gathered, catchers: their walks. -/
namespace Fs
open PySem L2 TL
section
variable {P : Program} {w : World} {K : PySem.W.Frag} {mg : Str → Option Value} {base : Heap} {CL CK Pt fBd fSt fRm fGa fCa fPk fTx fNm fWh fTe fIk : Addr}
theorem bdyS {fd dS : FuncData} {d : Nat} (F : Fun K "_is_body" "_is_body" sBdy fBd fd) (T : PGx K mg CL CK fBd fSt fRm fGa fCa fPk fTx fNm fWh fTe fIk) (FS : FnOk P w K mg base CX0 (5 + 2 * d) fSt dS ["look", "step", "level", "held", "free"] (spStp CL CK Pt d)) (bSt : Binds K dS ["look", "step", "level", "held", "free"] []) : FnOk P w K mg base CX0 (5 + 2 * d + 1) fBd fd aBdy (spBdy CL CK Pt (d + 1)) := by
  refine F.ok scBdy (fun vs H Q E h => ?_) (fun cdv A0 outer s H vs Q Es hr h => ?_)
  · obtain ⟨lk, dx, kd, A, R, ps, ah, rms, t, v, lev, held, free, rfl, _⟩ := h
    rfl
  · obtain ⟨lk, dx, kd, A, R, ps, ah, rms, t, v, lev, held, free, rfl, L, hw, ht, hn, hd, hsz, kk⟩ := h
    obtain ⟨t60, hdp⟩ := T.dp
    refine ⟨_, (pss_cons (ps_if (PW.pt (pw_or (pt_not (pt_val (pe_callB call_isi (by rfl) T.isi (by decide +kernel) (pa_cons (pv 1) (pa_cons (pe_bltn (v := .ty "list") (u := .type "list") (by rfl) T.lst (by decide +kernel) rfl) pa_nil))))) (pw_or1 (pt_cmpR op_gt (pv 2) (pe_glob (v := .int 60) rfl hdp ⟨_, rfl⟩) (nomark _))))) (pss_one (ps_ret pe_bl)) pss_nil)
      (pss_cons (ps_for PassesOwn.never rfl (pi_list (pv 1)) (pg_name (i := 5) scBdy.nd rfl (Or.inl rfl)) (pss_one (ps_if (pt_not (pt_val (pe_call FS hr rfl T.gSt T.kSt bSt .nil pass0 (pa_cons (pv 0) (pa_cons (pv 5) (pa_cons (pv 2) (pa_cons (pv 3) (pa_cons (pv 4) pa_nil)))))))) (pss_one (ps_ret pe_bl)) pss_nil)))
      (pss_one (ps_ret pe_bl)))), ?_⟩
    obtain ⟨ty, i1, _, i2⟩ := isi_dt (K := K) ht
    refine ⟨_, rfl, _, _, _, _, _, rfl, .ty "list", i1, kit_ty i2, isLs t, rfl, ?_⟩
    cases hl : isLs t with
    | false =>
      have e : bodyF ps ah (d + 1) lev held free t rms = none := by
        cases t with
        | lst l => cases hl
        | _ => simp only [bodyF]
      rw [e] at kk
      exact iteT (kk H rms (fun r h => nomatch h) L (Keep.refl _ _) (Nat.le_add_right _ _))
    | true =>
    obtain ⟨l, rfl⟩ : ∃ l, t = .lst l := by
      cases t with
      | lst l => exact ⟨l, rfl⟩
      | _ => cases hl
    refine iteF ⟨_, rfl, _, _, rfl, rfl, _, rfl, ?_⟩
    by_cases h60 : 60 < lev
    · have e : bodyF ps ah (d + 1) lev held free (.lst l) rms = none := by simp only [bodyF]; exact if_pos h60
      rw [e] at kk
      rw [decide_eq_true (by omega)]
      exact iteT (kk H rms (fun r h => nomatch h) L (Keep.refl _ _) (Nat.le_add_right _ _))
    have eB : bodyF ps ah (d + 1) lev held free (.lst l) rms = foldO (stepF ps ah d lev held free) l rms := by simp only [bodyF]; exact if_neg h60
    rw [eB] at kk
    rw [decide_eq_false (by omega)]
    refine iteF ?_
    simp only [DtAt] at ht
    obtain ⟨a, ys, rfl, na, ea, tl⟩ := ht
    have hnl : nices l = true := by simp only [nice] at hn; exact hn
    have hszl : Dt.szs l + 1 = Dt.sz (.lst l) := by simp only [Dt.sz]
    have hdl : Dt.dps l < d := by simp only [Dt.dp] at hd; omega
    have ly := tl.len
    refine ⟨_, rfl, a, rfl, ⟨_, SqL.of ea⟩, ?_⟩
    refine for_list (xs := ys) (fun i σ G => ∃ (v5 : Option V) (rmi : List Str), σ = [some (.ref lk), some (.ref a), some (.int (lev : Int)), some (.bl held), some (.bl free), v5] ∧ foldO (stepF ps ah d lev held free) (l.take i) rms = some rmi ∧ LkAt CL CK G lk dx kd A R Pt ps ah rmi ∧ Keep [R, Pt] H G ∧ rmi.length ≤ rms.length + Dt.szs (l.take i)) ⟨none, rms, rfl, rfl, L, Keep.refl _ _, Nat.le_add_right _ _⟩ ?_ ?_ ?_
    · rintro i σ G hi ⟨v5, rmi, rfl, h0, LG, kG, lG⟩
      exact SqL.of (L.lst ea na kG)
    · rintro i x σ G hx ⟨v5, rmi, rfl, h0, LG, kG, lG⟩
      have hil : i < l.length := by rw [← ly]; exact (List.getElem?_eq_some_iff.mp hx).1
      have hs := List.getElem?_eq_getElem hil
      generalize l[i] = s at hs
      obtain ⟨y, hy, ts⟩ := tl.get i s hs
      rw [hx] at hy
      obtain rfl := Option.some.inj hy
      have hsm := List.mem_of_getElem? hs
      obtain ⟨z1, z2⟩ := szs_take hs
      obtain ⟨f1, f2⟩ := foldO_step hs h0
      have tsG := L.dt ts kG
      have nG := nices_in hnl hsm
      have dG := Dt.dp_in hsm
      refine ⟨_, rfl, _, rfl, _, rfl, _, rfl, _, rfl, lk, dx, kd, A, R, ps, ah, rmi, s, x, lev, held, free, rfl, LG, hw, tsG, nG, by omega, by omega, fun G2 rm2 hr2 L2 k2 l2 => ?_⟩
      have kG2 := kG.trans k2
      cases hf : stepF ps ah d lev held free s rmi with
      | none =>
        refine ⟨false, rfl, iteT ?_⟩
        have e := f2 hf
        rw [e] at kk
        exact kk G2 rm2 (fun r h => nomatch h) L2 kG2 (by omega)
      | some r =>
        refine ⟨true, rfl, iteF ?_⟩
        have er := hr2 r hf
        subst er
        exact ⟨_, rm2, rfl, by rw [f1, hf], L2, kG2, by omega⟩
    · rintro σ G ⟨v5, rmi, rfl, h0, LG, kG, lG⟩
      rw [ly, List.take_length] at h0 lG
      rw [h0] at kk
      exact kk G rmi (fun r h => (Option.some.inj h)) LG kG (by omega)
theorem gthS {fd dB : FuncData} {d : Nat} (F : Fun K "_are_gathered" "_are_gathered" sGth fGa fd) (T : PGx K mg CL CK fBd fSt fRm fGa fCa fPk fTx fNm fWh fTe fIk) (FB : FnOk P w K mg base CX0 (5 + 2 * d) fBd dB aBdy (spBdy CL CK Pt d)) (bBd : Binds K dB aBdy []) : FnOk P w K mg base CX0 (5 + 2 * d + 1) fGa fd aGth (spGth CL CK Pt (d + 1)) := by
  refine F.ok scGth (fun vs H Q E h => ?_) (fun cdv A0 outer s H vs Q Es hr h => ?_)
  · obtain ⟨lk, dx, kd, A, R, ps, ah, rms, t, v, lev, held, rfl, _⟩ := h
    rfl
  · obtain ⟨lk, dx, kd, A, R, ps, ah, rms, t, v, lev, held, rfl, L, hw, ht, hn, hd, hsz, kk⟩ := h
    refine ⟨_, (pss_cons (ps_if (PW.pt (pw_or (pt_not (pt_val (pe_callB call_isi (by rfl) T.isi (by decide +kernel) (pa_cons (pv 1) (pa_cons (pe_bltn (v := .ty "list") (u := .type "list") (by rfl) T.lst (by decide +kernel) rfl) pa_nil))))) (pw_or1 (pt_not (pt_truth (pv 1) (fun _ => rfl)))))) (pss_one (ps_ret pe_bl)) pss_nil)
      (pss_cons (ps_for PassesOwn.never rfl (pi_list (pv 1)) (pg_name (i := 4) scGth.nd rfl (Or.inl rfl)) (pss_one (ps_if (pt_not (pt_val (pe_call FB hr rfl T.gBd T.kBd bBd .nil pass0 (pa_cons (pv 0) (pa_cons (pv 4) (pa_cons (pe_op op_add (pv 2) pe_int) (pa_cons (pv 3) (pa_cons pe_bl pa_nil)))))))) (pss_one (ps_ret pe_bl)) pss_nil)))
      (pss_one (ps_ret pe_bl)))), ?_⟩
    obtain ⟨ty, i1, _, i2⟩ := isi_dt (K := K) ht
    refine ⟨_, rfl, _, _, _, _, _, rfl, .ty "list", i1, kit_ty i2, isLs t, rfl, ?_⟩
    cases hl : isLs t with
    | false =>
      have e : gathF ps ah (d + 1) lev held t rms = none := by
        cases t with
        | lst l => cases hl
        | _ => simp only [gathF]
      rw [e] at kk
      exact iteT (kk H rms (fun r h => nomatch h) L (Keep.refl _ _) (Nat.le_add_right _ _))
    | true =>
    obtain ⟨l, rfl⟩ : ∃ l, t = .lst l := by
      cases t with
      | lst l => exact ⟨l, rfl⟩
      | _ => cases hl
    refine iteF ?_
    simp only [DtAt] at ht
    obtain ⟨a, ys, rfl, na, ea, tl⟩ := ht
    have hnl : nices l = true := by simp only [nice] at hn; exact hn
    have hszl : Dt.szs l + 1 = Dt.sz (.lst l) := by simp only [Dt.sz]
    have hdl : Dt.dps l < d := by simp only [Dt.dp] at hd; omega
    have ly := tl.len
    refine ⟨_, rfl, !ys.isEmpty, .inl ⟨_, SqL.of ea, rfl⟩, ?_⟩
    by_cases h0 : l = []
    · have e : gathF ps ah (d + 1) lev held (.lst l) rms = none := by simp only [gathF]; rw [h0]; rfl
      have ey : ys = [] := List.length_eq_zero_iff.mp (by rw [ly, h0]; rfl)
      rw [e] at kk
      rw [ey]
      exact iteT (kk H rms (fun r h => nomatch h) L (Keep.refl _ _) (Nat.le_add_right _ _))
    have eB : gathF ps ah (d + 1) lev held (.lst l) rms = foldO (bodyF ps ah d (lev + 1) held false) l rms := by
      simp only [gathF]
      rw [show l.isEmpty = false by cases q : l with | nil => exact absurd q h0 | cons a b => rfl]
      rfl
    rw [eB] at kk
    rw [show ys.isEmpty = false by cases q : ys with | nil => (rw [q] at ly; exact absurd (List.length_eq_zero_iff.mp ly.symm) h0) | cons a b => rfl]
    refine iteF ?_
    refine ⟨_, rfl, a, rfl, ⟨_, SqL.of ea⟩, ?_⟩
    refine for_list (xs := ys) (fun i σ G => ∃ (v4 : Option V) (rmi : List Str), σ = [some (.ref lk), some (.ref a), some (.int (lev : Int)), some (.bl held), v4] ∧ foldO (bodyF ps ah d (lev + 1) held false) (l.take i) rms = some rmi ∧ LkAt CL CK G lk dx kd A R Pt ps ah rmi ∧ Keep [R, Pt] H G ∧ rmi.length ≤ rms.length + Dt.szs (l.take i)) ⟨none, rms, rfl, rfl, L, Keep.refl _ _, Nat.le_add_right _ _⟩ ?_ ?_ ?_
    · rintro i σ G hi ⟨v4, rmi, rfl, h0, LG, kG, lG⟩
      exact SqL.of (L.lst ea na kG)
    · rintro i x σ G hx ⟨v4, rmi, rfl, h0, LG, kG, lG⟩
      have hil : i < l.length := by rw [← ly]; exact (List.getElem?_eq_some_iff.mp hx).1
      have hs := List.getElem?_eq_getElem hil
      generalize l[i] = s at hs
      obtain ⟨y, hy, ts⟩ := tl.get i s hs
      rw [hx] at hy
      obtain rfl := Option.some.inj hy
      have hsm := List.mem_of_getElem? hs
      obtain ⟨z1, z2⟩ := szs_take hs
      obtain ⟨f1, f2⟩ := foldO_step hs h0
      have tsG := L.dt ts kG
      have nG := nices_in hnl hsm
      have dG := Dt.dp_in hsm
      refine ⟨_, rfl, _, rfl, _, rfl, _, _, rfl, rfl, _, rfl, lk, dx, kd, A, R, ps, ah, rmi, s, x, lev + 1, held, false, rfl, LG, hw, tsG, nG, by omega, by omega, fun G2 rm2 hr2 L2 k2 l2 => ?_⟩
      have kG2 := kG.trans k2
      cases hf : bodyF ps ah d (lev + 1) held false s rmi with
      | none =>
        refine ⟨false, rfl, iteT ?_⟩
        have e := f2 hf
        rw [e] at kk
        exact kk G2 rm2 (fun r h => nomatch h) L2 kG2 (by omega)
      | some r =>
        refine ⟨true, rfl, iteF ?_⟩
        have er := hr2 r hf
        subst er
        exact ⟨_, rm2, rfl, by rw [f1, hf], L2, kG2, by omega⟩
    · rintro σ G ⟨v4, rmi, rfl, h0, LG, kG, lG⟩
      rw [ly, List.take_length] at h0 lG
      rw [h0] at kk
      exact kk G rmi (fun r h => (Option.some.inj h)) LG kG (by omega)
end
end Fs
/-! The program: catchers. -/
namespace Fs
open PySem L2 TL
theorem itN {c A B : Prop} [Decidable c] (hc : ¬ c) (h : A) : if (!decide c) = true then A else B := by
  rw [decide_eq_false hc]
  exact iteT h
theorem two_of {p : List Addr} {H : Hp} {l : List Dt} {us : List V} (h : DtsAt p H l us) (e : us.length = 2) : ∃ x y u v, l = [x, y] ∧ us = [u, v] ∧ DtAt p H x u ∧ DtAt p H y v := by
  have hl := h.len
  match l, us, h, e, hl with
  | [x, y], [u, v], h, _, _ =>
    simp only [DtsAt] at h
    exact ⟨x, y, u, v, rfl, rfl, h.1, h.2.1⟩
  | [], [u, v], _, _, hl => cases hl
  | [x], [u, v], _, _, hl => cases hl
  | x :: y :: z :: r, [u, v], _, _, hl => cases hl
section
variable {P : Program} {w : World} {K : PySem.W.Frag} {mg : Str → Option Value} {base : Heap} {CL CK Pt fBd fSt fRm fGa fCa fPk fTx fNm fWh fTe fIk : Addr}
theorem ctsS {fd dB dT : FuncData} {d : Nat} (F : Fun K "_are_catchers" "_are_catchers" sCts fCa fd) (T : PGx K mg CL CK fBd fSt fRm fGa fCa fPk fTx fNm fWh fTe fIk) (FB : FnOk P w K mg base CX0 (5 + 2 * d) fBd dB aBdy (spBdy CL CK Pt (d - 1))) (bBd : Binds K dB aBdy [])
    (FT : FnOk P w K mg base CX0 4 fTe dT ["kinds", "thing"] (spTeT CK)) (bTe : Binds K dT ["kinds", "thing"] []) : FnOk P w K mg base CX0 (5 + 2 * d + 1) fCa fd aCts (spCts CL CK Pt (d + 1)) := by
  refine F.ok scCts (fun vs H Q E h => ?_) (fun cdv A0 outer s H vs Q Es hr h => ?_)
  · obtain ⟨lk, dx, kd, A, R, ps, ah, rms, t, v, lev, free, rfl, _⟩ := h
    rfl
  · obtain ⟨lk, dx, kd, A, R, ps, ah, rms, t, v, lev, free, rfl, L, hw, ht, hn, hd, hsz, kk⟩ := h
    have hrT : Room 4 _ := hr.mono (by omega)
    refine ⟨_, (pss_cons (ps_if (pt_not (pt_val (pe_callB call_isi (by rfl) T.isi (by decide +kernel) (pa_cons (pv 1) (pa_cons (pe_bltn (v := .ty "list") (u := .type "list") (by rfl) T.lst (by decide +kernel) rfl) pa_nil))))) (pss_one (ps_ret pe_bl)) pss_nil)
      (pss_cons (ps_for PassesOwn.never rfl (pi_list (pv 1)) (pg_name (i := 4) scCts.nd rfl (Or.inl rfl)) (pss_cons (ps_if (PW.pt (pw_or (pt_not (pt_val (pe_callB call_isi (by rfl) T.isi (by decide +kernel) (pa_cons (pv 4) (pa_cons (pe_bltn (v := .ty "tuple") (u := .type "tuple") (by rfl) T.tup (by decide +kernel) rfl) pa_nil))))) (pw_or1 (pt_cmpR op_ne (pe_callB call_len_seq (by rfl) T.len PySem.boot_len (pa_cons (pv 4) pa_nil)) pe_int (nomark _))))) (pss_one (ps_ret pe_bl)) pss_nil)
      (pss_cons (ps_asg (pv 4) (pg_tup rfl (pgs_cons (pg_name (i := 5) scCts.nd rfl (Or.inl rfl)) (pgs_cons (pg_name (i := 6) scCts.nd rfl (Or.inl rfl)) pgs_nil))))
      (pss_one (ps_if (PW.pt (pw_or (pt_not (pt_val (pe_call FT hrT rfl T.gTe T.kTe bTe .nil pass0 (pa_cons (pe_fld (pv 0) rfl) (pa_cons (pv 5) pa_nil))))) (pw_or1 (pt_not (pt_val (pe_call FB hr rfl T.gBd T.kBd bBd .nil pass0 (pa_cons (pv 0) (pa_cons (pv 6) (pa_cons (pe_op op_add (pv 2) pe_int) (pa_cons pe_bl (pa_cons (pv 3) pa_nil))))))))))) (pss_one (ps_ret pe_bl)) pss_nil)))))
      (pss_one (ps_ret pe_bl)))), ?_⟩
    obtain ⟨ty, i1, _, i2⟩ := isi_dt (K := K) ht
    refine ⟨_, rfl, _, _, _, _, _, rfl, .ty "list", i1, kit_ty i2, isLs t, rfl, ?_⟩
    cases hl : isLs t with
    | false =>
      have e : catsF ps ah (d + 1) lev free t rms = none := by
        cases t with
        | lst l => cases hl
        | _ => simp only [catsF]
      rw [e] at kk
      exact iteT (kk H rms (fun r h => nomatch h) L (Keep.refl _ _) (Nat.le_add_right _ _))
    | true =>
    obtain ⟨l, rfl⟩ : ∃ l, t = .lst l := by
      cases t with
      | lst l => exact ⟨l, rfl⟩
      | _ => cases hl
    refine iteF ?_
    simp only [DtAt] at ht
    obtain ⟨a, ys, rfl, na, ea, tl⟩ := ht
    have hnl : nices l = true := by simp only [nice] at hn; exact hn
    have hszl : Dt.szs l + 1 = Dt.sz (.lst l) := by simp only [Dt.sz]
    have hdl : Dt.dps l < d := by simp only [Dt.dp] at hd; omega
    have ly := tl.len
    obtain ⟨e, rfl⟩ : ∃ e, d = e + 1 := ⟨d - 1, by omega⟩
    have eB : catsF ps ah (e + 1 + 1) lev free (.lst l) rms = foldO (catF ps ah (e + 1) lev free) l rms := by simp only [catsF]
    rw [eB] at kk
    refine ⟨_, rfl, a, rfl, ⟨_, SqL.of ea⟩, ?_⟩
    refine for_list (xs := ys) (fun i σ G => ∃ (v4 v5 v6 : Option V) (rmi : List Str), σ = [some (.ref lk), some (.ref a), some (.int (lev : Int)), some (.bl free), v4, v5, v6] ∧ foldO (catF ps ah (e + 1) lev free) (l.take i) rms = some rmi ∧ LkAt CL CK G lk dx kd A R Pt ps ah rmi ∧ Keep [R, Pt] H G ∧ rmi.length ≤ rms.length + Dt.szs (l.take i)) ⟨none, none, none, rms, rfl, rfl, L, Keep.refl _ _, Nat.le_add_right _ _⟩ ?_ ?_ ?_
    · rintro i σ G hi ⟨v4, v5, v6, rmi, rfl, h0, LG, kG, lG⟩
      exact SqL.of (L.lst ea na kG)
    · rintro i x σ G hx ⟨v4, v5, v6, rmi, rfl, h0, LG, kG, lG⟩
      have hil : i < l.length := by rw [← ly]; exact (List.getElem?_eq_some_iff.mp hx).1
      have hs := List.getElem?_eq_getElem hil
      generalize l[i] = s at hs
      obtain ⟨y, hy, ts⟩ := tl.get i s hs
      rw [hx] at hy
      obtain rfl := Option.some.inj hy
      have hsm := List.mem_of_getElem? hs
      obtain ⟨z1, z2⟩ := szs_take hs
      obtain ⟨f1, f2⟩ := foldO_step hs h0
      have tsG := L.dt ts kG
      have nG := nices_in hnl hsm
      have dG := Dt.dp_in hsm
      have out : catF ps ah (e + 1) lev free s rmi = none → ∀ (G2 : Hp) (rm2 : List Str), LkAt CL CK G2 lk dx kd A R Pt ps ah rm2 → Keep [R, Pt] H G2 → rm2.length ≤ rms.length + Dt.sz (.lst l) → Q (.bl false) G2 := fun en G2 rm2 L2 k2 l2 => by
        rw [f2 en] at kk
        exact kk G2 rm2 (fun r h => nomatch h) L2 k2 l2
      obtain ⟨ty, j1, j2, _⟩ := isi_dt (K := K) tsG
      refine ⟨_, rfl, _, _, _, _, _, rfl, .ty "tuple", j1, kit_ty j2, isTp s, rfl, ?_⟩
      cases hp : isTp s with
      | false =>
        refine iteT (out ?_ G rmi LG kG (by omega))
        cases s with
        | tup l => cases hp
        | _ => simp only [catF]
      | true =>
      refine iteF ?_
      obtain ⟨cs, rfl⟩ : ∃ cs, s = .tup cs := by
        cases s with
        | tup l => exact ⟨l, rfl⟩
        | _ => cases hp
      simp only [DtAt] at tsG
      obtain ⟨b, us, rfl, eb, tc⟩ := tsG
      refine ⟨_, rfl, b, us, rfl, .inr (SqT.of eb), rfl, _, rfl, ?_⟩
      by_cases h2 : us.length = 2
      case neg =>
        refine itN (fun z => h2 (by have := V.int.inj z; omega)) ?_
        refine out ?_ G rmi LG kG (by omega)
        have hc := tc.len
        match cs, hc with
        | [], _ => simp only [catF]
        | [x], _ => simp only [catF]
        | [x, y], hc => exact absurd hc h2
        | x :: y :: z :: r, _ => simp only [catF]
      obtain ⟨te, bo, u, v, rfl, rfl, dte, dbo⟩ := two_of tc h2
      refine iteNS rfl ?_
      refine ⟨_, rfl, b, _, rfl, SqT.of eb, rfl, _, _, rfl, _, _, rfl, rfl, ?_⟩
      have kn : DtsAt [A, R] G [te, bo] [u, v] := tc
      have ec : catF ps ah (e + 1) lev free (.tup [te, bo]) rmi = if isP ps (toTh te) then bodyF ps ah e (lev + 1) true free bo rmi else none := by simp only [catF]
      rw [ec] at f1 f2 out
      have szt : Dt.sz (.tup [te, bo]) = te.sz + bo.sz + 1 := by simp only [Dt.sz, Dt.szs]; omega
      have dpt : te.dp < e ∧ bo.dp < e := by
        simp only [Dt.dp, Dt.dps] at dG
        omega
      have nbo : nice bo = true := by
        simp only [nice, nices, Bool.and_eq_true] at nG
        exact nG.1.2.1
      have st := sz_th te
      refine ⟨_, rfl, lk, CL, dx, _, _, rfl, LG.ins, T.clL, T.nKn, fl_known, _, rfl, [A, R], kd, u, ps, toTh te, rfl, LG.kin, dte.th, by omega, fun G1 k1 => ⟨_, rfl, ?_⟩⟩
      have kG1 : Keep [R, Pt] H G1 := kG.trans (k1.more fun b hb => absurd hb List.not_mem_nil)
      have L1 := LG.keep0 k1
      have d1 := dbo.keep0 k1
      cases hte : isP ps (toTh te) with
      | false =>
        refine iteT (out ?_ G1 rmi L1 kG1 (by omega))
        rw [hte]; rfl
      | true =>
      rw [hte, if_pos rfl] at f1 f2 out
      refine iteF ?_
      refine ⟨_, rfl, _, rfl, _, rfl, _, _, rfl, rfl, _, rfl, lk, dx, kd, A, R, ps, ah, rmi, bo, v, lev + 1, true, free, rfl, L1, hw, d1, nbo, dpt.2, by omega, fun G2 rm2 hr2 L2 k2 l2 => ?_⟩
      have kG2 := kG1.trans k2
      cases hf : bodyF ps ah e (lev + 1) true free bo rmi with
      | none =>
        rw [show bodyF ps ah (e + 1 - 1) (lev + 1) true free bo rmi = none from hf]
        exact ⟨false, rfl, iteT (out hf G2 rm2 L2 kG2 (by omega))⟩
      | some r =>
        rw [show bodyF ps ah (e + 1 - 1) (lev + 1) true free bo rmi = some r from hf]
        refine ⟨true, rfl, iteF ?_⟩
        have er := hr2 r hf
        subst er
        exact ⟨_, _, _, rm2, rfl, by rw [f1, hf], L2, kG2, by omega⟩
    · rintro σ G ⟨v4, v5, v6, rmi, rfl, h0, LG, kG, lG⟩
      rw [ly, List.take_length] at h0 lG
      rw [h0] at kk
      exact kk G rmi (fun r h => (Option.some.inj h)) LG kG (by omega)
end
end Fs
/-! The program: rooms. -/
namespace Fs
open PySem L2 TL
abbrev sRm : Stmt := top 22 --def _is_room
abbrev aRm : List Str := ["look", "step", "level", "held", "free"]
abbrev nRm : List Str := ["look", "step", "level", "held", "free", "_", "name", "body", "way", "catchers", "otherwise", "leaving", "inner"]
theorem scRm : FnScope nRm aRm (defScope sRm) := ⟨rfl, rfl, rfl, by decide +kernel, rfl, by decide +kernel, by decide +kernel⟩
theorem Dt.pos (t : Dt) : 0 < t.sz := by
  cases t <;> simp only [Dt.sz] <;> omega
theorem seven_of {p : List Addr} {H : Hp} {l : List Dt} {us : List V} (h : DtsAt p H l us) (e : l.length = 7) : ∃ x0 x1 x2 x3 x4 x5 x6 v0 v1 v2 v3 v4 v5 v6, l = [x0, x1, x2, x3, x4, x5, x6] ∧ us = [v0, v1, v2, v3, v4, v5, v6] ∧ DtAt p H x1 v1 ∧ DtAt p H x2 v2 ∧ DtAt p H x3 v3 ∧ DtAt p H x4 v4 ∧ DtAt p H x5 v5 ∧ DtAt p H x6 v6 := by
  have hl := h.len
  rw [e] at hl
  match l, e with
  | [x0, x1, x2, x3, x4, x5, x6], _ =>
    match us, hl with
    | [v0, v1, v2, v3, v4, v5, v6], _ =>
      simp only [DtsAt] at h
      exact ⟨_, _, _, _, _, _, _, _, _, _, _, _, _, _, rfl, rfl, h.2.1, h.2.2.1, h.2.2.2.1, h.2.2.2.2.1, h.2.2.2.2.2.1, h.2.2.2.2.2.2.1⟩
def spRm (CL CK Pt : Addr) (d : Nat) : Sp := fun vs H Q _ => ∃ (lk dx kd A R b : Addr) (ps : List (Str × Str)) (ah rms : List Str) (l : List Dt) (us : List V) (lev : Nat) (held free : Bool), vs = [.ref lk, .ref b, .int (lev : Int), .bl held, .bl free] ∧ LkAt CL CK H lk dx kd A R Pt ps ah rms ∧ Wf ps ∧ H b = some (.tup us) ∧ DtsAt [A, R] H l us ∧ l.length = 7 ∧ isFl (l.getD 3 .dct) = true ∧ nices l = true ∧ Dt.dps l < d ∧ rms.length + Dt.szs l ≤ 9000 ∧
  Goes CL CK Pt lk dx kd A R ps ah rms H (Dt.szs l) (roomB (fun fr => bodyF ps ah d (lev + 1) held fr) (fun fr => catsF ps ah d lev fr) free l rms) Q
theorem inAhead_way (t : Dt) : inAhead [pWhole, pOut] t = wayOk t := by
  cases t with
  | flat v =>
    cases v with
    | str z =>
      show decide (z ∈ [pWhole, pOut]) = (decide (z = pWhole) || decide (z = pOut))
      simp [List.mem_cons, Bool.decide_or]
    | _ => rfl
  | _ => rfl
theorem fold3 {α : Type} (f : Dt → α → Option α) (a b c : Dt) (r : α) : foldO f [a, b, c] r = ((f a r).bind (f b)).bind (f c) := by
  show (f a r).bind (fun s => (f b s).bind fun t => (f c t).bind some) = _
  cases f a r with
  | none => rfl
  | some s =>
    show (f b s).bind (fun t => (f c t).bind some) = (f b s).bind (f c)
    cases f b s with
    | none => rfl
    | some t =>
      show (f c t).bind some = f c t
      cases f c t <;> rfl
section
variable {P : Program} {w : World} {K : PySem.W.Frag} {mg : Str → Option Value} {base : Heap} {CL CK Pt fBd fSt fRm fGa fCa fPk fTx fNm fWh fTe fIk : Addr}
theorem roomS {fd dB dC dN : FuncData} {d k : Nat} (F : Fun K "_is_room" "_is_room" sRm fRm fd) (T : PGx K mg CL CK fBd fSt fRm fGa fCa fPk fTx fNm fWh fTe fIk) (hk : 2 ≤ k) (FB : FnOk P w K mg base CX0 k fBd dB aBdy (spBdy CL CK Pt d)) (bBd : Binds K dB aBdy [])
    (FC : FnOk P w K mg base CX0 k fCa dC aCts (spCts CL CK Pt d)) (bCa : Binds K dC aCts []) (FN : FnOk P w K mg base CX0 2 fNm dN ["thing"] (spNmD Pt)) (bNm : Binds K dN ["thing"] []) : FnOk P w K mg base CX0 (k + 1) fRm fd aRm (spRm CL CK Pt d) := by
  refine F.ok scRm (fun vs H Q E h => ?_) (fun cdv A0 outer s H vs Q Es hr h => ?_)
  · obtain ⟨lk, dx, kd, A, R, b, ps, ah, rms, l, us, lev, held, free, rfl, _⟩ := h
    rfl
  · obtain ⟨lk, dx, kd, A, R, b, ps, ah, rms, l, us, lev, held, free, rfl, L, hw, eb, ht, h7, hfl, hn, hd, hsz, kk⟩ := h
    have hrN : Room 2 _ := hr.mono (by omega)
    refine ⟨_, (pss_cons (ps_asg (pv 1) (pg_tup rfl (pgs_cons (pg_name (i := 5) scRm.nd rfl (Or.inl rfl)) (pgs_cons (pg_name (i := 6) scRm.nd rfl (Or.inl rfl)) (pgs_cons (pg_name (i := 7) scRm.nd rfl (Or.inl rfl)) (pgs_cons (pg_name (i := 8) scRm.nd rfl (Or.inl rfl)) (pgs_cons (pg_name (i := 9) scRm.nd rfl (Or.inl rfl)) (pgs_cons (pg_name (i := 10) scRm.nd rfl (Or.inl rfl)) (pgs_cons (pg_name (i := 11) scRm.nd rfl (Or.inl rfl)) pgs_nil)))))))))
      (pss_cons (ps_if (PW.pt (pw_or (pt_not (pt_val (pe_call FN hrN rfl T.gNm T.kNm bNm .nil pass0 (pa_cons (pv 6) pa_nil)))) (pw_or1 (pt_cmpR op_in_seq (pv 6) (pe_fld (pv 0) rfl) (by rfl))))) (pss_one (ps_ret pe_bl)) pss_nil)
      (pss_cons (ps_expr (pe_bm PySem.F.plainAttrs_list PySem.F.slot_list_append PySem.F.type_list_append mt_append (pe_fld (pv 0) rfl) (pa_cons (pv 6) pa_nil)))
      (pss_cons (ps_if (pt_cmpR op_notIn_seq (pv 8) (pe_tup (pa_cons pe_str (pa_cons pe_str pa_nil))) (by rfl)) (pss_one (ps_ret pe_bl)) pss_nil)
      (pss_cons (ps_for PassesOwn.never rfl (pi_tup (pe_tup (pa_cons (pv 7) (pa_cons (pv 10) (pa_cons (pv 11) pa_nil))))) (pg_name (i := 12) scRm.nd rfl (Or.inl rfl)) (pss_one (ps_if (pt_not (pt_val (pe_call FB hr rfl T.gBd T.kBd bBd .nil pass0 (pa_cons (pv 0) (pa_cons (pv 12) (pa_cons (pe_op op_add (pv 2) pe_int) (pa_cons (pv 3) (pa_cons (pv 4) pa_nil)))))))) (pss_one (ps_ret pe_bl)) pss_nil)))
      (pss_one (ps_ret (pe_call FC hr rfl T.gCa T.kCa bCa .nil pass0 (pa_cons (pv 0) (pa_cons (pv 9) (pa_cons (pv 2) (pa_cons (pe_and (pv 4) (pe_one (pe_cmpR op_eq (pv 8) pe_str (nomark _)))) pa_nil)))))))))))), ?_⟩
    obtain ⟨x0, x1, x2, x3, x4, x5, x6, v0, v1, v2, v3, v4, v5, v6, rfl, rfl, d1, d2, d3, d4, d5, d6⟩ := seven_of ht h7
    refine ⟨_, rfl, b, _, rfl, SqT.of eb, rfl, ?_⟩
    refine ⟨_, _, rfl, _, _, rfl, _, _, rfl, _, _, rfl, _, _, rfl, _, _, rfl, _, _, rfl, rfl, ?_⟩
    have p0 := x0.pos
    have p1 := x1.pos
    have ezs : Dt.szs [x0, x1, x2, x3, x4, x5, x6] = x0.sz + (x1.sz + (x2.sz + (x3.sz + (x4.sz + (x5.sz + (x6.sz + 0)))))) := by simp only [Dt.szs]
    have edp : x2.dp < d ∧ x4.dp < d ∧ x5.dp < d ∧ x6.dp < d := by
      simp only [Dt.dps] at hd
      omega
    have eni : nice x2 = true ∧ nice x4 = true ∧ nice x5 = true ∧ nice x6 = true := by
      simp only [nices, Bool.and_eq_true] at hn
      exact ⟨hn.2.2.1, hn.2.2.2.2.1, hn.2.2.2.2.2.1, hn.2.2.2.2.2.2.1⟩
    have out : roomB (fun fr => bodyF ps ah d (lev + 1) held fr) (fun fr => catsF ps ah d lev fr) free [x0, x1, x2, x3, x4, x5, x6] rms = none → ∀ (G2 : Hp) (rm2 : List Str), LkAt CL CK G2 lk dx kd A R Pt ps ah rm2 → Keep [R, Pt] H G2 → rm2.length ≤ rms.length + Dt.szs [x0, x1, x2, x3, x4, x5, x6] → Q (.bl false) G2 := fun en G2 rm2 L2 k2 l2 => by
      rw [en] at kk
      exact kk G2 rm2 (fun r h => nomatch h) L2 k2 l2
    refine ⟨_, rfl, [A, R], x1, v1, rfl, d1, L.tab, fun H1 k1 t1 => ⟨_, rfl, ?_⟩⟩
    have L1 := L.keepT k1 t1
    have kG1 : Keep [R, Pt] H H1 := k1.more fun b hb => by rw [List.mem_singleton.mp hb]; exact List.mem_cons_of_mem _ List.mem_cons_self
    cases hnm : isNmD x1 with
    | false =>
      refine iteT (out ?_ H1 rms L1 kG1 (Nat.le_add_right _ _))
      cases x1 with
      | flat v =>
        cases v with
        | str z =>
          have e : nmB z = false := hnm
          simp only [roomB]
          rw [e]; rfl
        | _ => simp only [roomB]
      | _ => simp only [roomB]
    | true =>
    refine iteF ?_
    obtain ⟨z, rfl⟩ : ∃ z, x1 = .flat (.str z) := by
      cases x1 with
      | flat v => cases v <;> first | exact ⟨_, rfl⟩ | cases hnm
      | _ => cases hnm
    obtain rfl : v1 = .str z := by
      simp only [DtAt] at d1
      exact d1.1
    have hnz : nmB z = true := hnm
    have eR : roomB (fun fr => bodyF ps ah d (lev + 1) held fr) (fun fr => catsF ps ah d lev fr) free [x0, .flat (.str z), x2, x3, x4, x5, x6] rms = if decide (z ∈ rms) then none else if wayOk x3 then (foldO (bodyF ps ah d (lev + 1) held free) [x2, x5, x6] (rms ++ [z])).bind (catsF ps ah d lev (free && isWay pWhole x3) x4) else none := by
      rw [fold3]
      simp only [roomB]
      rw [hnz]
      cases decide (z ∈ rms) <;> rfl
    rw [eR] at kk out
    refine ⟨_, rfl, _, rfl, lk, CL, dx, _, _, rfl, L1.ins, T.clL, T.nRo, fl_rooms, R, _, rfl, .inl (SqL.of L1.rms), rfl, strs_all _, _, rfl, ?_⟩
    rw [inV_strs]
    cases hin : decide (z ∈ rms) with
    | true =>
      refine iteT (out ?_ H1 rms L1 kG1 (Nat.le_add_right _ _))
      rw [hin]; rfl
    | false =>
    rw [hin] at kk out
    rw [if_neg Bool.false_ne_true] at kk out
    refine iteF ?_
    refine ⟨_, rfl, lk, CL, dx, _, _, rfl, L1.ins, T.clL, T.nRo, fl_rooms, .inl ⟨rfl, _, SqL.of L1.rms⟩, _, rfl, R, _, _, rfl, rfl, L1.rms, ?_, ?_⟩
    · rw [List.length_map]
      exact Nat.lt_of_lt_of_le (by omega : rms.length < 9000) (by decide)
    obtain ⟨L2, kr⟩ := L1.room z
    generalize (upd H1 R (.lst (rms.map V.str ++ [.str z]))) = H2 at L2 kr ⊢
    have kG2 := kG1.trans kr
    have l2 : (rms ++ [z]).length = rms.length + 1 := by simp
    have D2 := L.dt d2 kG2
    have D3 := L.dt d3 kG2
    have D4 := L.dt d4 kG2
    have D5 := L.dt d5 kG2
    have D6 := L.dt d6 kG2
    have hf3 : isFl x3 = true := hfl
    obtain ⟨f3, i3⟩ := inV_flat D3 hf3 [pWhole, pOut]
    rw [inAhead_way] at i3
    refine ⟨_, rfl, (by show 2 ≤ sizeLine; decide), fun t ht0 => ⟨t, _, rfl, .inr (SqT.of upd_same), f3, rfl, _, rfl, ?_⟩⟩
    have k3 : Keep [] H2 (upd H2 t (.tup [.str pWhole, .str pOut])) := Keep.new ht0
    show if (!inV v3 ([pWhole, pOut].map V.str)) = true then _ else _
    rw [i3]
    have L3 := L2.keep0 k3
    have kG3 : Keep [R, Pt] H (upd H2 t (.tup [.str pWhole, .str pOut])) := kG2.trans (k3.more fun b hb => absurd hb List.not_mem_nil)
    cases hwy : wayOk x3 with
    | false =>
      refine iteT (out ?_ _ _ L3 kG3 (by omega))
      rw [hwy]; rfl
    | true =>
    rw [hwy, if_pos rfl] at kk out
    refine iteF ?_
    have n3 : ∀ b2 ∈ [R, Pt], H2 b2 ≠ none := fun b2 hb => by
      rcases List.mem_cons.mp hb with q | q
      · rw [q, L2.rms]; exact fun z => nomatch z
      · obtain ⟨tb, hT, oT⟩ := L2.tab
        rw [List.mem_singleton.mp q, hT]; exact fun z => nomatch z
    have D2 := D2.keep0 k3
    have D3 := D3.keep0 k3
    have D4 := D4.keep0 k3
    have D5 := D5.keep0 k3
    have D6 := D6.keep0 k3
    generalize (upd H2 t (.tup [.str pWhole, .str pOut])) = H3 at L3 kG3 D2 D3 D4 D5 D6 ⊢
    refine ⟨_, rfl, _, rfl, _, rfl, (by show 3 ≤ sizeLine; decide), fun q hq => ⟨q, rfl, ⟨_, SqT.of upd_same⟩, ?_⟩⟩
    have k4 : Keep [] H3 (upd H3 q (.tup [v2, v5, v6])) := Keep.new hq
    have e4 : (upd H3 q (.tup [v2, v5, v6])) q = some (.tup [v2, v5, v6]) := upd_same
    have L4 := L3.keep0 k4
    have kG4 : Keep [R, Pt] H (upd H3 q (.tup [v2, v5, v6])) := kG3.trans (k4.more fun b hb => absurd hb List.not_mem_nil)
    have D2 := D2.keep0 k4
    have D3 := D3.keep0 k4
    have D4 := D4.keep0 k4
    have D5 := D5.keep0 k4
    have D6 := D6.keep0 k4
    generalize (upd H3 q (.tup [v2, v5, v6])) = H4 at e4 L4 kG4 D2 D3 D4 D5 D6 ⊢
    have TL : DtsAt [A, R] H4 [x2, x5, x6] [v2, v5, v6] := by simp only [DtsAt]; exact ⟨D2, D5, D6, trivial⟩
    refine for_tup (xs := [v2, v5, v6]) (fun i σ G => ∃ (v12 : Option V) (rmi : List Str), σ = [some (.ref lk), some (.ref b), some (.int (lev : Int)), some (.bl held), some (.bl free), some v0, some (.str z), some v2, some v3, some v4, some v5, some v6, v12] ∧ foldO (bodyF ps ah d (lev + 1) held free) ([x2, x5, x6].take i) (rms ++ [z]) = some rmi ∧ LkAt CL CK G lk dx kd A R Pt ps ah rmi ∧ Keep [R, Pt] H4 G ∧ rmi.length ≤ rms.length + 1 + Dt.szs ([x2, x5, x6].take i)) ⟨none, rms ++ [z], rfl, rfl, L4, Keep.refl _ _, by rw [l2]; exact Nat.le_add_right _ _⟩ ?_ ?_ ?_
    · rintro i σ G hi ⟨v12, rmi, rfl, h0, LG, kG, lG⟩
      exact SqT.of (L4.tupl e4 kG)
    · rintro i x σ G hx ⟨v12, rmi, rfl, h0, LG, kG, lG⟩
      have hil : i < [x2, x5, x6].length := (List.getElem?_eq_some_iff.mp hx).1
      have hs := List.getElem?_eq_getElem hil
      generalize [x2, x5, x6][i] = s at hs
      obtain ⟨y, hy, ts⟩ := TL.get i s hs
      rw [hx] at hy
      obtain rfl := Option.some.inj hy
      obtain ⟨z1, z2⟩ := szs_take hs
      obtain ⟨f1, f2⟩ := foldO_step hs h0
      have e3 : Dt.szs [x2, x5, x6] = x2.sz + (x5.sz + (x6.sz + 0)) := by simp only [Dt.szs]
      have tsG := L4.dt ts kG
      have hsm : s = x2 ∨ s = x5 ∨ s = x6 := by
        have := List.mem_of_getElem? hs
        simpa using this
      have nG : nice s = true ∧ s.dp < d := by rcases hsm with q | q | q <;> rw [q] <;> simp [eni, edp]
      refine ⟨_, rfl, _, rfl, _, rfl, _, _, rfl, rfl, _, rfl, _, rfl, lk, dx, kd, A, R, ps, ah, rmi, s, x, lev + 1, held, free, rfl, LG, hw, tsG, nG.1, nG.2, by omega, fun G2 rm2 hr2 L2' k2 l2' => ?_⟩
      have kGG := kG.trans k2
      cases hf : bodyF ps ah d (lev + 1) held free s rmi with
      | none =>
        refine ⟨false, rfl, iteT (out ?_ G2 rm2 L2' (kG4.trans kGG) (by omega))⟩
        rw [f2 hf]; rfl
      | some r =>
        refine ⟨true, rfl, iteF ?_⟩
        have er := hr2 r hf
        subst er
        exact ⟨_, rm2, rfl, by rw [f1, hf], L2', kGG, by omega⟩
    · rintro σ G ⟨v12, rmi, rfl, h0, LG, kG, lG⟩
      have h0 : foldO (bodyF ps ah d (lev + 1) held free) [x2, x5, x6] (rms ++ [z]) = some rmi := h0
      have e3 : Dt.szs ([x2, x5, x6].take [v2, v5, v6].length) = x2.sz + (x5.sz + (x6.sz + 0)) := by
        show Dt.szs [x2, x5, x6] = _
        simp only [Dt.szs]
      rw [e3] at lG
      rw [h0] at kk
      have D4 := L4.dt D4 kG
      obtain ⟨wz, rfl⟩ : ∃ wz, x3 = .flat (.str wz) := by
        cases x3 with
        | flat v => cases v <;> first | exact ⟨_, rfl⟩ | cases hwy
        | _ => cases hwy
      obtain rfl : v3 = .str wz := by
        simp only [DtAt] at D3
        exact D3.1
      have fin : ∀ fr : Bool, fr = (free && isWay pWhole (.flat (.str wz))) → spCts CL CK Pt d [.ref lk, v4, .int (lev : Int), .bl fr] G Q Es := fun fr hfr => by
        refine ⟨lk, dx, kd, A, R, ps, ah, rmi, x4, v4, lev, fr, rfl, LG, hw, D4, eni.2.1, edp.2.1, by omega, fun G2 rm2 hr2 L2' k2 l2' => ?_⟩
        rw [hfr] at hr2 ⊢
        exact kk G2 rm2 hr2 L2' (kG4.trans (kG.trans k2)) (by omega)
      refine ⟨_, rfl, _, rfl, _, rfl, _, rfl, free, rfl, ?_⟩
      cases free with
      | false => exact iteF (fin _ rfl)
      | true =>
        refine iteT ⟨_, rfl, rfl, fin _ ?_⟩
        show decide (V.str wz = V.str pWhole) = decide (wz = pWhole)
        rw [Bool.eq_iff_iff, decide_eq_true_eq, decide_eq_true_eq]
        exact ⟨V.str.inj, fun q => by rw [q]⟩
end
end Fs
/-! The program: steps. -/
namespace Fs
open PySem L2 TL
abbrev sStp : Stmt := top 19 --def _is_step
abbrev aStp : List Str := ["look", "step", "level", "held", "free"]
abbrev nStp : List Str := ["look", "step", "level", "held", "free", "word"]
theorem scStp : FnScope nStp aStp (defScope sStp) := ⟨rfl, rfl, rfl, by decide +kernel, rfl, by decide +kernel, by decide +kernel⟩
def partsV (z : Str) : V := match partsN z with
  | some n => .int (n : Int)
  | none => .non
/-- the words of steps with their numbers of parts; those that have to do with what is in hand -/
structure PTx (K : PySem.W.Frag) (mg : Str → Option Value) (w : World) (dP dO : Addr) : Prop where
  g : mg "_PARTS" = some (.ref dP)
  kd : ∃ es n, KDict K w dP es n
  at_ : ∀ z, ∃ r, PySem.W.nsIn K dP z = some r ∧ RelV (partsV z) (r.getD .none)
  gO : mg "_OF_HAND" = some (.ref dO)
  sO : ∀ H, SqT K H dO ([pAgain, pNote, pRaiseof].map V.str)
theorem parts_inv {z : Str} {n : Nat} (h : partsN z = some n) : (z = pSay ∧ n = 2) ∨ (z = pRaise ∧ n = 3) ∨ (z = pAnswer ∧ n = 2) ∨ (z = pCall ∧ n = 2) ∨ (z = pGather ∧ n = 3) ∨ (z = pAgain ∧ n = 1) ∨ (z = pNote ∧ n = 2) ∨ (z = pRaiseof ∧ n = 3) ∨ (z = pRoom ∧ n = 7) := by
  unfold partsN at h
  by_cases h0 : z = pSay
  · rw [if_pos h0] at h
    exact .inl ⟨h0, (Option.some.inj h).symm⟩
  rw [if_neg h0] at h
  by_cases h1 : z = pRaise
  · rw [if_pos h1] at h
    exact .inr (.inl ⟨h1, (Option.some.inj h).symm⟩)
  rw [if_neg h1] at h
  by_cases h2 : z = pAnswer
  · rw [if_pos h2] at h
    exact .inr (.inr (.inl ⟨h2, (Option.some.inj h).symm⟩))
  rw [if_neg h2] at h
  by_cases h3 : z = pCall
  · rw [if_pos h3] at h
    exact .inr (.inr (.inr (.inl ⟨h3, (Option.some.inj h).symm⟩)))
  rw [if_neg h3] at h
  by_cases h4 : z = pGather
  · rw [if_pos h4] at h
    exact .inr (.inr (.inr (.inr (.inl ⟨h4, (Option.some.inj h).symm⟩))))
  rw [if_neg h4] at h
  by_cases h5 : z = pAgain
  · rw [if_pos h5] at h
    exact .inr (.inr (.inr (.inr (.inr (.inl ⟨h5, (Option.some.inj h).symm⟩)))))
  rw [if_neg h5] at h
  by_cases h6 : z = pNote
  · rw [if_pos h6] at h
    exact .inr (.inr (.inr (.inr (.inr (.inr (.inl ⟨h6, (Option.some.inj h).symm⟩))))))
  rw [if_neg h6] at h
  by_cases h7 : z = pRaiseof
  · rw [if_pos h7] at h
    exact .inr (.inr (.inr (.inr (.inr (.inr (.inr (.inl ⟨h7, (Option.some.inj h).symm⟩)))))))
  rw [if_neg h7] at h
  by_cases h8 : z = pRoom
  · rw [if_pos h8] at h
    exact .inr (.inr (.inr (.inr (.inr (.inr (.inr (.inr (⟨h8, (Option.some.inj h).symm⟩))))))))
  rw [if_neg h8] at h
  cases h
theorem n_Say_Room : pSay ≠ pRoom := by decide +kernel
theorem n_Say_Gather : pSay ≠ pGather := by decide +kernel
theorem n_Say_Answer : pSay ≠ pAnswer := by decide +kernel
theorem n_Say_Call : pSay ≠ pCall := by decide +kernel
theorem n_Say_Raise : pSay ≠ pRaise := by decide +kernel
theorem n_Say_Raiseof : pSay ≠ pRaiseof := by decide +kernel
theorem n_Say_Again : pSay ≠ pAgain := by decide +kernel
theorem n_Say_Note : pSay ≠ pNote := by decide +kernel
theorem n_Raise_Room : pRaise ≠ pRoom := by decide +kernel
theorem n_Raise_Gather : pRaise ≠ pGather := by decide +kernel
theorem n_Raise_Answer : pRaise ≠ pAnswer := by decide +kernel
theorem n_Raise_Call : pRaise ≠ pCall := by decide +kernel
theorem n_Raise_Raiseof : pRaise ≠ pRaiseof := by decide +kernel
theorem n_Raise_Again : pRaise ≠ pAgain := by decide +kernel
theorem n_Raise_Note : pRaise ≠ pNote := by decide +kernel
theorem n_Answer_Room : pAnswer ≠ pRoom := by decide +kernel
theorem n_Answer_Gather : pAnswer ≠ pGather := by decide +kernel
theorem n_Answer_Call : pAnswer ≠ pCall := by decide +kernel
theorem n_Answer_Raise : pAnswer ≠ pRaise := by decide +kernel
theorem n_Answer_Raiseof : pAnswer ≠ pRaiseof := by decide +kernel
theorem n_Answer_Again : pAnswer ≠ pAgain := by decide +kernel
theorem n_Answer_Note : pAnswer ≠ pNote := by decide +kernel
theorem n_Call_Room : pCall ≠ pRoom := by decide +kernel
theorem n_Call_Gather : pCall ≠ pGather := by decide +kernel
theorem n_Call_Answer : pCall ≠ pAnswer := by decide +kernel
theorem n_Call_Raise : pCall ≠ pRaise := by decide +kernel
theorem n_Call_Raiseof : pCall ≠ pRaiseof := by decide +kernel
theorem n_Call_Again : pCall ≠ pAgain := by decide +kernel
theorem n_Call_Note : pCall ≠ pNote := by decide +kernel
theorem n_Gather_Room : pGather ≠ pRoom := by decide +kernel
theorem n_Gather_Answer : pGather ≠ pAnswer := by decide +kernel
theorem n_Gather_Call : pGather ≠ pCall := by decide +kernel
theorem n_Gather_Raise : pGather ≠ pRaise := by decide +kernel
theorem n_Gather_Raiseof : pGather ≠ pRaiseof := by decide +kernel
theorem n_Gather_Again : pGather ≠ pAgain := by decide +kernel
theorem n_Gather_Note : pGather ≠ pNote := by decide +kernel
theorem n_Again_Room : pAgain ≠ pRoom := by decide +kernel
theorem n_Again_Gather : pAgain ≠ pGather := by decide +kernel
theorem n_Again_Answer : pAgain ≠ pAnswer := by decide +kernel
theorem n_Again_Call : pAgain ≠ pCall := by decide +kernel
theorem n_Again_Raise : pAgain ≠ pRaise := by decide +kernel
theorem n_Again_Raiseof : pAgain ≠ pRaiseof := by decide +kernel
theorem n_Again_Note : pAgain ≠ pNote := by decide +kernel
theorem n_Note_Room : pNote ≠ pRoom := by decide +kernel
theorem n_Note_Gather : pNote ≠ pGather := by decide +kernel
theorem n_Note_Answer : pNote ≠ pAnswer := by decide +kernel
theorem n_Note_Call : pNote ≠ pCall := by decide +kernel
theorem n_Note_Raise : pNote ≠ pRaise := by decide +kernel
theorem n_Note_Raiseof : pNote ≠ pRaiseof := by decide +kernel
theorem n_Note_Again : pNote ≠ pAgain := by decide +kernel
theorem n_Raiseof_Room : pRaiseof ≠ pRoom := by decide +kernel
theorem n_Raiseof_Gather : pRaiseof ≠ pGather := by decide +kernel
theorem n_Raiseof_Answer : pRaiseof ≠ pAnswer := by decide +kernel
theorem n_Raiseof_Call : pRaiseof ≠ pCall := by decide +kernel
theorem n_Raiseof_Raise : pRaiseof ≠ pRaise := by decide +kernel
theorem n_Raiseof_Again : pRaiseof ≠ pAgain := by decide +kernel
theorem n_Raiseof_Note : pRaiseof ≠ pNote := by decide +kernel
theorem n_Room_Gather : pRoom ≠ pGather := by decide +kernel
theorem n_Room_Answer : pRoom ≠ pAnswer := by decide +kernel
theorem n_Room_Call : pRoom ≠ pCall := by decide +kernel
theorem n_Room_Raise : pRoom ≠ pRaise := by decide +kernel
theorem n_Room_Raiseof : pRoom ≠ pRaiseof := by decide +kernel
theorem n_Room_Again : pRoom ≠ pAgain := by decide +kernel
theorem n_Room_Note : pRoom ≠ pNote := by decide +kernel
section
variable {ps : List (Str × Str)} {ah : List Str} {body : Bool → Dt → Rms → Option Rms} {cats : Bool → Dt → Rms → Option Rms} {gath : Dt → Rms → Option Rms} {held free : Bool} {r : Rms} {x1 x2 : Dt}
theorem stepL_eq (w : Str) (l : List Dt) : stepL ps ah body cats gath held free (.flat (.str w) :: l) r =
    if partsN w = some (l.length + 1) then
      if w = pRoom then roomB body cats free (.flat (.str w) :: l) r
      else if w = pGather then if isSt (l.getD 0 .dct) then gath (l.getD 1 .dct) r else none
      else if w = pAnswer then if free && isI (l.getD 0 .dct) then some r else none
      else if w = pCall then if inAhead ah (l.getD 0 .dct) then some r else none
      else if (w = pAgain ∨ w = pNote ∨ w = pRaiseof) ∧ held = false then none
      else if w = pRaise ∨ w = pRaiseof then if plainK ps (l.getD 0 .dct) && isSt (l.getD 1 .dct) then some r else none
      else if decide (w = pAgain) || isSt (l.getD 0 .dct) then some r else none
    else none := by simp only [stepL]
theorem st_len {z : Str} {l : List Dt} (h : partsN z ≠ some (l.length + 1)) : stepL ps ah body cats gath held free (.flat (.str z) :: l) r = none := by
  simp only [stepL]; exact if_neg h
theorem st_Say : stepL ps ah body cats gath held free (.flat (.str pSay) :: [x1]) r = if isSt x1 then some r else none := by
  rw [stepL_eq]
  rw [show ([x1] : List Dt).length + 1 = 2 from rfl, if_pos (show partsN pSay = some 2 by decide +kernel)]
  rw [if_neg n_Say_Room]
  rw [if_neg n_Say_Gather]
  rw [if_neg n_Say_Answer]
  rw [if_neg n_Say_Call]
  rw [if_neg (fun z => by rcases z.1 with q | q | q <;> revert q <;> decide +kernel)]
  rw [if_neg (fun z => by rcases z with q | q <;> revert q <;> decide +kernel)]
  rw [decide_eq_false n_Say_Again]; rfl
theorem st_Raise : stepL ps ah body cats gath held free (.flat (.str pRaise) :: [x1, x2]) r = if plainK ps x1 && isSt x2 then some r else none := by
  rw [stepL_eq]
  rw [show ([x1, x2] : List Dt).length + 1 = 3 from rfl, if_pos (show partsN pRaise = some 3 by decide +kernel)]
  rw [if_neg n_Raise_Room]
  rw [if_neg n_Raise_Gather]
  rw [if_neg n_Raise_Answer]
  rw [if_neg n_Raise_Call]
  rw [if_neg (fun z => by rcases z.1 with q | q | q <;> revert q <;> decide +kernel)]
  rw [if_pos (.inl rfl)]
  rfl
theorem st_Answer : stepL ps ah body cats gath held free (.flat (.str pAnswer) :: [x1]) r = if free && isI x1 then some r else none := by
  rw [stepL_eq]
  rw [show ([x1] : List Dt).length + 1 = 2 from rfl, if_pos (show partsN pAnswer = some 2 by decide +kernel)]
  rw [if_neg n_Answer_Room]
  rw [if_neg n_Answer_Gather]
  rw [if_pos rfl]
  rfl
theorem st_Call : stepL ps ah body cats gath held free (.flat (.str pCall) :: [x1]) r = if inAhead ah x1 then some r else none := by
  rw [stepL_eq]
  rw [show ([x1] : List Dt).length + 1 = 2 from rfl, if_pos (show partsN pCall = some 2 by decide +kernel)]
  rw [if_neg n_Call_Room]
  rw [if_neg n_Call_Gather]
  rw [if_neg n_Call_Answer]
  rw [if_pos rfl]
  rfl
theorem st_Gather : stepL ps ah body cats gath held free (.flat (.str pGather) :: [x1, x2]) r = if isSt x1 then gath x2 r else none := by
  rw [stepL_eq]
  rw [show ([x1, x2] : List Dt).length + 1 = 3 from rfl, if_pos (show partsN pGather = some 3 by decide +kernel)]
  rw [if_neg n_Gather_Room]
  rw [if_pos rfl]
  rfl
theorem st_Again : stepL ps ah body cats gath held free (.flat (.str pAgain) :: []) r = if held then some r else none := by
  rw [stepL_eq]
  rw [show ([] : List Dt).length + 1 = 1 from rfl, if_pos (show partsN pAgain = some 1 by decide +kernel)]
  rw [if_neg n_Again_Room]
  rw [if_neg n_Again_Gather]
  rw [if_neg n_Again_Answer]
  rw [if_neg n_Again_Call]
  cases held with
  | false => rw [if_pos ⟨.inl rfl, rfl⟩]; rfl
  | true =>
  rw [if_neg (fun z => nomatch z.2)]
  rw [if_neg (fun z => by rcases z with q | q <;> revert q <;> decide +kernel)]
  rw [decide_eq_true (rfl : pAgain = pAgain)]; rfl
theorem st_Note : stepL ps ah body cats gath held free (.flat (.str pNote) :: [x1]) r = if held && isSt x1 then some r else none := by
  rw [stepL_eq]
  rw [show ([x1] : List Dt).length + 1 = 2 from rfl, if_pos (show partsN pNote = some 2 by decide +kernel)]
  rw [if_neg n_Note_Room]
  rw [if_neg n_Note_Gather]
  rw [if_neg n_Note_Answer]
  rw [if_neg n_Note_Call]
  cases held with
  | false => rw [if_pos ⟨.inr (.inl rfl), rfl⟩]; rfl
  | true =>
  rw [if_neg (fun z => nomatch z.2)]
  rw [if_neg (fun z => by rcases z with q | q <;> revert q <;> decide +kernel)]
  rw [decide_eq_false n_Note_Again]; rfl
theorem st_Raiseof : stepL ps ah body cats gath held free (.flat (.str pRaiseof) :: [x1, x2]) r = if held && (plainK ps x1 && isSt x2) then some r else none := by
  rw [stepL_eq]
  rw [show ([x1, x2] : List Dt).length + 1 = 3 from rfl, if_pos (show partsN pRaiseof = some 3 by decide +kernel)]
  rw [if_neg n_Raiseof_Room]
  rw [if_neg n_Raiseof_Gather]
  rw [if_neg n_Raiseof_Answer]
  rw [if_neg n_Raiseof_Call]
  cases held with
  | false => rw [if_pos ⟨.inr (.inr rfl), rfl⟩]; rfl
  | true =>
  rw [if_neg (fun z => nomatch z.2)]
  rw [if_pos (.inr rfl)]
  rfl
theorem st_Room {l : List Dt} (h : l.length = 6) : stepL ps ah body cats gath held free (.flat (.str pRoom) :: l) r = roomB body cats free (.flat (.str pRoom) :: l) r := by
  rw [stepL_eq]
  rw [if_pos (show partsN pRoom = some (l.length + 1) by rw [h]; decide +kernel)]
  rw [if_pos rfl]
end
end Fs
/-! The program: steps, the walk. -/
namespace Fs
open PySem L2 TL
theorem itWf {a b : Str} {A B : Prop} (h : a ≠ b) (x : B) : if decide (V.str a = V.str b) = true then A else B := by
  rw [decide_eq_false (fun z => h (V.str.inj z))]
  exact iteF x
theorem itWt {a b : Str} {A B : Prop} (h : a = b) (x : A) : if decide (V.str a = V.str b) = true then A else B := by
  rw [decide_eq_true (show V.str a = V.str b by rw [h])]
  exact iteT x
theorem pv_ne {n : Nat} {z : Str} (h : partsN z ≠ some n) : ¬ (V.int (n : Int) = partsV z) := fun e => by
  unfold partsV at e
  cases q : partsN z with
  | none => rw [q] at e; cases e
  | some m =>
    rw [q] at e h
    have := V.int.inj e
    exact h (by rw [show m = n by omega])
theorem pv_eq {n : Nat} {z : Str} (h : partsN z = some n) : V.int (n : Int) = partsV z := by
  unfold partsV
  rw [h]
theorem pv_scal {n : Int} {z : Str} : scal (V.int n) (partsV z) = true := by
  unfold partsV
  cases partsN z <;> rfl
theorem th0 : ∀ {l : List Dt} {n : Nat}, l.length = n → (n = 0 → l = []) ∧ (n = 1 → ∃ x, l = [x]) ∧ (n = 2 → ∃ x y, l = [x, y]) := fun {l n} h => by
  subst h
  match l with
  | [] => exact ⟨fun _ => rfl, (fun z => by cases z), (fun z => by cases z)⟩
  | [x] => exact ⟨(fun z => by cases z), fun _ => ⟨x, rfl⟩, (fun z => by cases z)⟩
  | [x, y] => exact ⟨(fun z => by cases z), (fun z => by cases z), fun _ => ⟨x, y, rfl⟩⟩
  | x :: y :: z :: r => exact ⟨(fun q => by simp at q), (fun q => by simp at q), (fun q => by simp at q)⟩
section
variable {P : Program} {w : World} {K : PySem.W.Frag} {mg : Str → Option Value} {base : Heap} {CL CK Pt fBd fSt fRm fGa fCa fPk fTx fNm fWh fTe fIk dP dO : Addr}
theorem stepS {fd dR dG dX dW dK : FuncData} {d k : Nat} (F : Fun K "_is_step" "_is_step" sStp fSt fd) (T : PGx K mg CL CK fBd fSt fRm fGa fCa fPk fTx fNm fWh fTe fIk) (T2 : PTx K mg w dP dO) (hk : 3 ≤ k) (FR : FnOk P w K mg base CX0 k fRm dR aRm (spRm CL CK Pt d)) (bRm : Binds K dR aRm [])
    (FG : FnOk P w K mg base CX0 k fGa dG aGth (spGth CL CK Pt d)) (bGa : Binds K dG aGth []) (FP : FnOk P w K mg base CX0 3 fPk dK aPlK (spPlK CL CK Pt)) (bPk : Binds K dK aPlK []) (FX : FnOk P w K mg base CX0 1 fTx dX ["thing"] spTxT) (bTx : Binds K dX ["thing"] []) (FW : FnOk P w K mg base CX0 1 fWh dW ["thing"] spWhD) (bWh : Binds K dW ["thing"] []) : FnOk P w K mg base CX0 (k + 1) fSt fd aStp (spStp CL CK Pt (d + 1)) := by
  refine F.ok scStp (fun vs H Q E h => ?_) (fun cdv A0 outer s H vs Q Es hr h => ?_)
  · obtain ⟨lk, dx, kd, A, R, ps, ah, rms, t, v, lev, held, free, rfl, _⟩ := h
    rfl
  · obtain ⟨lk, dx, kd, A, R, ps, ah, rms, t, v, lev, held, free, rfl, L, hw, ht, hn, hd, hsz, kk⟩ := h
    have hrX : Room 1 _ := hr.mono (by omega)
    have hrP : Room 3 _ := hr.mono (by omega)
    obtain ⟨esD, nD, D⟩ := T2.kd
    refine ⟨_, (pss_cons (ps_if (PW.pt (pw_or (pt_not (pt_val (pe_callB call_isi (by rfl) T.isi (by decide +kernel) (pa_cons (pv 1) (pa_cons (pe_bltn (v := .ty "tuple") (u := .type "tuple") (by rfl) T.tup (by decide +kernel) rfl) pa_nil))))) (pw_or (pt_not (pt_truth (pv 1) (fun _ => rfl))) (pw_or1 (pt_not (pt_val (pe_call FX hrX rfl T.gTx T.kTx bTx .nil pass0 (pa_cons (pe_ix ix_tup (pv 1) pe_int (fun _ _ => rfl)) pa_nil)))))))) (pss_one (ps_ret pe_bl)) pss_nil)
      (pss_cons (ps_set (i := 5) scStp.nd rfl (Or.inl rfl) (pe_ix ix_tup (pv 1) pe_int (fun _ _ => rfl)))
      (pss_cons (ps_if (pt_cmpR op_ne (pe_callB call_len_seq (by rfl) T.len PySem.boot_len (pa_cons (pv 1) pa_nil)) (pe_kget D (pe_glob (v := .ref dP) rfl T2.g rfl) (pv 5) ⟨rfl, by rfl, rfl, rfl⟩) (nomark _)) (pss_one (ps_ret pe_bl)) pss_nil)
      (pss_cons (ps_if (pt_cmpR op_eq (pv 5) pe_str (nomark _)) (pss_one (ps_ret (pe_call FR hr rfl T.gRm T.kRm bRm .nil pass0 (pa_cons (pv 0) (pa_cons (pv 1) (pa_cons (pv 2) (pa_cons (pv 3) (pa_cons (pv 4) pa_nil)))))))) pss_nil)
      (pss_cons (ps_if (pt_cmpR op_eq (pv 5) pe_str (nomark _)) (pss_one (ps_ret (pe_and (pe_call FX hrX rfl T.gTx T.kTx bTx .nil pass0 (pa_cons (pe_ix ix_tup (pv 1) pe_int (fun _ _ => rfl)) pa_nil)) (pe_one (pe_call FG hr rfl T.gGa T.kGa bGa .nil pass0 (pa_cons (pv 0) (pa_cons (pe_ix ix_tup (pv 1) pe_int (fun _ _ => rfl)) (pa_cons (pv 2) (pa_cons (pv 3) pa_nil))))))))) pss_nil)
      (pss_cons (ps_if (pt_cmpR op_eq (pv 5) pe_str (nomark _)) (pss_one (ps_ret (pe_and (pv 4) (pe_one (pe_call FW hrX rfl T.gWh T.kWh bWh .nil pass0 (pa_cons (pe_ix ix_tup (pv 1) pe_int (fun _ _ => rfl)) pa_nil)))))) pss_nil)
      (pss_cons (ps_if (pt_cmpR op_eq (pv 5) pe_str (nomark _)) (pss_one (ps_ret (pe_cmpR op_in_seq (pe_ix ix_tup (pv 1) pe_int (fun _ _ => rfl)) (pe_fld (pv 0) rfl) (by rfl)))) pss_nil)
      (pss_cons (ps_if (PW.pt (pw_and (pt_cmpR op_in_seq (pv 5) (pe_glob (v := .ref dO) rfl T2.gO rfl) (by rfl)) (pw_and1 (pt_not (pt_val (pv 3)))))) (pss_one (ps_ret pe_bl)) pss_nil)
      (pss_cons (ps_if (pt_cmpR op_in_seq (pv 5) (pe_tup (pa_cons pe_str (pa_cons pe_str pa_nil))) (by rfl)) (pss_one (ps_ret (pe_and (pe_call FP hrP rfl T.gPk T.kPk bPk .nil pass0 (pa_cons (pv 0) (pa_cons (pe_ix ix_tup (pv 1) pe_int (fun _ _ => rfl)) pa_nil))) (pe_one (pe_call FX hrX rfl T.gTx T.kTx bTx .nil pass0 (pa_cons (pe_ix ix_tup (pv 1) pe_int (fun _ _ => rfl)) pa_nil)))))) pss_nil)
      (pss_one (ps_ret (pe_or (pe_cmpR op_eq (pv 5) pe_str (nomark _)) (pe_one (pe_call FX hrX rfl T.gTx T.kTx bTx .nil pass0 (pa_cons (pe_ix ix_tup (pv 1) pe_int (fun _ _ => rfl)) pa_nil))))))))))))))), ?_⟩
    obtain ⟨ty, i1, i2, _⟩ := isi_dt (K := K) ht
    refine ⟨_, rfl, _, _, _, _, _, rfl, .ty "tuple", i1, kit_ty i2, isTp t, rfl, ?_⟩
    have out : stepF ps ah (d + 1) lev held free t rms = none → Q (.bl false) H := fun e => by
      rw [e] at kk
      exact kk H rms (fun r h => nomatch h) L (Keep.refl _ _) (Nat.le_add_right _ _)
    cases hp : isTp t with
    | false =>
      refine iteT (out ?_)
      cases t with
      | tup l => cases hp
      | _ => simp only [stepF]
    | true =>
    refine iteF ?_
    obtain ⟨l, rfl⟩ : ∃ l, t = .tup l := by
      cases t with
      | tup l => exact ⟨l, rfl⟩
      | _ => cases hp
    simp only [DtAt] at ht
    obtain ⟨b, us, rfl, eb, tl⟩ := ht
    refine ⟨_, rfl, !us.isEmpty, .inr (.inl ⟨_, SqT.of eb, rfl⟩), ?_⟩
    have eF : stepF ps ah (d + 1) lev held free (.tup l) rms = stepL ps ah (fun fr => bodyF ps ah d (lev + 1) held fr) (fun fr => catsF ps ah d lev fr) (gathF ps ah d lev held) held free l rms := by simp only [stepF]
    rw [eF] at kk out
    have szt : Dt.sz (.tup l) = Dt.szs l + 1 := by simp only [Dt.sz]
    have dpl : Dt.dps l < d := by simp only [Dt.dp] at hd; omega
    cases l with
    | nil =>
      obtain rfl : us = [] := by
        cases us with
        | nil => rfl
        | cons _ _ => simp only [DtsAt] at tl
      exact iteT (out (by simp only [stepL]))
    | cons h0 r =>
    cases us with
    | nil => simp only [DtsAt] at tl
    | cons y0 ys =>
    have tl0 := tl
    simp only [DtsAt] at tl
    obtain ⟨t0, tr⟩ := tl
    refine iteF ?_
    refine ⟨_, rfl, b, _, 0, y0, rfl, rfl, SqT.of eb, at0 _ _, [A, R], toTh h0, y0, rfl, t0.th, _, rfl, ?_⟩
    rw [isSt_th]
    cases h0s : isSt h0 with
    | false =>
      refine iteT (out ?_)
      cases h0 with
      | flat v => cases v <;> first | (simp only [stepL]; done) | cases h0s
      | _ => simp only [stepL]
    | true =>
    refine iteF ?_
    obtain ⟨wd, rfl, rfl⟩ := isSt_of t0 h0s
    refine ⟨_, rfl, b, _, 0, .str wd, rfl, rfl, SqT.of eb, at0 _ _, ?_⟩
    obtain ⟨rD, nsD, rvD⟩ := T2.at_ wd
    refine ⟨_, rfl, b, _, rfl, .inr (SqT.of eb), rfl, _, rfl, wd, rD, partsV wd, rfl, nsD, rvD, pv_scal, _, rfl, ?_⟩
    have ly := tr.len
    by_cases hpn : partsN wd = some (r.length + 1)
    case neg =>
      refine itN (pv_ne (n := (V.str wd :: ys).length) (by rw [List.length_cons, ly]; exact hpn)) ?_
      exact out (st_len hpn)
    refine iteNS (pv_eq (n := (V.str wd :: ys).length) (by rw [List.length_cons, ly]; exact hpn)) ?_
    have hnl : nices (Dt.flat (.str wd) :: r) = true ∧ niceL (.flat (.str wd) :: r) = true := by simpa only [nice, Bool.and_eq_true] using hn
    have fin : ∀ (o : Bool) (G : Hp), Keep [] H G → stepL ps ah (fun fr => bodyF ps ah d (lev + 1) held fr) (fun fr => catsF ps ah d lev fr) (gathF ps ah d lev held) held free (.flat (.str wd) :: r) rms = (if o then some rms else none) → Q (.bl o) G := fun o G k e => by
      rw [e] at kk
      have k2 : Keep [R, Pt] H G := k.more fun b hb => absurd hb List.not_mem_nil
      cases o with
      | true => exact kk G rms (fun r h => Option.some.inj h) (L.keep0 k) k2 (Nat.le_add_right _ _)
      | false => exact kk G rms (fun r h => nomatch h) (L.keep0 k) k2 (Nat.le_add_right _ _)
    have hszl : Dt.szs (.flat (.str wd) :: r) = 1 + Dt.szs r := by simp only [Dt.szs, Dt.sz]
    have hdpl : Dt.dps r ≤ Dt.dps (.flat (.str wd) :: r) := by simp only [Dt.dps]; omega
    rcases parts_inv hpn with ⟨rfl, hl⟩ | ⟨rfl, hl⟩ | ⟨rfl, hl⟩ | ⟨rfl, hl⟩ | ⟨rfl, hl⟩ | ⟨rfl, hl⟩ | ⟨rfl, hl⟩ | ⟨rfl, hl⟩ | ⟨rfl, hl⟩
    · -- pSay
      obtain ⟨x1, rfl⟩ := (th0 (l := r) (n := 1) (by omega)).2.1 rfl
      match ys, tr with
      | [u1], tr =>
      simp only [DtsAt] at tr
      obtain ⟨d1, _⟩ := tr
      refine ⟨_, rfl, rfl, _, rfl, itWf n_Say_Room ?_⟩
      refine ⟨_, rfl, rfl, _, rfl, itWf n_Say_Gather ?_⟩
      refine ⟨_, rfl, rfl, _, rfl, itWf n_Say_Answer ?_⟩
      refine ⟨_, rfl, rfl, _, rfl, itWf n_Say_Call ?_⟩
      refine ⟨_, rfl, dO, _, rfl, .inr (T2.sO _), rfl, rfl, _, rfl, ?_⟩
      show if inV (.str pSay) ([pAgain, pNote, pRaiseof].map V.str) = true then _ else _
      rw [inV_strs, show decide (pSay ∈ [pAgain, pNote, pRaiseof]) = false by decide +kernel]
      refine iteF ?_
      refine ⟨_, rfl, (by show 2 ≤ sizeLine; decide), fun q hq => ⟨q, _, rfl, .inr (SqT.of upd_same), rfl, rfl, _, rfl, ?_⟩⟩
      show if inV (.str pSay) ([pRaise, pRaiseof].map V.str) = true then _ else _
      rw [inV_strs, show decide (pSay ∈ [pRaise, pRaiseof]) = false by decide +kernel]
      have k1 : Keep [] H (upd H q (.tup [.str pRaise, .str pRaiseof])) := Keep.new hq
      have eb1 := k1.at eb nin0
      have L1 := L.keep0 k1
      have d1 := d1.keep0 k1
      generalize (upd H q (.tup [.str pRaise, .str pRaiseof])) = H1 at k1 eb1 L1 d1 ⊢
      refine iteF ⟨_, rfl, rfl, false, ?_, iteF ⟨_, rfl, b, _, 1, u1, rfl, rfl, SqT.of eb1, atI_nat (j := 1) rfl, [A, R], toTh x1, u1, rfl, d1.th, ?_⟩⟩
      · rw [decide_eq_false (fun z => n_Say_Again (V.str.inj z))]
      · rw [isSt_th]
        exact fin (isSt x1) H1 k1 st_Say
    · -- pRaise
      obtain ⟨x1, x2, rfl⟩ := (th0 (l := r) (n := 2) (by omega)).2.2 rfl
      match ys, tr with
      | [u1, u2], tr =>
      simp only [DtsAt] at tr
      obtain ⟨d1, d2, _⟩ := tr
      refine ⟨_, rfl, rfl, _, rfl, itWf n_Raise_Room ?_⟩
      refine ⟨_, rfl, rfl, _, rfl, itWf n_Raise_Gather ?_⟩
      refine ⟨_, rfl, rfl, _, rfl, itWf n_Raise_Answer ?_⟩
      refine ⟨_, rfl, rfl, _, rfl, itWf n_Raise_Call ?_⟩
      refine ⟨_, rfl, dO, _, rfl, .inr (T2.sO _), rfl, rfl, _, rfl, ?_⟩
      show if inV (.str pRaise) ([pAgain, pNote, pRaiseof].map V.str) = true then _ else _
      rw [inV_strs, show decide (pRaise ∈ [pAgain, pNote, pRaiseof]) = false by decide +kernel]
      refine iteF ?_
      refine ⟨_, rfl, (by show 2 ≤ sizeLine; decide), fun q hq => ⟨q, _, rfl, .inr (SqT.of upd_same), rfl, rfl, _, rfl, ?_⟩⟩
      show if inV (.str pRaise) ([pRaise, pRaiseof].map V.str) = true then _ else _
      rw [inV_strs, show decide (pRaise ∈ [pRaise, pRaiseof]) = true by decide +kernel]
      have k1 : Keep [] H (upd H q (.tup [.str pRaise, .str pRaiseof])) := Keep.new hq
      have eb1 := k1.at eb nin0
      have L1 := L.keep0 k1
      have d1 := d1.keep0 k1
      have d2 := d2.keep0 k1
      generalize (upd H q (.tup [.str pRaise, .str pRaiseof])) = H1 at k1 eb1 L1 d1 d2 ⊢
      refine iteT ⟨_, rfl, _, rfl, b, _, 1, u1, rfl, rfl, SqT.of eb1, atI_nat (j := 1) rfl, lk, dx, kd, A, R, ps, ah, rms, [A, R], x1, u1, rfl, L1, hw, d1, ?_⟩
      have e := st_Raise (ps := ps) (ah := ah) (body := fun fr => bodyF ps ah d (lev + 1) held fr) (cats := fun fr => catsF ps ah d lev fr) (gath := gathF ps ah d lev held) (held := held) (free := free) (r := rms) (x1 := x1) (x2 := x2)
      cases hx : plainK ps x1 with
      | false => exact ⟨_, rfl, iteF (fin false H1 k1 (by rw [e, hx]; rfl))⟩
      | true =>
      refine ⟨_, rfl, iteT ⟨_, rfl, b, _, 2, u2, rfl, rfl, SqT.of eb1, atI_nat (j := 2) rfl, [A, R], toTh x2, u2, rfl, d2.th, ?_⟩⟩
      rw [isSt_th]
      exact fin (isSt x2) H1 k1 (by rw [e, hx]; rfl)
    · -- pAnswer
      obtain ⟨x1, rfl⟩ := (th0 (l := r) (n := 1) (by omega)).2.1 rfl
      match ys, tr with
      | [u1], tr =>
      simp only [DtsAt] at tr
      obtain ⟨d1, _⟩ := tr
      refine ⟨_, rfl, rfl, _, rfl, itWf n_Answer_Room ?_⟩
      refine ⟨_, rfl, rfl, _, rfl, itWf n_Answer_Gather ?_⟩
      refine ⟨_, rfl, rfl, _, rfl, itWt rfl ?_⟩
      refine ⟨_, rfl, free, rfl, ?_⟩
      cases free with
      | false => exact iteF (fin false H (Keep.refl _ _) st_Answer)
      | true => exact iteT ⟨_, rfl, b, _, 1, u1, rfl, rfl, SqT.of eb, atI_nat (j := 1) rfl, [A, R], x1, u1, rfl, d1, fin (isI x1) H (Keep.refl _ _) st_Answer⟩
    · -- pCall
      obtain ⟨x1, rfl⟩ := (th0 (l := r) (n := 1) (by omega)).2.1 rfl
      match ys, tr with
      | [u1], tr =>
      simp only [DtsAt] at tr
      obtain ⟨d1, _⟩ := tr
      refine ⟨_, rfl, rfl, _, rfl, itWf n_Call_Room ?_⟩
      refine ⟨_, rfl, rfl, _, rfl, itWf n_Call_Gather ?_⟩
      refine ⟨_, rfl, rfl, _, rfl, itWf n_Call_Answer ?_⟩
      refine ⟨_, rfl, rfl, _, rfl, itWt rfl ?_⟩
      have hf1 : isFl x1 = true := by
        have := hnl.2
        simp only [niceL] at this
        rw [if_pos trivial] at this
        exact this
      obtain ⟨f1, i1'⟩ := inV_flat d1 hf1 ah
      refine ⟨_, rfl, b, _, 1, u1, rfl, rfl, SqT.of eb, atI_nat (j := 1) rfl, _, rfl, lk, CL, dx, _, _, rfl, L.ins, T.clL, T.nAh, fl_ahead, A, _, rfl, .inl (SqL.of L.ahd), f1, strs_all _, ?_⟩
      show Q (.bl (inV u1 (ah.map V.str))) H
      rw [i1']
      exact fin _ H (Keep.refl _ _) st_Call
    · -- pGather
      obtain ⟨x1, x2, rfl⟩ := (th0 (l := r) (n := 2) (by omega)).2.2 rfl
      match ys, tr with
      | [u1, u2], tr =>
      simp only [DtsAt] at tr
      obtain ⟨d1, d2, _⟩ := tr
      refine ⟨_, rfl, rfl, _, rfl, itWf n_Gather_Room ?_⟩
      refine ⟨_, rfl, rfl, _, rfl, itWt rfl ?_⟩
      refine ⟨_, rfl, b, _, 1, u1, rfl, rfl, SqT.of eb, atI_nat (j := 1) rfl, [A, R], toTh x1, u1, rfl, d1.th, ?_⟩
      rw [isSt_th]
      have e := st_Gather (ps := ps) (ah := ah) (body := fun fr => bodyF ps ah d (lev + 1) held fr) (cats := fun fr => catsF ps ah d lev fr) (gath := gathF ps ah d lev held) (held := held) (free := free) (r := rms) (x1 := x1) (x2 := x2)
      cases hx : isSt x1 with
      | false => exact ⟨_, rfl, iteF (fin false H (Keep.refl _ _) (by rw [e, hx]; rfl))⟩
      | true =>
      rw [hx, if_pos rfl] at e
      refine ⟨_, rfl, iteT ⟨_, rfl, _, rfl, b, _, 2, u2, rfl, rfl, SqT.of eb, atI_nat (j := 2) rfl, _, rfl, _, rfl, lk, dx, kd, A, R, ps, ah, rms, x2, u2, lev, held, rfl, L, hw, d2, ?_, ?_, ?_, fun G2 rm2 hr2 L2 k2 l2 => ?_⟩⟩
      · have := hnl.1
        simp only [nices, Bool.and_eq_true] at this
        exact this.2.2.1
      · simp only [Dt.dps] at dpl
        omega
      · simp only [Dt.szs] at szt
        omega
      · rw [← e]
        simp only [Dt.szs] at szt
        exact kk G2 rm2 (fun r hr => hr2 r (by rw [← e]; exact hr)) L2 k2 (by omega)
    · -- pAgain
      obtain rfl := (th0 (l := r) (n := 0) (by omega)).1 rfl
      refine ⟨_, rfl, rfl, _, rfl, itWf n_Again_Room ?_⟩
      refine ⟨_, rfl, rfl, _, rfl, itWf n_Again_Gather ?_⟩
      refine ⟨_, rfl, rfl, _, rfl, itWf n_Again_Answer ?_⟩
      refine ⟨_, rfl, rfl, _, rfl, itWf n_Again_Call ?_⟩
      refine ⟨_, rfl, dO, _, rfl, .inr (T2.sO _), rfl, rfl, _, rfl, ?_⟩
      show if inV (.str pAgain) ([pAgain, pNote, pRaiseof].map V.str) = true then _ else _
      rw [inV_strs, show decide (pAgain ∈ [pAgain, pNote, pRaiseof]) = true by decide +kernel]
      refine iteT ⟨_, rfl, held, rfl, ?_⟩
      cases held with
      | false => exact iteT (fin false H (Keep.refl _ _) st_Again)
      | true =>
      refine iteF ?_
      refine ⟨_, rfl, (by show 2 ≤ sizeLine; decide), fun q hq => ⟨q, _, rfl, .inr (SqT.of upd_same), rfl, rfl, _, rfl, ?_⟩⟩
      show if inV (.str pAgain) ([pRaise, pRaiseof].map V.str) = true then _ else _
      rw [inV_strs, show decide (pAgain ∈ [pRaise, pRaiseof]) = false by decide +kernel]
      have k1 : Keep [] H (upd H q (.tup [.str pRaise, .str pRaiseof])) := Keep.new hq
      have eb1 := k1.at eb nin0
      have L1 := L.keep0 k1
      generalize (upd H q (.tup [.str pRaise, .str pRaiseof])) = H1 at k1 eb1 L1 ⊢
      refine iteF ⟨_, rfl, rfl, true, ?_, iteT (fin true H1 k1 st_Again)⟩
      rw [decide_eq_true (rfl : V.str pAgain = V.str pAgain)]
    · -- pNote
      obtain ⟨x1, rfl⟩ := (th0 (l := r) (n := 1) (by omega)).2.1 rfl
      match ys, tr with
      | [u1], tr =>
      simp only [DtsAt] at tr
      obtain ⟨d1, _⟩ := tr
      refine ⟨_, rfl, rfl, _, rfl, itWf n_Note_Room ?_⟩
      refine ⟨_, rfl, rfl, _, rfl, itWf n_Note_Gather ?_⟩
      refine ⟨_, rfl, rfl, _, rfl, itWf n_Note_Answer ?_⟩
      refine ⟨_, rfl, rfl, _, rfl, itWf n_Note_Call ?_⟩
      refine ⟨_, rfl, dO, _, rfl, .inr (T2.sO _), rfl, rfl, _, rfl, ?_⟩
      show if inV (.str pNote) ([pAgain, pNote, pRaiseof].map V.str) = true then _ else _
      rw [inV_strs, show decide (pNote ∈ [pAgain, pNote, pRaiseof]) = true by decide +kernel]
      refine iteT ⟨_, rfl, held, rfl, ?_⟩
      cases held with
      | false => exact iteT (fin false H (Keep.refl _ _) st_Note)
      | true =>
      refine iteF ?_
      refine ⟨_, rfl, (by show 2 ≤ sizeLine; decide), fun q hq => ⟨q, _, rfl, .inr (SqT.of upd_same), rfl, rfl, _, rfl, ?_⟩⟩
      show if inV (.str pNote) ([pRaise, pRaiseof].map V.str) = true then _ else _
      rw [inV_strs, show decide (pNote ∈ [pRaise, pRaiseof]) = false by decide +kernel]
      have k1 : Keep [] H (upd H q (.tup [.str pRaise, .str pRaiseof])) := Keep.new hq
      have eb1 := k1.at eb nin0
      have L1 := L.keep0 k1
      have d1 := d1.keep0 k1
      generalize (upd H q (.tup [.str pRaise, .str pRaiseof])) = H1 at k1 eb1 L1 d1 ⊢
      refine iteF ⟨_, rfl, rfl, false, ?_, iteF ⟨_, rfl, b, _, 1, u1, rfl, rfl, SqT.of eb1, atI_nat (j := 1) rfl, [A, R], toTh x1, u1, rfl, d1.th, ?_⟩⟩
      · rw [decide_eq_false (fun z => n_Note_Again (V.str.inj z))]
      · rw [isSt_th]
        exact fin (isSt x1) H1 k1 st_Note
    · -- pRaiseof
      obtain ⟨x1, x2, rfl⟩ := (th0 (l := r) (n := 2) (by omega)).2.2 rfl
      match ys, tr with
      | [u1, u2], tr =>
      simp only [DtsAt] at tr
      obtain ⟨d1, d2, _⟩ := tr
      refine ⟨_, rfl, rfl, _, rfl, itWf n_Raiseof_Room ?_⟩
      refine ⟨_, rfl, rfl, _, rfl, itWf n_Raiseof_Gather ?_⟩
      refine ⟨_, rfl, rfl, _, rfl, itWf n_Raiseof_Answer ?_⟩
      refine ⟨_, rfl, rfl, _, rfl, itWf n_Raiseof_Call ?_⟩
      refine ⟨_, rfl, dO, _, rfl, .inr (T2.sO _), rfl, rfl, _, rfl, ?_⟩
      show if inV (.str pRaiseof) ([pAgain, pNote, pRaiseof].map V.str) = true then _ else _
      rw [inV_strs, show decide (pRaiseof ∈ [pAgain, pNote, pRaiseof]) = true by decide +kernel]
      refine iteT ⟨_, rfl, held, rfl, ?_⟩
      cases held with
      | false => exact iteT (fin false H (Keep.refl _ _) st_Raiseof)
      | true =>
      refine iteF ?_
      refine ⟨_, rfl, (by show 2 ≤ sizeLine; decide), fun q hq => ⟨q, _, rfl, .inr (SqT.of upd_same), rfl, rfl, _, rfl, ?_⟩⟩
      show if inV (.str pRaiseof) ([pRaise, pRaiseof].map V.str) = true then _ else _
      rw [inV_strs, show decide (pRaiseof ∈ [pRaise, pRaiseof]) = true by decide +kernel]
      have k1 : Keep [] H (upd H q (.tup [.str pRaise, .str pRaiseof])) := Keep.new hq
      have eb1 := k1.at eb nin0
      have L1 := L.keep0 k1
      have d1 := d1.keep0 k1
      have d2 := d2.keep0 k1
      generalize (upd H q (.tup [.str pRaise, .str pRaiseof])) = H1 at k1 eb1 L1 d1 d2 ⊢
      refine iteT ⟨_, rfl, _, rfl, b, _, 1, u1, rfl, rfl, SqT.of eb1, atI_nat (j := 1) rfl, lk, dx, kd, A, R, ps, ah, rms, [A, R], x1, u1, rfl, L1, hw, d1, ?_⟩
      have e := st_Raiseof (ps := ps) (ah := ah) (body := fun fr => bodyF ps ah d (lev + 1) true fr) (cats := fun fr => catsF ps ah d lev fr) (gath := gathF ps ah d lev true) (held := true) (free := free) (r := rms) (x1 := x1) (x2 := x2)
      cases hx : plainK ps x1 with
      | false => exact ⟨_, rfl, iteF (fin false H1 k1 (by rw [e, hx]; rfl))⟩
      | true =>
      refine ⟨_, rfl, iteT ⟨_, rfl, b, _, 2, u2, rfl, rfl, SqT.of eb1, atI_nat (j := 2) rfl, [A, R], toTh x2, u2, rfl, d2.th, ?_⟩⟩
      rw [isSt_th]
      exact fin (isSt x2) H1 k1 (by rw [e, hx]; rfl)
    · -- pRoom
      refine ⟨_, rfl, rfl, _, rfl, itWt rfl ?_⟩
      refine ⟨_, rfl, _, rfl, _, rfl, _, rfl, _, rfl, lk, dx, kd, A, R, b, ps, ah, rms, Dt.flat (.str pRoom) :: r, V.str pRoom :: ys, lev, held, free, rfl, L, hw, eb, tl0, by rw [List.length_cons]; omega, ?_, hnl.1, dpl, by omega, fun G2 rm2 hr2 L2 k2 l2 => ?_⟩
      · have := hnl.2
        simp only [niceL] at this
        rw [if_neg (show ¬ pRoom = pCall by decide +kernel)] at this
        rw [if_pos trivial] at this
        exact this
      · have e := st_Room (ps := ps) (ah := ah) (body := fun fr => bodyF ps ah d (lev + 1) held fr) (cats := fun fr => catsF ps ah d lev fr) (gath := gathF ps ah d lev held) (held := held) (free := free) (r := rms) (l := r) (by omega)
        rw [← e]
        exact kk G2 rm2 (fun r hr => hr2 r (by rw [← e]; exact hr)) L2 k2 (by omega)
end
end Fs
/-! Bodies of any depth; a new look; what is a program. -/
namespace Fs
open PySem L2 TL
abbrev cLook : Stmt := top 16 --def Look
abbrev sLkI : Stmt := inClass cLook 0
theorem scLkI : FnScope ["self", "kinds"] ["self", "kinds"] (defScope sLkI) := ⟨rfl, rfl, rfl, by decide +kernel, rfl, by decide +kernel, by decide +kernel⟩
abbrev sPrg : Stmt := top 17 --def is_program
abbrev nPrg : List Str := ["kinds", "thing", "look", "pair", "name", "body"]
theorem scPrg : FnScope nPrg ["kinds", "thing"] (defScope sPrg) := ⟨rfl, rfl, rfl, by decide +kernel, rfl, by decide +kernel, by decide +kernel⟩
def spLkI (CL : Addr) : Sp := fun vs H Q _ => ∃ (p kd dx : Addr), vs = [.ref p, .ref kd] ∧ H p = some (.ins CL dx []) ∧ ∀ (H' : Hp) (A R : Addr), A ≠ R → Keep [p] H H' → H' p = some (.ins CL dx [("known", .ref kd), ("ahead", .ref A), ("rooms", .ref R)]) → H' A = some (.lst []) → H' R = some (.lst []) → H A = none → H R = none → Q .non H'
def pnice : Dt → Bool
  | .tup [_, b] => nice b
  | _ => true
def progNice : Dt → Bool
  | .lst l => l.all pnice
  | _ => true
def spPrg (CK Pt : Addr) (d : Nat) : Sp := fun vs H Q _ => ∃ (kd : Addr) (v : V) (t : Dt) (ps : List (Str × Str)), vs = [.ref kd, v] ∧ KindsAt CK H kd ps ∧ Wf ps ∧ GxR.TabG H Pt ∧ DtAt [] H t v ∧ progNice t = true ∧ t.dp < d ∧ t.sz ≤ 8000 ∧ ∀ H', Keep [Pt] H H' → GxR.TabG H' Pt → Q (.bl (progF ps d t)) H'
section
variable {CL CK : Addr} {H H' : Hp} {lk dx kd A R Pt : Addr} {ps : List (Str × Str)} {ah rms : List Str}
/-- one name more -/
theorem LkAt.name (L : LkAt CL CK H lk dx kd A R Pt ps ah rms) (z : Str) : LkAt CL CK (upd H A (.lst (ah.map V.str ++ [.str z]))) lk dx kd A R Pt ps (ah ++ [z]) rms ∧ Keep [A] H (upd H A (.lst (ah.map V.str ++ [.str z]))) := by
  have k : Keep [A] H (upd H A (.lst (ah.map V.str ++ [.str z]))) := Keep.own in1
  obtain ⟨tb, hT, oT⟩ := L.tab
  refine ⟨⟨k.at L.ins (nin1 (ne_of L.ins L.ahd fun z => by cases z)), L.kin.keep k fun b hb => ?_, by rw [upd_same, List.map_append]; rfl, k.at L.rms (nin1 L.ne.symm), L.ne, ⟨tb, k.at hT (nin1 L.nAP.symm), oT⟩⟩, k⟩
  rw [List.mem_singleton.mp hb]
  exact ⟨_, L.ahd, (fun _ _ _ z => by cases z), (fun _ z => by cases z)⟩
theorem LkAt.dtsA (L : LkAt CL CK H lk dx kd A R Pt ps ah rms) {t : List Dt} {v : List V} (h : DtsAt [A, R] H t v) (k : Keep [A] H H') : DtsAt [A, R] H' t v := by
  refine h.keep k (fun b hb => ?_) (fun b hb xs e => ?_)
  · rw [List.mem_singleton.mp hb]; exact .inl List.mem_cons_self
  · rcases List.mem_cons.mp hb with z | z
    · rw [z, L.ahd] at e; cases e
    · rw [List.mem_singleton.mp z, L.rms] at e; cases e
end
section
variable {P : Program} {w : World} {K : PySem.W.Frag} {mg : Str → Option Value} {base : Heap} {CL CK Pt fBd fSt fRm fGa fCa fPk fTx fNm fWh fTe fIk dP dO : Addr}
structure AllP (P : Program) (w : World) (K : PySem.W.Frag) (mg : Str → Option Value) (base : Heap) (CL CK Pt fBd fSt fGa fCa : Addr) (dB dS dG dC : FuncData) (d : Nat) : Prop where
  B : FnOk P w K mg base CX0 (5 + 2 * d) fBd dB aBdy (spBdy CL CK Pt d)
  S : FnOk P w K mg base CX0 (5 + 2 * d) fSt dS aStp (spStp CL CK Pt d)
  G : FnOk P w K mg base CX0 (5 + 2 * d) fGa dG aGth (spGth CL CK Pt d)
  C : FnOk P w K mg base CX0 (5 + 2 * d) fCa dC aCts (spCts CL CK Pt d)
  B0 : FnOk P w K mg base CX0 (5 + 2 * d) fBd dB aBdy (spBdy CL CK Pt (d - 1))
theorem all_p {dB dS dG dC dR dN dT dX dW dK : FuncData} (T : PGx K mg CL CK fBd fSt fRm fGa fCa fPk fTx fNm fWh fTe fIk) (T2 : PTx K mg w dP dO)
    (eB : Fun K "_is_body" "_is_body" sBdy fBd dB) (bBd : Binds K dB aBdy []) (eS : Fun K "_is_step" "_is_step" sStp fSt dS) (bSt : Binds K dS aStp []) (eG : Fun K "_are_gathered" "_are_gathered" sGth fGa dG) (bGa : Binds K dG aGth []) (eC : Fun K "_are_catchers" "_are_catchers" sCts fCa dC) (bCa : Binds K dC aCts []) (eR : Fun K "_is_room" "_is_room" sRm fRm dR) (bRm : Binds K dR aRm [])
    (FN : FnOk P w K mg base CX0 2 fNm dN ["thing"] (spNmD Pt)) (bNm : Binds K dN ["thing"] []) (FT : FnOk P w K mg base CX0 4 fTe dT ["kinds", "thing"] (spTeT CK)) (bTe : Binds K dT ["kinds", "thing"] [])
    (FP : FnOk P w K mg base CX0 3 fPk dK aPlK (spPlK CL CK Pt)) (bPk : Binds K dK aPlK []) (FX : FnOk P w K mg base CX0 1 fTx dX ["thing"] spTxT) (bTx : Binds K dX ["thing"] []) (FW : FnOk P w K mg base CX0 1 fWh dW ["thing"] spWhD) (bWh : Binds K dW ["thing"] []) :
    ∀ d : Nat, AllP P w K mg base CL CK Pt fBd fSt fGa fCa dB dS dG dC d
  | 0 => by
    have zB : FnOk P w K mg base CX0 (5 + 2 * 0) fBd dB aBdy (spBdy CL CK Pt 0) := eB.ok scBdy (fun vs H Q E h => by obtain ⟨lk, dx, kd, A, R, ps, ah, rms, t, v, lev, held, free, rfl, L, hw, ht, hn, hd, _⟩ := h; exact absurd hd (Nat.not_lt_zero _)) (fun cdv A0 outer s H vs Q Es hr h => by obtain ⟨lk, dx, kd, A, R, ps, ah, rms, t, v, lev, held, free, rfl, L, hw, ht, hn, hd, _⟩ := h; exact absurd hd (Nat.not_lt_zero _))
    exact ⟨zB,
      eS.ok scStp (fun vs H Q E h => by obtain ⟨lk, dx, kd, A, R, ps, ah, rms, t, v, lev, held, free, rfl, L, hw, ht, hn, hd, _⟩ := h; exact absurd hd (Nat.not_lt_zero _)) (fun cdv A0 outer s H vs Q Es hr h => by obtain ⟨lk, dx, kd, A, R, ps, ah, rms, t, v, lev, held, free, rfl, L, hw, ht, hn, hd, _⟩ := h; exact absurd hd (Nat.not_lt_zero _)),
      eG.ok scGth (fun vs H Q E h => by obtain ⟨lk, dx, kd, A, R, ps, ah, rms, t, v, lev, held, rfl, L, hw, ht, hn, hd, _⟩ := h; exact absurd hd (Nat.not_lt_zero _)) (fun cdv A0 outer s H vs Q Es hr h => by obtain ⟨lk, dx, kd, A, R, ps, ah, rms, t, v, lev, held, rfl, L, hw, ht, hn, hd, _⟩ := h; exact absurd hd (Nat.not_lt_zero _)),
      eC.ok scCts (fun vs H Q E h => by obtain ⟨lk, dx, kd, A, R, ps, ah, rms, t, v, lev, free, rfl, L, hw, ht, hn, hd, _⟩ := h; exact absurd hd (Nat.not_lt_zero _)) (fun cdv A0 outer s H vs Q Es hr h => by obtain ⟨lk, dx, kd, A, R, ps, ah, rms, t, v, lev, free, rfl, L, hw, ht, hn, hd, _⟩ := h; exact absurd hd (Nat.not_lt_zero _)),
      zB⟩
  | d + 1 => by
    have I := all_p T T2 eB bBd eS bSt eG bGa eC bCa eR bRm FN bNm FT bTe FP bPk FX bTx FW bWh d
    have FR := roomS eR T (by omega : 2 ≤ 5 + 2 * d) I.B bBd I.C bCa FN bNm
    exact ⟨(bdyS eB T I.S bSt).mono (by omega), (stepS eS T T2 (by omega : 3 ≤ 5 + 2 * d + 1) FR bRm (I.G.mono (by omega)) bGa FP bPk FX bTx FW bWh).mono (by omega), (gthS eG T I.B bBd).mono (by omega), (ctsS eC T I.B0 bBd FT bTe).mono (by omega), I.B.mono (by omega)⟩
theorem ok_lkI {f : Addr} {fd : FuncData} (F : Fun K "__init__" "Look.__init__" sLkI f fd) (T : PGx K mg CL CK fBd fSt fRm fGa fCa fPk fTx fNm fWh fTe fIk) : FnOk P w K mg base CX0 1 f fd ["self", "kinds"] (spLkI CL) := by
  refine F.ok scLkI (fun vs H Q E h => ?_) (fun cdv A0 outer s H vs Q E hr h => ?_)
  · obtain ⟨p, kd, dx, rfl, _⟩ := h
    rfl
  · obtain ⟨p, kd, dx, rfl, hp, kk⟩ := h
    refine ⟨_, pss_cons (ps_fld (pv 0) (pv 1) rfl) (pss_cons (ps_fld (pv 0) (pe_lst pa_nil) rfl) (pss_one (ps_fld (pv 0) (pe_lst pa_nil) rfl))), ?_⟩
    refine ⟨_, rfl, _, rfl, p, CL, dx, [], rfl, hp, T.clL, T.nKn, by decide, ?_⟩
    have k0 : Keep [p] H (upd H p (.ins CL dx [("known", .ref kd)])) := Keep.own in1
    have p0 : (upd H p (.ins CL dx [("known", .ref kd)])) p = some (.ins CL dx [("known", .ref kd)]) := upd_same
    have eq0 : upd H p (.ins CL dx (putF "known" (.ref kd) [])) = upd H p (.ins CL dx [("known", .ref kd)]) := rfl
    rw [eq0]
    generalize (upd H p (.ins CL dx [("known", .ref kd)])) = G0 at k0 p0 ⊢
    refine ⟨Nat.zero_le _, fun l1 hl1 => ?_⟩
    have np1 : p ≠ l1 := ne_of_none p0 hl1
    refine ⟨_, rfl, p, CL, dx, [("known", .ref kd)], rfl, by rw [upd_ne np1]; exact p0, T.clL, T.nAh, (by show 1 < 1000; decide), ?_⟩
    have eq1 : upd (upd G0 l1 (.lst [])) p (.ins CL dx (putF "ahead" (.ref l1) [("known", .ref kd)])) = upd (upd G0 l1 (.lst [])) p (.ins CL dx [("known", .ref kd), ("ahead", .ref l1)]) := rfl
    rw [eq1]
    have k1 : Keep [p] G0 (upd (upd G0 l1 (.lst [])) p (.ins CL dx [("known", .ref kd), ("ahead", .ref l1)])) := (Keep.new hl1).ownTo in1
    have p1 : (upd (upd G0 l1 (.lst [])) p (.ins CL dx [("known", .ref kd), ("ahead", .ref l1)])) p = some (.ins CL dx [("known", .ref kd), ("ahead", .ref l1)]) := upd_same
    have b1 : (upd (upd G0 l1 (.lst [])) p (.ins CL dx [("known", .ref kd), ("ahead", .ref l1)])) l1 = some (.lst []) := by rw [upd_ne np1.symm, upd_same]
    generalize (upd (upd G0 l1 (.lst [])) p (.ins CL dx [("known", .ref kd), ("ahead", .ref l1)])) = G1 at k1 p1 b1 ⊢
    refine ⟨Nat.zero_le _, fun l2 hl2 => ?_⟩
    have np2 : p ≠ l2 := ne_of_none p1 hl2
    refine ⟨_, rfl, p, CL, dx, [("known", .ref kd), ("ahead", .ref l1)], rfl, by rw [upd_ne np2]; exact p1, T.clL, T.nRo, (by show 2 < 1000; decide), ?_⟩
    have eq2 : upd (upd G1 l2 (.lst [])) p (.ins CL dx (putF "rooms" (.ref l2) [("known", .ref kd), ("ahead", .ref l1)])) = upd (upd G1 l2 (.lst [])) p (.ins CL dx [("known", .ref kd), ("ahead", .ref l1), ("rooms", .ref l2)]) := rfl
    rw [eq2]
    have k2 : Keep [p] G1 (upd (upd G1 l2 (.lst [])) p (.ins CL dx [("known", .ref kd), ("ahead", .ref l1), ("rooms", .ref l2)])) := (Keep.new hl2).ownTo in1
    have p2 : (upd (upd G1 l2 (.lst [])) p (.ins CL dx [("known", .ref kd), ("ahead", .ref l1), ("rooms", .ref l2)])) p = some (.ins CL dx [("known", .ref kd), ("ahead", .ref l1), ("rooms", .ref l2)]) := upd_same
    have b2 : (upd (upd G1 l2 (.lst [])) p (.ins CL dx [("known", .ref kd), ("ahead", .ref l1), ("rooms", .ref l2)])) l2 = some (.lst []) := by rw [upd_ne np2.symm, upd_same]
    generalize (upd (upd G1 l2 (.lst [])) p (.ins CL dx [("known", .ref kd), ("ahead", .ref l1), ("rooms", .ref l2)])) = G2 at k2 p2 b2 ⊢
    have c1 : G2 l1 = some (.lst []) := k2.at b1 (nin1 np1.symm)
    exact kk G2 l1 l2 (ne_of_none b1 hl2) (k0.trans (k1.trans k2)) p2 c1 b2 (Keep.free k0 hl1 (nin1 np1.symm)) (Keep.free (k0.trans k1) hl2 (nin1 np2.symm))
theorem ok_prg {f fI : Addr} {fd dI dB dS dG dC dN : FuncData} {d : Nat} (F : Fun K "is_program" "is_program" sPrg f fd) (T : PGx K mg CL CK fBd fSt fRm fGa fCa fPk fTx fNm fWh fTe fIk) (mkL : Mk K CL fI) (gL : mg "Look" = some (.ref CL)) (FI : FnOk P w K mg base CX0 1 fI dI ["self", "kinds"] (spLkI CL)) (bI : Binds K dI ["self", "kinds"] [])
    (I : AllP P w K mg base CL CK Pt fBd fSt fGa fCa dB dS dG dC d) (bBd : Binds K dB aBdy []) (FN : FnOk P w K mg base CX0 2 fNm dN ["thing"] (spNmD Pt)) (bNm : Binds K dN ["thing"] []) : FnOk P w K mg base CX0 (5 + 2 * d + 1) f fd ["kinds", "thing"] (spPrg CK Pt d) := by
  refine F.ok scPrg (fun vs H Q E h => ?_) (fun cdv A0 outer s H vs Q Es hr h => ?_)
  · obtain ⟨kd, v, t, ps, rfl, _⟩ := h
    rfl
  · obtain ⟨kd, v, t, ps, rfl, hK, hw, hT, ht, hn, hd, hsz, kk⟩ := h
    have hr2 : Room 2 _ := hr.mono (by omega)
    have FB := I.B
    refine ⟨_, (pss_cons (ps_if (pt_not (pt_val (pe_callB call_isi (by rfl) T.isi (by decide +kernel) (pa_cons (pv 1) (pa_cons (pe_bltn (v := .ty "list") (u := .type "list") (by rfl) T.lst (by decide +kernel) rfl) pa_nil))))) (pss_one (ps_ret pe_bl)) pss_nil)
      (pss_cons (ps_set (i := 2) scPrg.nd rfl (Or.inl rfl) (pe_make mkL FI hr2 rfl gL bI .nil pass0 (pa_cons (pv 0) pa_nil)))
      (pss_cons (ps_for PassesOwn.never rfl (pi_list (pv 1)) (pg_name (i := 3) scPrg.nd rfl (Or.inl rfl)) (pss_cons (ps_if (PW.pt (pw_or (pt_not (pt_val (pe_callB call_isi (by rfl) T.isi (by decide +kernel) (pa_cons (pv 3) (pa_cons (pe_bltn (v := .ty "tuple") (u := .type "tuple") (by rfl) T.tup (by decide +kernel) rfl) pa_nil))))) (pw_or1 (pt_cmpR op_ne (pe_callB call_len_seq (by rfl) T.len PySem.boot_len (pa_cons (pv 3) pa_nil)) pe_int (nomark _))))) (pss_one (ps_ret pe_bl)) pss_nil)
        (pss_cons (ps_asg (pv 3) (pg_tup rfl (pgs_cons (pg_name (i := 4) scPrg.nd rfl (Or.inl rfl)) (pgs_cons (pg_name (i := 5) scPrg.nd rfl (Or.inl rfl)) pgs_nil))))
        (pss_cons (ps_if (PW.pt (pw_or (pt_not (pt_val (pe_call FN hr2 rfl T.gNm T.kNm bNm .nil pass0 (pa_cons (pv 4) pa_nil)))) (pw_or1 (pt_cmpR op_in_seq (pv 4) (pe_fld (pv 2) rfl) (by rfl))))) (pss_one (ps_ret pe_bl)) pss_nil)
        (pss_cons (ps_if (pt_not (pt_val (pe_call FB hr rfl T.gBd T.kBd bBd .nil pass0 (pa_cons (pv 2) (pa_cons (pv 5) (pa_cons pe_int (pa_cons pe_bl (pa_cons pe_bl pa_nil)))))))) (pss_one (ps_ret pe_bl)) pss_nil)
        (pss_one (ps_expr (pe_bm PySem.F.plainAttrs_list PySem.F.slot_list_append PySem.F.type_list_append mt_append (pe_fld (pv 2) rfl) (pa_cons (pv 4) pa_nil)))))))))
      (pss_one (ps_ret pe_bl))))), ?_⟩
    obtain ⟨ty, i1, _, i2⟩ := isi_dt (K := K) ht
    refine ⟨_, rfl, _, _, _, _, _, rfl, .ty "list", i1, kit_ty i2, isLs t, rfl, ?_⟩
    cases hl : isLs t with
    | false =>
      have e : progF ps d t = false := by
        cases t with
        | lst l => cases hl
        | _ => rfl
      rw [e] at kk
      exact iteT (kk H (Keep.refl _ _) hT)
    | true =>
    obtain ⟨l, rfl⟩ : ∃ l, t = .lst l := by
      cases t with
      | lst l => exact ⟨l, rfl⟩
      | _ => cases hl
    refine iteF ?_
    have hsz' : Dt.szs l + 1 ≤ 8000 := by simpa only [Dt.sz] using hsz
    have hdl : Dt.dps l + 1 < d := by simpa only [Dt.dp] using hd
    have hn' : ∀ x ∈ l, pnice x = true := by
      have : l.all pnice = true := hn
      rw [List.all_eq_true] at this
      exact this
    refine ⟨_, rfl, ?_⟩
    intro q qx nq nqx nqq
    have k1 : Keep [] H (upd (upd H qx (.own q)) q (.ins CL qx [])) := fun b o _ e => by
      rw [upd_ne (ne_of_none e nq), upd_ne (ne_of_none e nqx)]
      exact e
    have e1 : (upd (upd H qx (.own q)) q (.ins CL qx [])) q = some (.ins CL qx []) := upd_same
    generalize (upd (upd H qx (.own q)) q (.ins CL qx [])) = H1 at k1 e1 ⊢
    refine ⟨q, kd, qx, rfl, e1, fun H2 A R nAR k2 e2 eA eR nA nR => ⟨rfl, ?_⟩⟩
    have k12 : Keep [] H H2 := fun b o _ e => k2.at (k1.at e nin0) (nin1 (ne_of_none e nq))
    have hA : H A = none := Keep.free k1 nA nin0
    have hR : H R = none := Keep.free k1 nR nin0
    obtain ⟨tb, eT, oT⟩ := hT
    have L2 : LkAt CL CK H2 q qx kd A R Pt ps [] [] := ⟨e2, hK.keep0 k12, eA, eR, nAR, ⟨tb, k12.at eT nin0, oT⟩⟩
    have ht' : DtAt [A, R] H (.lst l) v := ht.off fun b hb => by
      rcases List.mem_cons.mp hb with z | z
      · rw [z]; exact .inr hA
      · rw [List.mem_singleton.mp z]; exact .inr hR
    have ht2 := ht'.keep0 k12
    simp only [DtAt] at ht2
    obtain ⟨a, ys, rfl, na, ea, tl⟩ := ht2
    have ly := tl.len
    have toH : ∀ {G : Hp}, Keep [A, R, Pt] H2 G → Keep [Pt] H G := fun {G} k b o n e => by
      refine k.at (k12.at e nin0) fun z => ?_
      rcases List.mem_cons.mp z with y | z
      · rw [y, hA] at e; cases e
      rcases List.mem_cons.mp z with y | z
      · rw [y, hR] at e; cases e
      · exact n z
    have wide : ∀ {G G' : Hp}, Keep [R, Pt] G G' → Keep [A, R, Pt] G G' := fun k => k.more fun b hb => List.mem_cons_of_mem _ hb
    refine ⟨_, rfl, a, rfl, ⟨_, SqL.of ea⟩, ?_⟩
    refine for_list (xs := ys) (fun i σ G => ∃ (v3 v4 v5 : Option V) (ahi rmi : List Str), σ = [some (.ref kd), some (.ref a), some (.ref q), v3, v4, v5] ∧ foldO (pairF ps d) (l.take i) ([], []) = some (ahi, rmi) ∧ LkAt CL CK G q qx kd A R Pt ps ahi rmi ∧ Keep [A, R, Pt] H2 G ∧ DtsAt [A, R] G l ys ∧ G a = some (.lst ys) ∧ rmi.length ≤ Dt.szs (l.take i) ∧ ahi.length ≤ Dt.szs (l.take i)) ⟨none, none, none, [], [], rfl, rfl, L2, Keep.refl _ _, tl, ea, Nat.zero_le _, Nat.zero_le _⟩ ?_ ?_ ?_
    · rintro i σ G hi ⟨v3, v4, v5, ahi, rmi, rfl, h0, LG, kG, tG, eG, l1, l2⟩
      exact SqL.of eG
    · rintro i x σ G hx ⟨v3, v4, v5, ahi, rmi, rfl, h0, LG, kG, tG, eG, l1, l2⟩
      have hil : i < l.length := by rw [← ly]; exact (List.getElem?_eq_some_iff.mp hx).1
      have hs := List.getElem?_eq_getElem hil
      generalize l[i] = s at hs
      obtain ⟨y, hy, ts⟩ := tG.get i s hs
      rw [hx] at hy
      obtain rfl := Option.some.inj hy
      have hsm := List.mem_of_getElem? hs
      obtain ⟨z1, z2⟩ := szs_take hs
      obtain ⟨f1, f2⟩ := foldO_step hs h0
      have dG := Dt.dp_in hsm
      have nG := hn' s hsm
      have out : pairF ps d s (ahi, rmi) = none → ∀ (G2 : Hp), Keep [A, R, Pt] H2 G2 → GxR.TabG G2 Pt → Q (.bl false) G2 := fun en G2 k2 t2 => by
        have e : progF ps d (.lst l) = false := by
          show (foldO (pairF ps d) l ([], [])).isSome = false
          rw [f2 en]; rfl
        rw [e] at kk
        exact kk G2 (toH k2) t2
      obtain ⟨ty, j1, j2, _⟩ := isi_dt (K := K) ts
      refine ⟨_, rfl, _, _, _, _, _, rfl, .ty "tuple", j1, kit_ty j2, isTp s, rfl, ?_⟩
      cases hp : isTp s with
      | false =>
        refine iteT (out ?_ G kG LG.tab)
        cases s with
        | tup l => cases hp
        | _ => simp only [pairF]
      | true =>
      refine iteF ?_
      obtain ⟨cs, rfl⟩ : ∃ cs, s = .tup cs := by
        cases s with
        | tup l => exact ⟨l, rfl⟩
        | _ => cases hp
      simp only [DtAt] at ts
      obtain ⟨b, us, rfl, eb, tc⟩ := ts
      refine ⟨_, rfl, b, us, rfl, .inr (SqT.of eb), rfl, _, rfl, ?_⟩
      by_cases h2 : us.length = 2
      case neg =>
        refine itN (fun z => h2 (by have := V.int.inj z; omega)) ?_
        refine out ?_ G kG LG.tab
        have hc := tc.len
        match cs, hc with
        | [], _ => simp only [pairF]
        | [x], _ => cases x with
          | flat v => cases v <;> simp only [pairF]
          | _ => simp only [pairF]
        | [x, y], hc => exact absurd hc h2
        | x :: y :: z :: r, _ => cases x with
          | flat v => cases v <;> simp only [pairF]
          | _ => simp only [pairF]
      obtain ⟨nm, bo, u, v, rfl, rfl, dnm, dbo⟩ := two_of tc h2
      refine iteNS rfl ?_
      refine ⟨_, rfl, b, _, rfl, SqT.of eb, rfl, _, _, rfl, _, _, rfl, rfl, ?_⟩
      have szt : Dt.sz (.tup [nm, bo]) = nm.sz + bo.sz + 1 := by simp only [Dt.sz, Dt.szs]; omega
      have dpt : bo.dp < d := by
        simp only [Dt.dp, Dt.dps] at dG
        omega
      have nbo : nice bo = true := nG
      have pnm := nm.pos
      refine ⟨_, rfl, [A, R], nm, u, rfl, dnm, LG.tab, fun H3 k3 t3 => ⟨_, rfl, ?_⟩⟩
      have L3 := LG.keepT k3 t3
      have k3' : Keep [R, Pt] G H3 := k3.more fun b hb => by rw [List.mem_singleton.mp hb]; exact List.mem_cons_of_mem _ List.mem_cons_self
      have kG3 : Keep [A, R, Pt] H2 H3 := kG.trans (wide k3')
      cases hnm : isNmD nm with
      | false =>
        refine iteT (out ?_ H3 kG3 t3)
        cases nm with
        | flat v =>
          cases v with
          | str z =>
            have e : nmB z = false := hnm
            simp only [pairF]
            rw [e]; rfl
          | _ => simp only [pairF]
        | _ => simp only [pairF]
      | true =>
      refine iteF ?_
      obtain ⟨z, rfl⟩ : ∃ z, nm = .flat (.str z) := by
        cases nm with
        | flat v => cases v <;> first | exact ⟨_, rfl⟩ | cases hnm
        | _ => cases hnm
      obtain rfl : u = .str z := by
        simp only [DtAt] at dnm
        exact dnm.1
      have hnz : nmB z = true := hnm
      have eP : pairF ps d (.tup [.flat (.str z), bo]) (ahi, rmi) = if decide (z ∈ ahi) then none else (bodyF ps ahi d 1 false true bo rmi).map fun r => (ahi ++ [z], r) := by
        simp only [pairF]
        rw [hnz]
        cases decide (z ∈ ahi) <;> rfl
      rw [eP] at f1 f2 out
      refine ⟨_, rfl, _, rfl, q, CL, qx, _, _, rfl, L3.ins, T.clL, T.nAh, fl_ahead, A, _, rfl, .inl (SqL.of L3.ahd), rfl, strs_all _, _, rfl, ?_⟩
      rw [inV_strs]
      cases hin : decide (z ∈ ahi) with
      | true => exact iteT (out (by rw [hin]; rfl) H3 kG3 t3)
      | false =>
      rw [hin, if_neg Bool.false_ne_true] at f1 f2 out
      refine iteF ?_
      have bo3 : DtAt [A, R] H3 bo v := LG.dt dbo k3'
      have ts3 : DtsAt [A, R] H3 l ys := LG.dts tG k3'
      have ea3 : H3 a = some (.lst ys) := LG.lst eG na k3'
      refine ⟨_, rfl, _, rfl, q, qx, kd, A, R, ps, ahi, rmi, bo, v, 1, false, true, rfl, L3, hw, bo3, nbo, dpt, by omega, fun H4 rm2 hr2' L4 k4 l4 => ?_⟩
      have kG4 : Keep [A, R, Pt] H2 H4 := kG3.trans (wide k4)
      cases hf : bodyF ps ahi d 1 false true bo rmi with
      | none => exact ⟨false, rfl, iteT (out (by rw [hf]; rfl) H4 kG4 L4.tab)⟩
      | some r =>
        refine ⟨true, rfl, iteF ?_⟩
        have er := hr2' r hf
        subst er
        have ts4 : DtsAt [A, R] H4 l ys := L3.dts ts3 k4
        have ea4 : H4 a = some (.lst ys) := L3.lst ea3 na k4
        refine ⟨_, rfl, q, CL, qx, _, _, rfl, L4.ins, T.clL, T.nAh, fl_ahead, .inl ⟨rfl, _, SqL.of L4.ahd⟩, _, rfl, A, _, _, rfl, rfl, L4.ahd, ?_, ?_⟩
        · rw [List.length_map]
          exact Nat.lt_of_lt_of_le (by omega : ahi.length < 9000) (by decide)
        obtain ⟨L5, k5⟩ := L4.name z
        have ts5 := L4.dtsA ts4 k5
        have ea5 := k5.at ea4 (nin1 fun y => na (by rw [y]; exact List.mem_cons_self))
        have l5 : (ahi ++ [z]).length = ahi.length + 1 := by simp
        exact ⟨_, _, _, ahi ++ [z], rm2, rfl, by rw [f1, hf]; rfl, L5, kG4.trans (k5.more fun b hb => by rw [List.mem_singleton.mp hb]; exact List.mem_cons_self), ts5, ea5, by omega, by omega⟩
    · rintro σ G ⟨v3, v4, v5, ahi, rmi, rfl, h0, LG, kG, tG, eG, l1, l2⟩
      rw [ly, List.take_length] at h0
      have e : progF ps d (.lst l) = true := by
        show (foldO (pairF ps d) l ([], [])).isSome = true
        rw [h0]; rfl
      rw [e] at kk
      exact kk G (toH kG) LG.tab
end
end Fs
/-! Nests of rooms and gathers: the mathematics. -/
namespace Fs
open PySem L2 TL
abbrev rname (j : Nat) : Str := Str.ofString "room" ++ one (97 + j)
theorem rn_ok : ∀ j < 6, nmB (rname j) = true := by decide +kernel
theorem rn_ne : ∀ i < 6, ∀ j < 6, i ≠ j → rname i ≠ rname j := by decide +kernel
abbrev T (l : List Dt) : Dt := .tup l
abbrev Z (z : Str) : Dt := .flat (.str z)
abbrev E0L : Dt := .lst []
/-- a step that may stand anywhere -/
inductive AnyS : Dt → Prop
  | say (z : Str) : AnyS (.tup [.flat (.str pSay), .flat (.str z)])
  | rz (z : Str) : AnyS (.tup [.flat (.str pRaise), .flat (.str sF), .flat (.str z)])
  | gat : AnyS (.tup [.flat (.str pGather), .flat (.str (Str.ofString "")), .lst [.lst []]])
theorem plain_F : plainK [] (.flat (.str sF)) = true := by decide +kernel
theorem bodyL {ps : List (Str × Str)} {ah : List Str} {d lev : Nat} {held free : Bool} {l : List Dt} {r : Rms} (h : lev ≤ 60) : bodyF ps ah (d + 1) lev held free (.lst l) r = foldO (stepF ps ah d lev held free) l r := by
  simp only [bodyF]; exact if_neg (by omega)
theorem bodyE {ps : List (Str × Str)} {ah : List Str} {d lev : Nat} {held free : Bool} {r : Rms} (h : lev ≤ 60) : bodyF ps ah (d + 1) lev held free (.lst []) r = some r := bodyL h
theorem stepT {ps : List (Str × Str)} {ah : List Str} {d lev : Nat} {held free : Bool} {l : List Dt} {r : Rms} : stepF ps ah (d + 1) lev held free (.tup l) r = stepL ps ah (fun fr => bodyF ps ah d (lev + 1) held fr) (fun fr => catsF ps ah d lev fr) (gathF ps ah d lev held) held free l r := by simp only [stepF]
theorem gathL {ps : List (Str × Str)} {ah : List Str} {d lev : Nat} {held : Bool} {x : Dt} {l : List Dt} {r : Rms} : gathF ps ah (d + 1) lev held (.lst (x :: l)) r = foldO (bodyF ps ah d (lev + 1) held false) (x :: l) r := by
  simp only [gathF]; rfl
theorem any_step {ah : List Str} {d lev : Nat} {held free : Bool} {t : Dt} {r : Rms} (h : AnyS t) (hd : 3 ≤ d) (hl : lev + 1 ≤ 60) : stepF [] ah d lev held free t r = some r := by
  obtain ⟨e, rfl⟩ : ∃ e, d = e + 3 := ⟨d - 3, by omega⟩
  rw [show e + 3 = (e + 2) + 1 from rfl]
  cases h with
  | say z => rw [stepT, st_Say]; rfl
  | rz z => rw [stepT, st_Raise, plain_F]; rfl
  | gat =>
    rw [stepT, st_Gather, show e + 2 = (e + 1) + 1 from rfl]
    show gathF [] ah (e + 1 + 1) lev held (.lst [.lst []]) r = _
    rw [gathL]
    show ((bodyF [] ah (e + 1) (lev + 1) held false (.lst []) r).bind some) = _
    rw [bodyE hl]; rfl
/-- how a body is taken: well or not, and rooms of these names at most -/
def EvalP (k : Nat) (t : Dt) (ok : Bool → Bool → Bool) : Prop := ∀ (ah : List Str) (d lev : Nat) (held free : Bool) (r : Rms), 6 + 6 * k ≤ d → lev + 1 + k ≤ 60 → (∀ j < k, rname j ∉ r) → ∃ r', bodyF [] ah d lev held free t r = (if ok held free then some r' else none) ∧ ∀ z ∈ r', z ∈ r ∨ ∃ j < k, z = rname j
theorem if_bind {α β : Type} {b : Bool} {x : α} {f : α → Option β} : ((if b = true then some x else none).bind f) = if b = true then f x else none := by cases b <;> rfl
theorem one_bind {x : Option Rms} : x.bind some = x := by cases x <;> rfl
/-- a step alone -/
theorem EvalP.start {t : Dt} {ok : Bool → Bool → Bool} (h : ∀ (ah : List Str) (d lev : Nat) (held free : Bool) (r : Rms), 3 ≤ d → lev + 1 ≤ 60 → stepF [] ah d lev held free t r = if ok held free then some r else none) : EvalP 0 (.lst [t]) ok := fun ah d lev held free r hd hl hr => by
  obtain ⟨e, rfl⟩ : ∃ e, d = e + 1 := ⟨d - 1, by omega⟩
  refine ⟨r, ?_, fun z hz => .inl hz⟩
  rw [bodyL (by omega)]
  show (stepF [] ah e lev held free t r).bind some = _
  rw [h ah e lev held free r (by omega) (by omega), one_bind]
/-- any step ahead, behind -/
theorem EvalP.ahead {k : Nat} {l : List Dt} {t : Dt} {ok : Bool → Bool → Bool} (h : EvalP k (.lst l) ok) (ht : AnyS t) : EvalP k (.lst (t :: l)) ok := fun ah d lev held free r hd hl hr => by
  obtain ⟨e, rfl⟩ : ∃ e, d = e + 1 := ⟨d - 1, by omega⟩
  obtain ⟨r', h1, h2⟩ := h ah (e + 1) lev held free r hd hl hr
  rw [bodyL (by omega)] at h1 ⊢
  refine ⟨r', ?_, h2⟩
  show (stepF [] ah e lev held free t r).bind _ = _
  rw [any_step ht (by omega) (by omega)]
  exact h1
theorem EvalP.behind {k : Nat} {l : List Dt} {t : Dt} {ok : Bool → Bool → Bool} (h : EvalP k (.lst l) ok) (ht : AnyS t) : EvalP k (.lst (l ++ [t])) ok := fun ah d lev held free r hd hl hr => by
  obtain ⟨e, rfl⟩ : ∃ e, d = e + 1 := ⟨d - 1, by omega⟩
  obtain ⟨r', h1, h2⟩ := h ah (e + 1) lev held free r hd hl hr
  rw [bodyL (by omega)] at h1 ⊢
  refine ⟨r', ?_, h2⟩
  rw [foldO_app, h1, if_bind]
  cases ok held free with
  | false => rfl
  | true =>
    show (stepF [] ah e lev held free t r').bind some = _
    rw [any_step ht (by omega) (by omega)]; rfl
/-! rooms -/
abbrev roomD (n : Str) (b : Dt) (w : Str) (cs ow lv : Dt) : Dt := .tup [.flat (.str pRoom), .flat (.str n), b, .flat (.str w), cs, ow, lv]
theorem room_step {ah : List Str} {d lev : Nat} {held free : Bool} {n w : Str} {b cs ow lv : Dt} {r : Rms} (hn : nmB n = true) (hr : n ∉ r) (hw : w = pWhole ∨ w = pOut) : stepF [] ah (d + 1) lev held free (roomD n b w cs ow lv) r = (((bodyF [] ah d (lev + 1) held free b (r ++ [n])).bind (bodyF [] ah d (lev + 1) held free ow)).bind (bodyF [] ah d (lev + 1) held free lv)).bind (catsF [] ah d lev (free && decide (w = pWhole)) cs) := by
  rw [stepT, st_Room rfl]
  simp only [roomB]
  rw [hn, decide_eq_false hr]
  have e : wayOk (.flat (.str w)) = true := by
    show (decide (w = pWhole) || decide (w = pOut)) = true
    rcases hw with h | h <;> rw [decide_eq_true h] <;> simp
  rw [e]
  rfl
abbrev catA : Dt := .tup [.tup [.flat (.str wNot), .tup [.flat (.str wSays), .flat (.str (Str.ofString ""))]], .lst [.tup [.flat (.str pAgain)]]]
theorem test_A : isP [] (toTh (.tup [.flat (.str wNot), .tup [.flat (.str wSays), .flat (.str (Str.ofString ""))]])) = true := by
  simp only [toTh, toThs]; rw [show isP [] (.tup [.flat (.str wNot), .tup [.flat (.str wSays), .flat (.str (Str.ofString ""))]]) = isL [] [.flat (.str wNot), .tup [.flat (.str wSays), .flat (.str (Str.ofString ""))]] by simp only [isP]]
  rw [isL_not]
  simp only [allP, isP]
  rw [isL_one _ (by decide +kernel) (by decide +kernel)]
  simp only [oneL, oneT]
  decide +kernel
theorem test_1 {w z : Str} (h : w = wKind ∧ z = sF ∨ w = wSays ∨ w = wNoted) : isP [] (toTh (.tup [.flat (.str w), .flat (.str z)])) = true := by
  simp only [toTh, toThs]; rw [show isP [] (.tup [.flat (.str w), .flat (.str z)]) = isL [] [.flat (.str w), .flat (.str z)] by simp only [isP]]
  rcases h with ⟨rfl, rfl⟩ | rfl | rfl
  · rw [isL_one _ (by decide +kernel) (by decide +kernel)]
    simp only [oneL, oneT]; decide +kernel
  · rw [isL_one _ (by decide +kernel) (by decide +kernel)]
    simp only [oneL, oneT]; rw [if_neg (by decide +kernel)]; simp
  · rw [isL_one _ (by decide +kernel) (by decide +kernel)]
    simp only [oneL, oneT]; rw [if_neg (by decide +kernel)]; simp
theorem catsL {ps : List (Str × Str)} {ah : List Str} {d lev : Nat} {free : Bool} {l : List Dt} {r : Rms} : catsF ps ah (d + 1) lev free (.lst l) r = foldO (catF ps ah d lev free) l r := by simp only [catsF]
theorem cat_ok {ps : List (Str × Str)} {ah : List Str} {d lev : Nat} {free : Bool} {te b : Dt} {r : Rms} (h : isP ps (toTh te) = true) : catF ps ah (d + 1) lev free (.tup [te, b]) r = bodyF ps ah d (lev + 1) true free b r := by
  simp only [catF]; rw [h]; rfl
theorem again_step {ah : List Str} {d lev : Nat} {free : Bool} {r : Rms} : stepF [] ah (d + 1) lev true free (.tup [.flat (.str pAgain)]) r = some r := by rw [stepT, st_Again]; rfl
/-- the catchers that aren't asked of -/
theorem cats_A {ah : List Str} {d lev n : Nat} {free : Bool} {r : Rms} (hd : 5 ≤ d) (hl : lev + 1 ≤ 60) : catsF [] ah d lev free (.lst ([catA].take n)) r = some r := by
  obtain ⟨e, rfl⟩ : ∃ e, d = e + 5 := ⟨d - 5, by omega⟩
  rw [show e + 5 = (e + 4) + 1 from rfl, catsL]
  cases n with
  | zero => rfl
  | succ n =>
    rw [List.take_of_length_le (by show 1 ≤ n + 1; omega)]
    show ((catF [] ah (e + 3 + 1) lev free catA r).bind some) = _
    rw [cat_ok test_A, show e + 3 = (e + 2) + 1 from rfl, bodyL hl, one_bind]
    show ((stepF [] ah (e + 1 + 1) (lev + 1) true free (.tup [.flat (.str pAgain)]) r).bind some) = _
    rw [again_step]; rfl
abbrev cat3 (b : Dt) : List Dt := [.tup [.tup [.flat (.str wKind), .flat (.str sF)], .lst []], .tup [.tup [.flat (.str wSays), .flat (.str (Str.ofString "x"))], b], .tup [.tup [.flat (.str wNoted), .flat (.str (Str.ofString ""))], .lst []]]
theorem cats_3 {ah : List Str} {d lev n : Nat} {free : Bool} {b : Dt} {r : Rms} (hd : 3 ≤ d) (hl : lev + 1 ≤ 60) (hn : n ≤ 1) : catsF [] ah d lev free (.lst ((cat3 b).drop n)) r = bodyF [] ah (d - 2) (lev + 1) true free b r := by
  obtain ⟨e, rfl⟩ : ∃ e, d = e + 3 := ⟨d - 3, by omega⟩
  rw [show e + 3 = (e + 2) + 1 from rfl, catsL]
  have h2 : foldO (catF [] ah (e + 2) lev free) [.tup [.tup [.flat (.str wSays), .flat (.str (Str.ofString "x"))], b], .tup [.tup [.flat (.str wNoted), .flat (.str (Str.ofString ""))], .lst []]] r = bodyF [] ah (e + 1) (lev + 1) true free b r := by
    show ((catF [] ah (e + 1 + 1) lev free (.tup [.tup [.flat (.str wSays), .flat (.str (Str.ofString "x"))], b]) r).bind fun r => (catF [] ah (e + 1 + 1) lev free (.tup [.tup [.flat (.str wNoted), .flat (.str (Str.ofString ""))], .lst []]) r).bind some) = _
    rw [cat_ok (test_1 (.inr (.inl rfl)))]
    cases bodyF [] ah (e + 1) (lev + 1) true free b r with
    | none => rfl
    | some r' =>
      show ((catF [] ah (e + 1 + 1) lev free (.tup [.tup [.flat (.str wNoted), .flat (.str (Str.ofString ""))], .lst []]) r').bind some) = _
      rw [cat_ok (test_1 (.inr (.inr rfl))), bodyE hl]; rfl
  match n, hn with
  | 0, _ =>
    show ((catF [] ah (e + 1 + 1) lev free (.tup [.tup [.flat (.str wKind), .flat (.str sF)], .lst []]) r).bind _) = _
    rw [cat_ok (test_1 (.inl ⟨rfl, rfl⟩)), bodyE hl]
    exact h2
  | 1, _ => exact h2
/-- what a frame makes of it -/
def okF : Nat → (Bool → Bool → Bool) → Bool → Bool → Bool
  | 1, ok => fun _ free => ok true free
  | 2, ok => fun _ _ => ok true false
  | 5, ok => fun held _ => ok held false
  | _, ok => ok
section
variable {k : Nat} {t : Dt} {ok : Bool → Bool → Bool}
theorem EvalP.inner (h : EvalP k t ok) {ah : List Str} {d lev : Nat} {held free : Bool} {r : Rms} (hk : k < 6) (hd : 6 + 6 * k ≤ d) (hl : lev + 1 + k ≤ 60) (hr : ∀ j < k + 1, rname j ∉ r) : ∃ r', bodyF [] ah d lev held free t (r ++ [rname k]) = (if ok held free then some r' else none) ∧ ∀ z ∈ r', z ∈ r ∨ ∃ j < k + 1, z = rname j := by
  obtain ⟨r', h1, h2⟩ := h ah d lev held free (r ++ [rname k]) hd hl fun j hj hz => by
    rcases List.mem_append.mp hz with q | q
    · exact hr j (by omega) q
    · exact rn_ne j (by omega) k hk (by omega) (List.mem_singleton.mp q)
  refine ⟨r', h1, fun z hz => ?_⟩
  rcases h2 z hz with q | ⟨j, hj, q⟩
  · rcases List.mem_append.mp q with q | q
    · exact .inl q
    · exact .inr ⟨k, by omega, List.mem_singleton.mp q⟩
  · exact .inr ⟨j, by omega, q⟩
theorem EvalP.alone {s : Dt} (hs : ∀ (ah : List Str) (d lev : Nat) (held free : Bool) (r : Rms), 11 + 6 * k ≤ d → lev + 2 + k ≤ 60 → (∀ j < k + 1, rname j ∉ r) → ∃ r', stepF [] ah d lev held free s r = (if ok held free then some r' else none) ∧ ∀ z ∈ r', z ∈ r ∨ ∃ j < k + 1, z = rname j) : EvalP (k + 1) (.lst [s]) ok := fun ah d lev held free r hd hl hr => by
  obtain ⟨e, rfl⟩ : ∃ e, d = e + 1 := ⟨d - 1, by omega⟩
  rw [bodyL (by omega)]
  obtain ⟨r', h1, h2⟩ := hs ah e lev held free r (by omega) (by omega) hr
  refine ⟨r', ?_, h2⟩
  show (stepF [] ah e lev held free s r).bind some = _
  rw [one_bind, h1]
theorem EvalP.f0 (h : EvalP k t ok) (hk : k < 6) {w : Str} {n : Nat} (hw : w = pWhole ∨ w = pOut) : EvalP (k + 1) (.lst [roomD (rname k) t w (.lst ([catA].take n)) (.lst []) (.lst [])]) ok := EvalP.alone fun ah d lev held free r hd hl hr => by
  obtain ⟨e, rfl⟩ : ∃ e, d = e + 2 := ⟨d - 2, by omega⟩
  obtain ⟨r', h1, h2⟩ := h.inner (ah := ah) (d := e + 1) (lev := lev + 1) (held := held) (free := free) (r := r) hk (by omega) (by omega) hr
  refine ⟨r', ?_, h2⟩
  rw [show e + 2 = (e + 1) + 1 from rfl, room_step (rn_ok k hk) (hr k (by omega)) hw, h1]
  cases ok held free with
  | false => rfl
  | true =>
    show (((bodyF [] ah (e + 1) (lev + 1) held free (.lst []) r').bind _).bind _) = some r'
    rw [bodyE (by omega)]
    show ((bodyF [] ah (e + 1) (lev + 1) held free (.lst []) r').bind _) = some r'
    rw [bodyE (by omega)]
    exact cats_A (by omega) (by omega)
theorem EvalP.f3 (h : EvalP k t ok) (hk : k < 6) {w : Str} {n : Nat} (hw : w = pWhole ∨ w = pOut) : EvalP (k + 1) (.lst [roomD (rname k) (.lst []) w (.lst ([catA].take n)) t (.lst [])]) ok := EvalP.alone fun ah d lev held free r hd hl hr => by
  obtain ⟨e, rfl⟩ : ∃ e, d = e + 2 := ⟨d - 2, by omega⟩
  obtain ⟨r', h1, h2⟩ := h.inner (ah := ah) (d := e + 1) (lev := lev + 1) (held := held) (free := free) (r := r) hk (by omega) (by omega) hr
  refine ⟨r', ?_, h2⟩
  rw [show e + 2 = (e + 1) + 1 from rfl, room_step (rn_ok k hk) (hr k (by omega)) hw, bodyE (by omega)]
  show ((bodyF [] ah (e + 1) (lev + 1) held free t (r ++ [rname k])).bind _).bind _ = _
  rw [h1]
  cases ok held free with
  | false => rfl
  | true =>
    show ((bodyF [] ah (e + 1) (lev + 1) held free (.lst []) r').bind _) = some r'
    rw [bodyE (by omega)]
    exact cats_A (by omega) (by omega)
theorem EvalP.f4 (h : EvalP k t ok) (hk : k < 6) {w : Str} {n : Nat} (hw : w = pWhole ∨ w = pOut) : EvalP (k + 1) (.lst [roomD (rname k) (.lst []) w (.lst ([catA].take n)) (.lst []) t]) ok := EvalP.alone fun ah d lev held free r hd hl hr => by
  obtain ⟨e, rfl⟩ : ∃ e, d = e + 2 := ⟨d - 2, by omega⟩
  obtain ⟨r', h1, h2⟩ := h.inner (ah := ah) (d := e + 1) (lev := lev + 1) (held := held) (free := free) (r := r) hk (by omega) (by omega) hr
  refine ⟨r', ?_, h2⟩
  rw [show e + 2 = (e + 1) + 1 from rfl, room_step (rn_ok k hk) (hr k (by omega)) hw, bodyE (by omega)]
  show ((bodyF [] ah (e + 1) (lev + 1) held free (.lst []) (r ++ [rname k])).bind _).bind _ = _
  rw [bodyE (by omega)]
  show (bodyF [] ah (e + 1) (lev + 1) held free t (r ++ [rname k])).bind _ = _
  rw [h1]
  cases ok held free with
  | false => rfl
  | true => exact cats_A (by omega) (by omega)
theorem EvalP.f12 (h : EvalP k t ok) (hk : k < 6) {w : Str} {n : Nat} (hn : n ≤ 1) (hw : w = pWhole ∨ w = pOut) : EvalP (k + 1) (.lst [roomD (rname k) (.lst []) w (.lst ((cat3 t).drop n)) (.lst []) (.lst [])]) (fun _ free => ok true (free && decide (w = pWhole))) := EvalP.alone fun ah d lev held free r hd hl hr => by
  obtain ⟨e, rfl⟩ : ∃ e, d = e + 4 := ⟨d - 4, by omega⟩
  obtain ⟨r', h1, h2⟩ := h.inner (ah := ah) (d := e + 1) (lev := lev + 1) (held := true) (free := free && decide (w = pWhole)) (r := r) hk (by omega) (by omega) hr
  refine ⟨r', ?_, h2⟩
  rw [show e + 4 = (e + 3) + 1 from rfl, room_step (rn_ok k hk) (hr k (by omega)) hw, show e + 3 = (e + 2) + 1 from rfl, bodyE (by omega)]
  show ((bodyF [] ah (e + 2 + 1) (lev + 1) held free (.lst []) (r ++ [rname k])).bind _).bind _ = _
  rw [bodyE (by omega)]
  show (bodyF [] ah (e + 2 + 1) (lev + 1) held free (.lst []) (r ++ [rname k])).bind _ = _
  rw [bodyE (by omega)]
  show catsF [] ah (e + 2 + 1) lev (free && decide (w = pWhole)) _ (r ++ [rname k]) = _
  rw [cats_3 (by omega) (by omega) hn]
  exact h1
theorem EvalP.f5 (h : EvalP k t ok) (hk : k < 6) {z : Str} {n : Nat} (hn : n ≤ 1) : EvalP (k + 1) (.lst [.tup [.flat (.str pGather), .flat (.str z), .lst ([.lst [], t, .lst []].drop n)]]) (fun held _ => ok held false) := EvalP.alone fun ah d lev held free r hd hl hr => by
  obtain ⟨e, rfl⟩ : ∃ e, d = e + 3 := ⟨d - 3, by omega⟩
  obtain ⟨r', h1, h2⟩ := h ah (e + 1) (lev + 1) held false r (by omega) (by omega) fun j hj => hr j (by omega)
  refine ⟨r', ?_, fun z hz => ?_⟩
  · rw [show e + 3 = (e + 2) + 1 from rfl, stepT, st_Gather]
    show gathF [] ah (e + 1 + 1) lev held _ r = _
    have hb : foldO (bodyF [] ah (e + 1) (lev + 1) held false) [t, .lst []] r = if ok held false then some r' else none := by
      show (bodyF [] ah (e + 1) (lev + 1) held false t r).bind (fun r => (bodyF [] ah (e + 1) (lev + 1) held false (.lst []) r).bind some) = _
      rw [h1]
      cases ok held false with
      | false => rfl
      | true =>
        show (bodyF [] ah (e + 1) (lev + 1) held false (.lst []) r').bind some = some r'
        rw [bodyE (by omega)]; rfl
    match n, hn with
    | 0, _ =>
      show gathF [] ah (e + 1 + 1) lev held (.lst [.lst [], t, .lst []]) r = _
      rw [gathL]
      show (bodyF [] ah (e + 1) (lev + 1) held false (.lst []) r).bind _ = _
      rw [bodyE (by omega)]
      exact hb
    | 1, _ =>
      show gathF [] ah (e + 1 + 1) lev held (.lst [t, .lst []]) r = _
      rw [gathL]
      exact hb
  · rcases h2 z hz with q | ⟨j, hj, q⟩
    · exact .inl q
    · exact .inr ⟨j, by omega, q⟩
end
/-- what is due of frames, the innermost first -/
def okFs (ok : Bool → Bool → Bool) : List Nat → Bool → Bool → Bool
  | [] => ok
  | f :: fs => okFs (okF f ok) fs
theorem okFs_app (ok : Bool → Bool → Bool) : ∀ (a b : List Nat), okFs ok (a ++ b) = okFs (okFs ok a) b
  | [], _ => rfl
  | f :: a, b => okFs_app (okF f ok) a b
theorem due_hand : ∀ (fs : List Nat) (b : Bool), okFs (fun held _ => held || b) fs false true = (b || decide (1 ∈ fs) || decide (2 ∈ fs))
  | [], b => by simp [okFs]
  | f :: fs, b => by
    have c : ∀ ok : Bool → Bool → Bool, okF f ok = (if f = 1 then fun _ free => ok true free else if f = 2 then fun _ _ => ok true false else if f = 5 then fun held _ => ok held false else ok) := fun ok => by
      match f with
      | 0 => rfl
      | 1 => rfl
      | 2 => rfl
      | 3 => rfl
      | 4 => rfl
      | 5 => rfl
      | n + 6 => rfl
    show okFs (okF f _) fs false true = _
    rw [c]
    by_cases h1 : f = 1
    · rw [if_pos h1]
      have := due_hand fs true
      simp only [Bool.or_true, Bool.true_or] at this ⊢
      rw [this, h1]; simp
    · rw [if_neg h1]
      by_cases h2 : f = 2
      · rw [if_pos h2]
        have := due_hand fs true
        simp only [Bool.or_true, Bool.true_or] at this ⊢
        rw [this, h2]; simp
      · rw [if_neg h2]
        have e5 : (if f = 5 then fun (held : Bool) (_ : Bool) => held || b else fun held _ => held || b) = fun held _ => held || b := by split <;> rfl
        rw [e5, due_hand fs b]
        have m1 : decide (1 ∈ f :: fs) = decide (1 ∈ fs) := by
          rw [decide_eq_decide, List.mem_cons]
          exact ⟨fun z => z.resolve_left (fun q => h1 q.symm), .inr⟩
        have m2 : decide (2 ∈ f :: fs) = decide (2 ∈ fs) := by
          rw [decide_eq_decide, List.mem_cons]
          exact ⟨fun z => z.resolve_left (fun q => h2 q.symm), .inr⟩
        rw [m1, m2]
theorem due_none : ∀ (fs : List Nat), okFs (fun _ _ => false) fs = fun _ _ => false
  | [] => rfl
  | f :: fs => by
    have c : okF f (fun _ _ => false) = fun _ _ => false := by
      match f with
      | 0 => rfl
      | 1 => rfl
      | 2 => rfl
      | 3 => rfl
      | 4 => rfl
      | 5 => rfl
      | n + 6 => rfl
    show okFs (okF f _) fs = _
    rw [c, due_none fs]
theorem due_ans : ∀ (fs : List Nat) (b : Bool), okFs (fun _ free => free && b) fs false true = (b && (!decide (5 ∈ fs)) && (!decide (2 ∈ fs)))
  | [], b => by simp [okFs]
  | f :: fs, b => by
    have c : ∀ ok : Bool → Bool → Bool, okF f ok = (if f = 1 then fun _ free => ok true free else if f = 2 then fun _ _ => ok true false else if f = 5 then fun held _ => ok held false else ok) := fun ok => by
      match f with
      | 0 => rfl
      | 1 => rfl
      | 2 => rfl
      | 3 => rfl
      | 4 => rfl
      | 5 => rfl
      | n + 6 => rfl
    have cf : ∀ fs : List Nat, okFs (fun _ _ => false) fs false true = false := fun fs => by rw [due_none]
    show okFs (okF f _) fs false true = _
    rw [c]
    by_cases h2 : f = 2
    · rw [if_neg (by omega), if_pos h2]
      show okFs (fun _ _ => false) fs false true = _
      rw [cf, h2]; simp
    · by_cases h5 : f = 5
      · rw [if_neg (by omega), if_neg h2, if_pos h5]
        show okFs (fun _ _ => false) fs false true = _
        rw [cf, h5]; simp
      · have e1 : (if f = 1 then fun (_ : Bool) (free : Bool) => free && b else if f = 2 then fun _ _ => false && b else if f = 5 then fun _ _ => false && b else fun _ free => free && b) = fun _ free => free && b := by
          rw [if_neg h2, if_neg h5]
          split <;> rfl
        rw [e1, due_ans fs b]
        have m1 : decide (5 ∈ f :: fs) = decide (5 ∈ fs) := by
          rw [decide_eq_decide, List.mem_cons]
          exact ⟨fun z => z.resolve_left (fun q => h5 q.symm), .inr⟩
        have m2 : decide (2 ∈ f :: fs) = decide (2 ∈ fs) := by
          rw [decide_eq_decide, List.mem_cons]
          exact ⟨fun z => z.resolve_left (fun q => h2 q.symm), .inr⟩
        rw [m1, m2]
theorem due_any : ∀ (fs : List Nat), okFs (fun _ _ => true) fs = fun _ _ => true
  | [] => rfl
  | f :: fs => by
    have c : okF f (fun _ _ => true) = fun _ _ => true := by
      match f with
      | 0 => rfl
      | 1 => rfl
      | 2 => rfl
      | 3 => rfl
      | 4 => rfl
      | 5 => rfl
      | n + 6 => rfl
    show okFs (okF f _) fs = _
    rw [c, due_any fs]
end Fs
/-! Displays of data; numbers of any size; a step that may stand anywhere. -/
namespace Fs
open PySem L2 TL PySem.Spec PyProof.Rows
/-- a, b, c = x, y, z with plain names: stored from the right -/
def tPar3 (i j k : Nat) (ta : TA) : TS := fun D σ H => ta σ H fun vs H1 => ∃ u v w, vs = [u, v, w] ∧ D.nx (((σ.set i (some u)).set j (some v)).set k (some w)) H1
theorem ps_par3 {X : Cx} {pos : Pos} {i j k : Nat} {x y z : Str} {a b c : Expr} {ta : TA} {px py pz pt : Pos} {kt k2 pt2} (hc : X.calm = true) (hN : X.N.Nodup) (hi : X.N[i]? = some x) (hj : X.N[j]? = some y) (hk : X.N[k]? = some z) (hij : i ≠ j) (hik : i ≠ k) (hjk : j ≠ k)
    (hx : X.env.scope.names.lookup x = some .local) (hy : X.env.scope.names.lookup y = some .local) (hz : X.env.scope.names.lookup z = some .local) (ha : PA X [a, b, c] ta)
    (hw : swappedStores [.Tuple [.Name x px, .Name y py, .Name z pz] kt pt] (.Tuple [a, b, c] k2 pt2) X.env = pure (some [x, y, z]))
    (hs : swapsWithSole [.Tuple [.Name x px, .Name y py, .Name z pz] kt pt] (.Tuple [a, b, c] k2 pt2) pos.line X.env = pure false := by rfl) :
    PS X (.Assign [.Tuple [.Name x px, .Name y py, .Name z pz] kt pt] (.Tuple [a, b, c] k2 pt2) pos) (tPar3 i j k ta) := by
  refine ⟨fun pins s σ H D I h => ?_⟩
  rw [exec_Assign_arm]
  refine wpAny_bind (wpAny_standAt ?_)
  rw [hs]
  refine wpAny_bind (wpAny_pure ?_)
  rw [if_neg (by decide)]
  refine wpAny_bind (Tuple_ (thn (ha.run _ pins s σ H _ I h) fun us s1 ⟨vs, H1, I1, r1, q1⟩ => ?_))
  obtain ⟨v1, v2, v3, e1, q1⟩ := q1
  subst e1
  obtain ⟨u1, u2, u3, rfl, rv1, rv2, rv3⟩ : ∃ u1 u2 u3, us = [u1, u2, u3] ∧ RelV v1 u1 ∧ RelV v2 u2 ∧ RelV v3 u3 := by
    cases r1 with
    | cons p q =>
      cases q with
      | cons p' q' =>
        cases q' with
        | cons p'' q'' =>
          cases q''
          exact ⟨_, _, _, rfl, p, p', p''⟩
  refine wpAny_newObj_type ?_ (by show 3 ≤ sizeLine; decide)
  have I2 : Inv X pins σ H1 { s1 with heap := s1.heap.push { cls := .type "tuple", data := .seq [u1, u2, u3].toArray } } := I1.kept (t' := s1.toks) fun b o e => Heap.get?_push_of_some _ e
  rw [hw]
  refine wpAny_bind (wpAny_pure ?_)
  show wpAny (model X.prog X.w) X.A (do rule "assign.swapped-stores"; let items ← unpackItems (.ref s1.heap.objs.size) 3 none; assignInOrder [fun v => bindName X.env z v, fun v => bindName X.env y v, fun v => bindName X.env x v] items.reverse; pure Flow.next) _ _ _
  refine wpAny_bind (wpAny_rule (wpAny_bind (unpackItems_tuple (items := #[u1, u2, u3]) (I.ok.hd hc) (IsTup.new s1.heap _) fun h' hx' => ?_)))
  have I3 := I2.kept (h' := h') (t' := s1.toks) fun b o e => hx' b o (Nat.ne_of_lt (Heap.lt_size e)) e
  show wpAny _ _ (assignInOrder [fun v => bindName X.env z v, fun v => bindName X.env y v, fun v => bindName X.env x v] [u3, u2, u1] >>= fun _ => pure Flow.next) _ _ _
  refine wpAny_bind (assignInOrder_cons (wpAny_bindName (store_ok I3 hN hk (.inl hz) rv3 (fun s2 I4 => ?_) (.inr hz))))
  refine assignInOrder_cons (wpAny_bindName (store_ok I4 hN hj (.inl hy) rv2 (fun s3 I5 => ?_) (.inr hy)))
  refine assignInOrder_cons (wpAny_bindName (store_ok I5 hN hi (.inl hx) rv1 (fun s4 I6 => assignInOrder_nil (wpAny_pure ?_)) (.inr hx)))
  rw [List.set_comm _ _ (Ne.symm hij), List.set_comm _ _ (Ne.symm hik), List.set_comm _ _ (Ne.symm hjk)] at I6
  exact ⟨_, H1, I6, q1⟩
/-! what a display gives -/
def Gv (p : Addr) (H0 : Hp) (σ : L2.St) (t : Dt) (te : TE) : Prop := ∀ (H : Hp) (Q : VK), Keep [] H0 H → (∀ v H', Keep [] H H' → DtAt [p] H' t v → Q v H') → te σ H Q
def Gs (p : Addr) (H0 : Hp) (σ : L2.St) (ts : List Dt) (ta : TA) : Prop := ∀ (H : Hp) (Q : List V → Hp → Prop), Keep [] H0 H → (∀ vs H', Keep [] H H' → DtsAt [p] H' ts vs → Q vs H') → ta σ H Q
section
variable {p : Addr} {H0 : Hp} {σ : L2.St}
theorem gs_nil : Gs p H0 σ [] tNil := fun H Q _ h => h [] H (Keep.refl _ _) (by simp only [DtsAt])
theorem gs_cons {t : Dt} {ts : List Dt} {te : TE} {ta : TA} (h1 : Gv p H0 σ t te) (h2 : Gs p H0 σ ts ta) : Gs p H0 σ (t :: ts) (tCons te ta) := fun H Q k h =>
  h1 H _ k fun v H1 k1 g1 => h2 H1 _ (k.trans k1) fun vs H2 k2 g2 => h (v :: vs) H2 (k1.trans k2) (by simp only [DtsAt]; exact ⟨g1.keep0 k2, g2⟩)
theorem gv_str {z : Str} (h : IsTx z) : Gv p H0 σ (.flat (.str z)) (tC (.str z)) := fun H Q k kk => kk _ H (Keep.refl _ _) (by simp only [DtAt]; exact ⟨trivial, h⟩)
theorem gv_var {i : Nat} {v : V} {t : Dt} (hi : σ[i]? = some (some v)) (h : DtAt [p] H0 t v) : Gv p H0 σ t (tVar i) := fun H Q k kk => ⟨v, hi, kk v H (Keep.refl _ _) (h.keep0 k)⟩
theorem gv_tup {ts : List Dt} {ta : TA} (h : Gs p H0 σ ts ta) (hl : ts.length ≤ 30) : Gv p H0 σ (.tup ts) (tTup ta) := fun H Q k kk => h H _ k fun vs H1 k1 g => by
  refine ⟨Nat.le_trans (by rw [g.len]; exact hl) (by decide : 30 ≤ sizeLine), fun a ha => ?_⟩
  exact kk _ _ (k1.trans (Keep.new ha)) (by simp only [DtAt]; exact ⟨a, vs, rfl, upd_same, g.keep0 (Keep.new ha)⟩)
theorem gv_lst {ts : List Dt} {ta : TA} (hp : ∃ o, H0 p = some o) (h : Gs p H0 σ ts ta) (hl : ts.length ≤ 30) : Gv p H0 σ (.lst ts) (tLst ta) := fun H Q k kk => h H _ k fun vs H1 k1 g => by
  refine ⟨Nat.le_trans (by rw [g.len]; exact hl) (by decide : 30 ≤ sizeLine), fun a ha => ?_⟩
  obtain ⟨o, e⟩ := hp
  have e1 := k1.at (k.at e nin0) nin0
  have na : a ∉ [p] := nin1 fun z => by rw [z, e1] at ha; cases ha
  exact kk _ _ (k1.trans (Keep.new ha)) (by simp only [DtAt]; exact ⟨a, vs, rfl, na, upd_same, g.keep0 (Keep.new ha)⟩)
end
/-- the pot alone changes -/
theorem DtAt.keepP {p : Addr} {H H' : Hp} {t : Dt} {v : V} {n : Nat} (h : DtAt [p] H t v) (pot : PotAt H p n) (k : Keep [p] H H') : DtAt [p] H' t v := by
  obtain ⟨xs, e⟩ := pot.some
  exact h.keep k (fun b hb => .inl hb) fun b hb ys q => by rw [List.mem_singleton.mp hb, e] at q; cases q
theorem DtsAt.keepP {p : Addr} {H H' : Hp} {t : List Dt} {v : List V} {n : Nat} (h : DtsAt [p] H t v) (pot : PotAt H p n) (k : Keep [p] H H') : DtsAt [p] H' t v := by
  obtain ⟨xs, e⟩ := pot.some
  exact h.keep k (fun b hb => .inl hb) fun b hb ys q => by rw [List.mem_singleton.mp hb, e] at q; cases q
/-! numbers -/
abbrev sNum : Stmt := top 29 --def _law_number
abbrev nNum : List Str := ["_law_pot_here", "_law_great", "_law_k"]
theorem scNum : FnScope nNum ["_law_pot_here"] (defScope sNum) := ⟨rfl, rfl, rfl, by decide +kernel, rfl, by decide +kernel, by decide +kernel⟩
def spNum : Sp := fun vs H Q _ => ∃ (p : Addr) (n : Nat), vs = [.ref p] ∧ PotAt H p n ∧ n < 2 ^ 39 ∧
  ∀ (i : Int) (H' : Hp), Keep [p] H H' → PotAt H' p (n + 9) → Q (.int i) H'
abbrev sAny : Stmt := top 33 --def _law_any_step
abbrev nAny : List Str := ["_law_pot_here", "_law_some"]
theorem scAny : FnScope nAny ["_law_pot_here"] (defScope sAny) := ⟨rfl, rfl, rfl, by decide +kernel, rfl, by decide +kernel, by decide +kernel⟩
def spAny : Sp := fun vs H Q _ => ∃ (p : Addr) (n : Nat), vs = [.ref p] ∧ PotAt H p n ∧ n < 2 ^ 38 ∧
  ∀ (t : Dt) (v : V) (H' : Hp), AnyS t → Keep [p] H H' → DtAt [p] H' t v → PotAt H' p (n + 100) → Q v H'
section
variable {P : Program} {w : World} {K : PySem.W.Frag} {mg : Str → Option Value} {base : Heap} {fD fX : Addr}
theorem kp_of {p : Addr} {H H' : Hp} (k : ∀ b, b ≠ p → H' b = H b) : Keep [p] H H' := fun b o hb e => by
  rw [k b fun z => hb (by rw [z]; exact in1)]; exact e
theorem ok_num {f : Addr} {fd fdD : FuncData} (F : Fun K "_law_number" "_law_number" sNum f fd) (FD : FnOk P w K mg base CX0 1 fD fdD ["_law_pot_here", "_law_many"] spDigit) (gD : mg "_law_digit" = some (.ref fD)) (kD : PySem.W.keepIn K (.ref fD) = true) (bD : Binds K fdD ["_law_pot_here", "_law_many"] []) (mR : mg "range" = none) : FnOk P w K mg base CX0 2 f fd ["_law_pot_here"] spNum := by
  refine F.ok scNum (fun vs H Q E h => ?_) (fun cdv A0 outer s H vs Q E hr h => ?_)
  · obtain ⟨p, n, rfl, _⟩ := h
    rfl
  · obtain ⟨p, n, rfl, pot, hn, kk⟩ := h
    refine ⟨_, pss_cons (ps_if (pt_cmpR op_gt (pe_call FD hr rfl gD kD bD .nil pass0 (pa_cons (pv 0) (pa_cons pe_int pa_nil))) pe_int (nomark _)) (pss_one (ps_ret (pe_op op_sub (pe_call FD hr rfl gD kD bD .nil pass0 (pa_cons (pv 0) (pa_cons pe_int pa_nil))) pe_int))) pss_nil)
      (pss_cons (ps_set (i := 1) scNum.nd rfl (Or.inl rfl) pe_int)
      (pss_cons (ps_for PassesOwn.never rfl (pi_range1 rfl mR (pa_cons pe_int pa_nil)) (pg_name (i := 2) scNum.nd rfl (Or.inl rfl)) (pss_one (ps_set (i := 1) scNum.nd rfl (Or.inl rfl) (pe_op op_add (pe_op op_mul (pv 1) (pe_op op_pow pe_int pe_int)) (pe_call FD hr rfl gD kD bD .nil pass0 (pa_cons (pv 0) (pa_cons (pe_op op_pow pe_int pe_int) pa_nil)))))))
      (pss_one (ps_ret (pe_op op_sub (pe_op op_mod (pv 1) (pe_op op_sub (pe_op op_mul pe_int (pe_op op_pow pe_int pe_int)) pe_int)) (pe_op op_sub (pe_op op_pow pe_int pe_int) pe_int)))))), ?_⟩
    refine ⟨_, rfl, p, n, 3, rfl, pot, by omega, by decide, by decide, fun d H1 d0 d1 k1 pot1 => ⟨_, _, rfl, rfl, _, rfl, ?_⟩⟩
    have kk1 : Keep [p] H H1 := kp_of k1
    by_cases hd : (0 : Int) < d
    · rw [decide_eq_true hd]
      refine iteT ⟨_, rfl, p, n + 1, 41, rfl, pot1, by omega, by decide, by decide, fun e H2 e0 e1 k2 pot2 => ⟨_, _, rfl, rfl, ?_⟩⟩
      exact kk _ H2 (kk1.trans (kp_of k2)) (pot2.le (by omega))
    rw [decide_eq_false hd]
    refine iteF ⟨7, rfl, by decide, by decide, ?_⟩
    refine for_range (lo := 0) (n := 7) (fun i σ G => ∃ (g : Int) (v2 : Option V), σ = [some (.ref p), some (.int g), v2] ∧ Keep [p] H G ∧ PotAt G p (n + 1 + i)) ⟨0, none, rfl, kk1, pot1⟩ ?_ ?_
    · rintro i σ G hi ⟨g, v2, rfl, kG, potG⟩
      refine ⟨_, rfl, _, _, rfl, rfl, ⟨by decide, by decide, by decide⟩, ?_⟩
      refine ⟨_, _, rfl, rfl, .inr (by decide), ?_⟩
      refine ⟨_, rfl, _, _, rfl, rfl, ⟨by decide, by decide, by decide⟩, ?_⟩
      refine ⟨p, n + 1 + i, _, rfl, potG, by omega, by decide, by decide, fun e H2 e0 e1 k2 pot2 => ⟨_, _, rfl, rfl, ?_⟩⟩
      exact ⟨_, _, rfl, kG.trans (kp_of k2), pot2⟩
    · rintro σ G ⟨g, v2, rfl, kG, potG⟩
      refine ⟨_, rfl, _, _, rfl, rfl, ⟨by decide, by decide, by decide⟩, ?_⟩
      refine ⟨_, _, rfl, rfl, .inl (by decide), _, _, rfl, rfl, ?_⟩
      refine ⟨_, _, rfl, rfl, (by show (0 : Int) < 2 * 10 ^ Int.toNat 60 - 1; decide), ?_⟩
      refine ⟨_, _, rfl, rfl, ⟨by decide, by decide, by decide⟩, _, _, rfl, rfl, _, _, rfl, rfl, ?_⟩
      exact kk _ G kG (potG.le (by omega))
theorem tx_say : IsTx pSay := ⟨by decide +kernel, by decide +kernel⟩
theorem tx_raise : IsTx pRaise := ⟨by decide +kernel, by decide +kernel⟩
theorem tx_gather : IsTx pGather := ⟨by decide +kernel, by decide +kernel⟩
theorem tx_fault : IsTx sF := ⟨by decide +kernel, by decide +kernel⟩
theorem tx_none : IsTx (Str.ofString "") := ⟨by decide +kernel, by decide +kernel⟩
theorem ok_any {f : Addr} {fd fdD fdX : FuncData} (F : Fun K "_law_any_step" "_law_any_step" sAny f fd) (FD : FnOk P w K mg base CX0 1 fD fdD ["_law_pot_here", "_law_many"] spDigit) (gD : mg "_law_digit" = some (.ref fD)) (kD : PySem.W.keepIn K (.ref fD) = true) (bD : Binds K fdD ["_law_pot_here", "_law_many"] [])
    (FX : FnOk P w K mg base CX0 2 fX fdX ["_law_pot_here"] spText) (gX : mg "_law_text" = some (.ref fX)) (kX : PySem.W.keepIn K (.ref fX) = true) (bX : Binds K fdX ["_law_pot_here"] []) : FnOk P w K mg base CX0 3 f fd ["_law_pot_here"] spAny := by
  refine F.ok scAny (fun vs H Q E h => ?_) (fun cdv A0 outer s H vs Q E hr h => ?_)
  · obtain ⟨p, n, rfl, _⟩ := h
    rfl
  · obtain ⟨p, n, rfl, pot, hn, kk⟩ := h
    have hr1 : Room 1 _ := hr.mono (by omega)
    refine ⟨_, pss_cons (ps_set (i := 1) scAny.nd rfl (Or.inl rfl) (pe_lst (pa_cons (pe_tup (pa_cons pe_str (pa_cons (pe_call FX hr rfl gX kX bX .nil pass0 (pa_cons (pv 0) pa_nil)) pa_nil))) (pa_cons (pe_tup (pa_cons pe_str (pa_cons pe_str (pa_cons (pe_call FX hr rfl gX kX bX .nil pass0 (pa_cons (pv 0) pa_nil)) pa_nil)))) (pa_cons (pe_tup (pa_cons pe_str (pa_cons pe_str (pa_cons (pe_lst (pa_cons (pe_lst pa_nil) pa_nil)) pa_nil)))) pa_nil)))))
      (pss_one (ps_ret (pe_ix ix_list (pv 1) (pe_call FD hr1 rfl gD kD bD .nil pass0 (pa_cons (pv 0) (pa_cons pe_int pa_nil))) (fun _ _ => rfl)))), ?_⟩
    refine ⟨_, rfl, p, n, rfl, pot, by omega, fun z1 H1 t1 k1 pot1 => ⟨(by show 2 ≤ sizeLine; decide), fun a ha => ?_⟩⟩
    have kn1 : Keep [] H1 (upd H1 a (.tup [.str pSay, .str z1])) := Keep.new ha
    have D1 : DtAt [p] (upd H1 a (.tup [.str pSay, .str z1])) (.tup [.flat (.str pSay), .flat (.str z1)]) (.ref a) := by
      simp only [DtAt, DtsAt]
      exact ⟨a, _, rfl, upd_same, ⟨rfl, tx_say⟩, ⟨rfl, t1⟩, trivial⟩
    have pot1' := pot1.keep (ex := []) kn1 nin0
    have kp1 : Keep [p] H (upd H1 a (.tup [.str pSay, .str z1])) := k1.trans (kn1.more fun b hb => absurd hb List.not_mem_nil)
    generalize (upd H1 a (.tup [.str pSay, .str z1])) = G1 at D1 pot1' kp1 ⊢
    refine ⟨_, rfl, p, n + 43, rfl, pot1', by omega, fun z2 H2 t2 k2 pot2 => ⟨(by show 3 ≤ sizeLine; decide), fun b hb => ?_⟩⟩
    have kn2 : Keep [] H2 (upd H2 b (.tup [.str pRaise, .str sF, .str z2])) := Keep.new hb
    have D2 : DtAt [p] (upd H2 b (.tup [.str pRaise, .str sF, .str z2])) (.tup [.flat (.str pRaise), .flat (.str sF), .flat (.str z2)]) (.ref b) := by
      simp only [DtAt, DtsAt]
      exact ⟨b, _, rfl, upd_same, ⟨rfl, tx_raise⟩, ⟨rfl, tx_fault⟩, ⟨rfl, t2⟩, trivial⟩
    have D1' := (D1.keepP pot1' k2).keep0 kn2
    have pot2' := pot2.keep (ex := []) kn2 nin0
    have kp2 : Keep [p] H (upd H2 b (.tup [.str pRaise, .str sF, .str z2])) := kp1.trans (k2.trans (kn2.more fun b hb => absurd hb List.not_mem_nil))
    generalize (upd H2 b (.tup [.str pRaise, .str sF, .str z2])) = G2 at D2 D1' pot2' kp2 ⊢
    have hpo : ∃ o, G2 p = some o := by obtain ⟨xs, e⟩ := pot2'.some; exact ⟨_, e⟩
    have D3 : Gv p G2 [some (.ref p), none] (.tup [.flat (.str pGather), .flat (.str (Str.ofString "")), .lst [.lst []]]) (tTup (tCons (tC (.str pGather)) (tCons (tC (.str (Str.ofString ""))) (tCons (tLst (tCons (tLst tNil) tNil)) tNil)))) :=
      gv_tup (gs_cons (gv_str tx_gather) (gs_cons (gv_str tx_none) (gs_cons (gv_lst hpo (gs_cons (gv_lst hpo gs_nil (by decide)) gs_nil) (by show 1 ≤ 30; decide)) gs_nil))) (by show 3 ≤ 30; decide)
    refine D3 G2 _ (Keep.refl _ _) fun v3 H3 k3 D3' => ⟨(by show 3 ≤ sizeLine; decide), fun c hc => ?_⟩
    have kn3 : Keep [] H3 (upd H3 c (.lst [.ref a, .ref b, v3])) := Keep.new hc
    have e3 : (upd H3 c (.lst [.ref a, .ref b, v3])) c = some (.lst [.ref a, .ref b, v3]) := upd_same
    have A1 := (D1'.keep0 k3).keep0 kn3
    have A2 := (D2.keep0 k3).keep0 kn3
    have A3 := D3'.keep0 kn3
    have pot3 := (pot2'.keep (ex := []) k3 nin0).keep (ex := []) kn3 nin0
    have kp3 : Keep [p] H (upd H3 c (.lst [.ref a, .ref b, v3])) := kp2.trans ((k3.trans kn3).more fun b hb => absurd hb List.not_mem_nil)
    generalize (upd H3 c (.lst [.ref a, .ref b, v3])) = G3 at e3 A1 A2 A3 pot3 kp3 ⊢
    refine ⟨_, rfl, _, rfl, p, n + 43 + 43, 3, rfl, pot3, by omega, by decide, by decide, fun d H4 d0 d1 k4 pot4 => ?_⟩
    have k4' : Keep [p] G3 H4 := kp_of k4
    have ncp : c ≠ p := by
      obtain ⟨xs, e⟩ := (pot2'.keep (ex := []) k3 nin0).some
      exact (ne_of_none e hc).symm
    have e4 : H4 c = some (.lst [.ref a, .ref b, v3]) := k4'.at e3 (nin1 ncp)
    have pot4' : PotAt H4 p (n + 100) := pot4.le (by omega)
    have cs : d = 0 ∨ d = 1 ∨ d = 2 := by omega
    rcases cs with rfl | rfl | rfl
    · exact ⟨c, _, 0, _, rfl, rfl, SqL.of e4, at0 _ _, kk _ _ H4 (.say z1) (kp3.trans k4') (A1.keepP pot3 k4') pot4'⟩
    · exact ⟨c, _, 1, _, rfl, rfl, SqL.of e4, atI_nat (j := 1) rfl, kk _ _ H4 (.rz z2) (kp3.trans k4') (A2.keepP pot3 k4') pot4'⟩
    · exact ⟨c, _, 2, _, rfl, rfl, SqL.of e4, atI_nat (j := 2) rfl, kk _ _ H4 .gat (kp3.trans k4') (A3.keepP pot3 k4') pot4'⟩
end
end Fs
/-! A frame about a body. -/
namespace Fs
open PySem L2 TL
/-- a frame about a body: what it may be -/
inductive Fr (k : Nat) (l : List Dt) : Nat → Dt → Prop
  | f0 (w : Str) (n : Nat) (hw : w = pWhole ∨ w = pOut) : Fr k l 0 (roomD (rname k) (.lst l) w (.lst ([catA].take n)) (.lst []) (.lst []))
  | f1 (n : Nat) (hn : n ≤ 1) : Fr k l 1 (roomD (rname k) (.lst []) pWhole (.lst ((cat3 (.lst l)).drop n)) (.lst []) (.lst []))
  | f2 (n : Nat) (hn : n ≤ 1) : Fr k l 2 (roomD (rname k) (.lst []) pOut (.lst ((cat3 (.lst l)).drop n)) (.lst []) (.lst []))
  | f3 (w : Str) (n : Nat) (hw : w = pWhole ∨ w = pOut) : Fr k l 3 (roomD (rname k) (.lst []) w (.lst ([catA].take n)) (.lst l) (.lst []))
  | f4 (w : Str) (n : Nat) (hw : w = pWhole ∨ w = pOut) : Fr k l 4 (roomD (rname k) (.lst []) w (.lst ([catA].take n)) (.lst []) (.lst l))
  | f5 (z : Str) (n : Nat) (hn : n ≤ 1) : Fr k l 5 (.tup [.flat (.str pGather), .flat (.str z), .lst ([.lst [], .lst l, .lst []].drop n)])
theorem Fr.ev {k f : Nat} {l : List Dt} {s : Dt} {ok : Bool → Bool → Bool} (h : Fr k l f s) (hk : k < 6) (e : EvalP k (.lst l) ok) : EvalP (k + 1) (.lst [s]) (okF f ok) := by
  cases h with
  | f0 w n hw => exact e.f0 hk hw
  | f1 n hn =>
    have := e.f12 (w := pWhole) hk hn (.inl rfl)
    have q : (fun (_ : Bool) (free : Bool) => ok true (free && decide (pWhole = pWhole))) = okF 1 ok := by
      funext a b
      rw [decide_eq_true (rfl : pWhole = pWhole), Bool.and_true]; rfl
    rw [q] at this
    exact this
  | f2 n hn =>
    have := e.f12 (w := pOut) hk hn (.inr rfl)
    have q : (fun (_ : Bool) (free : Bool) => ok true (free && decide (pOut = pWhole))) = okF 2 ok := by
      funext a b
      rw [show decide (pOut = pWhole) = false by decide +kernel, Bool.and_false]; rfl
    rw [q] at this
    exact this
  | f3 w n hw => exact e.f3 hk hw
  | f4 w n hw => exact e.f4 hk hw
  | f5 z n hn => exact e.f5 hk hn
theorem niL {w : Str} {r : List Dt} (h1 : w ≠ pCall) (h2 : w ≠ pRoom) : niceL (.flat (.str w) :: r) = true := by
  simp only [niceL]
  rw [if_neg h1, if_neg h2]
theorem niR {n w : Str} {b : Dt} {r : List Dt} : niceL (.flat (.str pRoom) :: .flat (.str n) :: b :: .flat (.str w) :: r) = true := by
  simp only [niceL]
  rw [if_neg (by decide +kernel)]
  rfl
theorem ni_A : nice catA = true := by
  simp only [nice, nices, Bool.and_eq_true]
  refine ⟨⟨⟨⟨?_, ⟨⟨?_, ?_⟩, ?_⟩, ?_⟩, ?_⟩, ?_⟩, ?_⟩ <;> first | rfl | trivial | decide +kernel
theorem nices_take {l : List Dt} (h : nices l = true) (n : Nat) : nices (l.take n) = true := by
  induction l generalizing n with
  | nil => simp [nices]
  | cons x l ih =>
    simp only [nices, Bool.and_eq_true] at h
    cases n with
    | zero => rfl
    | succ n =>
      rw [List.take_succ_cons]
      simp only [nices, Bool.and_eq_true]
      exact ⟨h.1, ih h.2 n⟩
theorem nices_drop {l : List Dt} (h : nices l = true) (n : Nat) : nices (l.drop n) = true := by
  induction l generalizing n with
  | nil => simp [nices]
  | cons x l ih =>
    cases n with
    | zero => exact h
    | succ n =>
      simp only [nices, Bool.and_eq_true] at h
      rw [List.drop_succ_cons]
      exact ih h.2 n
theorem szs_tk (l : List Dt) (n : Nat) : Dt.szs (l.take n) ≤ Dt.szs l := by
  induction l generalizing n with
  | nil => simp [Dt.szs]
  | cons x l ih =>
    cases n with
    | zero => exact Nat.zero_le _
    | succ n => rw [List.take_succ_cons]; simp only [Dt.szs]; have := ih n; omega
theorem szs_dr (l : List Dt) (n : Nat) : Dt.szs (l.drop n) ≤ Dt.szs l := by
  induction l generalizing n with
  | nil => simp [Dt.szs]
  | cons x l ih =>
    cases n with
    | zero => exact Nat.le_refl _
    | succ n => rw [List.drop_succ_cons]; simp only [Dt.szs]; have := ih n; omega
theorem dps_tk (l : List Dt) (n : Nat) : Dt.dps (l.take n) ≤ Dt.dps l := by
  induction l generalizing n with
  | nil => simp [Dt.dps]
  | cons x l ih =>
    cases n with
    | zero => exact Nat.zero_le _
    | succ n => rw [List.take_succ_cons]; simp only [Dt.dps]; have := ih n; omega
theorem dps_dr (l : List Dt) (n : Nat) : Dt.dps (l.drop n) ≤ Dt.dps l := by
  induction l generalizing n with
  | nil => simp [Dt.dps]
  | cons x l ih =>
    cases n with
    | zero => exact Nat.le_refl _
    | succ n => rw [List.drop_succ_cons]; simp only [Dt.dps]; have := ih n; omega
theorem Fr.sz {k f : Nat} {l : List Dt} {s : Dt} (h : Fr k l f s) : s.sz ≤ Dt.szs l + 40 ∧ s.dp ≤ Dt.dps l + 8 := by
  cases h with
  | f5 z n hn =>
    have h1 := szs_dr [.lst [], .lst l, .lst []] n
    have h2 := dps_dr [.lst [], .lst l, .lst []] n
    simp only [Dt.sz, Dt.szs, Dt.dp, Dt.dps] at h1 h2 ⊢
    omega
  | f0 w n hw =>
    have h1 := szs_tk [catA] n
    have h2 := dps_tk [catA] n
    simp only [Dt.sz, Dt.szs, Dt.dp, Dt.dps] at h1 h2 ⊢
    omega
  | f1 n hn =>
    have h1 := szs_dr (cat3 (.lst l)) n
    have h2 := dps_dr (cat3 (.lst l)) n
    simp only [Dt.sz, Dt.szs, Dt.dp, Dt.dps] at h1 h2 ⊢
    omega
  | f2 n hn =>
    have h1 := szs_dr (cat3 (.lst l)) n
    have h2 := dps_dr (cat3 (.lst l)) n
    simp only [Dt.sz, Dt.szs, Dt.dp, Dt.dps] at h1 h2 ⊢
    omega
  | f3 w n hw =>
    have h1 := szs_tk [catA] n
    have h2 := dps_tk [catA] n
    simp only [Dt.sz, Dt.szs, Dt.dp, Dt.dps] at h1 h2 ⊢
    omega
  | f4 w n hw =>
    have h1 := szs_tk [catA] n
    have h2 := dps_tk [catA] n
    simp only [Dt.sz, Dt.szs, Dt.dp, Dt.dps] at h1 h2 ⊢
    omega
theorem Fr.ni {k f : Nat} {l : List Dt} {s : Dt} (h : Fr k l f s) (hn : nices l = true) : nice s = true := by
  have nA := nices_take (l := [catA]) (by simp only [nices, ni_A]; rfl)
  have n3 : nices (cat3 (.lst l)) = true := by
    simp only [nices, nice, hn, Bool.and_eq_true]
    refine ⟨?_, ?_, ?_, ?_⟩ <;> (repeat' apply And.intro) <;> first | rfl | trivial | exact niL (by decide +kernel) (by decide +kernel)
  have n3 := nices_drop n3
  cases h with
  | f5 z n h1 =>
    have := nices_drop (l := [.lst [], .lst l, .lst []]) (by simp only [nices, nice, hn]; rfl) n
    simp only [nice, nices, Bool.and_eq_true]
    exact ⟨⟨trivial, trivial, this, trivial⟩, niL (by decide +kernel) (by decide +kernel)⟩
  | f0 w n hw =>
    simp only [nice, nices, Bool.and_eq_true]
    exact ⟨⟨trivial, trivial, hn, trivial, nA n, trivial, trivial, trivial⟩, niR⟩
  | f1 n h1 =>
    simp only [nice, nices, Bool.and_eq_true]
    exact ⟨⟨trivial, trivial, trivial, trivial, n3 n, trivial, trivial, trivial⟩, niR⟩
  | f2 n h1 =>
    simp only [nice, nices, Bool.and_eq_true]
    exact ⟨⟨trivial, trivial, trivial, trivial, n3 n, trivial, trivial, trivial⟩, niR⟩
  | f3 w n hw =>
    simp only [nice, nices, Bool.and_eq_true]
    exact ⟨⟨trivial, trivial, trivial, trivial, nA n, hn, trivial, trivial⟩, niR⟩
  | f4 w n hw =>
    simp only [nice, nices, Bool.and_eq_true]
    exact ⟨⟨trivial, trivial, trivial, trivial, nA n, trivial, hn, trivial⟩, niR⟩
end Fs
/-! A frame about a body: the law's own. -/
namespace Fs
open PySem L2 TL
abbrev sFrm : Stmt := top 34 --def _law_framed
abbrev aFrm : List Str := ["_law_pot_here", "_law_frame", "_law_name_here", "_law_inner"]
abbrev nFrm : List Str := ["_law_pot_here", "_law_frame", "_law_name_here", "_law_inner", "_law_body", "_law_otherwise", "_law_leaving", "_law_catchers", "_law_way"]
theorem scFrm : FnScope nFrm aFrm (defScope sFrm) := ⟨rfl, rfl, rfl, by decide +kernel, rfl, by decide +kernel, by decide +kernel⟩
def spFrm : Sp := fun vs H Q _ => ∃ (p : Addr) (n k f : Nat) (l : List Dt) (v : V), vs = [.ref p, .int (f : Int), .str (rname k), v] ∧ PotAt H p n ∧ n < 2 ^ 38 ∧ f < 6 ∧ k < 6 ∧ DtAt [p] H (.lst l) v ∧
  ∀ (s : Dt) (u : V) (H' : Hp), Fr k l f s → Keep [p] H H' → DtAt [p] H' s u → PotAt H' p (n + 100) → Q u H'
theorem itT1 {c A B : Prop} [Decidable c] (hc : c) (h : A) : if decide c = true then A else B := by
  rw [decide_eq_true hc]; exact iteT h
theorem itF1 {c A B : Prop} [Decidable c] (hc : ¬ c) (h : B) : if decide c = true then A else B := by
  rw [decide_eq_false hc]; exact iteF h
theorem dts_take {p : List Addr} {H : Hp} : ∀ {l : List Dt} {ys : List V} (n : Nat), DtsAt p H l ys → DtsAt p H (l.take n) (ys.take n)
  | [], [], n, _ => by simp [DtsAt]
  | x :: l, y :: ys, 0, h => by simp [DtsAt]
  | x :: l, y :: ys, n + 1, h => by
    simp only [DtsAt] at h
    rw [List.take_succ_cons, List.take_succ_cons]
    simp only [DtsAt]
    exact ⟨h.1, dts_take n h.2⟩
  | [], _ :: _, _, h => by simp only [DtsAt] at h
  | _ :: _, [], _, h => by simp only [DtsAt] at h
theorem dts_drop {p : List Addr} {H : Hp} : ∀ {l : List Dt} {ys : List V} (n : Nat), DtsAt p H l ys → DtsAt p H (l.drop n) (ys.drop n)
  | [], [], n, _ => by simp [DtsAt]
  | x :: l, y :: ys, 0, h => h
  | x :: l, y :: ys, n + 1, h => by
    simp only [DtsAt] at h
    rw [List.drop_succ_cons, List.drop_succ_cons]
    exact dts_drop n h.2
  | [], _ :: _, _, h => by simp only [DtsAt] at h
  | _ :: _, [], _, h => by simp only [DtsAt] at h
theorem tx_nm {k : Nat} (h : k < 6) : IsTx (rname k) := by
  have : ∀ k < 6, (rname k).cps.toList.length ≤ 40 ∧ ∀ c ∈ (rname k).cps.toList, c < 128 := by decide +kernel
  exact this k h
theorem tx_w1 : IsTx pWhole := ⟨by decide +kernel, by decide +kernel⟩
theorem tx_w2 : IsTx pOut := ⟨by decide +kernel, by decide +kernel⟩
theorem tx_rm : IsTx pRoom := ⟨by decide +kernel, by decide +kernel⟩
theorem tx_kd : IsTx wKind := ⟨by decide +kernel, by decide +kernel⟩
theorem tx_sy : IsTx wSays := ⟨by decide +kernel, by decide +kernel⟩
theorem tx_nd : IsTx wNoted := ⟨by decide +kernel, by decide +kernel⟩
theorem tx_nt : IsTx wNot := ⟨by decide +kernel, by decide +kernel⟩
theorem tx_ag : IsTx pAgain := ⟨by decide +kernel, by decide +kernel⟩
theorem tx_x : IsTx (Str.ofString "x") := ⟨by decide +kernel, by decide +kernel⟩
section
variable {p : Addr} {H0 : Hp} {σ : L2.St}
theorem gv_A (hp : ∃ o, H0 p = some o) : Gv p H0 σ (.lst [catA]) (tLst (tCons (tTup (tCons (tTup (tCons (tC (.str wNot)) (tCons (tTup (tCons (tC (.str wSays)) (tCons (tC (.str (Str.ofString ""))) tNil))) tNil))) (tCons (tLst (tCons (tTup (tCons (tC (.str pAgain)) tNil)) tNil)) tNil))) tNil)) :=
  gv_lst hp (gs_cons (gv_tup (gs_cons (gv_tup (gs_cons (gv_str tx_nt) (gs_cons (gv_tup (gs_cons (gv_str tx_sy) (gs_cons (gv_str tx_none) gs_nil)) (by show 2 ≤ 30; decide)) gs_nil)) (by show 2 ≤ 30; decide)) (gs_cons (gv_lst hp (gs_cons (gv_tup (gs_cons (gv_str tx_ag) gs_nil) (by show 1 ≤ 30; decide)) gs_nil) (by show 1 ≤ 30; decide)) gs_nil)) (by show 2 ≤ 30; decide)) gs_nil) (by show 1 ≤ 30; decide)
theorem gv_3 (hp : ∃ o, H0 p = some o) {l : List Dt} {v : V} (h3 : σ[3]? = some (some v)) (h : DtAt [p] H0 (.lst l) v) : Gv p H0 σ (.lst (cat3 (.lst l))) (tLst (tCons (tTup (tCons (tTup (tCons (tC (.str wKind)) (tCons (tC (.str sF)) tNil))) (tCons (tLst tNil) tNil))) (tCons (tTup (tCons (tTup (tCons (tC (.str wSays)) (tCons (tC (.str (Str.ofString "x"))) tNil))) (tCons (tVar 3) tNil))) (tCons (tTup (tCons (tTup (tCons (tC (.str wNoted)) (tCons (tC (.str (Str.ofString ""))) tNil))) (tCons (tLst tNil) tNil))) tNil)))) :=
  gv_lst hp (gs_cons (gv_tup (gs_cons (gv_tup (gs_cons (gv_str tx_kd) (gs_cons (gv_str tx_fault) gs_nil)) (by show 2 ≤ 30; decide)) (gs_cons (gv_lst hp gs_nil (by decide)) gs_nil)) (by show 2 ≤ 30; decide))
    (gs_cons (gv_tup (gs_cons (gv_tup (gs_cons (gv_str tx_sy) (gs_cons (gv_str tx_x) gs_nil)) (by show 2 ≤ 30; decide)) (gs_cons (gv_var h3 h) gs_nil)) (by show 2 ≤ 30; decide))
    (gs_cons (gv_tup (gs_cons (gv_tup (gs_cons (gv_str tx_nd) (gs_cons (gv_str tx_none) gs_nil)) (by show 2 ≤ 30; decide)) (gs_cons (gv_lst hp gs_nil (by decide)) gs_nil)) (by show 2 ≤ 30; decide)) gs_nil))) (by show 3 ≤ 30; decide)
theorem gv_g (hp : ∃ o, H0 p = some o) {l : List Dt} {v : V} (h3 : σ[3]? = some (some v)) (h : DtAt [p] H0 (.lst l) v) : Gv p H0 σ (.lst [.lst [], .lst l, .lst []]) (tLst (tCons (tLst tNil) (tCons (tVar 3) (tCons (tLst tNil) tNil)))) :=
  gv_lst hp (gs_cons (gv_lst hp gs_nil (by decide)) (gs_cons (gv_var h3 h) (gs_cons (gv_lst hp gs_nil (by decide)) gs_nil))) (by show 3 ≤ 30; decide)
theorem gs_3 (hp : ∃ o, H0 p = some o) : Gs p H0 σ [.lst [], .lst [], .lst []] (tCons (tLst tNil) (tCons (tLst tNil) (tCons (tLst tNil) tNil))) := gs_cons (gv_lst hp gs_nil (by decide)) (gs_cons (gv_lst hp gs_nil (by decide)) (gs_cons (gv_lst hp gs_nil (by decide)) gs_nil))
end
theorem stepP {i j k : Nat} {σ : L2.St} {H : Hp} {ta : TA} {b : TS} {D : Ends} (h : ta σ H fun vs H1 => ∃ u v w, vs = [u, v, w] ∧ b D (((σ.set i (some u)).set j (some v)).set k (some w)) H1) : tSeq (tPar3 i j k ta) b D σ H := h
theorem consS {σ : L2.St} {H : Hp} {r : V → Option Int → Option Int → Hp → VK → Prop} {te : TE} {tl th : TO} {Q : List V → Hp → Prop} (h : te σ H fun x H1 => tl σ H1 fun l H2 => th σ H2 fun u H3 => r x l u H3 fun z H4 => Q [z] H4) : tCons (tSl r te tl th) tNil σ H Q := h
theorem stepSl {i : Nat} {v : V} {σ : L2.St} {H : Hp} {r : V → Option Int → Option Int → Hp → VK → Prop} {te : TE} {tl th : TO} {g : TG} {D : Ends} (h : te (σ.set i (some v)) H fun x H1 => tl (σ.set i (some v)) H1 fun l H2 => th (σ.set i (some v)) H2 fun u H3 => r x l u H3 fun z H4 => g z (σ.set i (some v)) H4 D.nx) : gName i v σ H (tAsg (tSl r te tl th) g D) := h
section
variable {P : Program} {w : World} {K : PySem.W.Frag} {mg : Str → Option Value} {base : Heap} {fD fX : Addr}
theorem ok_frm {f0 : Addr} {fd fdD fdX : FuncData} (F : Fun K "_law_framed" "_law_framed" sFrm f0 fd) (FD : FnOk P w K mg base CX0 1 fD fdD ["_law_pot_here", "_law_many"] spDigit) (gD : mg "_law_digit" = some (.ref fD)) (kD : PySem.W.keepIn K (.ref fD) = true) (bD : Binds K fdD ["_law_pot_here", "_law_many"] [])
    (FX : FnOk P w K mg base CX0 2 fX fdX ["_law_pot_here"] spText) (gX : mg "_law_text" = some (.ref fX)) (kX : PySem.W.keepIn K (.ref fX) = true) (bX : Binds K fdX ["_law_pot_here"] []) : FnOk P w K mg base CX0 3 f0 fd aFrm spFrm := by
  refine F.ok scFrm (fun vs H Q E h => ?_) (fun cdv A0 outer s H vs Q E hr h => ?_)
  · obtain ⟨p, n, k, f, l, v, rfl, _⟩ := h
    rfl
  · obtain ⟨p, n, k, f, l, v, rfl, pot, hn, hf, hk, dv, kk⟩ := h
    have hr1 : Room 1 _ := hr.mono (by omega)
    refine ⟨_, (pss_cons (ps_par3 (i := 4) (j := 5) (k := 6) rfl scFrm.nd rfl rfl rfl (by decide) (by decide) (by decide) rfl rfl rfl (pa_cons (pe_lst pa_nil) (pa_cons (pe_lst pa_nil) (pa_cons (pe_lst pa_nil) pa_nil))) rfl)
      (pss_cons (ps_set (i := 7) scFrm.nd rfl (Or.inl rfl) (pe_lst pa_nil))
      (pss_cons (ps_set (i := 8) scFrm.nd rfl (Or.inl rfl) pe_str)
      (pss_cons (ps_if (pt_cmpR op_eq (pv 1) pe_int (nomark _)) (pss_one (ps_set (i := 4) scFrm.nd rfl (Or.inl rfl) (pv 3))) (pss_one (ps_if (PW.pt (pw_or (pt_cmpR op_eq (pv 1) pe_int (nomark _)) (pw_or1 (pt_cmpR op_eq (pv 1) pe_int (nomark _))))) (pss_cons (ps_set (i := 8) scFrm.nd rfl (Or.inl rfl) (pe_ix ix_list (pe_lst (pa_cons pe_str (pa_cons pe_str pa_nil))) (pe_op op_sub (pv 1) pe_int) (fun _ _ => rfl)))
      (pss_one (ps_set (i := 7) scFrm.nd rfl (Or.inl rfl) (pe_slice sl_list (pe_lst (pa_cons (pe_tup (pa_cons (pe_tup (pa_cons pe_str (pa_cons pe_str pa_nil))) (pa_cons (pe_lst pa_nil) pa_nil))) (pa_cons (pe_tup (pa_cons (pe_tup (pa_cons pe_str (pa_cons pe_str pa_nil))) (pa_cons (pv 3) pa_nil))) (pa_cons (pe_tup (pa_cons (pe_tup (pa_cons pe_str (pa_cons pe_str pa_nil))) (pa_cons (pe_lst pa_nil) pa_nil))) pa_nil)))) (po_some (pe_call FD hr1 rfl gD kD bD .nil pass0 (pa_cons (pv 0) (pa_cons pe_int pa_nil)))) po_none)))) (pss_one (ps_if (pt_cmpR op_eq (pv 1) pe_int (nomark _)) (pss_one (ps_set (i := 5) scFrm.nd rfl (Or.inl rfl) (pv 3))) (pss_one (ps_if (pt_cmpR op_eq (pv 1) pe_int (nomark _)) (pss_one (ps_set (i := 6) scFrm.nd rfl (Or.inl rfl) (pv 3))) (pss_one (ps_ret (pe_tup (pa_cons pe_str (pa_cons (pe_call FX hr rfl gX kX bX .nil pass0 (pa_cons (pv 0) pa_nil)) (pa_cons (pe_slice sl_list (pe_lst (pa_cons (pe_lst pa_nil) (pa_cons (pv 3) (pa_cons (pe_lst pa_nil) pa_nil)))) (po_some (pe_call FD hr1 rfl gD kD bD .nil pass0 (pa_cons (pv 0) (pa_cons pe_int pa_nil)))) po_none) pa_nil)))))))))))))
      (pss_cons (ps_if (pt_cmpR op_notIn_seq (pv 1) (pe_lst (pa_cons pe_int (pa_cons pe_int pa_nil))) (by rfl)) (pss_cons (ps_set (i := 8) scFrm.nd rfl (Or.inl rfl) (pe_ix ix_list (pe_lst (pa_cons pe_str (pa_cons pe_str pa_nil))) (pe_call FD hr1 rfl gD kD bD .nil pass0 (pa_cons (pv 0) (pa_cons pe_int pa_nil))) (fun _ _ => rfl)))
      (pss_one (ps_set (i := 7) scFrm.nd rfl (Or.inl rfl) (pe_slice sl_list (pe_lst (pa_cons (pe_tup (pa_cons (pe_tup (pa_cons pe_str (pa_cons (pe_tup (pa_cons pe_str (pa_cons pe_str pa_nil))) pa_nil))) (pa_cons (pe_lst (pa_cons (pe_tup (pa_cons pe_str pa_nil)) pa_nil)) pa_nil))) pa_nil)) po_none (po_some (pe_call FD hr1 rfl gD kD bD .nil pass0 (pa_cons (pv 0) (pa_cons pe_int pa_nil)))))))) pss_nil)
      (pss_one (ps_ret (pe_tup (pa_cons pe_str (pa_cons (pv 2) (pa_cons (pv 4) (pa_cons (pv 8) (pa_cons (pv 7) (pa_cons (pv 5) (pa_cons (pv 6) pa_nil))))))))))))))), ?_⟩
    have hpo : ∃ o, H p = some o := by obtain ⟨xs, e⟩ := pot.some; exact ⟨_, e⟩
    refine stepP ?_
    refine gs_3 (p := p) (H0 := H) hpo H _ (Keep.refl _ _) fun vs H1 k1 g1 => ?_
    match vs, g1 with
    | [u4, u5, u6], g1 =>
    simp only [DtsAt] at g1
    obtain ⟨e4, e5, e6, _⟩ := g1
    refine ⟨u4, u5, u6, rfl, ?_⟩
    have pot1 := pot.keep (ex := []) k1 nin0
    have dv1 := dv.keep0 k1
    refine ⟨Nat.zero_le _, fun u7 h7 => ?_⟩
    have k2 : Keep [] H1 (upd H1 u7 (.lst [])) := Keep.new h7
    have n7 : u7 ∉ [p] := nin1 fun z => by
      obtain ⟨xs, e⟩ := pot1.some
      rw [z, e] at h7; cases h7
    have e7 : DtAt [p] (upd H1 u7 (.lst [])) (.lst []) (.ref u7) := by
      simp only [DtAt]
      exact ⟨u7, [], rfl, n7, upd_same, by simp only [DtsAt]⟩
    have e4 := e4.keep0 k2
    have e5 := e5.keep0 k2
    have e6 := e6.keep0 k2
    have dv := dv1.keep0 k2
    have pot2 := pot1.keep (ex := []) k2 nin0
    have kp : Keep [p] H (upd H1 u7 (.lst [])) := (k1.trans k2).more fun b hb => absurd hb List.not_mem_nil
    generalize (upd H1 u7 (.lst [])) = H2 at e7 e4 e5 e6 dv pot2 kp ⊢
    have cs : f = 0 ∨ f = 1 ∨ f = 2 ∨ f = 3 ∨ f = 4 ∨ f = 5 := by omega
    rcases cs with rfl | rfl | rfl | rfl | rfl | rfl
    · -- frame 0
      refine ⟨_, rfl, rfl, _, rfl, itT1 (by decide +kernel) ?_⟩
      refine ⟨_, rfl, ?_⟩
      refine ⟨_, rfl, (by show 2 ≤ sizeLine; decide), fun q hq => ⟨q, _, rfl, .inl (SqL.of upd_same), rfl, rfl, _, rfl, ?_⟩⟩
      have k3 : Keep [] H2 (upd H2 q (.lst [.int 1, .int 2])) := Keep.new hq
      show if (!inV (.int ((0 : Nat) : Int)) [.int 1, .int 2]) = true then _ else _
      rw [show (!inV (.int ((0 : Nat) : Int)) [.int 1, .int 2]) = true by decide +kernel]
      have e4 := e4.keep0 k3
      have e5 := e5.keep0 k3
      have e6 := e6.keep0 k3
      have e7 := e7.keep0 k3
      have dv := dv.keep0 k3
      have pot3 := pot2.keep (ex := []) k3 nin0
      have kp : Keep [p] H (upd H2 q (.lst [.int 1, .int 2])) := kp.trans (k3.more fun b hb => absurd hb List.not_mem_nil)
      generalize (upd H2 q (.lst [.int 1, .int 2])) = H3 at e7 e4 e5 e6 dv pot3 kp ⊢
      refine iteT ⟨(by show 2 ≤ sizeLine; decide), fun c hc => ?_⟩
      have k4 : Keep [] H3 (upd H3 c (.lst [.str pWhole, .str pOut])) := Keep.new hc
      have c4 : (upd H3 c (.lst [.str pWhole, .str pOut])) c = some (.lst [.str pWhole, .str pOut]) := upd_same
      have ncp : c ≠ p := fun z => by
        obtain ⟨xs, e⟩ := pot3.some
        rw [z, e] at hc; cases hc
      have e4 := e4.keep0 k4
      have e5 := e5.keep0 k4
      have e6 := e6.keep0 k4
      have dv := dv.keep0 k4
      have pot4 := pot3.keep (ex := []) k4 nin0
      have kp := kp.trans (k4.more fun b hb => absurd hb List.not_mem_nil)
      generalize (upd H3 c (.lst [.str pWhole, .str pOut])) = H4 at c4 e4 e5 e6 dv pot4 kp ⊢
      refine ⟨_, rfl, p, n, 2, rfl, pot4, by omega, by decide, by decide, fun d H5 d0 d1 kd pot5 => ?_⟩
      have k5 : Keep [p] H4 H5 := kp_of kd
      have c5 := k5.at c4 (nin1 ncp)
      have e4 := e4.keepP pot4 k5
      have e5 := e5.keepP pot4 k5
      have e6 := e6.keepP pot4 k5
      have dv := dv.keepP pot4 k5
      have kp := kp.trans k5
      obtain ⟨w, hw, hat⟩ : ∃ w, (w = pWhole ∨ w = pOut) ∧ atI [V.str pWhole, V.str pOut] d = some (.str w) := by
        have : d = 0 ∨ d = 1 := by omega
        rcases this with rfl | rfl
        · exact ⟨_, .inl rfl, at0 _ _⟩
        · exact ⟨_, .inr rfl, atI_nat (j := 1) rfl⟩
      have tw : IsTx w := by rcases hw with rfl | rfl; exact tx_w1; exact tx_w2
      refine ⟨c, _, d, .str w, rfl, rfl, SqL.of c5, hat, ?_⟩
      have hpo : ∃ o, H5 p = some o := by obtain ⟨xs, e⟩ := pot5.some; exact ⟨_, e⟩
      dsimp only
      refine stepSl ?_
      refine gv_A (p := p) (H0 := H5) hpo H5 _ (Keep.refl _ _) fun v6 H6 k6 g6 => ?_
      simp only [DtAt] at g6
      obtain ⟨a6, ys, rfl, na6, ea6, t6⟩ := g6
      have ly : ys.length = 1 := t6.len
      have pot6 := pot5.keep (ex := []) k6 nin0
      refine ⟨_, rfl, p, n + 1, 2, rfl, pot6, by omega, by decide, by decide, fun j H7 j0 j1 kj pot7 => ⟨_, rfl, ?_⟩⟩
      have k7 : Keep [p] H6 H7 := kp_of kj
      have e4 := (e4.keep0 k6).keepP pot6 k7
      have e5 := (e5.keep0 k6).keepP pot6 k7
      have e6 := (e6.keep0 k6).keepP pot6 k7
      have dv := (dv.keep0 k6).keepP pot6 k7
      have t7 : DtsAt [p] H7 [catA] ys := t6.keepP pot6 k7
      have ea7 := k7.at ea6 na6
      have kp := (kp.trans (k6.more fun b hb => absurd hb List.not_mem_nil)).trans k7
      refine ⟨a6, ys, rfl, SqL.of ea7, fun a8 h8 => ?_⟩
      obtain ⟨m, rfl⟩ := Int.eq_ofNat_of_zero_le j0
      rw [show cutV ys none (some (m : Int)) = ys.take m from cut_to (by omega)]
      have k8 : Keep [] H7 (upd H7 a8 (.lst (ys.take m))) := Keep.new h8
      have n8 : a8 ∉ [p] := nin1 fun z => by
        obtain ⟨xs, e⟩ := pot7.some
        rw [z, e] at h8; cases h8
      have g8 : DtAt [p] (upd H7 a8 (.lst (ys.take m))) (.lst ([catA].take m)) (.ref a8) := by
        simp only [DtAt]
        exact ⟨a8, _, rfl, n8, upd_same, (dts_take m t7).keep0 k8⟩
      have e4 := e4.keep0 k8
      have e5 := e5.keep0 k8
      have e6 := e6.keep0 k8
      have dv := dv.keep0 k8
      have kp := kp.trans (k8.more fun b hb => absurd hb List.not_mem_nil)
      have pot5 : PotAt (upd H7 a8 (.lst (ys.take m))) p (n + 100) := (pot7.keep (ex := []) k8 nin0).le (by omega)
      generalize (upd H7 a8 (.lst (ys.take m))) = H8 at g8 e4 e5 e6 dv kp pot5 ⊢
      refine ⟨_, rfl, _, rfl, _, rfl, _, rfl, _, rfl, _, rfl, (by show 7 ≤ sizeLine; decide), fun a ha => ?_⟩
      have ka : Keep [] H8 _ := Keep.new (o := .tup [.str pRoom, .str (rname k), v, .str w, .ref a8, u5, u6]) ha
      refine kk _ _ _ (.f0 w m hw) (kp.trans (ka.more fun b hb => absurd hb List.not_mem_nil)) ?_ (pot5.keep (ex := []) ka nin0)
      simp only [DtAt, DtsAt]
      refine ⟨a, _, rfl, upd_same, ⟨rfl, tx_rm⟩, ⟨rfl, tx_nm hk⟩, ?_, ⟨rfl, tw⟩, ?_, ?_, ?_, trivial⟩
      · simpa only [DtAt] using (dv.keep0 ka)
      · simpa only [DtAt] using (g8.keep0 ka)
      · simpa only [DtAt] using (e5.keep0 ka)
      · simpa only [DtAt] using (e6.keep0 ka)
    · -- frame 1
      refine ⟨_, rfl, rfl, _, rfl, itF1 (by decide +kernel) ?_⟩
      refine ⟨_, rfl, rfl, _, rfl, itT1 (by decide +kernel) ?_⟩
      have tw : IsTx pWhole := tx_w1
      have ex : ∃ w, w = pWhole := ⟨_, rfl⟩
      obtain ⟨w, hw⟩ := ex
      rw [← hw] at tw
      refine ⟨(by show 2 ≤ sizeLine; decide), fun c hc => ?_⟩
      have k4 : Keep [] H2 (upd H2 c (.lst [.str pWhole, .str pOut])) := Keep.new hc
      have c4 : (upd H2 c (.lst [.str pWhole, .str pOut])) c = some (.lst [.str pWhole, .str pOut]) := upd_same
      have e4 := e4.keep0 k4
      have e5 := e5.keep0 k4
      have e6 := e6.keep0 k4
      have dv := dv.keep0 k4
      have pot4 := pot2.keep (ex := []) k4 nin0
      have kp := kp.trans (k4.more fun b hb => absurd hb List.not_mem_nil)
      generalize (upd H2 c (.lst [.str pWhole, .str pOut])) = H4 at c4 e4 e5 e6 dv pot4 kp ⊢
      refine ⟨_, rfl, _, _, rfl, rfl, c, _, _, .str pWhole, rfl, rfl, SqL.of c4, at0 _ _, ?_⟩
      have hpo : ∃ o, H4 p = some o := by obtain ⟨xs, e⟩ := pot4.some; exact ⟨_, e⟩
      dsimp only
      refine stepSl ?_
      refine gv_3 (p := p) (H0 := H4) hpo rfl dv H4 _ (Keep.refl _ _) fun v6 H6 k6 g6 => ?_
      simp only [DtAt] at g6
      obtain ⟨a6, ys, rfl, na6, ea6, t6⟩ := g6
      have ly : ys.length = 3 := t6.len
      have pot6 := pot4.keep (ex := []) k6 nin0
      refine ⟨_, rfl, p, n, 2, rfl, pot6, by omega, by decide, by decide, fun j H7 j0 j1 kj pot7 => ⟨_, rfl, ?_⟩⟩
      have k7 : Keep [p] H6 H7 := kp_of kj
      have e4 := (e4.keep0 k6).keepP pot6 k7
      have e5 := (e5.keep0 k6).keepP pot6 k7
      have e6 := (e6.keep0 k6).keepP pot6 k7
      have t7 : DtsAt [p] H7 (cat3 (.lst l)) ys := t6.keepP pot6 k7
      have ea7 := k7.at ea6 na6
      have kp := (kp.trans (k6.more fun b hb => absurd hb List.not_mem_nil)).trans k7
      refine ⟨a6, ys, rfl, SqL.of ea7, fun a8 h8 => ?_⟩
      obtain ⟨m, rfl⟩ := Int.eq_ofNat_of_zero_le j0
      rw [show cutV ys (some (m : Int)) none = ys.drop m from cut_from (by omega)]
      have k8 : Keep [] H7 (upd H7 a8 (.lst (ys.drop m))) := Keep.new h8
      have n8 : a8 ∉ [p] := nin1 fun z => by
        obtain ⟨xs, e⟩ := pot7.some
        rw [z, e] at h8; cases h8
      have g8 : DtAt [p] (upd H7 a8 (.lst (ys.drop m))) (.lst ((cat3 (.lst l)).drop m)) (.ref a8) := by
        simp only [DtAt]
        exact ⟨a8, _, rfl, n8, upd_same, (dts_drop m t7).keep0 k8⟩
      have e4 := e4.keep0 k8
      have e5 := e5.keep0 k8
      have e6 := e6.keep0 k8
      have kp := kp.trans (k8.more fun b hb => absurd hb List.not_mem_nil)
      have pot8 := pot7.keep (ex := []) k8 nin0
      generalize (upd H7 a8 (.lst (ys.drop m))) = H8 at g8 e4 e5 e6 kp pot8 ⊢
      refine ⟨_, rfl, (by show 2 ≤ sizeLine; decide), fun q hq => ⟨q, _, rfl, .inl (SqL.of upd_same), rfl, rfl, _, rfl, ?_⟩⟩
      have k9 : Keep [] H8 (upd H8 q (.lst [.int 1, .int 2])) := Keep.new hq
      show if (!inV (.int ((1 : Nat) : Int)) [.int 1, .int 2]) = true then _ else _
      rw [show (!inV (.int ((1 : Nat) : Int)) [.int 1, .int 2]) = false by decide +kernel]
      refine iteF ?_
      have e4 := e4.keep0 k9
      have e5 := e5.keep0 k9
      have e6 := e6.keep0 k9
      have g8 := g8.keep0 k9
      have pot5 : PotAt (upd H8 q (.lst [.int 1, .int 2])) p (n + 100) := (pot8.keep (ex := []) k9 nin0).le (by omega)
      have kp := kp.trans (k9.more fun b hb => absurd hb List.not_mem_nil)
      generalize (upd H8 q (.lst [.int 1, .int 2])) = H9 at g8 e4 e5 e6 kp pot5 ⊢
      subst hw
      refine ⟨_, rfl, _, rfl, _, rfl, _, rfl, _, rfl, _, rfl, (by show 7 ≤ sizeLine; decide), fun a ha => ?_⟩
      have ka : Keep [] H9 _ := Keep.new (o := .tup [.str pRoom, .str (rname k), u4, .str pWhole, .ref a8, u5, u6]) ha
      refine kk _ _ _ (.f1 m (by omega)) (kp.trans (ka.more fun b hb => absurd hb List.not_mem_nil)) ?_ (pot5.keep (ex := []) ka nin0)
      simp only [DtAt, DtsAt]
      refine ⟨a, _, rfl, upd_same, ⟨rfl, tx_rm⟩, ⟨rfl, tx_nm hk⟩, ?_, ⟨rfl, tw⟩, ?_, ?_, ?_, trivial⟩
      · simpa only [DtAt] using (e4.keep0 ka)
      · simpa only [DtAt] using (g8.keep0 ka)
      · simpa only [DtAt] using (e5.keep0 ka)
      · simpa only [DtAt] using (e6.keep0 ka)
    · -- frame 2
      refine ⟨_, rfl, rfl, _, rfl, itF1 (by decide +kernel) ?_⟩
      refine ⟨_, rfl, rfl, _, rfl, itF1 (by decide +kernel) ?_⟩
      refine ⟨_, rfl, rfl, _, rfl, itT1 (by decide +kernel) ?_⟩
      have tw : IsTx pOut := tx_w2
      have ex : ∃ w, w = pOut := ⟨_, rfl⟩
      obtain ⟨w, hw⟩ := ex
      rw [← hw] at tw
      refine ⟨(by show 2 ≤ sizeLine; decide), fun c hc => ?_⟩
      have k4 : Keep [] H2 (upd H2 c (.lst [.str pWhole, .str pOut])) := Keep.new hc
      have c4 : (upd H2 c (.lst [.str pWhole, .str pOut])) c = some (.lst [.str pWhole, .str pOut]) := upd_same
      have e4 := e4.keep0 k4
      have e5 := e5.keep0 k4
      have e6 := e6.keep0 k4
      have dv := dv.keep0 k4
      have pot4 := pot2.keep (ex := []) k4 nin0
      have kp := kp.trans (k4.more fun b hb => absurd hb List.not_mem_nil)
      generalize (upd H2 c (.lst [.str pWhole, .str pOut])) = H4 at c4 e4 e5 e6 dv pot4 kp ⊢
      refine ⟨_, rfl, _, _, rfl, rfl, c, _, _, .str pOut, rfl, rfl, SqL.of c4, atI_nat (j := 1) rfl, ?_⟩
      have hpo : ∃ o, H4 p = some o := by obtain ⟨xs, e⟩ := pot4.some; exact ⟨_, e⟩
      dsimp only
      refine stepSl ?_
      refine gv_3 (p := p) (H0 := H4) hpo rfl dv H4 _ (Keep.refl _ _) fun v6 H6 k6 g6 => ?_
      simp only [DtAt] at g6
      obtain ⟨a6, ys, rfl, na6, ea6, t6⟩ := g6
      have ly : ys.length = 3 := t6.len
      have pot6 := pot4.keep (ex := []) k6 nin0
      refine ⟨_, rfl, p, n, 2, rfl, pot6, by omega, by decide, by decide, fun j H7 j0 j1 kj pot7 => ⟨_, rfl, ?_⟩⟩
      have k7 : Keep [p] H6 H7 := kp_of kj
      have e4 := (e4.keep0 k6).keepP pot6 k7
      have e5 := (e5.keep0 k6).keepP pot6 k7
      have e6 := (e6.keep0 k6).keepP pot6 k7
      have t7 : DtsAt [p] H7 (cat3 (.lst l)) ys := t6.keepP pot6 k7
      have ea7 := k7.at ea6 na6
      have kp := (kp.trans (k6.more fun b hb => absurd hb List.not_mem_nil)).trans k7
      refine ⟨a6, ys, rfl, SqL.of ea7, fun a8 h8 => ?_⟩
      obtain ⟨m, rfl⟩ := Int.eq_ofNat_of_zero_le j0
      rw [show cutV ys (some (m : Int)) none = ys.drop m from cut_from (by omega)]
      have k8 : Keep [] H7 (upd H7 a8 (.lst (ys.drop m))) := Keep.new h8
      have n8 : a8 ∉ [p] := nin1 fun z => by
        obtain ⟨xs, e⟩ := pot7.some
        rw [z, e] at h8; cases h8
      have g8 : DtAt [p] (upd H7 a8 (.lst (ys.drop m))) (.lst ((cat3 (.lst l)).drop m)) (.ref a8) := by
        simp only [DtAt]
        exact ⟨a8, _, rfl, n8, upd_same, (dts_drop m t7).keep0 k8⟩
      have e4 := e4.keep0 k8
      have e5 := e5.keep0 k8
      have e6 := e6.keep0 k8
      have kp := kp.trans (k8.more fun b hb => absurd hb List.not_mem_nil)
      have pot8 := pot7.keep (ex := []) k8 nin0
      generalize (upd H7 a8 (.lst (ys.drop m))) = H8 at g8 e4 e5 e6 kp pot8 ⊢
      refine ⟨_, rfl, (by show 2 ≤ sizeLine; decide), fun q hq => ⟨q, _, rfl, .inl (SqL.of upd_same), rfl, rfl, _, rfl, ?_⟩⟩
      have k9 : Keep [] H8 (upd H8 q (.lst [.int 1, .int 2])) := Keep.new hq
      show if (!inV (.int ((2 : Nat) : Int)) [.int 1, .int 2]) = true then _ else _
      rw [show (!inV (.int ((2 : Nat) : Int)) [.int 1, .int 2]) = false by decide +kernel]
      refine iteF ?_
      have e4 := e4.keep0 k9
      have e5 := e5.keep0 k9
      have e6 := e6.keep0 k9
      have g8 := g8.keep0 k9
      have pot5 : PotAt (upd H8 q (.lst [.int 1, .int 2])) p (n + 100) := (pot8.keep (ex := []) k9 nin0).le (by omega)
      have kp := kp.trans (k9.more fun b hb => absurd hb List.not_mem_nil)
      generalize (upd H8 q (.lst [.int 1, .int 2])) = H9 at g8 e4 e5 e6 kp pot5 ⊢
      subst hw
      refine ⟨_, rfl, _, rfl, _, rfl, _, rfl, _, rfl, _, rfl, (by show 7 ≤ sizeLine; decide), fun a ha => ?_⟩
      have ka : Keep [] H9 _ := Keep.new (o := .tup [.str pRoom, .str (rname k), u4, .str pOut, .ref a8, u5, u6]) ha
      refine kk _ _ _ (.f2 m (by omega)) (kp.trans (ka.more fun b hb => absurd hb List.not_mem_nil)) ?_ (pot5.keep (ex := []) ka nin0)
      simp only [DtAt, DtsAt]
      refine ⟨a, _, rfl, upd_same, ⟨rfl, tx_rm⟩, ⟨rfl, tx_nm hk⟩, ?_, ⟨rfl, tw⟩, ?_, ?_, ?_, trivial⟩
      · simpa only [DtAt] using (e4.keep0 ka)
      · simpa only [DtAt] using (g8.keep0 ka)
      · simpa only [DtAt] using (e5.keep0 ka)
      · simpa only [DtAt] using (e6.keep0 ka)
    · -- frame 3
      refine ⟨_, rfl, rfl, _, rfl, itF1 (by decide +kernel) ?_⟩
      refine ⟨_, rfl, rfl, _, rfl, itF1 (by decide +kernel) ?_⟩
      refine ⟨_, rfl, rfl, _, rfl, itF1 (by decide +kernel) ?_⟩
      refine ⟨_, rfl, rfl, _, rfl, itT1 (by decide +kernel) ?_⟩
      refine ⟨_, rfl, ?_⟩
      refine ⟨_, rfl, (by show 2 ≤ sizeLine; decide), fun q hq => ⟨q, _, rfl, .inl (SqL.of upd_same), rfl, rfl, _, rfl, ?_⟩⟩
      have k3 : Keep [] H2 (upd H2 q (.lst [.int 1, .int 2])) := Keep.new hq
      show if (!inV (.int ((3 : Nat) : Int)) [.int 1, .int 2]) = true then _ else _
      rw [show (!inV (.int ((3 : Nat) : Int)) [.int 1, .int 2]) = true by decide +kernel]
      have e4 := e4.keep0 k3
      have e5 := e5.keep0 k3
      have e6 := e6.keep0 k3
      have e7 := e7.keep0 k3
      have dv := dv.keep0 k3
      have pot3 := pot2.keep (ex := []) k3 nin0
      have kp : Keep [p] H (upd H2 q (.lst [.int 1, .int 2])) := kp.trans (k3.more fun b hb => absurd hb List.not_mem_nil)
      generalize (upd H2 q (.lst [.int 1, .int 2])) = H3 at e7 e4 e5 e6 dv pot3 kp ⊢
      refine iteT ⟨(by show 2 ≤ sizeLine; decide), fun c hc => ?_⟩
      have k4 : Keep [] H3 (upd H3 c (.lst [.str pWhole, .str pOut])) := Keep.new hc
      have c4 : (upd H3 c (.lst [.str pWhole, .str pOut])) c = some (.lst [.str pWhole, .str pOut]) := upd_same
      have ncp : c ≠ p := fun z => by
        obtain ⟨xs, e⟩ := pot3.some
        rw [z, e] at hc; cases hc
      have e4 := e4.keep0 k4
      have e5 := e5.keep0 k4
      have e6 := e6.keep0 k4
      have dv := dv.keep0 k4
      have pot4 := pot3.keep (ex := []) k4 nin0
      have kp := kp.trans (k4.more fun b hb => absurd hb List.not_mem_nil)
      generalize (upd H3 c (.lst [.str pWhole, .str pOut])) = H4 at c4 e4 e5 e6 dv pot4 kp ⊢
      refine ⟨_, rfl, p, n, 2, rfl, pot4, by omega, by decide, by decide, fun d H5 d0 d1 kd pot5 => ?_⟩
      have k5 : Keep [p] H4 H5 := kp_of kd
      have c5 := k5.at c4 (nin1 ncp)
      have e4 := e4.keepP pot4 k5
      have e5 := e5.keepP pot4 k5
      have e6 := e6.keepP pot4 k5
      have dv := dv.keepP pot4 k5
      have kp := kp.trans k5
      obtain ⟨w, hw, hat⟩ : ∃ w, (w = pWhole ∨ w = pOut) ∧ atI [V.str pWhole, V.str pOut] d = some (.str w) := by
        have : d = 0 ∨ d = 1 := by omega
        rcases this with rfl | rfl
        · exact ⟨_, .inl rfl, at0 _ _⟩
        · exact ⟨_, .inr rfl, atI_nat (j := 1) rfl⟩
      have tw : IsTx w := by rcases hw with rfl | rfl; exact tx_w1; exact tx_w2
      refine ⟨c, _, d, .str w, rfl, rfl, SqL.of c5, hat, ?_⟩
      have hpo : ∃ o, H5 p = some o := by obtain ⟨xs, e⟩ := pot5.some; exact ⟨_, e⟩
      dsimp only
      refine stepSl ?_
      refine gv_A (p := p) (H0 := H5) hpo H5 _ (Keep.refl _ _) fun v6 H6 k6 g6 => ?_
      simp only [DtAt] at g6
      obtain ⟨a6, ys, rfl, na6, ea6, t6⟩ := g6
      have ly : ys.length = 1 := t6.len
      have pot6 := pot5.keep (ex := []) k6 nin0
      refine ⟨_, rfl, p, n + 1, 2, rfl, pot6, by omega, by decide, by decide, fun j H7 j0 j1 kj pot7 => ⟨_, rfl, ?_⟩⟩
      have k7 : Keep [p] H6 H7 := kp_of kj
      have e4 := (e4.keep0 k6).keepP pot6 k7
      have e5 := (e5.keep0 k6).keepP pot6 k7
      have e6 := (e6.keep0 k6).keepP pot6 k7
      have dv := (dv.keep0 k6).keepP pot6 k7
      have t7 : DtsAt [p] H7 [catA] ys := t6.keepP pot6 k7
      have ea7 := k7.at ea6 na6
      have kp := (kp.trans (k6.more fun b hb => absurd hb List.not_mem_nil)).trans k7
      refine ⟨a6, ys, rfl, SqL.of ea7, fun a8 h8 => ?_⟩
      obtain ⟨m, rfl⟩ := Int.eq_ofNat_of_zero_le j0
      rw [show cutV ys none (some (m : Int)) = ys.take m from cut_to (by omega)]
      have k8 : Keep [] H7 (upd H7 a8 (.lst (ys.take m))) := Keep.new h8
      have n8 : a8 ∉ [p] := nin1 fun z => by
        obtain ⟨xs, e⟩ := pot7.some
        rw [z, e] at h8; cases h8
      have g8 : DtAt [p] (upd H7 a8 (.lst (ys.take m))) (.lst ([catA].take m)) (.ref a8) := by
        simp only [DtAt]
        exact ⟨a8, _, rfl, n8, upd_same, (dts_take m t7).keep0 k8⟩
      have e4 := e4.keep0 k8
      have e5 := e5.keep0 k8
      have e6 := e6.keep0 k8
      have dv := dv.keep0 k8
      have kp := kp.trans (k8.more fun b hb => absurd hb List.not_mem_nil)
      have pot5 : PotAt (upd H7 a8 (.lst (ys.take m))) p (n + 100) := (pot7.keep (ex := []) k8 nin0).le (by omega)
      generalize (upd H7 a8 (.lst (ys.take m))) = H8 at g8 e4 e5 e6 dv kp pot5 ⊢
      refine ⟨_, rfl, _, rfl, _, rfl, _, rfl, _, rfl, _, rfl, (by show 7 ≤ sizeLine; decide), fun a ha => ?_⟩
      have ka : Keep [] H8 _ := Keep.new (o := .tup [.str pRoom, .str (rname k), u4, .str w, .ref a8, v, u6]) ha
      refine kk _ _ _ (.f3 w m hw) (kp.trans (ka.more fun b hb => absurd hb List.not_mem_nil)) ?_ (pot5.keep (ex := []) ka nin0)
      simp only [DtAt, DtsAt]
      refine ⟨a, _, rfl, upd_same, ⟨rfl, tx_rm⟩, ⟨rfl, tx_nm hk⟩, ?_, ⟨rfl, tw⟩, ?_, ?_, ?_, trivial⟩
      · simpa only [DtAt] using (e4.keep0 ka)
      · simpa only [DtAt] using (g8.keep0 ka)
      · simpa only [DtAt] using (dv.keep0 ka)
      · simpa only [DtAt] using (e6.keep0 ka)
    · -- frame 4
      refine ⟨_, rfl, rfl, _, rfl, itF1 (by decide +kernel) ?_⟩
      refine ⟨_, rfl, rfl, _, rfl, itF1 (by decide +kernel) ?_⟩
      refine ⟨_, rfl, rfl, _, rfl, itF1 (by decide +kernel) ?_⟩
      refine ⟨_, rfl, rfl, _, rfl, itF1 (by decide +kernel) ?_⟩
      refine ⟨_, rfl, rfl, _, rfl, itT1 (by decide +kernel) ?_⟩
      refine ⟨_, rfl, ?_⟩
      refine ⟨_, rfl, (by show 2 ≤ sizeLine; decide), fun q hq => ⟨q, _, rfl, .inl (SqL.of upd_same), rfl, rfl, _, rfl, ?_⟩⟩
      have k3 : Keep [] H2 (upd H2 q (.lst [.int 1, .int 2])) := Keep.new hq
      show if (!inV (.int ((4 : Nat) : Int)) [.int 1, .int 2]) = true then _ else _
      rw [show (!inV (.int ((4 : Nat) : Int)) [.int 1, .int 2]) = true by decide +kernel]
      have e4 := e4.keep0 k3
      have e5 := e5.keep0 k3
      have e6 := e6.keep0 k3
      have e7 := e7.keep0 k3
      have dv := dv.keep0 k3
      have pot3 := pot2.keep (ex := []) k3 nin0
      have kp : Keep [p] H (upd H2 q (.lst [.int 1, .int 2])) := kp.trans (k3.more fun b hb => absurd hb List.not_mem_nil)
      generalize (upd H2 q (.lst [.int 1, .int 2])) = H3 at e7 e4 e5 e6 dv pot3 kp ⊢
      refine iteT ⟨(by show 2 ≤ sizeLine; decide), fun c hc => ?_⟩
      have k4 : Keep [] H3 (upd H3 c (.lst [.str pWhole, .str pOut])) := Keep.new hc
      have c4 : (upd H3 c (.lst [.str pWhole, .str pOut])) c = some (.lst [.str pWhole, .str pOut]) := upd_same
      have ncp : c ≠ p := fun z => by
        obtain ⟨xs, e⟩ := pot3.some
        rw [z, e] at hc; cases hc
      have e4 := e4.keep0 k4
      have e5 := e5.keep0 k4
      have e6 := e6.keep0 k4
      have dv := dv.keep0 k4
      have pot4 := pot3.keep (ex := []) k4 nin0
      have kp := kp.trans (k4.more fun b hb => absurd hb List.not_mem_nil)
      generalize (upd H3 c (.lst [.str pWhole, .str pOut])) = H4 at c4 e4 e5 e6 dv pot4 kp ⊢
      refine ⟨_, rfl, p, n, 2, rfl, pot4, by omega, by decide, by decide, fun d H5 d0 d1 kd pot5 => ?_⟩
      have k5 : Keep [p] H4 H5 := kp_of kd
      have c5 := k5.at c4 (nin1 ncp)
      have e4 := e4.keepP pot4 k5
      have e5 := e5.keepP pot4 k5
      have e6 := e6.keepP pot4 k5
      have dv := dv.keepP pot4 k5
      have kp := kp.trans k5
      obtain ⟨w, hw, hat⟩ : ∃ w, (w = pWhole ∨ w = pOut) ∧ atI [V.str pWhole, V.str pOut] d = some (.str w) := by
        have : d = 0 ∨ d = 1 := by omega
        rcases this with rfl | rfl
        · exact ⟨_, .inl rfl, at0 _ _⟩
        · exact ⟨_, .inr rfl, atI_nat (j := 1) rfl⟩
      have tw : IsTx w := by rcases hw with rfl | rfl; exact tx_w1; exact tx_w2
      refine ⟨c, _, d, .str w, rfl, rfl, SqL.of c5, hat, ?_⟩
      have hpo : ∃ o, H5 p = some o := by obtain ⟨xs, e⟩ := pot5.some; exact ⟨_, e⟩
      dsimp only
      refine stepSl ?_
      refine gv_A (p := p) (H0 := H5) hpo H5 _ (Keep.refl _ _) fun v6 H6 k6 g6 => ?_
      simp only [DtAt] at g6
      obtain ⟨a6, ys, rfl, na6, ea6, t6⟩ := g6
      have ly : ys.length = 1 := t6.len
      have pot6 := pot5.keep (ex := []) k6 nin0
      refine ⟨_, rfl, p, n + 1, 2, rfl, pot6, by omega, by decide, by decide, fun j H7 j0 j1 kj pot7 => ⟨_, rfl, ?_⟩⟩
      have k7 : Keep [p] H6 H7 := kp_of kj
      have e4 := (e4.keep0 k6).keepP pot6 k7
      have e5 := (e5.keep0 k6).keepP pot6 k7
      have e6 := (e6.keep0 k6).keepP pot6 k7
      have dv := (dv.keep0 k6).keepP pot6 k7
      have t7 : DtsAt [p] H7 [catA] ys := t6.keepP pot6 k7
      have ea7 := k7.at ea6 na6
      have kp := (kp.trans (k6.more fun b hb => absurd hb List.not_mem_nil)).trans k7
      refine ⟨a6, ys, rfl, SqL.of ea7, fun a8 h8 => ?_⟩
      obtain ⟨m, rfl⟩ := Int.eq_ofNat_of_zero_le j0
      rw [show cutV ys none (some (m : Int)) = ys.take m from cut_to (by omega)]
      have k8 : Keep [] H7 (upd H7 a8 (.lst (ys.take m))) := Keep.new h8
      have n8 : a8 ∉ [p] := nin1 fun z => by
        obtain ⟨xs, e⟩ := pot7.some
        rw [z, e] at h8; cases h8
      have g8 : DtAt [p] (upd H7 a8 (.lst (ys.take m))) (.lst ([catA].take m)) (.ref a8) := by
        simp only [DtAt]
        exact ⟨a8, _, rfl, n8, upd_same, (dts_take m t7).keep0 k8⟩
      have e4 := e4.keep0 k8
      have e5 := e5.keep0 k8
      have e6 := e6.keep0 k8
      have dv := dv.keep0 k8
      have kp := kp.trans (k8.more fun b hb => absurd hb List.not_mem_nil)
      have pot5 : PotAt (upd H7 a8 (.lst (ys.take m))) p (n + 100) := (pot7.keep (ex := []) k8 nin0).le (by omega)
      generalize (upd H7 a8 (.lst (ys.take m))) = H8 at g8 e4 e5 e6 dv kp pot5 ⊢
      refine ⟨_, rfl, _, rfl, _, rfl, _, rfl, _, rfl, _, rfl, (by show 7 ≤ sizeLine; decide), fun a ha => ?_⟩
      have ka : Keep [] H8 _ := Keep.new (o := .tup [.str pRoom, .str (rname k), u4, .str w, .ref a8, u5, v]) ha
      refine kk _ _ _ (.f4 w m hw) (kp.trans (ka.more fun b hb => absurd hb List.not_mem_nil)) ?_ (pot5.keep (ex := []) ka nin0)
      simp only [DtAt, DtsAt]
      refine ⟨a, _, rfl, upd_same, ⟨rfl, tx_rm⟩, ⟨rfl, tx_nm hk⟩, ?_, ⟨rfl, tw⟩, ?_, ?_, ?_, trivial⟩
      · simpa only [DtAt] using (e4.keep0 ka)
      · simpa only [DtAt] using (g8.keep0 ka)
      · simpa only [DtAt] using (e5.keep0 ka)
      · simpa only [DtAt] using (dv.keep0 ka)
    · -- frame 5
      refine ⟨_, rfl, rfl, _, rfl, itF1 (by decide +kernel) ?_⟩
      refine ⟨_, rfl, rfl, _, rfl, itF1 (by decide +kernel) ?_⟩
      refine ⟨_, rfl, rfl, _, rfl, itF1 (by decide +kernel) ?_⟩
      refine ⟨_, rfl, rfl, _, rfl, itF1 (by decide +kernel) ?_⟩
      refine ⟨_, rfl, rfl, _, rfl, itF1 (by decide +kernel) ?_⟩
      refine ⟨_, rfl, p, n, rfl, pot2, by omega, fun z H3 tz k3 pot3 => ?_⟩
      have dv := dv.keepP pot2 k3
      have kp := kp.trans k3
      have hpo : ∃ o, H3 p = some o := by obtain ⟨xs, e⟩ := pot3.some; exact ⟨_, e⟩
      dsimp only
      refine consS ?_
      refine gv_g (p := p) (H0 := H3) hpo rfl dv H3 _ (Keep.refl _ _) fun v6 H6 k6 g6 => ?_
      simp only [DtAt] at g6
      obtain ⟨a6, ys, rfl, na6, ea6, t6⟩ := g6
      have ly : ys.length = 3 := t6.len
      have pot6 := pot3.keep (ex := []) k6 nin0
      refine ⟨_, rfl, p, n + 43, 2, rfl, pot6, by omega, by decide, by decide, fun j H7 j0 j1 kj pot7 => ⟨_, rfl, ?_⟩⟩
      have k7 : Keep [p] H6 H7 := kp_of kj
      have t7 : DtsAt [p] H7 [.lst [], .lst l, .lst []] ys := t6.keepP pot6 k7
      have ea7 := k7.at ea6 na6
      have kp := (kp.trans (k6.more fun b hb => absurd hb List.not_mem_nil)).trans k7
      refine ⟨a6, ys, rfl, SqL.of ea7, fun a8 h8 => ?_⟩
      obtain ⟨m, rfl⟩ := Int.eq_ofNat_of_zero_le j0
      rw [show cutV ys (some (m : Int)) none = ys.drop m from cut_from (by omega)]
      have k8 : Keep [] H7 (upd H7 a8 (.lst (ys.drop m))) := Keep.new h8
      have n8 : a8 ∉ [p] := nin1 fun z => by
        obtain ⟨xs, e⟩ := pot7.some
        rw [z, e] at h8; cases h8
      have g8 : DtAt [p] (upd H7 a8 (.lst (ys.drop m))) (.lst ([.lst [], .lst l, .lst []].drop m)) (.ref a8) := by
        simp only [DtAt]
        exact ⟨a8, _, rfl, n8, upd_same, (dts_drop m t7).keep0 k8⟩
      have kp := kp.trans (k8.more fun b hb => absurd hb List.not_mem_nil)
      have pot8 : PotAt (upd H7 a8 (.lst (ys.drop m))) p (n + 100) := (pot7.keep (ex := []) k8 nin0).le (by omega)
      generalize (upd H7 a8 (.lst (ys.drop m))) = H8 at g8 kp pot8 ⊢
      refine ⟨(by show 3 ≤ sizeLine; decide), fun a ha => ?_⟩
      have ka : Keep [] H8 _ := Keep.new (o := .tup [.str pGather, .str z, .ref a8]) ha
      refine kk _ _ _ (.f5 z m (by omega)) (kp.trans (ka.more fun b hb => absurd hb List.not_mem_nil)) ?_ (pot8.keep (ex := []) ka nin0)
      have g9 := g8.keep0 ka
      simp only [DtAt, DtsAt] at g9 ⊢
      exact ⟨a, _, rfl, upd_same, ⟨rfl, tx_gather⟩, ⟨rfl, tz⟩, g9, trivial⟩
end
end Fs
/-! The law's pieces: a step about a body, what is due. -/
namespace Fs
open PySem L2 TL
abbrev tDg (m : Int) : TE := tCall spDigit [] E0 (tCons (tVar 2) (tCons (tC (.int m)) tNil))
abbrev tAnyS : TE := tCall spAny [] E0 (tCons (tVar 2) tNil)
theorem gseq {i : Nat} {v : V} {σ : L2.St} {H : Hp} {A B : TS} {D : Ends} (h : A { D with nx := B D } (σ.set i (some v)) H) : gName i v σ H (tSeq A B D) := h
theorem lst_of {p : List Addr} {H : Hp} {l : List Dt} {v : V} (h : DtAt p H (.lst l) v) : ∃ a ys, v = .ref a ∧ a ∉ p ∧ H a = some (.lst ys) ∧ DtsAt p H l ys := by
  simp only [DtAt] at h
  exact h
theorem dts_app {p : List Addr} {H : Hp} : ∀ {l m : List Dt} {xs ys : List V}, DtsAt p H l xs → DtsAt p H m ys → DtsAt p H (l ++ m) (xs ++ ys)
  | [], _, [], _, _, h => h
  | x :: l, m, y :: xs, ys, h, h2 => by
    simp only [DtsAt] at h
    rw [List.cons_append, List.cons_append]
    simp only [DtsAt]
    exact ⟨h.1, dts_app h.2 h2⟩
  | [], _, _ :: _, _, h, _ => by simp only [DtsAt] at h
  | _ :: _, _, [], _, h, _ => by simp only [DtsAt] at h
theorem lst_new {p : Addr} {H : Hp} {n : Nat} {l : List Dt} {ys : List V} {a : Addr} (pot : PotAt H p n) (ha : H a = none) (t : DtsAt [p] H l ys) : DtAt [p] (upd H a (.lst ys)) (.lst l) (.ref a) := by
  simp only [DtAt]
  refine ⟨a, ys, rfl, nin1 fun z => ?_, upd_same, t.keep0 (Keep.new ha)⟩
  obtain ⟨xs, e⟩ := pot.some
  rw [z, e] at ha; cases ha
theorem tup_new {p : Addr} {H : Hp} {l : List Dt} {ys : List V} {a : Addr} (ha : H a = none) (t : DtsAt [p] H l ys) : DtAt [p] (upd H a (.tup ys)) (.tup l) (.ref a) := by
  simp only [DtAt]
  exact ⟨a, ys, rfl, upd_same, t.keep0 (Keep.new ha)⟩
theorem dts_one {p : List Addr} {H : Hp} {t : Dt} {v : V} (h : DtAt p H t v) : DtsAt p H [t] [v] := by simp only [DtsAt]; exact ⟨h, trivial⟩
theorem dts_cons {p : List Addr} {H : Hp} {t : Dt} {v : V} {l : List Dt} {ys : List V} (h : DtAt p H t v) (h2 : DtsAt p H l ys) : DtsAt p H (t :: l) (v :: ys) := by simp only [DtsAt]; exact ⟨h, h2⟩
theorem dts_nil {p : List Addr} {H : Hp} : DtsAt p H [] [] := by simp only [DtsAt]
theorem any_ahead {p : Addr} {n : Nat} {l : List Dt} {v : V} {D : Ends} {σ : L2.St} {G : Hp} (h2 : σ[2]? = some (some (.ref p))) (h6 : σ[6]? = some (some v)) (pot : PotAt G p n) (hn : n < 2 ^ 37) (dv : DtAt [p] G (.lst l) v) (hl : l.length ≤ 20)
    (k0 : ∀ G', Keep [p] G G' → DtAt [p] G' (.lst l) v → PotAt G' p (n + 101) → D.nx σ G') (k1 : ∀ t v' G', AnyS t → Keep [p] G G' → DtAt [p] G' (.lst (t :: l)) v' → PotAt G' p (n + 101) → D.nx (σ.set 6 (some v')) G') :
    tIfS (tTest (tOp rEq (tDg 3) (tC (.int 0)))) (tAsg (tOp rCat (tLst (tCons tAnyS tNil)) (tVar 6)) (gName 6)) tNext D σ G := by
  refine ⟨_, h2, p, n, 3, rfl, pot, by omega, by decide, by decide, fun d G1 d0 d1 kd pot1 => ⟨rfl, _, rfl, ?_⟩⟩
  have kk := kp_of kd
  have dv1 := dv.keepP pot kk
  by_cases e : V.int d = V.int 0
  · refine itT1 e ?_
    refine ⟨_, h2, p, n + 1, rfl, pot1, by omega, fun t u G2 ht k2 du pot2 => ⟨(by show 1 ≤ sizeLine; decide), fun a ha => ?_⟩⟩
    have ka : Keep [] G2 (upd G2 a (.lst [u])) := Keep.new ha
    have ea : (upd G2 a (.lst [u])) a = some (.lst [u]) := upd_same
    have du2 := du.keep0 ka
    have dv2 := (dv1.keepP pot1 k2).keep0 ka
    have pot3 := pot2.keep (ex := []) ka nin0
    have k3 : Keep [p] G (upd G2 a (.lst [u])) := kk.trans (k2.trans (ka.more fun b hb => absurd hb List.not_mem_nil))
    generalize (upd G2 a (.lst [u])) = G3 at ea du2 dv2 pot3 k3 ⊢
    obtain ⟨b, ys, rfl, nb, eb, tb⟩ := lst_of dv2
    have lb := tb.len
    refine ⟨_, h6, a, b, _, _, rfl, rfl, ea, eb, Nat.le_trans (by rw [lb]; show 1 + l.length ≤ 30; omega) (by decide : 30 ≤ sizeLine), fun c hc => ?_⟩
    exact k1 t _ _ ht (k3.trans ((Keep.new hc).more fun b hb => absurd hb List.not_mem_nil)) (lst_new pot3 hc (dts_cons du2 tb)) ((pot3.keep (ex := []) (Keep.new hc) nin0).le (by omega))
  · exact itF1 e (k0 G1 kk dv1 (pot1.le (by omega)))
theorem any_behind {p : Addr} {n : Nat} {l : List Dt} {v : V} {D : Ends} {σ : L2.St} {G : Hp} (h2 : σ[2]? = some (some (.ref p))) (h6 : σ[6]? = some (some v)) (pot : PotAt G p n) (hn : n < 2 ^ 37) (dv : DtAt [p] G (.lst l) v) (hl : l.length ≤ 20)
    (k0 : ∀ G', Keep [p] G G' → DtAt [p] G' (.lst l) v → PotAt G' p (n + 101) → D.nx σ G') (k1 : ∀ t v' G', AnyS t → Keep [p] G G' → DtAt [p] G' (.lst (l ++ [t])) v' → PotAt G' p (n + 101) → D.nx (σ.set 6 (some v')) G') :
    tIfS (tTest (tOp rEq (tDg 3) (tC (.int 0)))) (tAsg (tOp rCat (tVar 6) (tLst (tCons tAnyS tNil))) (gName 6)) tNext D σ G := by
  refine ⟨_, h2, p, n, 3, rfl, pot, by omega, by decide, by decide, fun d G1 d0 d1 kd pot1 => ⟨rfl, _, rfl, ?_⟩⟩
  have kk := kp_of kd
  have dv1 := dv.keepP pot kk
  by_cases e : V.int d = V.int 0
  · refine itT1 e ?_
    refine ⟨_, h6, _, h2, p, n + 1, rfl, pot1, by omega, fun t u G2 ht k2 du pot2 => ⟨(by show 1 ≤ sizeLine; decide), fun a ha => ?_⟩⟩
    have ka : Keep [] G2 (upd G2 a (.lst [u])) := Keep.new ha
    have ea : (upd G2 a (.lst [u])) a = some (.lst [u]) := upd_same
    have du2 := du.keep0 ka
    have dv2 := (dv1.keepP pot1 k2).keep0 ka
    have pot3 := pot2.keep (ex := []) ka nin0
    have k3 : Keep [p] G (upd G2 a (.lst [u])) := kk.trans (k2.trans (ka.more fun b hb => absurd hb List.not_mem_nil))
    generalize (upd G2 a (.lst [u])) = G3 at ea du2 dv2 pot3 k3 ⊢
    obtain ⟨b, ys, rfl, nb, eb, tb⟩ := lst_of dv2
    have lb := tb.len
    refine ⟨b, a, _, _, rfl, rfl, eb, ea, Nat.le_trans (by rw [lb]; show l.length + 1 ≤ 30; omega) (by decide : 30 ≤ sizeLine), fun c hc => ?_⟩
    exact k1 t _ _ ht (k3.trans ((Keep.new hc).more fun b hb => absurd hb List.not_mem_nil)) (lst_new pot3 hc (dts_app tb (dts_one du2))) ((pot3.keep (ex := []) (Keep.new hc) nin0).le (by omega))
  · exact itF1 e (k0 G1 kk dv1 (pot1.le (by omega)))
/-- the step in question -/
inductive StK : Dt → Nat → Prop
  | again : StK (.tup [.flat (.str pAgain)]) 0
  | note (z : Str) : StK (.tup [.flat (.str pNote), .flat (.str z)]) 0
  | rz (z : Str) : StK (.tup [.flat (.str pRaiseof), .flat (.str sF), .flat (.str z)]) 0
  | ans (i : Int) : StK (.tup [.flat (.str pAnswer), .flat (.int i)]) 1
  | any (t : Dt) (h : AnyS t) : StK t 2
def okK : Nat → Bool → Bool → Bool
  | 0 => fun held _ => held || false
  | 1 => fun _ free => free && true
  | _ => fun _ _ => true
def dueK : Nat → List Nat → Bool
  | 0, fs => decide (1 ∈ fs) || decide (2 ∈ fs)
  | 1, fs => (!decide (5 ∈ fs)) && (!decide (2 ∈ fs))
  | _, _ => true
theorem due_ok (j : Nat) (fs : List Nat) : okFs (okK j) fs false true = dueK j fs := by
  match j with
  | 0 => exact (due_hand fs false).trans (by rw [Bool.false_or]; rfl)
  | 1 => exact (due_ans fs true).trans (by rw [Bool.true_and]; rfl)
  | n + 2 =>
    show okFs (fun _ _ => true) fs false true = true
    rw [due_any]
theorem stk_step {ah : List Str} {d lev : Nat} {held free : Bool} {t : Dt} {j : Nat} {r : Rms} (h : StK t j) (hd : 3 ≤ d) (hl : lev + 1 ≤ 60) : stepF [] ah d lev held free t r = if okK j held free then some r else none := by
  obtain ⟨e, rfl⟩ : ∃ e, d = e + 1 := ⟨d - 1, by omega⟩
  cases h with
  | again => rw [stepT, st_Again]; cases held <;> rfl
  | note z => rw [stepT, st_Note]; cases held <;> rfl
  | rz z => rw [stepT, st_Raiseof, plain_F]; cases held <;> rfl
  | ans i => rw [stepT, st_Answer]; cases free <;> rfl
  | any _ h => rw [any_step h hd hl]; rfl
theorem AnyS.ni {t : Dt} (h : AnyS t) : nice t = true ∧ t.sz ≤ 6 ∧ t.dp ≤ 6 := by
  cases h with
  | say z => exact ⟨by simp only [nice, nices, Bool.and_eq_true]; exact ⟨⟨trivial, trivial, trivial⟩, niL (by decide +kernel) (by decide +kernel)⟩, by simp [Dt.sz, Dt.szs], by simp [Dt.dp, Dt.dps]⟩
  | rz z => exact ⟨by simp only [nice, nices, Bool.and_eq_true]; exact ⟨⟨trivial, trivial, trivial, trivial⟩, niL (by decide +kernel) (by decide +kernel)⟩, by simp [Dt.sz, Dt.szs], by simp [Dt.dp, Dt.dps]⟩
  | gat => exact ⟨by simp only [nice, nices, Bool.and_eq_true]; exact ⟨⟨trivial, trivial, ⟨trivial, trivial⟩, trivial⟩, niL (by decide +kernel) (by decide +kernel)⟩, by simp [Dt.sz, Dt.szs], by simp [Dt.dp, Dt.dps]⟩
theorem StK.ni {t : Dt} {j : Nat} (h : StK t j) : nice t = true ∧ t.sz ≤ 6 ∧ t.dp ≤ 6 := by
  cases h with
  | again => exact ⟨by simp only [nice, nices, Bool.and_eq_true]; exact ⟨⟨trivial, trivial⟩, niL (by decide +kernel) (by decide +kernel)⟩, by simp [Dt.sz, Dt.szs], by simp [Dt.dp, Dt.dps]⟩
  | note z => exact ⟨by simp only [nice, nices, Bool.and_eq_true]; exact ⟨⟨trivial, trivial, trivial⟩, niL (by decide +kernel) (by decide +kernel)⟩, by simp [Dt.sz, Dt.szs], by simp [Dt.dp, Dt.dps]⟩
  | rz z => exact ⟨by simp only [nice, nices, Bool.and_eq_true]; exact ⟨⟨trivial, trivial, trivial, trivial⟩, niL (by decide +kernel) (by decide +kernel)⟩, by simp [Dt.sz, Dt.szs], by simp [Dt.dp, Dt.dps]⟩
  | ans i => exact ⟨by simp only [nice, nices, Bool.and_eq_true]; exact ⟨⟨trivial, trivial, trivial⟩, niL (by decide +kernel) (by decide +kernel)⟩, by simp [Dt.sz, Dt.szs], by simp [Dt.dp, Dt.dps]⟩
  | any _ h => exact h.ni
/-- a body with so many frames -/
structure Nest (k : Nat) (l : List Dt) (ok : Bool → Bool → Bool) : Prop where
  ev : EvalP k (.lst l) ok
  ni : nices l = true
  dp : Dt.dps l ≤ 6 + 8 * k
  sz : Dt.szs l ≤ 6 + 60 * k
  ln : l.length ≤ 3
theorem Nest.start {t : Dt} {j : Nat} (h : StK t j) : Nest 0 [t] (okK j) :=
  ⟨EvalP.start fun ah d lev held free r hd hl => stk_step h hd hl, by simp only [nices, h.ni.1]; rfl, by simp only [Dt.dps]; have := h.ni.2.2; omega, by simp only [Dt.szs]; have := h.ni.2.1; omega, by show 1 ≤ 3; decide⟩
structure NestA (k : Nat) (l : List Dt) (ok : Bool → Bool → Bool) (m : Nat) : Prop where
  ev : EvalP k (.lst l) ok
  ni : nices l = true
  dp : Dt.dps l ≤ 6 + 8 * k
  sz : Dt.szs l + 8 * m ≤ 6 + 60 * k
  ln : l.length + m ≤ 3
theorem Nest.frame {k f : Nat} {l : List Dt} {ok : Bool → Bool → Bool} {s : Dt} (h : Nest k l ok) (hk : k < 6) (hs : Fr k l f s) : NestA (k + 1) [s] (okF f ok) 2 :=
  ⟨hs.ev hk h.ev, by simp only [nices, hs.ni h.ni]; rfl, by simp only [Dt.dps]; have := hs.sz.2; have := h.dp; omega, by simp only [Dt.szs]; have := hs.sz.1; have := h.sz; omega, by show 1 + 2 ≤ 3; decide⟩
theorem NestA.ahead {k m : Nat} {l : List Dt} {ok : Bool → Bool → Bool} {t : Dt} (h : NestA k l ok (m + 1)) (ht : AnyS t) : NestA k (t :: l) ok m :=
  ⟨h.ev.ahead ht, by simp only [nices, ht.ni.1, h.ni]; rfl, by simp only [Dt.dps]; have := ht.ni.2.2; have := h.dp; omega, by simp only [Dt.szs]; have := ht.ni.2.1; have := h.sz; omega, by have := h.ln; rw [List.length_cons]; omega⟩
theorem nices_app : ∀ {a b : List Dt}, nices a = true → nices b = true → nices (a ++ b) = true
  | [], _, _, h => h
  | x :: a, b, h, h2 => by
    simp only [nices, Bool.and_eq_true] at h
    rw [List.cons_append]
    simp only [nices, Bool.and_eq_true]
    exact ⟨h.1, nices_app h.2 h2⟩
theorem dps_ap (a b : List Dt) : Dt.dps (a ++ b) = max (Dt.dps a) (Dt.dps b) := by
  induction a with
  | nil => simp [Dt.dps]
  | cons x a ih => rw [List.cons_append]; simp only [Dt.dps]; rw [ih]; omega
theorem szs_ap (a b : List Dt) : Dt.szs (a ++ b) = Dt.szs a + Dt.szs b := by
  induction a with
  | nil => simp [Dt.szs]
  | cons x a ih => rw [List.cons_append]; simp only [Dt.szs]; rw [ih]; omega
theorem NestA.behind {k m : Nat} {l : List Dt} {ok : Bool → Bool → Bool} {t : Dt} (h : NestA k l ok (m + 1)) (ht : AnyS t) : NestA k (l ++ [t]) ok m :=
  ⟨h.ev.behind ht, nices_app h.ni (by simp only [nices, ht.ni.1]; rfl), by rw [dps_ap]; simp only [Dt.dps]; have := ht.ni.2.2; have := h.dp; omega, by rw [szs_ap]; simp only [Dt.szs]; have := ht.ni.2.1; have := h.sz; omega, by have := h.ln; rw [List.length_append]; show l.length + 1 + m ≤ 3; omega⟩
theorem NestA.less {k m m' : Nat} {l : List Dt} {ok : Bool → Bool → Bool} (h : NestA k l ok m) (hm : m' ≤ m) : NestA k l ok m' := ⟨h.ev, h.ni, h.dp, by have := h.sz; omega, by have := h.ln; omega⟩
theorem NestA.done {k m : Nat} {l : List Dt} {ok : Bool → Bool → Bool} (h : NestA k l ok m) : Nest k l ok := ⟨h.ev, h.ni, h.dp, by have := h.sz; omega, by have := h.ln; omega⟩
abbrev fsV (fs : List Nat) : List V := fs.map fun f : Nat => V.int (f : Int)
theorem fsV_flat (fs : List Nat) : (fsV fs).all flatV = true := by
  rw [List.all_eq_true]
  intro v hv
  obtain ⟨z, _, rfl⟩ := List.mem_map.mp hv
  rfl
theorem inV_fs (k : Nat) (fs : List Nat) : inV (.int (k : Int)) (fsV fs) = decide (k ∈ fs) := by
  unfold inV
  rw [Bool.eq_iff_iff, List.any_eq_true, decide_eq_true_eq]
  constructor
  · rintro ⟨x, hx, e⟩
    obtain ⟨z, hz, rfl⟩ := List.mem_map.mp hx
    have e : decide ((z : Int) = (k : Int)) = true := e
    have := of_decide_eq_true e
    rw [show k = z by omega]
    exact hz
  · intro h
    exact ⟨_, List.mem_map.mpr ⟨k, h, rfl⟩, show decide ((k : Int) = (k : Int)) = true from decide_eq_true rfl⟩
theorem due_if {K : PySem.W.Frag} {p D : Addr} {t : Dt} {j : Nat} {v : V} {fs : List Nat} {E : Ends} {σ : L2.St} {G : Hp} (h5 : σ[5]? = some (some v)) (h3 : σ[3]? = some (some (.ref D))) (h9 : σ[9]? = some (some (.bl true))) (ht : StK t j) (dv : DtAt [p] G t v) (eD : G D = some (.lst (fsV fs)))
    (kk : ∀ G', Keep [] G G' → E.nx (σ.set 9 (some (.bl (dueK j fs)))) G') :
    tIfS (tTest (tOp (rIn K false) (tOp (rIxT K) (tVar 5) (tC (.int 0))) (tLst (tCons (tC (.str pAgain)) (tCons (tC (.str pNote)) (tCons (tC (.str pRaiseof)) tNil)))))) (tAsg (tOrV (tOp (rIn K false) (tC (.int 1)) (tVar 3)) (tOp (rIn K false) (tC (.int 2)) (tVar 3))) (gName 9)) (tIfS (tTest (tOp rEq (tOp (rIxT K) (tVar 5) (tC (.int 0))) (tC (.str pAnswer)))) (tAsg (tAndV (tOp (rIn K true) (tC (.int 5)) (tVar 3)) (tOp (rIn K true) (tC (.int 2)) (tVar 3))) (gName 9)) tNext) E σ G := by
  obtain ⟨w, a, ys, rfl, ea, hw⟩ : ∃ w a ys, v = .ref a ∧ G a = some (.tup (.str w :: ys)) ∧ ((j = 0 ∧ (w = pAgain ∨ w = pNote ∨ w = pRaiseof)) ∨ (j = 1 ∧ w = pAnswer) ∨ (j = 2 ∧ (w = pSay ∨ w = pRaise ∨ w = pGather))) := by
    have g : ∀ {w : Str} {r : List Dt}, DtAt [p] G (.tup (.flat (.str w) :: r)) v → ∃ a ys, v = .ref a ∧ G a = some (.tup (.str w :: ys)) := fun {w r} h => by
      simp only [DtAt] at h
      obtain ⟨a, ys, rfl, ea, t⟩ := h
      cases ys with
      | nil => simp only [DtsAt] at t
      | cons y ys =>
        simp only [DtsAt, DtAt] at t
        obtain ⟨⟨rfl, _⟩, _⟩ := t
        exact ⟨a, ys, rfl, ea⟩
    cases ht with
    | again => obtain ⟨a, ys, q⟩ := g dv; exact ⟨_, a, ys, q.1, q.2, .inl ⟨rfl, .inl rfl⟩⟩
    | note z => obtain ⟨a, ys, q⟩ := g dv; exact ⟨_, a, ys, q.1, q.2, .inl ⟨rfl, .inr (.inl rfl)⟩⟩
    | rz z => obtain ⟨a, ys, q⟩ := g dv; exact ⟨_, a, ys, q.1, q.2, .inl ⟨rfl, .inr (.inr rfl)⟩⟩
    | ans i => obtain ⟨a, ys, q⟩ := g dv; exact ⟨_, a, ys, q.1, q.2, .inr (.inl ⟨rfl, rfl⟩)⟩
    | any _ h =>
      cases h with
      | say z => obtain ⟨a, ys, q⟩ := g dv; exact ⟨_, a, ys, q.1, q.2, .inr (.inr ⟨rfl, .inl rfl⟩)⟩
      | rz z => obtain ⟨a, ys, q⟩ := g dv; exact ⟨_, a, ys, q.1, q.2, .inr (.inr ⟨rfl, .inr (.inl rfl)⟩)⟩
      | gat => obtain ⟨a, ys, q⟩ := g dv; exact ⟨_, a, ys, q.1, q.2, .inr (.inr ⟨rfl, .inr (.inr rfl)⟩)⟩
  refine ⟨_, h5, a, _, 0, .str w, rfl, rfl, SqT.of ea, at0 _ _, (by show 3 ≤ sizeLine; decide), fun c hc => ⟨c, _, rfl, .inl (SqL.of upd_same), rfl, rfl, _, rfl, ?_⟩⟩
  have k1 : Keep [] G (upd G c (.lst [.str pAgain, .str pNote, .str pRaiseof])) := Keep.new hc
  have ea1 := k1.at ea nin0
  have eD1 := k1.at eD nin0
  show if inV (.str w) ([pAgain, pNote, pRaiseof].map V.str) = true then _ else _
  rw [inV_strs]
  generalize (upd G c (.lst [.str pAgain, .str pNote, .str pRaiseof])) = G1 at k1 ea1 eD1 ⊢
  rcases hw with ⟨rfl, hw⟩ | ⟨rfl, rfl⟩ | ⟨rfl, hw⟩
  · rw [show decide (w ∈ [pAgain, pNote, pRaiseof]) = true by rcases hw with rfl | rfl | rfl <;> decide +kernel]
    refine iteT ⟨_, h3, D, _, rfl, .inl (SqL.of eD1), rfl, fsV_flat fs, inV (.int 1) (fsV fs), rfl, ?_⟩
    have i1 := inV_fs 1 fs
    have i2 := inV_fs 2 fs
    have := kk G1 k1
    cases q : decide (1 ∈ fs) with
    | true =>
      have e1 : inV (.int 1) (fsV fs) = true := by rw [← q, ← i1]; rfl
      rw [e1]
      have ed : dueK 0 fs = true := by
        show (decide (1 ∈ fs) || decide (2 ∈ fs)) = true
        rw [q]; rfl
      rw [ed] at this
      exact iteT this
    | false =>
      have e1 : inV (.int 1) (fsV fs) = false := by rw [← q, ← i1]; rfl
      rw [e1]
      have ed : dueK 0 fs = inV (.int 2) (fsV fs) := by
        show (decide (1 ∈ fs) || decide (2 ∈ fs)) = _
        rw [q, Bool.false_or, ← i2]; rfl
      rw [ed] at this
      exact iteF ⟨_, h3, D, _, rfl, .inl (SqL.of eD1), rfl, fsV_flat fs, this⟩
  · rw [show decide (pAnswer ∈ [pAgain, pNote, pRaiseof]) = false by decide +kernel]
    refine iteF ⟨_, h5, a, _, 0, .str pAnswer, rfl, rfl, SqT.of ea1, at0 _ _, rfl, _, rfl, itWt rfl ?_⟩
    refine ⟨_, h3, D, _, rfl, .inl (SqL.of eD1), rfl, fsV_flat fs, !inV (.int 5) (fsV fs), rfl, ?_⟩
    have i1 := inV_fs 5 fs
    have i2 := inV_fs 2 fs
    have := kk G1 k1
    cases q : decide (5 ∈ fs) with
    | true =>
      have e1 : inV (.int 5) (fsV fs) = true := by rw [← q, ← i1]; rfl
      rw [e1]
      have ed : dueK 1 fs = false := by
        show ((!decide (5 ∈ fs)) && (!decide (2 ∈ fs))) = false
        rw [q]; rfl
      rw [ed] at this
      exact iteF this
    | false =>
      have e1 : inV (.int 5) (fsV fs) = false := by rw [← q, ← i1]; rfl
      rw [e1]
      have ed : dueK 1 fs = !inV (.int 2) (fsV fs) := by
        show ((!decide (5 ∈ fs)) && (!decide (2 ∈ fs))) = _
        rw [q, Bool.not_false, Bool.true_and, ← i2]; rfl
      rw [ed] at this
      exact iteT ⟨_, h3, D, _, rfl, .inl (SqL.of eD1), rfl, fsV_flat fs, this⟩
  · rw [show decide (w ∈ [pAgain, pNote, pRaiseof]) = false by rcases hw with rfl | rfl | rfl <;> decide +kernel]
    refine iteF ⟨_, h5, a, _, 0, .str w, rfl, rfl, SqT.of ea1, at0 _ _, rfl, _, rfl, itWf (by rcases hw with rfl | rfl | rfl <;> decide +kernel) ?_⟩
    have := kk G1 k1
    have ed : dueK 2 fs = true := rfl
    rw [ed] at this
    have es : σ.set 9 (some (.bl true)) = σ := by
      have hlt : 9 < σ.length := (List.getElem?_eq_some_iff.mp h9).1
      have e9 := (List.getElem?_eq_some_iff.mp h9).2
      rw [← e9, List.set_getElem_self]
    rw [es] at this
    exact this
end Fs
/-! The law. -/
namespace Fs
open PySem L2 TL
theorem Keep.lateX {H H1 H2 : Hp} {ex ex2 : List Addr} (k : Keep ex H H1) (k2 : Keep ex2 H1 H2) (hx : ∀ b ∈ ex2, b ∈ ex ∨ H b = none) : Keep ex H H2 := fun b o hb e => k2 b o (fun z => by
  rcases hx b z with q | q
  · exact hb q
  · rw [q] at e; cases e) (k b o hb e)
abbrev sLaw : Stmt := top 35 --def law
abbrev nLaw : List Str := ["_law_script", "_law_k", "_law_pot_here", "_law_frames", "_law_some", "_law_step", "_law_inner", "_law_turn", "_law_frame", "_law_due", "_law_program", "_law_told"]
theorem scLaw : FnScope nLaw ["_law_script"] (defScope sLaw) := ⟨rfl, rfl, rfl, by decide +kernel, rfl, by decide +kernel, by decide +kernel⟩
def spLaw (K : PySem.W.Frag) (Pt : Addr) : Sp := fun vs H Q _ => ∃ (a : Addr) (ns : List Int), vs = [.ref a] ∧ SqL K H a (ns.map V.int) ∧ ns.length ≤ 63 ∧ H Pt = some (.tbl #[]) ∧ ∀ H', Q (.bl true) H'
structure LTx4 (K : PySem.W.Frag) (mg : Str → Option Value) (CK fKI fPo fDg fTx fNu fAn fFr fPr : Addr) : Prop where
  gK : mg "Kinds" = some (.ref CK)
  mkK : Mk K CK fKI
  gPo : mg "_law_pot" = some (.ref fPo)
  kPo : PySem.W.keepIn K (.ref fPo) = true
  gDg : mg "_law_digit" = some (.ref fDg)
  kDg : PySem.W.keepIn K (.ref fDg) = true
  gTx : mg "_law_text" = some (.ref fTx)
  kTx : PySem.W.keepIn K (.ref fTx) = true
  gNu : mg "_law_number" = some (.ref fNu)
  kNu : PySem.W.keepIn K (.ref fNu) = true
  gAn : mg "_law_any_step" = some (.ref fAn)
  kAn : PySem.W.keepIn K (.ref fAn) = true
  gFr : mg "_law_framed" = some (.ref fFr)
  kFr : PySem.W.keepIn K (.ref fFr) = true
  gPr : mg "is_program" = some (.ref fPr)
  kPr : PySem.W.keepIn K (.ref fPr) = true
  len : mg "len" = none
  max : mg "max" = none
  min : mg "min" = none
  range : mg "range" = none
  isi : mg "isinstance" = none
  bool : mg "bool" = none
  enumerate : mg "enumerate" = none
theorem seq_keep {K : PySem.W.Frag} {H H' : Hp} {a Pt : Addr} {xs : List V} {tb : Array Value} (h : SqL K H a xs) (k : Keep [Pt] H H') (hT : H Pt = some (.tbl tb)) : SqL K H' a xs := by
  rcases h with (h | ⟨o, h⟩) | h
  · exact .inl (.inl (k.at h (nin1 (ne_of h hT (fun z => by cases z)))))
  · exact .inl (.inr ⟨o, k.at h (nin1 (ne_of h hT (fun z => by cases z)))⟩)
  · exact .inr h
theorem letters_ix : ∀ i < 6, atI (Str.ofString "abcdef").cps.toList ((i : Nat) : Int) = some (97 + i) := by decide +kernel
theorem tx_two : IsTx (Str.ofString "two") := ⟨by decide +kernel, by decide +kernel⟩
theorem tx_one : IsTx (Str.ofString "one") := ⟨by decide +kernel, by decide +kernel⟩
theorem tx_note : IsTx pNote := ⟨by decide +kernel, by decide +kernel⟩
theorem tx_rof : IsTx pRaiseof := ⟨by decide +kernel, by decide +kernel⟩
theorem tx_ans : IsTx pAnswer := ⟨by decide +kernel, by decide +kernel⟩
/-- the program that is asked of -/
abbrev prg (l : List Dt) (m : Nat) : Dt := .lst ([.tup [.flat (.str (Str.ofString "one")), .lst []], .tup [.flat (.str (Str.ofString "two")), .lst l]].drop m)
theorem prg_ok {k m : Nat} {l : List Dt} {ok : Bool → Bool → Bool} (h : Nest k l ok) (hk : k ≤ 6) (hm : m ≤ 1) : progNice (prg l m) = true ∧ (prg l m).dp < 60 ∧ (prg l m).sz ≤ 8000 ∧ progF [] 60 (prg l m) = ok false true := by
  have hn := h.ni
  have hd := h.dp
  have hs := h.sz
  refine ⟨?_, ?_, ?_, ?_⟩
  · match m, hm with
    | 0, _ => simp [progNice, pnice, nice, nices, hn]
    | 1, _ => simp [progNice, pnice, nice, hn]
  · match m, hm with
    | 0, _ => simp only [prg, List.drop, Dt.dp, Dt.dps]; omega
    | 1, _ => simp only [prg, List.drop, Dt.dp, Dt.dps]; omega
  · match m, hm with
    | 0, _ => simp only [prg, List.drop, Dt.sz, Dt.szs]; omega
    | 1, _ => simp only [prg, List.drop, Dt.sz, Dt.szs]; omega
  · have h2 : ∀ ah : List Str, Str.ofString "two" ∉ ah → (pairF [] 60 (.tup [.flat (.str (Str.ofString "two")), .lst l]) (ah, [])).isSome = ok false true := fun ah ha => by
      obtain ⟨r', e, _⟩ := h.ev ah 60 1 false true [] (by omega) (by omega) (fun j _ => List.not_mem_nil)
      simp only [pairF]
      rw [show nmB (Str.ofString "two") = true by decide +kernel, decide_eq_false ha]
      show (Option.map _ (bodyF [] ah 60 1 false true (.lst l) [])).isSome = _
      rw [e]
      cases ok false true <;> rfl
    have iso : ∀ x : Option (List Str × Rms), (x.bind some).isSome = x.isSome := fun x => by cases x <;> rfl
    match m, hm with
    | 0, _ =>
      show (foldO (pairF [] 60) [.tup [.flat (.str (Str.ofString "one")), .lst []], .tup [.flat (.str (Str.ofString "two")), .lst l]] ([], [])).isSome = _
      have e1 : pairF [] 60 (.tup [.flat (.str (Str.ofString "one")), .lst []]) ([], []) = some ([Str.ofString "one"], []) := by
        simp only [pairF]
        rw [show nmB (Str.ofString "one") = true by decide +kernel, show bodyF [] [] 60 1 false true (.lst []) [] = some [] from bodyE (by decide)]
        rfl
      show ((pairF [] 60 (.tup [.flat (.str (Str.ofString "one")), .lst []]) ([], [])).bind fun s => ((pairF [] 60 (.tup [.flat (.str (Str.ofString "two")), .lst l]) s).bind some)).isSome = _
      rw [e1]
      show ((pairF [] 60 (.tup [.flat (.str (Str.ofString "two")), .lst l]) ([Str.ofString "one"], [])).bind some).isSome = _
      rw [iso]
      exact h2 _ (by decide +kernel)
    | 1, _ =>
      show ((pairF [] 60 (.tup [.flat (.str (Str.ofString "two")), .lst l]) ([], [])).bind some).isSome = _
      rw [iso]
      exact h2 _ List.not_mem_nil
/-- where the round is -/
structure Cu (p D : Addr) (fs : List Nat) (Gb G : Hp) (n : Nat) : Prop where
  eD : G D = some (.lst (fsV fs))
  pot : PotAt G p n
  k : Keep [p] Gb G
  ne : D ≠ p
theorem Cu.kp {p D : Addr} {fs : List Nat} {Gb G G' : Hp} {n n' : Nat} (c : Cu p D fs Gb G n) (k : Keep [p] G G') (pot : PotAt G' p n') : Cu p D fs Gb G' n' := ⟨k.at c.eD (nin1 c.ne), pot, c.k.trans k, c.ne⟩
theorem Cu.k0 {p D : Addr} {fs : List Nat} {Gb G G' : Hp} {n : Nat} (c : Cu p D fs Gb G n) (k : Keep [] G G') : Cu p D fs Gb G' n := ⟨k.at c.eD nin0, c.pot.keep (ex := []) k nin0, c.k.trans (k.more fun b hb => absurd hb List.not_mem_nil), c.ne⟩
theorem Cu.le {p D : Addr} {fs : List Nat} {Gb G : Hp} {n n' : Nat} (c : Cu p D fs Gb G n) (h : n ≤ n') : Cu p D fs Gb G n' := ⟨c.eD, c.pot.le h, c.k, c.ne⟩
theorem fl_at {p : List Addr} {H : Hp} {z : Str} (h : IsTx z) : DtAt p H (.flat (.str z)) (.str z) := by simp only [DtAt]; exact ⟨trivial, h⟩
theorem in_at {p : List Addr} {H : Hp} {i : Int} : DtAt p H (.flat (.int i)) (.int i) := by simp only [DtAt]; exact ⟨trivial, trivial⟩
theorem slseq {σ : L2.St} {H : Hp} {r : V → Option Int → Option Int → Hp → VK → Prop} {te : TE} {tl th : TO} {g : TG} {B : TS} {D : Ends} (h : te σ H fun x H1 => tl σ H1 fun l H2 => th σ H2 fun u H3 => r x l u H3 fun z H4 => g z σ H4 (B D)) : tSeq (tAsg (tSl r te tl th) g) B D σ H := h
theorem gseq2 {i : Nat} {v : V} {σ : L2.St} {H : Hp} {A B : TS} {D : Ends} (h : A { D with nx := B D } (σ.set i (some v)) H) : tSeq (tAsg (tC v) (gName i)) (tSeq A B) D σ H := h
theorem DtAt.kx {H H' : Hp} {t : Dt} {v : V} {ex : List Addr} (h : DtAt [] H t v) (k : Keep ex H H') (hx : ∀ b ∈ ex, ∃ o, H b = some o ∧ (∀ xs, o ≠ .tup xs) ∧ (∀ xs, o ≠ .lst xs) ∧ ∀ xs, o ≠ .dK xs) : DtAt [] H' t v := h.keep k (fun b hb => .inr (hx b hb)) fun b hb => absurd hb List.not_mem_nil
/-- one of the five -/
theorem five {p : Addr} {G : Hp} {z1 z2 : Str} {i : Int} {t : Dt} {ys : List V} {d : Int} (h : DtsAt [p] G [.tup [.flat (.str pAgain)], .tup [.flat (.str pNote), .flat (.str z1)], .tup [.flat (.str pRaiseof), .flat (.str sF), .flat (.str z2)], .tup [.flat (.str pAnswer), .flat (.int i)], t] ys) (ht : AnyS t) (d0 : 0 ≤ d) (d1 : d < 5) :
    ∃ (s : Dt) (j : Nat) (v : V), StK s j ∧ DtAt [p] G s v ∧ atI ys d = some v := by
  obtain ⟨d, rfl⟩ := Int.eq_ofNat_of_zero_le d0
  have g : ∀ (s : Dt) (j : Nat), StK s j → [Dt.tup [.flat (.str pAgain)], .tup [.flat (.str pNote), .flat (.str z1)], .tup [.flat (.str pRaiseof), .flat (.str sF), .flat (.str z2)], .tup [.flat (.str pAnswer), .flat (.int i)], t][d]? = some s → ∃ (s : Dt) (j : Nat) (v : V), StK s j ∧ DtAt [p] G s v ∧ atI ys (d : Int) = some v := fun s j hs e => by
    obtain ⟨v, hv, dv⟩ := h.get d s e
    exact ⟨s, j, v, hs, dv, atI_nat hv⟩
  have cs : d = 0 ∨ d = 1 ∨ d = 2 ∨ d = 3 ∨ d = 4 := by omega
  rcases cs with rfl | rfl | rfl | rfl | rfl
  · exact g _ 0 .again rfl
  · exact g _ 0 (.note z1) rfl
  · exact g _ 0 (.rz z2) rfl
  · exact g _ 1 (.ans i) rfl
  · exact g _ 2 (.any t ht) rfl
section
variable {P : Program} {w : World} {K : PySem.W.Frag} {mg : Str → Option Value} {base : Heap} {CK fKI fPo fDg fTx fNu fAn fFr fPr Pt : Addr}
theorem law_body {dKI dP dD dX dN dA dF dI : FuncData} {f : Addr} (T : LTx4 K mg CK fKI fPo fDg fTx fNu fAn fFr fPr) (FP : FnOk P w K mg base CX0 1 fPo dP ["_law_script", "_law_k"] (spPot K)) (bP : Binds K dP ["_law_script", "_law_k"] []) (FD : FnOk P w K mg base CX0 1 fDg dD ["_law_pot_here", "_law_many"] spDigit) (bD : Binds K dD ["_law_pot_here", "_law_many"] [])
    (FX : FnOk P w K mg base CX0 2 fTx dX ["_law_pot_here"] spText) (bX : Binds K dX ["_law_pot_here"] []) (FN : FnOk P w K mg base CX0 2 fNu dN ["_law_pot_here"] spNum) (bN : Binds K dN ["_law_pot_here"] []) (FA : FnOk P w K mg base CX0 3 fAn dA ["_law_pot_here"] spAny) (bA : Binds K dA ["_law_pot_here"] [])
    (FF : FnOk P w K mg base CX0 3 fFr dF aFrm spFrm) (bF : Binds K dF aFrm []) (FK : FnOk P w K mg base CX0 4 fKI dKI ["self", "pairs"] (spKInit CK Pt)) (bK : Binds K dKI ["self", "pairs"] []) (FI : FnOk P w K mg base CX0 (5 + 2 * 60 + 1) fPr dI ["kinds", "thing"] (spPrg CK Pt 60)) (bI : Binds K dI ["kinds", "thing"] [])
    (cdv : Value) (A0 : Around) (outer : List Env) (s : Shared) (H : Hp) (vs : List V) (Q : VK) (Es : XK) (hr : Room (5 + 2 * 60 + 1) (A0.deeper (PyProof.Rows.envOfC "law" (defScope sLaw) s.heap.objs.size f cdv))) (h : spLaw K Pt vs H Q Es) :
    ∃ t, PSs (cxOf CX0 P w K mg base nLaw "law" (defScope sLaw) f cdv A0 outer s H Es).nox (defBody sLaw) t ∧ t { nx := fun _ H' => Q .non H', rt := Q } (L2.start nLaw vs) H := by
  obtain ⟨a, ns0, rfl, hS, h63, hT, kk⟩ := h
  have hr1 : Room 1 _ := hr.mono (by omega)
  have hr2 : Room 2 _ := hr.mono (by omega)
  have hr3 : Room 3 _ := hr.mono (by omega)
  have hr4 : Room (4 + 1) _ := hr.mono (by omega)
  have hrI := hr
  refine ⟨_, (pss_cons (ps_for PassesOwn.never rfl (pi_range1 rfl T.range (pa_cons (pe_callB (call_max2 rfl) (by rfl) T.max (by decide +kernel) (pa_cons pe_int (pa_cons (pe_callB (call_min2 rfl) (by rfl) T.min (by decide +kernel) (pa_cons (pe_callB call_len_seq (by rfl) T.len PySem.boot_len (pa_cons (pv 0) pa_nil)) (pa_cons pe_int pa_nil))) pa_nil))) pa_nil)) (pg_name (i := 1) scLaw.nd rfl (Or.inl rfl)) (pss_cons (ps_set (i := 2) scLaw.nd rfl (Or.inr rfl) (pe_call FP hr1 rfl T.gPo T.kPo bP .nil pass0 (pa_cons (pv 0) (pa_cons (pv 1) pa_nil))))
      (pss_cons (ps_setLc (i := 3) (own := [("_law_turn", 7)]) (g := gName 7) (tt := tYes) (te := (tCall (spDigit) [] E0 (tCons (tVar 2) (tCons (tC (.int 6)) tNil)))) rfl scLaw.nd rfl rfl (sw_true rfl rfl rfl (by decide +kernel)) (pi_range1 rfl T.range (pa_cons (pe_call FD hr1 rfl T.gDg T.kDg bD .nil pass0 (pa_cons (pv 2) (pa_cons pe_int pa_nil))) pa_nil)) (blkOk_by (N := nLaw) (sc := defScope sLaw) (by decide +kernel)) (fun _ _ _ _ _ => (pg_name (i := 7) scLaw.nd rfl (Or.inl rfl))) (fun _ _ _ _ _ => pts_nil) (fun _ _ _ _ _ => by exact (pe_call FD hr1 rfl T.gDg T.kDg bD .nil pass0 (pa_cons (pv 2) (pa_cons pe_int pa_nil)))))
      (pss_cons (ps_set (i := 4) scLaw.nd rfl (Or.inl rfl) (pe_lst (pa_cons (pe_tup (pa_cons pe_str pa_nil)) (pa_cons (pe_tup (pa_cons pe_str (pa_cons (pe_call FX hr2 rfl T.gTx T.kTx bX .nil pass0 (pa_cons (pv 2) pa_nil)) pa_nil))) (pa_cons (pe_tup (pa_cons pe_str (pa_cons pe_str (pa_cons (pe_call FX hr2 rfl T.gTx T.kTx bX .nil pass0 (pa_cons (pv 2) pa_nil)) pa_nil)))) pa_nil)))))
      (pss_cons (ps_set (i := 5) scLaw.nd rfl (Or.inl rfl) (pe_ix ix_list (pe_op op_cat (pv 4) (pe_lst (pa_cons (pe_tup (pa_cons pe_str (pa_cons (pe_call FN hr2 rfl T.gNu T.kNu bN .nil pass0 (pa_cons (pv 2) pa_nil)) pa_nil))) (pa_cons (pe_call FA hr3 rfl T.gAn T.kAn bA .nil pass0 (pa_cons (pv 2) pa_nil)) pa_nil)))) (pe_call FD hr1 rfl T.gDg T.kDg bD .nil pass0 (pa_cons (pv 2) (pa_cons pe_int pa_nil))) (fun _ _ => rfl)))
      (pss_cons (ps_set (i := 6) scLaw.nd rfl (Or.inl rfl) (pe_lst (pa_cons (pv 5) pa_nil)))
      (pss_cons (ps_for PassesOwn.never rfl (pi_enum (by rfl) T.enumerate (pa_cons (pv 3) pa_nil)) (by exact (pg_tup rfl (pgs_cons (pg_name (i := 7) scLaw.nd rfl (Or.inl rfl)) (pgs_cons (pg_name (i := 8) scLaw.nd rfl (Or.inl rfl)) pgs_nil)))) (pss_cons (ps_set (i := 6) scLaw.nd rfl (Or.inl rfl) (pe_lst (pa_cons (pe_call FF hr3 rfl T.gFr T.kFr bF .nil pass0 (pa_cons (pv 2) (pa_cons (pv 8) (pa_cons (pe_op op_add_str pe_str (pe_ix ix_str pe_str (pv 7) (fun _ _ => rfl))) (pa_cons (pv 6) pa_nil))))) pa_nil)))
      (pss_cons (ps_if (pt_cmpR op_eq (pe_call FD hr1 rfl T.gDg T.kDg bD .nil pass0 (pa_cons (pv 2) (pa_cons pe_int pa_nil))) pe_int (nomark _)) (pss_one (ps_set (i := 6) scLaw.nd rfl (Or.inl rfl) (pe_op op_cat (pe_lst (pa_cons (pe_call FA hr3 rfl T.gAn T.kAn bA .nil pass0 (pa_cons (pv 2) pa_nil)) pa_nil)) (pv 6)))) pss_nil)
      (pss_one (ps_if (pt_cmpR op_eq (pe_call FD hr1 rfl T.gDg T.kDg bD .nil pass0 (pa_cons (pv 2) (pa_cons pe_int pa_nil))) pe_int (nomark _)) (pss_one (ps_set (i := 6) scLaw.nd rfl (Or.inl rfl) (pe_op op_cat (pv 6) (pe_lst (pa_cons (pe_call FA hr3 rfl T.gAn T.kAn bA .nil pass0 (pa_cons (pv 2) pa_nil)) pa_nil))))) pss_nil)))))
      (pss_cons (ps_set (i := 9) scLaw.nd rfl (Or.inl rfl) pe_bl)
      (pss_cons (ps_if (pt_cmpR op_in_seq (pe_ix ix_tup (pv 5) pe_int (fun _ _ => rfl)) (pe_lst (pa_cons pe_str (pa_cons pe_str (pa_cons pe_str pa_nil)))) (by rfl)) (pss_one (ps_set (i := 9) scLaw.nd rfl (Or.inl rfl) (pe_or (pe_cmpR op_in_seq pe_int (pv 3) (by rfl)) (pe_one (pe_cmpR op_in_seq pe_int (pv 3) (by rfl)))))) (pss_one (ps_if (pt_cmpR op_eq (pe_ix ix_tup (pv 5) pe_int (fun _ _ => rfl)) pe_str (nomark _)) (pss_one (ps_set (i := 9) scLaw.nd rfl (Or.inl rfl) (pe_and (pe_cmpR op_notIn_seq pe_int (pv 3) (by rfl)) (pe_one (pe_cmpR op_notIn_seq pe_int (pv 3) (by rfl)))))) pss_nil)))
      (pss_cons (ps_set (i := 10) scLaw.nd rfl (Or.inl rfl) (pe_slice sl_list (pe_lst (pa_cons (pe_tup (pa_cons pe_str (pa_cons (pe_lst pa_nil) pa_nil))) (pa_cons (pe_tup (pa_cons pe_str (pa_cons (pv 6) pa_nil))) pa_nil))) (po_some (pe_call FD hr1 rfl T.gDg T.kDg bD .nil pass0 (pa_cons (pv 2) (pa_cons pe_int pa_nil)))) po_none))
      (pss_cons (ps_set (i := 11) scLaw.nd rfl (Or.inl rfl) (pe_call FI hrI rfl T.gPr T.kPr bI .nil pass0 (pa_cons (pe_make T.mkK FK hr4 rfl T.gK bK .nil pass0 (pa_cons (pe_lst pa_nil) pa_nil)) (pa_cons (pv 10) pa_nil))))
      (pss_one (ps_if (PW.pt (pw_or (pt_not (pt_val (pe_callB call_isi (by rfl) T.isi (by decide +kernel) (pa_cons (pv 11) (pa_cons (pe_bltn (v := .ty "bool") (u := .type "bool") (by rfl) T.bool (by decide +kernel) rfl) pa_nil))))) (pw_or (pt_cmpR op_ne (pv 11) (pv 9) (nomark _)) (pw_or1 (pt_cmpR op_ne (pe_call FI hrI rfl T.gPr T.kPr bI .nil pass0 (pa_cons (pe_make T.mkK FK hr4 rfl T.gK bK .nil pass0 (pa_cons (pe_lst pa_nil) pa_nil)) (pa_cons (pv 10) pa_nil))) (pv 11) (nomark _)))))) (pss_one (ps_ret pe_bl)) pss_nil)))))))))))))
      (pss_one (ps_ret pe_bl))), ?_⟩
  refine ⟨_, rfl, a, _, rfl, .inl hS, _, _, rfl, _, _, rfl, ?_⟩
  rw [List.length_map]
  obtain ⟨M, hM, hM5⟩ : ∃ M : Nat, (if (if (16 : Int) < (ns0.length : Int) then (16 : Int) else (ns0.length : Int)) > 1 then (if (16 : Int) < (ns0.length : Int) then (16 : Int) else (ns0.length : Int)) else 1) = (M : Int) ∧ M ≤ 16 := by
    refine ⟨(if (if (16 : Int) < (ns0.length : Int) then (16 : Int) else (ns0.length : Int)) > 1 then (if (16 : Int) < (ns0.length : Int) then (16 : Int) else (ns0.length : Int)) else 1).toNat, ?_, ?_⟩
    · split <;> split <;> omega
    · split <;> split <;> omega
  rw [hM]
  refine ⟨_, rfl, by omega, by omega, ?_⟩
  rw [Int.toNat_natCast]
  refine for_range (lo := 0) (n := M) (fun i σ G => ∃ v1 v2 v3 v4 v5 v6 v7 v8 v9 v10 v11 : Option V, σ = [some (.ref a), v1, v2, v3, v4, v5, v6, v7, v8, v9, v10, v11] ∧ Keep [Pt] H G ∧ GxR.TabG G Pt) ⟨none, none, none, none, none, none, none, none, none, none, none, rfl, Keep.refl _ _, ⟨#[], hT, True.intro⟩⟩ ?_ ?_
  · rintro i σ G hi ⟨v1, v2, v3, v4, v5, v6, v7, v8, v9, v10, v11, rfl, kG, tab⟩
    have z0 : (0 : Int) + (i : Int) = (i : Int) := Int.zero_add _
    obtain ⟨tb0, hT0, oT0⟩ := id tab
    refine ⟨_, rfl, _, rfl, a, ns0, i, by rw [z0]; rfl, seq_keep hS kG hT, by omega, fun p G1 hp k1 pot1 => ?_⟩
    have hT1 : G1 Pt = some (.tbl tb0) := k1.at hT0 nin0
    -- frames
    refine ⟨_, rfl, p, 0, 7, rfl, pot1, by decide, by decide, by decide, fun m G2 m0 m1 kd2 pot2 => ?_⟩
    have k2 : Keep [p] G1 G2 := kp_of kd2
    obtain ⟨m, rfl⟩ := Int.eq_ofNat_of_zero_le m0
    refine ⟨_, rfl, by omega, by omega, fun D hD => ?_⟩
    rw [Int.toNat_natCast]
    have npD : D ≠ p := by
      obtain ⟨xs, e⟩ := pot2.some
      exact (ne_of_none e hD).symm
    refine lc_range (lo := 0) (n := m) (fun i G' => ∃ fs : List Nat, fs.length = i ∧ (∀ f ∈ fs, f < 6) ∧ G' D = some (.lst (fsV fs)) ∧ PotAt G' p (1 + i) ∧ Keep [p] G2 G') ⟨[], rfl, fun _ h => absurd h List.not_mem_nil, upd_same, pot2.keep (ex := []) (Keep.new hD) nin0, (Keep.new hD).more fun b hb => absurd hb List.not_mem_nil⟩ ?_ ?_
    · rintro j G' hj ⟨fs, hl, hf, eD, pot, kk2⟩
      refine ⟨rfl, tyes ?_⟩
      refine ⟨_, rfl, p, 1 + j, 6, rfl, pot, by omega, by decide, by decide, fun d G4 d0 d1 kd pot4 => ?_⟩
      have k4 : Keep [p] G' G4 := kp_of kd
      obtain ⟨d, rfl⟩ := Int.eq_ofNat_of_zero_le d0
      refine ⟨_, k4.at eD (nin1 npD), ?_, fs ++ [d], by rw [List.length_append, hl]; rfl, fun f hf' => ?_, by rw [upd_same, show fsV (fs ++ [d]) = fsV fs ++ [V.int (d : Int)] by simp [fsV]], ?_, ?_⟩
      · rw [List.length_map, hl]
        exact Nat.lt_of_lt_of_le (by omega : j < 1000) (by decide)
      · rcases List.mem_append.mp hf' with q | q
        · exact hf f q
        · rw [List.mem_singleton.mp q]; omega
      · obtain ⟨x, y, z, q1, q2⟩ := pot4
        exact ⟨x, y, z, by rw [upd_ne npD.symm]; exact q1, q2⟩
      · exact (kk2.trans k4).freshTo hD
    rintro G3 ⟨fs, hl, hf, eD, pot3, k3⟩
    have k13 := k2.trans k3
    have hfl : fs.length ≤ 6 := by omega
    -- some steps
    have c3 : Cu p D fs G1 G3 (1 + m) := ⟨eD, pot3, k13, npD⟩
    refine ⟨(by show 1 ≤ sizeLine; decide), fun a1 h1 => ?_⟩
    have t1 : DtAt [p] _ _ _ := tup_new (ys := [V.str pAgain]) h1 (dts_one (fl_at tx_ag))
    have c4 := c3.k0 (Keep.new (o := .tup [.str pAgain]) h1)
    generalize (upd G3 a1 (.tup [.str pAgain])) = G4 at t1 c4 ⊢
    refine ⟨_, rfl, p, _, rfl, c4.pot, by omega, fun z1 G5 tz1 k5 pot5 => ⟨(by show 2 ≤ sizeLine; decide), fun a2 h2 => ?_⟩⟩
    have c5 := c4.kp k5 pot5
    have t1 := (t1.keepP c4.pot k5).keep0 (Keep.new (o := .tup [.str pNote, .str z1]) h2)
    have t2 : DtAt [p] _ _ _ := tup_new (ys := [V.str pNote, V.str z1]) h2 (dts_cons (fl_at tx_note) (dts_one (fl_at tz1)))
    have c6 := c5.k0 (Keep.new (o := .tup [.str pNote, .str z1]) h2)
    generalize (upd G5 a2 (.tup [.str pNote, .str z1])) = G6 at t1 t2 c6 ⊢
    refine ⟨_, rfl, p, _, rfl, c6.pot, by omega, fun z2 G7 tz2 k7 pot7 => ⟨(by show 3 ≤ sizeLine; decide), fun a3 h3 => ?_⟩⟩
    have c7 := c6.kp k7 pot7
    have t1 := (t1.keepP c6.pot k7).keep0 (Keep.new (o := .tup [.str pRaiseof, .str sF, .str z2]) h3)
    have t2 := (t2.keepP c6.pot k7).keep0 (Keep.new (o := .tup [.str pRaiseof, .str sF, .str z2]) h3)
    have t3 : DtAt [p] _ _ _ := tup_new (ys := [V.str pRaiseof, V.str sF, V.str z2]) h3 (dts_cons (fl_at tx_rof) (dts_cons (fl_at tx_fault) (dts_one (fl_at tz2))))
    have c8 := c7.k0 (Keep.new (o := .tup [.str pRaiseof, .str sF, .str z2]) h3)
    generalize (upd G7 a3 (.tup [.str pRaiseof, .str sF, .str z2])) = G8 at t1 t2 t3 c8 ⊢
    refine ⟨(by show 3 ≤ sizeLine; decide), fun L4 h4 => ?_⟩
    have dl : DtAt [p] _ _ _ := lst_new c8.pot h4 (dts_cons t1 (dts_cons t2 (dts_one t3)))
    have c9 := c8.k0 (Keep.new (o := .lst [.ref a1, .ref a2, .ref a3]) h4)
    generalize (upd G8 L4 (.lst [.ref a1, .ref a2, .ref a3])) = G9 at dl c9 ⊢
    -- the step
    refine ⟨_, rfl, _, rfl, p, _, rfl, c9.pot, by omega, fun nu G10 k10 pot10 => ⟨(by show 2 ≤ sizeLine; decide), fun a5 h5 => ?_⟩⟩
    have c10 := c9.kp k10 pot10
    have dl := (dl.keepP c9.pot k10).keep0 (Keep.new (o := .tup [.str pAnswer, .int nu]) h5)
    have t4 : DtAt [p] _ _ _ := tup_new (ys := [V.str pAnswer, V.int nu]) h5 (dts_cons (fl_at tx_ans) (dts_one in_at))
    have c11 := c10.k0 (Keep.new (o := .tup [.str pAnswer, .int nu]) h5)
    generalize (upd G10 a5 (.tup [.str pAnswer, .int nu])) = G11 at dl t4 c11 ⊢
    refine ⟨_, rfl, p, _, rfl, c11.pot, by omega, fun t u G12 ht k12 du pot12 => ⟨(by show 2 ≤ sizeLine; decide), fun a6 h6 => ?_⟩⟩
    have c12 := c11.kp k12 pot12
    have t4 := t4.keepP c11.pot k12
    have dl := (dl.keepP c11.pot k12).keep0 (Keep.new (o := .lst [.ref a5, u]) h6)
    have dl2 : DtAt [p] _ _ _ := lst_new c12.pot h6 (dts_cons t4 (dts_one du))
    have c13 := c12.k0 (Keep.new (o := .lst [.ref a5, u]) h6)
    generalize (upd G12 a6 (.lst [.ref a5, u])) = G13 at dl dl2 c13 ⊢
    obtain ⟨la, lys, e1, ln, le, lt⟩ := lst_of dl
    cases e1
    obtain ⟨lb, lzs, e2, lbn, lbe, lbt⟩ := lst_of dl2
    cases e2
    refine ⟨L4, a6, lys, lzs, rfl, rfl, le, lbe, Nat.le_trans (by rw [lt.len, lbt.len]; show 3 + 2 ≤ 30; decide) (by decide : 30 ≤ sizeLine), fun a7 h7 => ?_⟩
    have dl3 : DtAt [p] _ _ _ := lst_new c13.pot h7 (dts_app lt lbt)
    have c14 := c13.k0 (Keep.new (o := .lst (lys ++ lzs)) h7)
    generalize (upd G13 a7 (.lst (lys ++ lzs))) = G14 at dl3 c14 ⊢
    refine ⟨_, rfl, p, _, 5, rfl, c14.pot, by omega, by decide, by decide, fun dd G15 q0 q1 kd15 pot15 => ?_⟩
    have k15 : Keep [p] G14 G15 := kp_of kd15
    have c15 := c14.kp k15 pot15
    have dl3 := dl3.keepP c14.pot k15
    obtain ⟨lc, lws, e3, lcn, lce, lct⟩ := lst_of dl3
    cases e3
    obtain ⟨st, jk, v5, hst, dst, hat⟩ := five lct ht q0 q1
    refine ⟨a7, lws, dd, v5, rfl, rfl, SqL.of lce, hat, ?_⟩
    -- the body
    refine ⟨_, rfl, (by show 1 ≤ sizeLine; decide), fun a8 h8 => ?_⟩
    have di : DtAt [p] _ _ _ := lst_new c15.pot h8 (dts_one dst)
    have dst := dst.keep0 (Keep.new (o := .lst [v5]) h8)
    have c16 := c15.k0 (Keep.new (o := .lst [v5]) h8)
    generalize (upd G15 a8 (.lst [v5])) = G16 at di dst c16 ⊢
    have c16 : Cu p D fs G1 G16 1000 := c16.le (by omega)
    refine ⟨_, rfl, D, _, rfl, SqL.of c16.eD, ?_⟩
    refine for_it (walk_enum (K := K) (a := D) (xs := fsV fs)) (fun i' σ G => ∃ (l : List Dt) (vi : V) (v7 v8 : Option V), σ = [some (.ref a), some (.int (0 + (i : Int))), some (.ref p), some (.ref D), some (.ref L4), some v5, some vi, v7, v8, v9, v10, v11] ∧ Nest i' l (okFs (okK jk) (fs.take i')) ∧ DtAt [p] G (.lst l) vi ∧ DtAt [p] G st v5 ∧ Cu p D fs G1 G (1000 + 400 * i')) ⟨_, _, _, _, rfl, Nest.start hst, di, dst, c16⟩ (fun i' σ G _ hI => by
      obtain ⟨l, vi, v7, v8, rfl, n0, d0, d1, c0⟩ := hI
      exact SqL.of c0.eD) ?_ ?_
    · rintro i' x σ Ga Gb hi' ⟨l, vi, v7, v8, rfl, ne, dv, dst, cu⟩ ⟨Tp, y1, y2, rfl, hTp, rfl, q1, q2⟩
      cases q1
      have q2 : (fsV fs)[i']? = some y2 := q2
      rw [List.getElem?_map] at q2
      obtain ⟨fr, hfr, rfl⟩ := Option.map_eq_some_iff.mp q2
      have hi2 : i' < fs.length := (List.getElem?_eq_some_iff.mp hfr).1
      have hf6 := hf fr (List.mem_of_getElem? hfr)
      refine ⟨Tp, _, rfl, SqT.of upd_same, rfl, _, _, rfl, _, _, rfl, rfl, ?_⟩
      have kT : Keep [] Ga (upd Ga Tp (.tup [.int (i' : Int), .int (fr : Int)])) := Keep.new hTp
      have dv := dv.keep0 kT
      have dst := dst.keep0 kT
      have cu := cu.k0 kT
      generalize (upd Ga Tp (.tup [.int (i' : Int), .int (fr : Int)])) = Gc at dv dst cu ⊢
      refine ⟨_, rfl, _, rfl, _, rfl, Str.ofString "abcdef", (i' : Int), 97 + i', rfl, rfl, by decide +kernel, letters_ix i' (by omega), _, _, rfl, rfl, Nat.le_trans (show (Str.ofString "room").length + (one (97 + i')).length ≤ 30 by show (Str.ofString "room").length + 1 ≤ 30; decide +kernel) (by decide : 30 ≤ sizeLine), _, rfl, p, _, i', fr, l, vi, rfl, cu.pot, by omega, hf6, by omega, dv, fun sx ux Gd hs kd du potd => ⟨(by show 1 ≤ sizeLine; decide), fun b hb => ?_⟩⟩
      have cd := cu.kp kd potd
      have dst := (dst.keepP cu.pot kd).keep0 (Keep.new (o := .lst [ux]) hb)
      have dn : DtAt [p] _ _ _ := lst_new cd.pot hb (dts_one du)
      have cd := cd.k0 (Keep.new (o := .lst [ux]) hb)
      have N0 := ne.frame (by omega) hs
      have eok : okF fr (okFs (okK jk) (fs.take i')) = okFs (okK jk) (fs.take (i' + 1)) := by
        rw [List.take_add_one, hfr, okFs_app]; rfl
      rw [eok] at N0
      generalize (upd Gd b (.lst [ux])) = Ge at dst dn cd ⊢
      refine gseq ?_
      refine any_ahead (p := p) (l := [sx]) rfl rfl cd.pot (by omega) dn (by show 1 ≤ 20; decide) (fun Gf kf df potf => ?_) (fun tf vf Gf hf2 kf df potf => ?_)
      · have cf := cd.kp kf potf
        have dst := dst.keepP cd.pot kf
        refine any_behind (p := p) (l := [sx]) rfl rfl cf.pot (by omega) df (by show 1 ≤ 20; decide) (fun Gg kg dg potg => ?_) (fun tg vg Gg hg2 kg dg potg => ?_)
        · exact ⟨_, _, _, _, rfl, N0.done, dg, dst.keepP cf.pot kg, (cf.kp kg potg).le (by omega)⟩
        · exact ⟨_, _, _, _, rfl, (N0.behind hg2).done, dg, dst.keepP cf.pot kg, (cf.kp kg potg).le (by omega)⟩
      · have cf := cd.kp kf potf
        have dst := dst.keepP cd.pot kf
        refine any_behind (p := p) (l := tf :: [sx]) rfl rfl cf.pot (by omega) df (by show 2 ≤ 20; decide) (fun Gg kg dg potg => ?_) (fun tg vg Gg hg2 kg dg potg => ?_)
        · exact ⟨_, _, _, _, rfl, (N0.ahead hf2).done, dg, dst.keepP cf.pot kg, (cf.kp kg potg).le (by omega)⟩
        · exact ⟨_, _, _, _, rfl, ((N0.ahead hf2).behind hg2).done, dg, dst.keepP cf.pot kg, (cf.kp kg potg).le (by omega)⟩
    rintro σ Ga ⟨l, vi, v7, v8, rfl, ne, dv, dst, cu⟩
    rw [show (fsV fs).length = fs.length from List.length_map _] at ne cu
    rw [List.take_length] at ne
    -- what is due
    refine gseq2 ?_
    refine due_if (p := p) (D := D) (t := st) (j := jk) (fs := fs) rfl rfl rfl hst dst cu.eD (fun Gb kb => ?_)
    have dv := dv.keep0 kb
    have cu := cu.k0 kb
    have hdue := due_ok jk fs
    generalize dueK jk fs = due at hdue ⊢
    -- the program
    dsimp only
    refine slseq ?_
    have hpo : ∃ o, Gb p = some o := by obtain ⟨xs, e⟩ := cu.pot.some; exact ⟨_, e⟩
    have gp : Gv p Gb ([some (.ref a), some (.int (0 + (i : Int))), some (.ref p), some (.ref D), some (.ref L4), some v5, some vi, v7, v8, some (.bl due), v10, v11]) (.lst [.tup [.flat (.str (Str.ofString "one")), .lst []], .tup [.flat (.str (Str.ofString "two")), .lst l]]) (tLst (tCons (tTup (tCons (tC (.str (Str.ofString "one"))) (tCons (tLst tNil) tNil))) (tCons (tTup (tCons (tC (.str (Str.ofString "two"))) (tCons (tVar 6) tNil))) tNil))) :=
      gv_lst hpo (gs_cons (gv_tup (gs_cons (gv_str tx_one) (gs_cons (gv_lst hpo gs_nil (by decide)) gs_nil)) (by show 2 ≤ 30; decide)) (gs_cons (gv_tup (gs_cons (gv_str tx_two) (gs_cons (gv_var rfl dv) gs_nil)) (by show 2 ≤ 30; decide)) gs_nil)) (by show 2 ≤ 30; decide)
    refine gp Gb _ (Keep.refl _ _) fun vp Gc kc dp => ?_
    have cu := cu.k0 kc
    obtain ⟨pa, pys, rfl, pn, pe, pt⟩ := lst_of dp
    have ply : pys.length = 2 := pt.len
    refine ⟨_, rfl, p, _, 2, rfl, cu.pot, by omega, by decide, by decide, fun jm Gd j0 j1 kdd potd => ⟨_, rfl, ?_⟩⟩
    have kd : Keep [p] Gc Gd := kp_of kdd
    have pt := pt.keepP cu.pot kd
    have pe := kd.at pe pn
    have cu := cu.kp kd potd
    refine ⟨pa, pys, rfl, SqL.of pe, fun a9 h9 => ?_⟩
    obtain ⟨jm, rfl⟩ := Int.eq_ofNat_of_zero_le j0
    rw [show cutV pys (some (jm : Int)) none = pys.drop jm from cut_from (by omega)]
    have dpr : DtAt [p] (upd Gd a9 (.lst (pys.drop jm))) (prg l jm) (.ref a9) := lst_new cu.pot h9 (dts_drop jm pt)
    have cu := cu.k0 (Keep.new (o := .lst (pys.drop jm)) h9)
    have dpr : DtAt [] (upd Gd a9 (.lst (pys.drop jm))) (prg l jm) (.ref a9) := dpr.off fun b hb => absurd hb List.not_mem_nil
    generalize (upd Gd a9 (.lst (pys.drop jm))) = Ge at dpr cu ⊢
    obtain ⟨pr1, pr2, pr3, pr4⟩ := prg_ok ne hfl (by omega : jm ≤ 1)
    rw [hdue] at pr4
    have npP : p ≠ Pt := fun z => by rw [z, hT0] at hp; cases hp
    have hpH : H p = none := Keep.free kG hp (nin1 npP)
    have KG : Keep [Pt] H Ge := (kG.trans (k1.more fun b hb => absurd hb List.not_mem_nil)).lateX cu.k fun b hb => .inr (by rw [List.mem_singleton.mp hb]; exact hpH)
    have tabE : GxR.TabG Ge Pt := ⟨tb0, cu.k.at hT1 (nin1 npP.symm), oT0⟩
    clear cu
    -- is_program
    have ask : ∀ (Gx : Hp) (R : VK), Keep [Pt] H Gx → GxR.TabG Gx Pt → DtAt [] Gx (prg l jm) (.ref a9) → (∀ Gy, Keep [Pt] H Gy → GxR.TabG Gy Pt → DtAt [] Gy (prg l jm) (.ref a9) → R (.bl due) Gy) → ∀ (l0 : Addr), Gx l0 = none → ∀ (kd kx : Addr), (upd Gx l0 (.lst [])) kd = none → (upd Gx l0 (.lst [])) kx = none → kx ≠ kd →
        spKInit CK Pt [.ref kd, .ref l0] (upd (upd (upd Gx l0 (.lst [])) kx (.own kd)) kd (.ins CK kx [])) (fun v G => v = .non ∧ spPrg CK Pt 60 [.ref kd, .ref a9] G R Es) Es := fun Gx R K1 T1 D1 kR l0 hl0 kd kx nkd nkx nkk => by
      have j1 : Keep [] Gx (upd Gx l0 (.lst [])) := Keep.new hl0
      have e0 : (upd Gx l0 (.lst [])) l0 = some (.lst []) := upd_same
      generalize (upd Gx l0 (.lst [])) = Gx1 at j1 e0 nkd nkx ⊢
      have j2 : Keep [] Gx1 (upd (upd Gx1 kx (.own kd)) kd (.ins CK kx [])) := fun b o _ e => by
        rw [upd_ne (ne_of_none e nkd), upd_ne (ne_of_none e nkx)]
        exact e
      have e2 : (upd (upd Gx1 kx (.own kd)) kd (.ins CK kx [])) kd = some (.ins CK kx []) := upd_same
      generalize (upd (upd Gx1 kx (.own kd)) kd (.ins CK kx [])) = Gx2 at j2 e2 ⊢
      have j12 : Keep [] Gx Gx2 := j1.trans j2
      obtain ⟨tb, eT, oT⟩ := T1
      have eT2 := j12.at eT nin0
      have D2 := D1.keep0 j12
      have hkd : Gx kd = none := Keep.free j1 nkd nin0
      have hkdP : kd ≠ Pt := fun z => by rw [z, eT] at hkd; cases hkd
      have hkH : H kd = none := Keep.free K1 hkd (nin1 hkdP)
      refine ⟨kd, l0, kx, [], rfl, e2, ⟨[], j2.at e0 nin0, trivial⟩, .nil, by decide, ⟨tb, eT2, oT⟩, fun Gx3 j3 K3 T3 => ⟨rfl, ?_⟩⟩
      have D3 : DtAt [] Gx3 (prg l jm) (.ref a9) := D2.kx j3 fun b hb => by
        rcases List.mem_cons.mp hb with z | z
        · rw [z]; exact ⟨_, e2, (fun _ z => by cases z), (fun _ z => by cases z), (fun _ z => by cases z)⟩
        · rw [List.mem_singleton.mp z]; exact ⟨_, eT2, (fun _ z => by cases z), (fun _ z => by cases z), (fun _ z => by cases z)⟩
      have K03 : Keep [Pt] H Gx3 := (K1.trans (j12.more fun b hb => absurd hb List.not_mem_nil)).lateX j3 fun b hb => by
        rcases List.mem_cons.mp hb with z | z
        · exact .inr (by rw [z]; exact hkH)
        · exact .inl z
      refine ⟨kd, _, prg l jm, [], rfl, K3, .nil, T3, D3, pr1, pr2, pr3, fun Gx4 j4 T4 => ?_⟩
      rw [pr4]
      obtain ⟨tb3, eT3, oT3⟩ := T3
      exact kR Gx4 (K03.trans j4) T4 (D3.kx j4 fun b hb => by rw [List.mem_singleton.mp hb]; exact ⟨_, eT3, (fun _ z => by cases z), (fun _ z => by cases z), (fun _ z => by cases z)⟩)
    refine ⟨Nat.zero_le _, fun l0 hl0 => ?_⟩
    intro kd0 kx0 nkd nkx nkk
    obtain ⟨c1, c2, c3', c4', c5', c6', c7', c8', c9', c10', c11'⟩ := ask Ge (fun v G => v = .bl due ∧ Keep [Pt] H G ∧ GxR.TabG G Pt ∧ DtAt [] G (prg l jm) (.ref a9)) KG tabE dpr (fun Gy y1 y2 y3 => ⟨rfl, y1, y2, y3⟩) l0 hl0 kd0 kx0 nkd nkx nkk
    refine ⟨c1, c2, c3', c4', c5', c6', c7', c8', c9', c10', fun Gf f1 f2 f3 => ?_⟩
    obtain ⟨g1, o1, o2, o3, o4, o5, o6, o7, o8, o9, o10, o11, o12, o13⟩ := c11' Gf f1 f2 f3
    refine ⟨g1, _, rfl, o1, o2, o3, o4, o5, o6, o7, o8, o9, o10, o11, o12, fun Gg q1 q2 => ?_⟩
    obtain ⟨r1, r2, r3, r4⟩ := o13 Gg q1 q2
    rw [r1]
    refine ⟨_, rfl, _, _, _, _, _, rfl, .ty "bool", .base (.bl due), kit_ty (show kitB "bool" "bool" = some true by decide +kernel), true, rfl, iteF ?_⟩
    refine ⟨_, rfl, _, rfl, rfl, _, rfl, iteNS rfl ?_⟩
    refine ⟨Nat.zero_le _, fun l1 hl1 => ?_⟩
    intro kd1 kx1 nkd1 nkx1 nkk1
    obtain ⟨e1, e2, e3, e4, e5, e6, e7, e8, e9, e10, e11⟩ := ask Gg (fun v G => v = .bl due ∧ Keep [Pt] H G ∧ GxR.TabG G Pt ∧ DtAt [] G (prg l jm) (.ref a9)) r2 r3 r4 (fun Gy y1 y2 y3 => ⟨rfl, y1, y2, y3⟩) l1 hl1 kd1 kx1 nkd1 nkx1 nkk1
    refine ⟨e1, e2, e3, e4, e5, e6, e7, e8, e9, e10, fun Gh f1 f2 f3 => ?_⟩
    obtain ⟨g1, o1, o2, o3, o4, o5, o6, o7, o8, o9, o10, o11, o12, o13⟩ := e11 Gh f1 f2 f3
    refine ⟨g1, _, rfl, o1, o2, o3, o4, o5, o6, o7, o8, o9, o10, o11, o12, fun Gi q1 q2 => ?_⟩
    obtain ⟨s1, s2, s3, s4⟩ := o13 Gi q1 q2
    rw [s1]
    refine ⟨_, rfl, rfl, _, rfl, iteNS rfl ?_⟩
    exact ⟨_, _, _, _, _, _, _, _, _, _, _, rfl, s2, s3⟩
  · rintro σ G ⟨v1, v2, v3, v4, v5, v6, v7, v8, v9, v10, v11, rfl, kG, tab⟩
    exact kk G
end
end Fs
/-! The table of words as the module has written it. -/
namespace Fs
open PySem L2 TL
theorem ptx_at {K : PySem.W.Frag} {d : Addr} (no : ∀ z, z ≠ pSay → z ≠ pRaise → z ≠ pAnswer → z ≠ pCall → z ≠ pGather → z ≠ pAgain → z ≠ pNote → z ≠ pRaiseof → z ≠ pRoom → PySem.W.nsIn K d z = some none)
    (h0 : ∃ u, PySem.W.nsIn K d pSay = some (some u) ∧ RelV (.int 2) u) (h1 : ∃ u, PySem.W.nsIn K d pRaise = some (some u) ∧ RelV (.int 3) u) (h2 : ∃ u, PySem.W.nsIn K d pAnswer = some (some u) ∧ RelV (.int 2) u) (h3 : ∃ u, PySem.W.nsIn K d pCall = some (some u) ∧ RelV (.int 2) u) (h4 : ∃ u, PySem.W.nsIn K d pGather = some (some u) ∧ RelV (.int 3) u) (h5 : ∃ u, PySem.W.nsIn K d pAgain = some (some u) ∧ RelV (.int 1) u) (h6 : ∃ u, PySem.W.nsIn K d pNote = some (some u) ∧ RelV (.int 2) u) (h7 : ∃ u, PySem.W.nsIn K d pRaiseof = some (some u) ∧ RelV (.int 3) u) (h8 : ∃ u, PySem.W.nsIn K d pRoom = some (some u) ∧ RelV (.int 7) u) : ∀ z, ∃ r, PySem.W.nsIn K d z = some r ∧ RelV (partsV z) (r.getD .none) := fun z => by
  by_cases e0 : z = pSay
  · obtain ⟨u, a, b⟩ := h0
    rw [e0]
    exact ⟨some u, a, by rw [show partsV pSay = .int 2 by decide +kernel]; exact b⟩
  by_cases e1 : z = pRaise
  · obtain ⟨u, a, b⟩ := h1
    rw [e1]
    exact ⟨some u, a, by rw [show partsV pRaise = .int 3 by decide +kernel]; exact b⟩
  by_cases e2 : z = pAnswer
  · obtain ⟨u, a, b⟩ := h2
    rw [e2]
    exact ⟨some u, a, by rw [show partsV pAnswer = .int 2 by decide +kernel]; exact b⟩
  by_cases e3 : z = pCall
  · obtain ⟨u, a, b⟩ := h3
    rw [e3]
    exact ⟨some u, a, by rw [show partsV pCall = .int 2 by decide +kernel]; exact b⟩
  by_cases e4 : z = pGather
  · obtain ⟨u, a, b⟩ := h4
    rw [e4]
    exact ⟨some u, a, by rw [show partsV pGather = .int 3 by decide +kernel]; exact b⟩
  by_cases e5 : z = pAgain
  · obtain ⟨u, a, b⟩ := h5
    rw [e5]
    exact ⟨some u, a, by rw [show partsV pAgain = .int 1 by decide +kernel]; exact b⟩
  by_cases e6 : z = pNote
  · obtain ⟨u, a, b⟩ := h6
    rw [e6]
    exact ⟨some u, a, by rw [show partsV pNote = .int 2 by decide +kernel]; exact b⟩
  by_cases e7 : z = pRaiseof
  · obtain ⟨u, a, b⟩ := h7
    rw [e7]
    exact ⟨some u, a, by rw [show partsV pRaiseof = .int 3 by decide +kernel]; exact b⟩
  by_cases e8 : z = pRoom
  · obtain ⟨u, a, b⟩ := h8
    rw [e8]
    exact ⟨some u, a, by rw [show partsV pRoom = .int 7 by decide +kernel]; exact b⟩
  refine ⟨none, no z e0 e1 e2 e3 e4 e5 e6 e7 e8, ?_⟩
  have hn : partsN z = none := by
    unfold partsN
    rw [if_neg e0, if_neg e1, if_neg e2, if_neg e3, if_neg e4, if_neg e5, if_neg e6, if_neg e7, if_neg e8]
  unfold partsV
  rw [hn]
  rfl
end Fs
/-! The law's call at the one place where it is made: what is being shown there is known (nothing), which a def's promise for every place doesn't say. -/
namespace Fs
open PySem L2 TL
section
variable {P : Program} {w : World} {K : PySem.W.Frag} {mg : Str → Option Value} {base : Heap}
theorem here_run {k : Nat} {f : Addr} {st : Stmt} {x q : Str} {N : List Str} {dV kV doc pm cdv ct oc : Value} {an od : Option Addr} {osl : Array (Option Value)} {A : Around} {s : Shared} {H : Hp} {u : Value} {v : V} {Q : VK}
    (lk : K.lookup f = some ⟨oc, od, .func (PySem.W.fnOf x q (defArgs st) (defBody st) (defScope st) dV kV doc pm an cdv ct), osl⟩) (hcd : PySem.W.codeIn K cdv q = true) {y : Str} (S : FnScope N [y] (defScope st)) (room : Room (k + 1) A) (e0 : Env0 P w K mg base A [] s H) (rv : RelV v u)
    (bd : BindsTo s (PySem.W.fnOf x q (defArgs st) (defBody st) (defScope st) dV kV doc pm an cdv ct) ⟨[u], []⟩ [(y, u)])
    (body : Room k (A.deeper (PyProof.Rows.envOfC q (defScope st) s.heap.objs.size f cdv)) → ∃ t, PSs (cxOf CX0 P w K mg base N q (defScope st) f cdv A [] s H E0) (defBody st) t ∧ t { nx := fun _ H' => Q .non H', rt := Q } (L2.start N [v]) H) :
    codeAny (model P w) A (.call (.ref f) ⟨[u], []⟩) (fun r s' => ∃ (v' : V) (u' : Value) (H' : Hp), r = .ok (.ret u') ∧ s'.os = s.os ∧ PyProof.Rows.AllBare s'.gens ∧ Un [] [] H H' s.heap s'.heap ∧ HOk P w H' s'.heap ∧ RelV v' u' ∧ Q v' H') s := by
  have now : K.In s.heap := e0.mod.kin.keeps fun b o e => (e0.bs b o e).1
  have par := S.par y List.mem_cons_self
  have one : Vals [v] [u] := .cons rv .nil
  refine codeAny_call_function room.depth (now f _ lk) rfl S.co S.gen rfl (PySem.W.codeRec_of now hcd) (bd _ _ _ _ (wpAny_newFunctionEnv_cells S.kind (fun z hz => ?_) fun env he s1 entered => ?_))
  · rw [List.mem_singleton.mp hz]
    exact par.imp id fun c => ⟨c, PySem.W.cellsFrom_some _ _ _ (.inl c)⟩
  · cases he
    have free : s1.heap.NoLimit := (e0.mod.nolimit.keeps fun b o e => (e0.bs b o e).1).keeps entered.toInCall.keep
    obtain ⟨t, ht, hq⟩ := body (room.deeper _)
    have at1 := inv_start (CX := CX0) (E := E0) (ps := [y]) (us := [u]) (vs := [v]) S room.hd e0 rfl one entered
    refine ⟨free, codeAny_func (wpAny_mono (ht.run [] s1 _ H _ at1 hq) (fun fl s' end_ => ?_) fun e s' bad => ?_)⟩
    · cases fl with
      | ret u' =>
        obtain ⟨v', _, H', J, rv', q'⟩ := end_
        exact ⟨v', u', H', rfl, J.os, J.bare, J.base, J.hok, rv', q'⟩
      | next =>
        obtain ⟨_, H', J, q'⟩ := end_
        exact ⟨.non, .none, H', rfl, J.os, J.bare, J.base, J.hok, rfl, q'⟩
      | brk => obtain ⟨_, _, _, no⟩ := end_; exact no.elim
      | cont => obtain ⟨_, _, _, no⟩ := end_; exact no.elim
    · refine wpAny_mono bad (fun _ _ no => no.elim) fun _ _ no => no.elim
/-- what is tracked as the law begins: the table, and the script (where the written part doesn't have it) -/
def First (a Pt : Addr) (sc : Option HO) : Hp := fun b => if b = Pt then some (.tbl #[]) else if b = a then sc else none
theorem first_tab {a Pt : Addr} {sc : Option HO} : First a Pt sc Pt = some (.tbl #[]) := if_pos rfl
theorem first_scr {a Pt : Addr} {sc : Option HO} (n : a ≠ Pt) : First a Pt sc a = sc := by
  unfold First
  rw [if_neg n, if_pos rfl]
theorem first_other {a Pt b : Addr} {sc : Option HO} (n : b ≠ Pt) (m : b ≠ a) : First a Pt sc b = none := by
  unfold First
  rw [if_neg n, if_neg m]
theorem first_some {a Pt b : Addr} {sc : Option HO} {u : HO} (e : First a Pt sc b = some u) : (b = Pt ∧ u = .tbl #[]) ∨ (b = a ∧ sc = some u) := by
  by_cases h : b = Pt
  · rw [h, first_tab] at e
    exact .inl ⟨h, (Option.some.inj e).symm⟩
  · by_cases h2 : b = a
    · rw [h2] at e h
      rw [first_scr h] at e
      exact .inr ⟨h2, e⟩
    · rw [first_other h h2] at e
      cases e
/-- the law at its caller -/
theorem law_here {k : Nat} {fa a c Pt : Addr} {dV kV doc pm cdv ct oc : Value} {an od : Option Addr} {osl : Array (Option Value)} {s₁ : Shared} {mb : Str → Option Value} {vs : List Value} {ns : List Int}
    (lk : K.lookup fa = some ⟨oc, od, .func (PySem.W.fnOf "law" "law" (defArgs sLaw) (defBody sLaw) (defScope sLaw) dV kV doc pm an cdv ct), osl⟩) (hcd : PySem.W.codeIn K cdv "law" = true) (room : Room (k + 1) callerA)
    (bd : ∀ (s : Shared) (u : Value), BindsTo s (PySem.W.fnOf "law" "law" (defArgs sLaw) (defBody sLaw) (defScope sLaw) dV kV doc pm an cdv ct) ⟨[u], []⟩ [("_law_script", u)])
    (inK : K.In s₁.heap) (gl : s₁.heap.Ns mainGlobals mg) (bl : s₁.heap.Ns builtinsNs mb) (bb : ∀ x : Str, x ≠ "__name__" → mb x = bootBuiltins x) (lim : s₁.heap.NoLimit) (gen0 : s₁.gens = #[])
    (hT : s₁.heap.get? Pt = some { cls := .none, data := .fields #[] }) (nT : K.lookup Pt = none) (hh : PySem.W.codeHdIn K c Pt = true)
    (bm : ∃ (m : Addr) (ob : Obj), mg "__builtins__" = some (.ref m) ∧ m ≠ builtinsNs ∧ s₁.heap.get? m = some ob ∧ ob.cls = .type "module" ∧ ob.dict = some builtinsNs ∧ ob.data = .plain)
    (ha : s₁.heap.get? a = some { cls := .type "list", data := .seq vs.toArray }) (hi : PyProof.Rows.IntsAre vs ns) (h63 : ns.length ≤ 63)
    (body : ∀ (base : Heap), K.In base → GxR.TabB base mg c Pt → ∀ (A0 : Around) (outer : List Env) (s : Shared) (H : Hp) (vs : List V) (Q : VK) (Es : XK), A0.guards = some [] → Room k (A0.deeper (PyProof.Rows.envOfC "law" (defScope sLaw) s.heap.objs.size fa cdv)) → spLaw K Pt vs H Q Es →
      ∃ t, PSs (cxOf CX0 P w K mg base nLaw "law" (defScope sLaw) fa cdv A0 outer s H Es).nox (defBody sLaw) t ∧ t { nx := fun _ H' => Q .non H', rt := Q } (L2.start nLaw vs) H) :
    codeAny (model P w) callerA (.call (.ref fa) ⟨[.ref a], []⟩) (fun r s' => r = .ok (.ret (.bool true)) ∧ OldK s₁.heap s'.heap ∧ s'.os = s₁.os ∧ PyProof.Rows.AllBare s'.gens) s₁ := by
  have aT : a ≠ Pt := fun z => by
    rw [z, hT] at ha
    have := congrArg Obj.data (Option.some.inj ha)
    cases this
  have nlen := hi.length
  -- the script: known to the written part, or tracked
  obtain ⟨sc, hsc, hscK, hseq⟩ : ∃ sc : Option HO, (∀ u, sc = some u → ObjOk P w (First a Pt sc) s₁.heap a u ∧ ∃ o xs, u = .frz o (.lst xs)) ∧ (sc ≠ none → K.lookup a = none) ∧ SqL K (First a Pt sc) a (ns.map V.int) := by
    cases hk : K.lookup a with
    | none =>
      refine ⟨some (.frz { cls := .type "list", data := .seq vs.toArray } (.lst (ns.map V.int))), fun u e => ?_, fun _ => rfl, .inl (.inr ⟨_, first_scr aT⟩)⟩
      cases e
      refine ⟨⟨ha, ?_, vs, _, vals_ints hi, ha⟩, _, _, rfl⟩
      rw [List.length_map]
      exact Nat.le_trans h63 (by decide)
    | some o =>
      refine ⟨none, fun u e => (nomatch e), fun n => (n rfl).elim, .inr ⟨o, vs.toArray, 0, hk, ?_⟩⟩
      have q := inK a o hk
      rw [ha] at q
      cases q
      refine ⟨rfl, rfl, rfl, ?_, by simpa using vals_ints hi⟩
      rw [List.size_toArray, nlen]
      exact Nat.le_trans h63 (by decide)
  generalize hHd : First a Pt sc = H at hsc hseq
  have hTab : H Pt = some (.tbl #[]) := by rw [← hHd]; exact first_tab
  have known : ∀ b u, H b = some u → (b = Pt ∧ u = .tbl #[]) ∨ (b = a ∧ sc = some u) := fun b u e => first_some (by rw [hHd]; exact e)
  have hok : HOk P w H s₁.heap := fun b u e => by
    rcases known b u e with ⟨rfl, rfl⟩ | ⟨rfl, q⟩
    · exact hT
    · exact (hsc u q).1
  -- nothing else is tracked
  have clear : ∀ {b : Addr} {o : Obj}, s₁.heap.get? b = some o → (∀ l n, o.data ≠ .seq l n) → o.data ≠ .fields #[] → H b = none := fun {b o} e n1 n2 => by
    cases q : H b with
    | none => rfl
    | some u =>
      rcases known b u q with ⟨rfl, _⟩ | ⟨rfl, _⟩
      · rw [hT] at e
        cases e
        exact (n2 rfl).elim
      · rw [ha] at e
        cases e
        exact (n1 _ _ rfl).elim
  have nsB : ∀ {b : Addr} {m : Str → Option Value}, s₁.heap.Ns b m → (hidT s₁.heap H).Ns b m := fun {b m} ⟨o, es, ep, e, d, r⟩ =>
    ⟨o, es, ep, hidT_get e (clear e (fun l n z => by rw [d] at z; cases z) (fun z => by rw [d] at z; cases z)), d, r⟩
  have kB : K.In (hidT s₁.heap H) := fun b o e => hidT_get (inK b o e) (by
    cases q : H b with
    | none => rfl
    | some u =>
      rcases known b u q with ⟨rfl, _⟩ | ⟨rfl, q2⟩
      · rw [nT] at e; cases e
      · rw [hscK (by rw [q2]; simp)] at e; cases e)
  have modB : L2.Mod K mg (hidT s₁.heap H) := by
    obtain ⟨mc, l1, l2⟩ := lim
    exact ⟨kB, nsB gl, ⟨mb, nsB bl, bb⟩, mc, nsB l1, l2⟩
  have glob : mainGlobals ≠ Pt := fun z => by
    obtain ⟨o, es, ep, e, d, _⟩ := gl
    rw [z, hT] at e
    cases e
    cases d
  have tabB : GxR.TabB (hidT s₁.heap H) mg c Pt := by
    obtain ⟨m, ob, g1, g2, g3, g4, g5, g6⟩ := bm
    refine ⟨PySem.W.codeHd_of_K kB hh, ⟨m, ob, g1, g2, fun z => ?_, fun z => ?_, hidT_get g3 (clear g3 (fun l n z => by rw [g6] at z; cases z) (fun z => by rw [g6] at z; cases z)), g4, g5, g6⟩, glob⟩
    · obtain ⟨o, es, ep, e, d, _⟩ := gl
      rw [← z, g3] at e
      cases e
      rw [g6] at d
      cases d
    · rw [z, hT] at g3
      cases g3
      cases g6
  have e0 : Env0 P w K mg (hidT s₁.heap H) callerA [] s₁ H := ⟨rfl, modB, fun b o e => of_hidT e, Nat.le_of_eq (hidT_size _ _), trivial, fun b z => absurd z List.not_mem_nil, hok, .of_eq gen0⟩
  have run := here_run (Q := fun v _ => v = .bl true) (v := .ref a) (u := .ref a) lk hcd scLaw room e0 rfl (bd s₁ (.ref a)) fun hr => by
    obtain ⟨t, ht, hq⟩ := body _ kB tabB callerA [] s₁ H [.ref a] (fun v _ => v = .bl true) E0 rfl hr ⟨a, ns, rfl, hseq, h63, hTab, fun _ => rfl⟩
    exact ⟨t, ht.nox, hq⟩
  refine codeAny_mono run fun r s' ⟨v', u', H', er, os, bare, un, hok', rv', ev⟩ => ?_
  subst ev
  have eu : u' = Value.bool true := rv'
  subst eu
  have kept : ∀ b o, b ≠ Pt → s₁.heap.get? b = some o → s'.heap.get? b = some o := fun b o n e => by
    cases q : H b with
    | none => exact un.keep b o e q List.not_mem_nil List.not_mem_nil
    | some u =>
      rcases known b u q with ⟨z, _⟩ | ⟨rfl, q2⟩
      · exact (n z).elim
      · obtain ⟨_, ob, xs, rfl⟩ := hsc u q2
        have f1 := (hok b _ q).1
        have f2 := (hok' b _ (un.frzs b ob _ q)).1
        rw [e] at f1
        cases f1
        exact f2
  obtain ⟨more, hm⟩ := un.tbls Pt #[] hTab
  have grown : s'.heap.get? Pt = some { cls := .none, data := .fields (#[] ++ more) } := hok' Pt _ hm
  have isT := ((PySem.W.codeHd_of_K inK hh).tab hT).isCodeTable
  refine ⟨er, ⟨fun b o e => ?_, fun b o e => ?_⟩, os, bare⟩
  · by_cases hb : b = Pt
    · subst hb
      rw [hT] at e
      cases e
      exact .inr (.inl ⟨isT, rfl, #[], more, rfl, grown⟩)
    · exact .inl (kept b o hb e)
  · by_cases hb : b = Pt
    · subst hb
      exact ⟨_, grown⟩
    · exact ⟨o, kept b o hb e⟩
end
end Fs
namespace Fs
open PySem L2 TL
theorem fun_of_D {K : PySem.W.Frag} {x q : Str} {st : Stmt} {f : Addr} {fd : FuncData} (F : FunD K x q (defArgs st) (defBody st) (defScope st) [] [] f fd) : Fun K x q st f fd := by
  obtain ⟨oc, od, dV, kV, doc, pm, an, cdv, ct, osl, e, lk, hcd, hd, _⟩ := F.ex
  have hdV : dV = .none := by
    rcases hd with h | h
    · exact h.2
    · exact (h.1 rfl).elim
  subst hdV
  exact ⟨⟨oc, od, kV, doc, pm, an, cdv, ct, osl, e, lk, hcd⟩, F.kp⟩
section
variable {P : Program} {w : World} {K : PySem.W.Frag} {mg : Str → Option Value} {h : Heap}
/-- everything together -/
theorem all (X : K.In h) (G : h.Ns mainGlobals mg) {fa0 : Addr} (hfa : mg ("law" : Str) = some (.ref fa0)) (c : He.SaysX fa fn ts tf exB w h K) :
    ∃ (co Pt : Addr) (dV kV doc pm cdv ct oc : Value) (an od : Option Addr) (osl : Array (Option Value)), K.lookup fa0 = some ⟨oc, od, .func (PySem.W.fnOf "law" "law" (defArgs sLaw) (defBody sLaw) (defScope sLaw) dV kV doc pm an cdv ct), osl⟩ ∧ PySem.W.codeIn K cdv "law" = true ∧
      (∀ (s : Shared) (u : Value), BindsTo s (PySem.W.fnOf "law" "law" (defArgs sLaw) (defBody sLaw) (defScope sLaw) dV kV doc pm an cdv ct) ⟨[u], []⟩ [("_law_script", u)]) ∧
      h.get? Pt = some { cls := .none, data := .fields #[] } ∧ K.lookup Pt = none ∧ PySem.W.codeHdIn K co Pt = true ∧
      ∀ (base : Heap), K.In base → GxR.TabB base mg co Pt → ∀ (A0 : Around) (outer : List Env) (s : Shared) (H : Hp) (vs : List V) (Q : VK) (Es : XK), A0.guards = some [] → Room 126 (A0.deeper (PyProof.Rows.envOfC "law" (defScope sLaw) s.heap.objs.size fa0 cdv)) → spLaw K Pt vs H Q Es →
        ∃ t, PSs (cxOf CX0 P w K mg base nLaw "law" (defScope sLaw) fa0 cdv A0 outer s H Es).nox (defBody sLaw) t ∧ t { nx := fun _ H' => Q .non H', rt := Q } (L2.start nLaw vs) H := by
  have d : He.SaysD fa fn K := c.t.d
  have fct : ∀ f : He.Fa, f ∈ fa → f.ok K = true := fun f hf => d.facts hf
  obtain ⟨x_d_is_whole, D_d_is_whole⟩ := d.def_ 0 (d := d_is_whole) rfl
  have F_d_is_whole : Fun K "is_whole" "is_whole" sWhole (He.ga K "is_whole") x_d_is_whole := fun_of_D D_d_is_whole
  have B_d_is_whole : Binds K x_d_is_whole ["thing"] [] := F_d_is_whole.binds fun _ _ _ _ _ _ us hl => match us, hl with | [_], _ => rfl
  obtain ⟨x_d_is_text, D_d_is_text⟩ := d.def_ 1 (d := d_is_text) rfl
  have F_d_is_text : Fun K "is_text" "is_text" sIsText (He.ga K "is_text") x_d_is_text := fun_of_D D_d_is_text
  have B_d_is_text : Binds K x_d_is_text ["thing"] [] := F_d_is_text.binds fun _ _ _ _ _ _ us hl => match us, hl with | [_], _ => rfl
  obtain ⟨x_d_is_name, D_d_is_name⟩ := d.def_ 2 (d := d_is_name) rfl
  have F_d_is_name : Fun K "is_name" "is_name" sIsName (He.ga K "is_name") x_d_is_name := fun_of_D D_d_is_name
  have B_d_is_name : Binds K x_d_is_name ["thing"] [] := F_d_is_name.binds fun _ _ _ _ _ _ us hl => match us, hl with | [_], _ => rfl
  obtain ⟨x_d_is_test, D_d_is_test⟩ := d.def_ 3 (d := d_is_test) rfl
  have F_d_is_test : Fun K "is_test" "is_test" sIsT (He.ga K "is_test") x_d_is_test := fun_of_D D_d_is_test
  have B_d_is_test : Binds K x_d_is_test ["kinds", "thing"] [] := F_d_is_test.binds fun _ _ _ _ _ _ us hl => match us, hl with | [_, _], _ => rfl
  obtain ⟨x_d__is_single, D_d__is_single⟩ := d.def_ 4 (d := d__is_single) rfl
  have F_d__is_single : Fun K "_is_single" "_is_single" sSing (He.ga K "_is_single") x_d__is_single := fun_of_D D_d__is_single
  have B_d__is_single : Binds K x_d__is_single ["kinds", "thing"] [] := F_d__is_single.binds fun _ _ _ _ _ _ us hl => match us, hl with | [_, _], _ => rfl
  obtain ⟨x_d_is_program, D_d_is_program⟩ := d.def_ 5 (d := d_is_program) rfl
  have F_d_is_program : Fun K "is_program" "is_program" sPrg (He.ga K "is_program") x_d_is_program := fun_of_D D_d_is_program
  have B_d_is_program : Binds K x_d_is_program ["kinds", "thing"] [] := F_d_is_program.binds fun _ _ _ _ _ _ us hl => match us, hl with | [_, _], _ => rfl
  obtain ⟨x_d__is_body, D_d__is_body⟩ := d.def_ 6 (d := d__is_body) rfl
  have F_d__is_body : Fun K "_is_body" "_is_body" sBdy (He.ga K "_is_body") x_d__is_body := fun_of_D D_d__is_body
  have B_d__is_body : Binds K x_d__is_body ["look", "thing", "level", "held", "free"] [] := F_d__is_body.binds fun _ _ _ _ _ _ us hl => match us, hl with | [_, _, _, _, _], _ => rfl
  obtain ⟨x_d__is_step, D_d__is_step⟩ := d.def_ 7 (d := d__is_step) rfl
  have F_d__is_step : Fun K "_is_step" "_is_step" sStp (He.ga K "_is_step") x_d__is_step := fun_of_D D_d__is_step
  have B_d__is_step : Binds K x_d__is_step ["look", "step", "level", "held", "free"] [] := F_d__is_step.binds fun _ _ _ _ _ _ us hl => match us, hl with | [_, _, _, _, _], _ => rfl
  obtain ⟨x_d__is_plain_kind, D_d__is_plain_kind⟩ := d.def_ 8 (d := d__is_plain_kind) rfl
  have F_d__is_plain_kind : Fun K "_is_plain_kind" "_is_plain_kind" sPlK (He.ga K "_is_plain_kind") x_d__is_plain_kind := fun_of_D D_d__is_plain_kind
  have B_d__is_plain_kind : Binds K x_d__is_plain_kind ["look", "thing"] [] := F_d__is_plain_kind.binds fun _ _ _ _ _ _ us hl => match us, hl with | [_, _], _ => rfl
  obtain ⟨x_d__are_gathered, D_d__are_gathered⟩ := d.def_ 9 (d := d__are_gathered) rfl
  have F_d__are_gathered : Fun K "_are_gathered" "_are_gathered" sGth (He.ga K "_are_gathered") x_d__are_gathered := fun_of_D D_d__are_gathered
  have B_d__are_gathered : Binds K x_d__are_gathered ["look", "thing", "level", "held"] [] := F_d__are_gathered.binds fun _ _ _ _ _ _ us hl => match us, hl with | [_, _, _, _], _ => rfl
  obtain ⟨x_d__is_room, D_d__is_room⟩ := d.def_ 10 (d := d__is_room) rfl
  have F_d__is_room : Fun K "_is_room" "_is_room" sRm (He.ga K "_is_room") x_d__is_room := fun_of_D D_d__is_room
  have B_d__is_room : Binds K x_d__is_room ["look", "step", "level", "held", "free"] [] := F_d__is_room.binds fun _ _ _ _ _ _ us hl => match us, hl with | [_, _, _, _, _], _ => rfl
  obtain ⟨x_d__are_catchers, D_d__are_catchers⟩ := d.def_ 11 (d := d__are_catchers) rfl
  have F_d__are_catchers : Fun K "_are_catchers" "_are_catchers" sCts (He.ga K "_are_catchers") x_d__are_catchers := fun_of_D D_d__are_catchers
  have B_d__are_catchers : Binds K x_d__are_catchers ["look", "thing", "level", "free"] [] := F_d__are_catchers.binds fun _ _ _ _ _ _ us hl => match us, hl with | [_, _, _, _], _ => rfl
  obtain ⟨x_d__law_pot, D_d__law_pot⟩ := d.def_ 12 (d := d__law_pot) rfl
  have F_d__law_pot : Fun K "_law_pot" "_law_pot" sPot (He.ga K "_law_pot") x_d__law_pot := fun_of_D D_d__law_pot
  have B_d__law_pot : Binds K x_d__law_pot ["_law_script", "_law_k"] [] := F_d__law_pot.binds fun _ _ _ _ _ _ us hl => match us, hl with | [_, _], _ => rfl
  obtain ⟨x_d__law_digit, D_d__law_digit⟩ := d.def_ 13 (d := d__law_digit) rfl
  have F_d__law_digit : Fun K "_law_digit" "_law_digit" sDigit (He.ga K "_law_digit") x_d__law_digit := fun_of_D D_d__law_digit
  have B_d__law_digit : Binds K x_d__law_digit ["_law_pot_here", "_law_many"] [] := F_d__law_digit.binds fun _ _ _ _ _ _ us hl => match us, hl with | [_, _], _ => rfl
  obtain ⟨x_d__law_number, D_d__law_number⟩ := d.def_ 14 (d := d__law_number) rfl
  have F_d__law_number : Fun K "_law_number" "_law_number" sNum (He.ga K "_law_number") x_d__law_number := fun_of_D D_d__law_number
  have B_d__law_number : Binds K x_d__law_number ["_law_pot_here"] [] := F_d__law_number.binds fun _ _ _ _ _ _ us hl => match us, hl with | [_], _ => rfl
  obtain ⟨x_d__law_text, D_d__law_text⟩ := d.def_ 15 (d := d__law_text) rfl
  have F_d__law_text : Fun K "_law_text" "_law_text" sText (He.ga K "_law_text") x_d__law_text := fun_of_D D_d__law_text
  have B_d__law_text : Binds K x_d__law_text ["_law_pot_here"] [] := F_d__law_text.binds fun _ _ _ _ _ _ us hl => match us, hl with | [_], _ => rfl
  obtain ⟨x_d__law_any_step, D_d__law_any_step⟩ := d.def_ 16 (d := d__law_any_step) rfl
  have F_d__law_any_step : Fun K "_law_any_step" "_law_any_step" sAny (He.ga K "_law_any_step") x_d__law_any_step := fun_of_D D_d__law_any_step
  have B_d__law_any_step : Binds K x_d__law_any_step ["_law_pot_here"] [] := F_d__law_any_step.binds fun _ _ _ _ _ _ us hl => match us, hl with | [_], _ => rfl
  obtain ⟨x_d__law_framed, D_d__law_framed⟩ := d.def_ 17 (d := d__law_framed) rfl
  have F_d__law_framed : Fun K "_law_framed" "_law_framed" sFrm (He.ga K "_law_framed") x_d__law_framed := fun_of_D D_d__law_framed
  have B_d__law_framed : Binds K x_d__law_framed ["_law_pot_here", "_law_frame", "_law_name_here", "_law_inner"] [] := F_d__law_framed.binds fun _ _ _ _ _ _ us hl => match us, hl with | [_, _, _, _], _ => rfl
  obtain ⟨x_d_law, D_d_law⟩ := d.def_ 18 (d := d_law) rfl
  have F_d_law : Fun K "law" "law" sLaw (He.ga K "law") x_d_law := fun_of_D D_d_law
  have B_d_law : Binds K x_d_law ["_law_script"] [] := F_d_law.binds fun _ _ _ _ _ _ us hl => match us, hl with | [_], _ => rfl
  obtain ⟨x_dK_xinitx, D_dK_xinitx⟩ := d.def_ 19 (d := dK_xinitx) rfl
  have F_dK_xinitx : Fun K "__init__" "Kinds.__init__" sKInit (He.ma K (He.ga K "Kinds") "__init__") x_dK_xinitx := fun_of_D D_dK_xinitx
  have B_dK_xinitx : Binds K x_dK_xinitx ["self", "pairs"] [] := F_dK_xinitx.binds fun _ _ _ _ _ _ us hl => match us, hl with | [_, _], _ => rfl
  obtain ⟨x_dK_is_kind, D_dK_is_kind⟩ := d.def_ 20 (d := dK_is_kind) rfl
  have F_dK_is_kind : Fun K "is_kind" "Kinds.is_kind" sIsKind (He.ma K (He.ga K "Kinds") "is_kind") x_dK_is_kind := fun_of_D D_dK_is_kind
  have B_dK_is_kind : Binds K x_dK_is_kind ["self", "thing"] [] := F_dK_is_kind.binds fun _ _ _ _ _ _ us hl => match us, hl with | [_, _], _ => rfl
  obtain ⟨x_dK__check_new, D_dK__check_new⟩ := d.def_ 21 (d := dK__check_new) rfl
  have F_dK__check_new : Fun K "_check_new" "Kinds._check_new" sChkNew (He.ma K (He.ga K "Kinds") "_check_new") x_dK__check_new := fun_of_D D_dK__check_new
  have B_dK__check_new : Binds K x_dK__check_new ["self", "name", "above"] [] := F_dK__check_new.binds fun _ _ _ _ _ _ us hl => match us, hl with | [_, _, _], _ => rfl
  obtain ⟨x_dX_Look_xinitx, D_dX_Look_xinitx⟩ := d.def_ 22 (d := dX_Look_xinitx) rfl
  have F_dX_Look_xinitx : Fun K "__init__" "Look.__init__" sLkI (He.ma K (He.ga K "Look") "__init__") x_dX_Look_xinitx := fun_of_D D_dX_Look_xinitx
  have B_dX_Look_xinitx : Binds K x_dX_Look_xinitx ["self", "kinds"] [] := F_dX_Look_xinitx.binds fun _ _ _ _ _ _ us hl => match us, hl with | [_, _], _ => rfl
  have z_isinstance : mg "isinstance" = none := He.free_ok X G (fct (.free "isinstance") (by simp [fa]))
  have z_int : mg "int" = none := He.free_ok X G (fct (.free "int") (by simp [fa]))
  have z_bool : mg "bool" = none := He.free_ok X G (fct (.free "bool") (by simp [fa]))
  have z_str : mg "str" = none := He.free_ok X G (fct (.free "str") (by simp [fa]))
  have z_len : mg "len" = none := He.free_ok X G (fct (.free "len") (by simp [fa]))
  have z_all : mg "all" = none := He.free_ok X G (fct (.free "all") (by simp [fa]))
  have z_max : mg "max" = none := He.free_ok X G (fct (.free "max") (by simp [fa]))
  have z_min : mg "min" = none := He.free_ok X G (fct (.free "min") (by simp [fa]))
  have z_range : mg "range" = none := He.free_ok X G (fct (.free "range") (by simp [fa]))
  have z_tuple : mg "tuple" = none := He.free_ok X G (fct (.free "tuple") (by simp [fa]))
  have z_list : mg "list" = none := He.free_ok X G (fct (.free "list") (by simp [fa]))
  have z_enumerate : mg "enumerate" = none := He.free_ok X G (fct (.free "enumerate") (by simp [fa]))
  have g_is_whole : mg "is_whole" = some (.ref (He.ga K "is_whole")) := He.glo_ok X G (fct (.glo "is_whole") (by simp [fa]))
  have g_is_text : mg "is_text" = some (.ref (He.ga K "is_text")) := He.glo_ok X G (fct (.glo "is_text") (by simp [fa]))
  have g_is_name : mg "is_name" = some (.ref (He.ga K "is_name")) := He.glo_ok X G (fct (.glo "is_name") (by simp [fa]))
  have g_is_test : mg "is_test" = some (.ref (He.ga K "is_test")) := He.glo_ok X G (fct (.glo "is_test") (by simp [fa]))
  have g__is_single : mg "_is_single" = some (.ref (He.ga K "_is_single")) := He.glo_ok X G (fct (.glo "_is_single") (by simp [fa]))
  have g_is_program : mg "is_program" = some (.ref (He.ga K "is_program")) := He.glo_ok X G (fct (.glo "is_program") (by simp [fa]))
  have g__is_body : mg "_is_body" = some (.ref (He.ga K "_is_body")) := He.glo_ok X G (fct (.glo "_is_body") (by simp [fa]))
  have g__is_step : mg "_is_step" = some (.ref (He.ga K "_is_step")) := He.glo_ok X G (fct (.glo "_is_step") (by simp [fa]))
  have g__is_plain_kind : mg "_is_plain_kind" = some (.ref (He.ga K "_is_plain_kind")) := He.glo_ok X G (fct (.glo "_is_plain_kind") (by simp [fa]))
  have g__are_gathered : mg "_are_gathered" = some (.ref (He.ga K "_are_gathered")) := He.glo_ok X G (fct (.glo "_are_gathered") (by simp [fa]))
  have g__is_room : mg "_is_room" = some (.ref (He.ga K "_is_room")) := He.glo_ok X G (fct (.glo "_is_room") (by simp [fa]))
  have g__are_catchers : mg "_are_catchers" = some (.ref (He.ga K "_are_catchers")) := He.glo_ok X G (fct (.glo "_are_catchers") (by simp [fa]))
  have g__law_pot : mg "_law_pot" = some (.ref (He.ga K "_law_pot")) := He.glo_ok X G (fct (.glo "_law_pot") (by simp [fa]))
  have g__law_digit : mg "_law_digit" = some (.ref (He.ga K "_law_digit")) := He.glo_ok X G (fct (.glo "_law_digit") (by simp [fa]))
  have g__law_number : mg "_law_number" = some (.ref (He.ga K "_law_number")) := He.glo_ok X G (fct (.glo "_law_number") (by simp [fa]))
  have g__law_text : mg "_law_text" = some (.ref (He.ga K "_law_text")) := He.glo_ok X G (fct (.glo "_law_text") (by simp [fa]))
  have g__law_any_step : mg "_law_any_step" = some (.ref (He.ga K "_law_any_step")) := He.glo_ok X G (fct (.glo "_law_any_step") (by simp [fa]))
  have g__law_framed : mg "_law_framed" = some (.ref (He.ga K "_law_framed")) := He.glo_ok X G (fct (.glo "_law_framed") (by simp [fa]))
  have g_law : mg "law" = some (.ref (He.ga K "law")) := He.glo_ok X G (fct (.glo "law") (by simp [fa]))
  have g_Kinds : mg "Kinds" = some (.ref (He.ga K "Kinds")) := He.glo_ok X G (fct (.glo "Kinds") (by simp [fa]))
  have cl_Kinds := He.cls_ok (fct (.cls "Kinds") (by simp [fa]))
  have mk_Kinds := He.mkr_ok (fct (.mkr "Kinds") (by simp [fa]))
  have g_Look : mg "Look" = some (.ref (He.ga K "Look")) := He.glo_ok X G (fct (.glo "Look") (by simp [fa]))
  have cl_Look := He.cls_ok (fct (.cls "Look") (by simp [fa]))
  have mk_Look := He.mkr_ok (fct (.mkr "Look") (by simp [fa]))
  have nA := He.noat_ok (fct (.noat "Kinds" "_above") (by simp [fa]))
  have nX_Look_known := He.noat_ok (fct (.noat "Look" "known") (by simp [fa]))
  have nX_Look_ahead := He.noat_ok (fct (.noat "Look" "ahead") (by simp [fa]))
  have nX_Look_rooms := He.noat_ok (fct (.noat "Look" "rooms") (by simp [fa]))
  have k_is_kind := He.meth_ok (fct (.meth "Kinds" "is_kind") (by simp [fa]))
  have k__check_new := He.meth_ok (fct (.meth "Kinds" "_check_new") (by simp [fa]))
  have g__TESTS_BEHIND : mg "_TESTS_BEHIND" = some (.ref (He.ga K "_TESTS_BEHIND")) := He.glo_ok X G (fct (.glo "_TESTS_BEHIND") (by simp [fa]))
  have g__PARTS : mg "_PARTS" = some (.ref (He.ga K "_PARTS")) := He.glo_ok X G (fct (.glo "_PARTS") (by simp [fa]))
  have g__OF_HAND : mg "_OF_HAND" = some (.ref (He.ga K "_OF_HAND")) := He.glo_ok X G (fct (.glo "_OF_HAND") (by simp [fa]))
  -- the law's own object, the code of is_name
  have efa : fa0 = He.ga K "law" := by
    have e := hfa.symm.trans g_law
    cases e
    rfl
  subst efa
  obtain ⟨oc, od, dV, kV, doc, pm, an, cdv, ct, osl, exl, lkl, hcl, hdl, _⟩ := D_d_law.ex
  obtain ⟨oc2, od2, dV2, kV2, doc2, pm2, an2, cdv2, ct2, osl2, exn, lkn, hcn, hdn, _⟩ := D_d_is_name.ex
  obtain ⟨co, eco⟩ := He.codeIn_ref hcn
  have eco2 : He.codeOf K ("is_name", none) = co := He.codeOf_eq (p := ("is_name", none)) lkn (by rw [exn]; exact eco)
  have hd1 := c.hd ("is_name", none) List.mem_cons_self
  have hd2 := c.out ("is_name", none) List.mem_cons_self
  have hd3 := c.empty ("is_name", none) List.mem_cons_self
  have ecT : (He.cT K ("is_name", none)).1 = co := eco2
  rw [ecT] at hd1
  subst exl exn eco
  refine ⟨co, (He.cT K ("is_name", none)).2, dV, kV, doc, pm, cdv, ct, oc, an, od, osl, lkl, hcl, fun s u => ?_, hd3, hd2, hd1, ?_⟩
  · have hdV : dV = .none := by
      rcases hdl with q | q
      · exact q.2
      · exact (q.1 rfl).elim
    subst hdV
    exact .of_eq rfl
  intro base kB TB A0 outer s H vs Q Es hg hr hsp
  have TK : KTxt K mg (He.ga K "Kinds") (He.ma K (He.ga K "Kinds") "__init__") (He.ma K (He.ga K "Kinds") "is_kind") (He.ma K (He.ga K "Kinds") "_check_new") := ⟨cl_Kinds, nA, k_is_kind, k__check_new⟩
  have oPot := ok_pot (P := P) (w := w) (base := base) F_d__law_pot z_len z_max
  have oDig := ok_digit (P := P) (w := w) (mg := mg) (base := base) F_d__law_digit
  have oText := ok_text F_d__law_text oDig g__law_digit F_d__law_digit.kp B_d__law_digit z_range z_int
  have oIsText := ok_isText (P := P) (w := w) (base := base) F_d_is_text z_isinstance z_str
  have oIsName := ok_isName lkn hcn TB oIsText g_is_text F_d_is_text.kp B_d_is_text z_len z_all
  have oIsKind := ok_isKind F_dK_is_kind TK oIsText g_is_text F_d_is_text.kp B_d_is_text
  have oChkNew := ok_chkNew F_dK__check_new TK oIsName g_is_name F_d_is_name.kp B_d_is_name oIsKind B_dK_is_kind
  have oKInit := ok_kInit F_dK_xinitx TK oChkNew B_dK__check_new
  have mo := c.more
  unfold exB at mo
  simp only [Bool.and_eq_true, decide_eq_true_eq] at mo
  obtain ⟨x0, x1, x2, x3, x4, x5, x6, xP, xO, w0, w1, w2, w3, w4, w5, w6, w7, w8⟩ := mo
  have TB2 : TBy K mg w (He.ga K "_TESTS_BEHIND") := ⟨⟨g__TESTS_BEHIND, c.t.tab 0, intB_ok x1, intB_ok x2, intB_ok x3, x4, x5, x6⟩, fun z n1 n2 n3 => only_noW x0 z fun w hw => by
    rcases List.mem_cons.mp hw with q | hw
    · rw [q]; exact n1
    rcases List.mem_cons.mp hw with q | hw
    · rw [q]; exact n2
    rw [List.mem_singleton.mp hw]; exact n3⟩
  have PT2 : PTx K mg w (He.ga K "_PARTS") (He.ga K "_OF_HAND") := ⟨g__PARTS, c.t.tab 1, ptx_at (fun z m0 m1 m2 m3 m4 m5 m6 m7 m8 => only_noW xP z fun w hw => by
    rcases List.mem_cons.mp hw with q | hw
    · rw [q]; exact m0
    rcases List.mem_cons.mp hw with q | hw
    · rw [q]; exact m1
    rcases List.mem_cons.mp hw with q | hw
    · rw [q]; exact m2
    rcases List.mem_cons.mp hw with q | hw
    · rw [q]; exact m3
    rcases List.mem_cons.mp hw with q | hw
    · rw [q]; exact m4
    rcases List.mem_cons.mp hw with q | hw
    · rw [q]; exact m5
    rcases List.mem_cons.mp hw with q | hw
    · rw [q]; exact m6
    rcases List.mem_cons.mp hw with q | hw
    · rw [q]; exact m7
    rw [List.mem_singleton.mp hw]; exact m8) (intB_ok w0) (intB_ok w1) (intB_ok w2) (intB_ok w3) (intB_ok w4) (intB_ok w5) (intB_ok w6) (intB_ok w7) (intB_ok w8), g__OF_HAND, of_ok xO⟩
  have oTxT := ok_txT (P := P) (w := w) (base := base) F_d_is_text z_isinstance z_str
  have oKdT := ok_kdT F_dK_is_kind TK oTxT g_is_text F_d_is_text.kp B_d_is_text
  have oSiT := ok_siT F_d__is_single TK oKdT B_dK_is_kind oTxT g_is_text F_d_is_text.kp B_d_is_text z_len
  have oTe := ok_isTT F_d_is_test TB2 oSiT g__is_single F_d__is_single.kp B_d__is_single oTxT g_is_text F_d_is_text.kp B_d_is_text z_len z_isinstance z_tuple
  have oWhD := ok_whD (P := P) (w := w) (base := base) F_d_is_whole z_isinstance z_int z_bool
  have oNmD := ok_nmD lkn hcn TB oTxT g_is_text F_d_is_text.kp B_d_is_text z_len z_all
  have PG : PGx K mg (He.ga K "Look") (He.ga K "Kinds") _ _ _ _ _ _ _ _ _ _ _ := ⟨cl_Look, nX_Look_known, nX_Look_ahead, nX_Look_rooms, cl_Kinds, k_is_kind, g__is_body, F_d__is_body.kp, g__is_step, F_d__is_step.kp, g__is_room, F_d__is_room.kp, g__are_gathered, F_d__are_gathered.kp, g__are_catchers, F_d__are_catchers.kp, g__is_plain_kind, F_d__is_plain_kind.kp, g_is_text, F_d_is_text.kp, g_is_name, F_d_is_name.kp, g_is_whole, F_d_is_whole.kp, g_is_test, F_d_is_test.kp, He.int_ok X G (fct (.int "_DEEPEST" 60) (by simp [fa])), z_isinstance, z_tuple, z_list, z_len⟩
  have oPlK := ok_plK (P := P) (w := w) (base := base) (Pt := (He.cT K ("is_name", none)).2) F_d__is_plain_kind PG oKdT B_dK_is_kind
  have oAll := all_p PG PT2 F_d__is_body B_d__is_body F_d__is_step B_d__is_step F_d__are_gathered B_d__are_gathered F_d__are_catchers B_d__are_catchers F_d__is_room B_d__is_room oNmD B_d_is_name oTe B_d_is_test oPlK B_d__is_plain_kind oTxT B_d_is_text oWhD B_d_is_whole 60
  have oLkI := ok_lkI (P := P) (w := w) (base := base) F_dX_Look_xinitx PG
  have oPrg := ok_prg F_d_is_program PG mk_Look g_Look oLkI B_dX_Look_xinitx oAll B_d__is_body oNmD B_d_is_name
  have oNum := ok_num F_d__law_number oDig g__law_digit F_d__law_digit.kp B_d__law_digit z_range
  have oAny := ok_any F_d__law_any_step oDig g__law_digit F_d__law_digit.kp B_d__law_digit oText g__law_text F_d__law_text.kp B_d__law_text
  have oFrm := ok_frm F_d__law_framed oDig g__law_digit F_d__law_digit.kp B_d__law_digit oText g__law_text F_d__law_text.kp B_d__law_text
  have TA : LTx4 K mg (He.ga K "Kinds") _ _ _ _ _ _ _ _ := ⟨g_Kinds, mk_Kinds, g__law_pot, F_d__law_pot.kp, g__law_digit, F_d__law_digit.kp, g__law_text, F_d__law_text.kp, g__law_number, F_d__law_number.kp, g__law_any_step, F_d__law_any_step.kp, g__law_framed, F_d__law_framed.kp, g_is_program, F_d_is_program.kp, z_len, z_max, z_min, z_range, z_isinstance, z_bool, z_enumerate⟩
  exact law_body TA oPot B_d__law_pot oDig B_d__law_digit oText B_d__law_text oNum B_d__law_number oAny B_d__law_any_step oFrm B_d__law_framed oKInit B_dK_xinitx oPrg B_d_is_program cdv A0 outer s H vs Q Es hr hsp
end
end Fs
open PySem PySem.W PySem.Calls PyProof.Rows
set_option maxHeartbeats 0 in
theorem PySem.Challenge.cw_faultsheaves_k44_where_steps_stand_holds : PySem.Challenge.rw_faultsheaves_k44_where_steps_stand.Holds := by
  w_on; o_law
  refine HandSHeadRun.head_any (r := OpenLaw.row PySem.Challenge.rw_faultsheaves_k44_where_steps_stand) (q := view (OpenLaw.row PySem.Challenge.rw_faultsheaves_k44_where_steps_stand).prog [35]) (H := Fs.hk) (ob := Fs.ob) (M := 9000) (loose := Fs.loose) (d := HandSHeadRun.topDef (OpenLaw.row PySem.Challenge.rw_faultsheaves_k44_where_steps_stand).prog 35) (kwd := []) Fs.ob_eq
    (by kernel_rfl) (fun s => by kernel_rfl) Fs.run (by kernel_rfl) (by kernel_rfl) (by kernel_rfl) (by rfl) (by first | assumption | decide +kernel) (by decide +kernel) ⟨rfl, rfl, rfl, rfl, rfl, by decide +kernel⟩ ?hw ?hc
  case hw => w_witness2
  case hc =>
    refine Att.attach_callB (l := PySem.Challenge.rw_faultsheaves_k44_where_steps_stand) (n := 63) rfl (by kernel_rfl) fun w s₀ s₁ mg mb fa o pm cd doc a vs ns G Y ho hd hcd hmg hobj hints hlen hbits hg => ?_
    obtain ⟨K, KX, c⟩ := Y
    have hmg' : mg ("law" : PySem.Str) = some (.ref fa) := by
      have e : (HandSHeadRun.topDef (OpenLaw.row PySem.Challenge.rw_faultsheaves_k44_where_steps_stand).prog 35).name = ("law" : PySem.Str) := by kernel_rfl
      rw [← e]
      exact hmg
    obtain ⟨co, Pt, dV, kV, doc', pm', cdv, ct, oc, an, od, osl, lk, hc', bd, hT, nT, hh, body⟩ := Fs.all (P := (PySem.Challenge.rw_faultsheaves_k44_where_steps_stand).prog) (w := w) KX G.T.g hmg' c
    exact Fs.law_here lk hc' ⟨rfl, by decide, by decide⟩ bd KX G.T.g G.T.b G.T.builtins G.T.nolimit hg hT nT hh G.T.bmain hobj hints hlen body
