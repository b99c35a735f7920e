import PyProof.Rows.All
import Wide.All
import OpenK.AllK
import Wide.FinOn
import HandS.ForMost
import HandS.AnyAll
import HandS.IsInst
import HandS.EndTab
import HandS.HeadHook4
import HandS.Defaults
import HandS.RaiseMore
import HandS.NoneIn
import HandS.TupAny
import HandS.Iter
import HandS.RevRange
import HandS.Conv
import PyProof.ReprLen
import HandS.WordsExc
import HandS.ExcIs
import HandS.TupMul
import HandS.Deep
import HandS.Head0
import HandS.Head1
import HandS.Head2
import HandS.HeadEnd
import HandS.HeadWalk
import PySem.Challenge.RW_faultsheaves_k13_leaves_and_ways
set_option Elab.async false
set_option linter.all false
set_option maxRecDepth 100000
set_option maxHeartbeats 16000000
/-! The text by places; what is kept of a heap; the pot and its digits. -/
namespace Fs
open PySem L2
def top (i : Nat) : Stmt := PySem.Challenge.pw_faultsheaves_k13_leaves_and_ways.main.body.getD i (.Pass ⟨0, 0, 0, 0⟩)

/-! ### heaps -/
/-- all that was tracked stands, but at the places of ex -/
def Keep (ex : List Addr) (H H' : Hp) : Prop := ∀ b o, b ∉ ex → H b = some o → H' b = some o
theorem Keep.refl (ex : List Addr) (H : Hp) : Keep ex H H := fun _ _ _ h => h
theorem Keep.trans {ex : List Addr} {H H1 H2 : Hp} (a : Keep ex H H1) (b : Keep ex H1 H2) : Keep ex H H2 := fun c o n h => b c o n (a c o n h)
theorem Keep.more {ex ex' : List Addr} {H H' : Hp} (a : Keep ex H H') (h : ∀ b, b ∈ ex → b ∈ ex') : Keep ex' H H' := fun c o n q => a c o (fun z => n (h c z)) q
theorem Keep.at {ex : List Addr} {H H' : Hp} (a : Keep ex H H') {b : Addr} {o : HO} (h : H b = some o) (n : b ∉ ex) : H' b = some o := a b o n h
theorem Keep.new {ex : List Addr} {H : Hp} {p : Addr} {o : HO} (h : H p = none) : Keep ex H (upd H p o) := fun b u _ q => by
  rw [upd_ne (ne_of_none q h)]
  exact q
theorem Keep.own {ex : List Addr} {H : Hp} {p : Addr} {o : HO} (h : p ∈ ex) : Keep ex H (upd H p o) := fun b u n q => by
  rw [upd_ne (fun z => n (by rw [z]; exact h))]
  exact q
theorem Keep.newTo {ex : List Addr} {H H1 : Hp} {p : Addr} {o : HO} (a : Keep ex H H1) (h : H1 p = none) : Keep ex H (upd H1 p o) := a.trans (.new h)
theorem Keep.ownTo {ex : List Addr} {H H1 : Hp} {p : Addr} {o : HO} (a : Keep ex H H1) (h : p ∈ ex) : Keep ex H (upd H1 p o) := a.trans (.own h)
theorem Keep.ne {ex : List Addr} {H H' : Hp} (a : Keep ex H H') {b p : Addr} {o : HO} (h : H b = some o) (n : b ∉ ex) (hp : H' p = none) : b ≠ p := ne_of_none (a.at h n) hp
theorem Keep.free {ex : List Addr} {H H' : Hp} (a : Keep ex H H') {p : Addr} (hp : H' p = none) (n : p ∉ ex) : H p = none := by
  cases q : H p with
  | none => rfl
  | some o =>
    rw [a p o n q] at hp
    cases hp
theorem Keep.seq {K : PySem.W.Frag} {ex : List Addr} {H H' : Hp} {a : Addr} {xs : List V} (e : Keep ex H H') (n : a ∉ ex) (h : SqL K H a xs) : SqL K H' a xs := by
  rcases h with (h | ⟨o, h⟩) | h
  · exact .inl (.inl (e _ _ n h))
  · exact .inl (.inr ⟨o, e _ _ n h⟩)
  · exact .inr h
theorem Keep.same {H H' : Hp} (a : Keep [] H H') : Same H H' := fun b o h => a b o (fun z => nomatch z) h
theorem nin1 {a b : Addr} (h : a ≠ b) : a ∉ [b] := fun z => h (List.mem_singleton.mp z)
theorem nin0 {a : Addr} : a ∉ ([] : List Addr) := fun z => nomatch z
theorem in1 {a : Addr} : a ∈ [a] := List.mem_singleton.mpr rfl

/-! ### the pot -/
/-- a list of three whole numbers, none below nought, the second one small, the third one at most n -/
def PotAt (H : Hp) (p : Addr) (n : Nat) : Prop := ∃ a b c : Int, H p = some (.lst [.int a, .int b, .int c]) ∧ 0 ≤ a ∧ 0 ≤ b ∧ b < 2147483647 ∧ 0 ≤ c ∧ c ≤ (n : Int)
theorem PotAt.le {H : Hp} {p : Addr} {n m : Nat} (h : PotAt H p n) (l : n ≤ m) : PotAt H p m := by
  obtain ⟨a, b, c, h1, h2, h3, h4, h5, h6⟩ := h
  exact ⟨a, b, c, h1, h2, h3, h4, h5, by omega⟩
theorem PotAt.some {H : Hp} {p : Addr} {n : Nat} (h : PotAt H p n) : ∃ xs, H p = some (.lst xs) := by
  obtain ⟨a, b, c, h1, _⟩ := h
  exact ⟨_, h1⟩
theorem PotAt.keep {H H' : Hp} {ex : List Addr} {p : Addr} {n : Nat} (h : PotAt H p n) (k : Keep ex H H') (m : p ∉ ex) : PotAt H' p n := by
  obtain ⟨a, b, c, h1, h2⟩ := h
  exact ⟨a, b, c, k.at h1 m, h2⟩

abbrev sPot : Stmt := top 18
abbrev sDigit : Stmt := top 19
abbrev nPot : List Str := ["_law_script", "_law_k", "_law_cell", "_law_seed"]
abbrev nDigit : List Str := ["_law_pot_here", "_law_many", "_law_digit_here", "_law_mixed"]
theorem scPot : FnScope nPot ["_law_script", "_law_k"] (defScope sPot) := ⟨rfl, rfl, rfl, by decide +kernel, rfl, by decide +kernel, by decide +kernel⟩
theorem scDigit : FnScope nDigit ["_law_pot_here", "_law_many"] (defScope sDigit) := ⟨rfl, rfl, rfl, by decide +kernel, rfl, by decide +kernel, by decide +kernel⟩
/-- the script stands to be read; a new pot -/
def spPot (K : PySem.W.Frag) : Sp := fun vs H Q _ => ∃ (a : Addr) (ns : List Int) (k : Nat), vs = [.ref a, .int (k : Int)] ∧ SqL K H a (ns.map V.int) ∧ k < 1000 ∧
  ∀ (p : Addr) (H' : Hp), H p = none → Keep [] H H' → PotAt H' p 0 → Q (.ref p) H'
/-- a digit below many; the pot has one step more at the most -/
def spDigit : Sp := fun vs H Q _ => ∃ (p : Addr) (n : Nat) (m : Int), vs = [.ref p, .int m] ∧ PotAt H p n ∧ n < 2 ^ 40 ∧ 0 < m ∧ m < 1073741824 ∧
  ∀ (d : Int) (H' : Hp), 0 ≤ d → d < m → (∀ b, b ≠ p → H' b = H b) → PotAt H' p (n + 1) → Q (.int d) H'
section
variable {P : Program} {w : World} {K : PySem.W.Frag} {mg : Str → Option Value} {base : Heap}
theorem at3 {K : PySem.W.Frag} {H : Hp} {p : Addr} {a b c : V} (h : H p = some (.lst [a, b, c])) : SqL K H p [a, b, c] := SqL.of h
theorem ok_digit {f : Addr} {fd : FuncData} (F : Fun K "_law_digit" "_law_digit" sDigit f fd) : FnOk P w K mg base CX0 1 f fd ["_law_pot_here", "_law_many"] spDigit := by
  refine F.ok scDigit (fun vs H Q E h => ?_) (fun cdv A outer s H vs Q E hr h => ?_)
  · obtain ⟨p, n, m, rfl, _⟩ := h
    rfl
  · obtain ⟨p, n, m, rfl, ⟨a, b, c, hp, ha, hb, hb2, hc, hc2⟩, hn, hm, hm2, k⟩ := h
    refine ⟨_, pss_cons (ps_if (pt_cmpR op_gt (pe_ix ix_list (pv 0) pe_int (fun _ _ => rfl)) pe_int (nomark _))
        (pss_cons (ps_set (i := 2) scDigit.nd rfl (Or.inl rfl) (pe_op op_mod (pe_ix ix_list (pv 0) pe_int (fun _ _ => rfl)) (pv 1)))
          (pss_cons (ps_asg (pe_op op_fdiv (pe_ix ix_list (pv 0) pe_int (fun _ _ => rfl)) (pv 1)) (pg_sub (pv 0) pe_int set_list))
          (pss_one (ps_ret (pv 2))))) pss_nil)
      (pss_cons (ps_asg (pe_op op_add (pe_ix ix_list (pv 0) pe_int (fun _ _ => rfl)) pe_int) (pg_sub (pv 0) pe_int set_list))
      (pss_cons (ps_asg (pe_op op_mod (pe_op op_add (pe_op op_add (pe_op op_mul (pe_ix ix_list (pv 0) pe_int (fun _ _ => rfl)) pe_int)
          (pe_op op_mul (pe_op op_mul (pe_ix ix_list (pv 0) pe_int (fun _ _ => rfl)) (pe_ix ix_list (pv 0) pe_int (fun _ _ => rfl))) pe_int)) pe_int) pe_int) (pg_sub (pv 0) pe_int set_list))
      (pss_cons (ps_set (i := 3) scDigit.nd rfl (Or.inl rfl) (pe_op op_mod (pe_op op_mul (pe_ix ix_list (pv 0) pe_int (fun _ _ => rfl)) (pe_ix ix_list (pv 0) pe_int (fun _ _ => rfl))) pe_int))
      (pss_one (ps_ret (pe_op op_mod (pe_op op_fdiv (pe_op op_mod (pe_op op_mul (pv 3) (pe_op op_add (pe_op op_mod (pv 3) pe_int) pe_int)) pe_int) pe_int) (pv 1))))))), ?_⟩
    have h3 := at3 (K := K) hp
    refine ⟨_, rfl, p, _, _, _, rfl, rfl, h3, rfl, _, _, rfl, rfl, _, rfl, ?_⟩
    refine ite2 (fun hd => ?_) (fun hd => ?_)
    · refine ⟨_, rfl, p, _, _, _, rfl, rfl, h3, rfl, _, rfl, a, m, rfl, rfl, hm, ?_⟩
      refine ⟨_, rfl, p, _, _, _, rfl, rfl, h3, rfl, _, rfl, a, m, rfl, rfl, ⟨hm, hm2⟩, ?_⟩
      refine ⟨_, rfl, p, _, _, 0, rfl, rfl, hp, rfl, ?_⟩
      refine ⟨_, rfl, ?_⟩
      refine k (a % m) _ (Int.emod_nonneg a (by omega)) (Int.emod_lt_of_pos a hm) (fun b hb => upd_ne hb) ⟨a / m, b, c, upd_same, Int.ediv_nonneg ha (by omega), hb, hb2, hc, by omega⟩
    · refine ⟨_, rfl, p, _, _, _, rfl, rfl, h3, rfl, _, _, rfl, rfl, ?_⟩
      refine ⟨_, rfl, p, _, _, 2, rfl, rfl, hp, rfl, ?_⟩
      have e1 : upd H p (.lst [.int a, .int b, .int (c + 1)]) p = some (.lst [.int a, .int b, .int (c + 1)]) := upd_same
      have h4 := at3 (K := K) e1
      have hcM : -(2 ^ 64) < c + 1 ∧ c + 1 < 2 ^ 64 := by omega
      refine ⟨_, rfl, p, _, _, _, rfl, rfl, h4, rfl, _, _, rfl, rfl, .inl (by omega), ?_⟩
      refine ⟨_, rfl, p, _, _, _, rfl, rfl, h4, rfl, _, rfl, p, _, _, _, rfl, rfl, h4, rfl, _, _, rfl, rfl, .inl hcM, ?_⟩
      refine ⟨_, _, rfl, rfl, .inr (by decide), _, _, rfl, rfl, _, _, rfl, rfl, _, _, rfl, rfl, (by show (0 : Int) < 2147483647; decide), ?_⟩
      refine ⟨_, rfl, p, _, _, 1, rfl, rfl, e1, rfl, ?_⟩
      have f1 := Int.emod_nonneg (b * 39373 + (c + 1) * (c + 1) * 104729 + 7) (by decide : (2147483647 : Int) ≠ 0)
      have f2 := Int.emod_lt_of_pos (b * 39373 + (c + 1) * (c + 1) * 104729 + 7) (by decide : (0 : Int) < 2147483647)
      have e2 : upd (upd H p (.lst [.int a, .int b, .int (c + 1)])) p (.lst [.int a, .int ((b * 39373 + (c + 1) * (c + 1) * 104729 + 7) % 2147483647), .int (c + 1)]) p = some (.lst [.int a, .int ((b * 39373 + (c + 1) * (c + 1) * 104729 + 7) % 2147483647), .int (c + 1)]) := upd_same
      have h5 := at3 (K := K) e2
      refine ⟨_, rfl, p, _, _, _, rfl, rfl, h5, rfl, _, rfl, p, _, _, _, rfl, rfl, h5, rfl, _, _, rfl, rfl, .inl ⟨Int.lt_of_lt_of_le (by decide) f1, Int.lt_trans f2 (by decide)⟩, _, _, rfl, rfl, (by show (0 : Int) < 2147483629; decide), ?_⟩
      have mb : ∀ z : Int, -(2 ^ 64) < z % 2147483629 ∧ z % 2147483629 < 2 ^ 64 := fun z => by
        have g1 := Int.emod_nonneg z (by decide : (2147483629 : Int) ≠ 0)
        have g2 := Int.emod_lt_of_pos z (by decide : (0 : Int) < 2147483629)
        omega
      refine ⟨_, rfl, _, rfl, _, _, rfl, rfl, (by show (0 : Int) < 65521; decide), _, _, rfl, rfl, ?_⟩
      refine ⟨_, _, rfl, rfl, .inl (mb _), _, _, rfl, rfl, (by show (0 : Int) < 2147483587; decide), _, _, rfl, rfl, ⟨by decide, by decide⟩, _, rfl, _, _, rfl, rfl, hm, ?_⟩
      refine k _ _ (Int.emod_nonneg _ (by omega)) (Int.emod_lt_of_pos _ hm) (fun z hz => by rw [upd_ne hz, upd_ne hz]) ⟨a, _, c + 1, upd_same, ha, f1, f2, by omega, by omega⟩
theorem ok_pot {f : Addr} {fd : FuncData} (F : Fun K "_law_pot" "_law_pot" sPot f fd) (mL : mg "len" = none) (mM : mg "max" = none) : FnOk P w K mg base CX0 1 f fd ["_law_script", "_law_k"] (spPot K) := by
  refine F.ok scPot (fun vs H Q E h => ?_) (fun cdv A outer s H vs Q E hr h => ?_)
  · obtain ⟨a, ns, k, rfl, _⟩ := h
    rfl
  · obtain ⟨a, ns, k, rfl, hS, hk, kk⟩ := h
    refine ⟨_, pss_cons (ps_set (i := 2) scPot.nd rfl (Or.inl rfl) pe_int)
      (pss_cons (ps_if (pt_cmpR op_lt (pv 1) (pe_callB call_len_seq (by rfl) mL PySem.boot_len (pa_cons (pv 0) pa_nil)) (nomark _))
        (pss_one (ps_set (i := 2) scPot.nd rfl (Or.inl rfl) (pe_ix ix_list (pv 0) (pv 1) (fun _ _ => rfl)))) pss_nil)
      (pss_cons (ps_set (i := 3) scPot.nd rfl (Or.inl rfl) (pe_op op_mod (pe_op op_add (pe_op op_add (pe_op op_mul (pe_op op_mod (pv 2) pe_int) pe_int) (pe_op op_mul (pe_op op_mul pe_int (pv 1)) (pv 1))) pe_int) pe_int))
      (pss_one (ps_ret (pe_lst (pa_cons (pe_callB (call_max2 rfl) (by rfl) mM (by decide +kernel) (pa_cons pe_int (pa_cons (pe_op op_sub (pv 2) (pe_op op_pow pe_int pe_int)) pa_nil))) (pa_cons (pv 3) (pa_cons pe_int pa_nil)))))))), ?_⟩
    have fin : ∀ c : Int, tSeq (tAsg (tOp (rI (fun _ j => 0 < j) fun i j => .int (i % j)) (tOp (rI0 fun i j => .int (i + j)) (tOp (rI0 fun i j => .int (i + j)) (tOp (rI CMul fun i j => .int (i * j)) (tOp (rI (fun _ j => 0 < j) fun i j => .int (i % j)) (tVar 2) (tC (.int 2147483629))) (tC (.int 48271))) (tOp (rI CMul fun i j => .int (i * j)) (tOp (rI CMul fun i j => .int (i * j)) (tC (.int 7919)) (tVar 1)) (tVar 1))) (tC (.int 13))) (tC (.int 2147483647))) (gName 3))
        (tRet (tLst (tCons (tCB (fun xs H Q => ∃ i j, xs = [.int i, .int j] ∧ Q (.int (if j > i then j else i)) H) (tCons (tC (.int 0)) (tCons (tOp (rI0 fun i j => .int (i - j)) (tVar 2) (tOp (rI CPow fun i j => .int (i ^ j.toNat)) (tC (.int 10)) (tC (.int 18)))) tNil))) (tCons (tVar 3) (tCons (tC (.int 0)) tNil))))) { nx := fun _ H' => Q .non H', rt := Q } [some (.ref a), some (.int (k : Int)), some (.int c), none] H := by
      intro c
      refine ⟨_, rfl, _, _, rfl, rfl, (by show (0 : Int) < 2147483629; decide), _, _, rfl, rfl, .inr (by decide), _, rfl, _, _, rfl, rfl, .inl (by decide), ?_⟩
      refine ⟨_, rfl, _, _, rfl, rfl, .inr (by omega), _, _, rfl, rfl, _, _, rfl, rfl, _, _, rfl, rfl, (by show (0 : Int) < 2147483647; decide), ?_⟩
      refine ⟨_, rfl, _, _, rfl, rfl, ⟨by decide, by decide, by decide⟩, _, _, rfl, rfl, _, _, rfl, ?_⟩
      refine ⟨_, rfl, (by show 3 ≤ sizeLine; decide), fun p hp => ?_⟩
      refine kk p _ hp (Keep.new hp) ⟨_, _, _, upd_same, ?_, Int.emod_nonneg _ (by decide), Int.emod_lt_of_pos _ (by decide), Int.le_refl _, Int.le_refl _⟩
      split <;> omega
    refine ⟨_, rfl, _, rfl, a, _, rfl, .inl hS, _, _, rfl, rfl, _, rfl, ?_⟩
    refine ite2 (fun hd => ?_) (fun hd => ?_)
    · have hd2 : k < ns.length := by
        have z := of_decide_eq_true hd
        rw [List.length_map] at z
        omega
      refine ⟨_, rfl, _, rfl, a, _, _, (V.int ns[k]), rfl, rfl, hS, atI_nat (by rw [List.getElem?_map, List.getElem?_eq_getElem hd2]; rfl), ?_⟩
      exact fin _
    · exact fin 0
end
end Fs
/-! Names and texts by digits. -/
namespace Fs
open PySem L2 TL
abbrev sText : Stmt := top 20
abbrev sName : Stmt := top 21
abbrev nText : List Str := ["_law_pot_here", "_law_signs", "_law_size", "_law_k"]
abbrev nName : List Str := ["_law_pot_here", "_law_k"]
theorem scText : FnScope nText ["_law_pot_here"] (defScope sText) := ⟨rfl, rfl, rfl, by decide +kernel, rfl, by decide +kernel, by decide +kernel⟩
theorem scName : FnScope nName ["_law_pot_here"] (defScope sName) := ⟨rfl, rfl, rfl, by decide +kernel, rfl, by decide +kernel, by decide +kernel⟩
/-- a sign of a to z -/
def small (c : Nat) : Bool := decide (97 ≤ c) && decide (c ≤ 122)
/-- a text of one to eight small letters -/
def IsNm (z : Str) : Prop := 1 ≤ z.cps.toList.length ∧ z.cps.toList.length ≤ 8 ∧ ∀ c ∈ z.cps.toList, small c = true
/-- a text of at most forty signs, none of them beyond the first hundred and twenty-eight -/
def IsTx (z : Str) : Prop := z.cps.toList.length ≤ 40 ∧ ∀ c ∈ z.cps.toList, c < 128
/-- the pot alone is another -/
def spName : Sp := fun vs H Q _ => ∃ (p : Addr) (n : Nat), vs = [.ref p] ∧ PotAt H p n ∧ n < 2 ^ 39 ∧
  ∀ (z : Str) (H' : Hp), IsNm z → Keep [p] H H' → PotAt H' p (n + 9) → Q (.str z) H'
def spText : Sp := fun vs H Q _ => ∃ (p : Addr) (n : Nat), vs = [.ref p] ∧ PotAt H p n ∧ n < 2 ^ 39 ∧
  ∀ (z : Str) (H' : Hp), IsTx z → Keep [p] H H' → PotAt H' p (n + 43) → Q (.str z) H'
abbrev one (c : Nat) : Str := ⟨#[c]⟩
theorem tyes {σ : L2.St} {H : Hp} {A B : Hp → Prop} (h : A H) : tYes σ H fun b H3 => if b = true then A H3 else B H3 := by
  show if true = true then A H else B H
  exact iteT h
theorem joinL_ones : ∀ cs : List Nat, joinL [] (cs.map fun c => [c]) = cs
  | [] => rfl
  | [c] => rfl
  | c :: d :: r => by
    have ih := joinL_ones (d :: r)
    show [c] ++ ([] ++ joinL [] ((d :: r).map fun c => [c])) = c :: d :: r
    rw [ih]
    rfl
theorem tl_empty : tl (Str.ofString "") = [] := by decide +kernel
theorem join_ones (cs : List Nat) : (Txt.join (Str.ofString "") (cs.map one)).cps.toList = cs := by
  have h := tl_join (Str.ofString "") (cs.map one)
  rw [tl_empty, List.map_map] at h
  have e : (cs.map (tl ∘ one)) = cs.map fun c => [c] := List.map_congr_left fun c _ => rfl
  rw [e, joinL_ones] at h
  rw [join_eq]
  exact h
theorem sum_ones (cs : List Nat) : ((cs.map one).map (·.length)).sum = cs.length := by
  induction cs with
  | nil => rfl
  | cons c r ih =>
    rw [List.map_cons, List.map_cons, List.sum_cons, ih, List.length_cons]
    show 1 + r.length = r.length + 1
    omega
theorem one_map (cs : List Nat) : (cs.map one).map V.str = cs.map fun c => V.str (one c) := List.map_map ..
theorem digit_at {l : List Nat} {d : Int} (h0 : 0 ≤ d) (h1 : d < (l.length : Int)) : ∃ c, c ∈ l ∧ atI l d = some c := by
  have h2 : d.toNat < l.length := by omega
  refine ⟨l[d.toNat], List.getElem_mem h2, ?_⟩
  have e : ((d.toNat : Nat) : Int) = d := Int.toNat_of_nonneg h0
  have h3 := atI_nat (List.getElem?_eq_getElem h2)
  rw [e] at h3
  exact h3
theorem signs_turn {tz : TE} {σ2 : St} {H : Hp} {p D : Addr} {n : Nat} {z : Str} {m : Int} {acc : List V} {R : Hp → Prop} (hσ : σ2[0]? = some (some (.ref p))) (hz : ∀ (H : Hp) (Q : VK), Q (.str z) H → tz σ2 H Q)
    (hp : PotAt H p n) (hn : n < 2 ^ 40) (hm : m = (z.cps.toList.length : Int)) (hm0 : 0 < m) (hm1 : m < 1000) (hD : H D = some (.lst acc)) (ha : acc.length < sizeLine) (np : D ≠ p)
    (go : ∀ (c : Nat) (H' : Hp), c ∈ z.cps.toList → (∀ b, b ≠ p → H' b = H b) → PotAt H' p (n + 1) → R (upd H' D (.lst (acc ++ [.str (one c)])))) :
    tOp rIxS tz (tCall spDigit [] E0 (tCons (tVar 0) (tCons (tC (.int m)) tNil))) σ2 H fun y H4 => ∃ acc, H4 D = some (.lst acc) ∧ acc.length < sizeLine ∧ R (upd H4 D (.lst (acc ++ [y]))) := by
  refine hz H _ ⟨_, hσ, p, n, m, rfl, hp, hn, hm0, by omega, fun d H' d0 d1 hk hp' => ?_⟩
  obtain ⟨c, hc, he⟩ := digit_at (l := z.cps.toList) d0 (by omega)
  have hzl : z.length = z.cps.toList.length := by simp [Str.length]
  refine ⟨z, d, c, rfl, rfl, ?_, he, acc, by rw [hk D np]; exact hD, ha, go c H' hc hk hp'⟩
  exact Nat.le_of_lt (Nat.lt_of_lt_of_le (by omega : z.length < 1000) (by decide))
/-- the whole list of signs: an invariant for lc_range -/
def SgAt (H0 : Hp) (p D : Addr) (n : Nat) (g : Nat → Prop) (i : Nat) (H : Hp) : Prop :=
  ∃ cs : List Nat, cs.length = i ∧ (∀ c ∈ cs, g c) ∧ H D = some (.lst (cs.map fun c => V.str (one c))) ∧ PotAt H p (n + i) ∧ Keep [p] H0 H
theorem SgAt.start {H0 : Hp} {p D : Addr} {n : Nat} {g : Nat → Prop} (hp : PotAt H0 p n) (hD : H0 D = none) : SgAt H0 p D n g 0 (upd H0 D (.lst [])) := by
  obtain ⟨xs, e⟩ := hp.some
  have np : p ≠ D := ne_of_none e hD
  exact ⟨[], rfl, fun _ h => absurd h List.not_mem_nil, upd_same, hp.keep (ex := []) (Keep.new hD) (fun z => nomatch z), Keep.new hD⟩
theorem SgAt.next {H0 H H' : Hp} {p D : Addr} {n : Nat} {g : Nat → Prop} {i : Nat} {c : Nat} {cs : List Nat} (hD : H0 D = none) (np : D ≠ p) (hl : cs.length = i) (hg : ∀ c ∈ cs, g c) (k : Keep [p] H0 H) (hc : g c) (hk : ∀ b, b ≠ p → H' b = H b) (hp : PotAt H' p (n + i + 1)) :
    SgAt H0 p D n g (i + 1) (upd H' D (.lst ((cs.map fun c => V.str (one c)) ++ [.str (one c)]))) := by
  refine ⟨cs ++ [c], by rw [List.length_append, hl]; rfl, fun x hx => ?_, by rw [upd_same, List.map_append]; rfl, ?_, ?_⟩
  · rcases List.mem_append.mp hx with h | h
    · exact hg x h
    · rw [List.mem_singleton.mp h]
      exact hc
  · obtain ⟨a, b, c, h1, h2⟩ := hp
    exact ⟨a, b, c, by rw [upd_ne (Ne.symm np)]; exact h1, h2⟩
  · intro b o hb e
    have nb : b ≠ p := fun z => hb (by rw [z]; exact in1)
    rw [upd_ne (ne_of_none e hD), hk b nb]
    exact k b o hb e
section
variable {P : Program} {w : World} {K : PySem.W.Frag} {mg : Str → Option Value} {base : Heap}
theorem letters_small : ∀ c ∈ (Str.ofString "abcdefghijklmnopqrstuvwxyz").cps.toList, small c = true := by decide +kernel
theorem letters_len : (Str.ofString "abcdefghijklmnopqrstuvwxyz").cps.toList.length = 26 := by decide +kernel
theorem ok_name {f fD : Addr} {fd fdD : FuncData} (F : Fun K "_law_name" "_law_name" sName f fd) (FD : FnOk P w K mg base CX0 1 fD fdD ["_law_pot_here", "_law_many"] spDigit) (mD : mg "_law_digit" = some (.ref fD)) (kD : PySem.W.keepIn K (.ref fD) = true) (bD : Binds K fdD ["_law_pot_here", "_law_many"] []) (mR : mg "range" = none) :
    FnOk P w K mg base CX0 2 f fd ["_law_pot_here"] spName := by
  refine F.ok scName (fun vs H Q E h => ?_) (fun cdv A outer s H vs Q E hr h => ?_)
  · obtain ⟨p, n, rfl, _⟩ := h
    rfl
  · obtain ⟨p, n, rfl, hp, hn, kk⟩ := h
    refine ⟨_, pss_one (ps_ret (pe_join pe_str (pe_lc (own := [("_law_k", 1)]) (g := gName 1) (tt := tYes) rfl scName.nd
      (pi_range1 rfl mR (pa_cons (pe_op op_add pe_int (pe_call FD hr rfl mD kD bD .nil pass0 (pa_cons (pv 0) (pa_cons pe_int pa_nil)))) pa_nil))
      (blkOk_by (N := nName) (sc := defScope sName) (by decide +kernel)) (fun _ _ _ _ _ => pg_name (i := 1) scName.nd rfl (Or.inl rfl)) (fun _ _ _ _ _ => pts_nil)
      (fun _ _ _ _ _ => pe_ix ix_str pe_str (pe_call FD hr rfl mD kD bD .nil pass0 (pa_cons (pv 0) (pa_cons pe_int pa_nil))) (fun _ _ => rfl))))), ?_⟩
    refine ⟨⟨_, rfl⟩, _, rfl, p, n, 8, rfl, hp, by omega, by decide, by decide, fun d H1 d0 d1 hk hp1 => ?_⟩
    refine ⟨_, _, rfl, rfl, _, rfl, by omega, by omega, fun D hD => ?_⟩
    obtain ⟨xs, ep⟩ := hp1.some
    have np : D ≠ p := Ne.symm (ne_of_none ep hD)
    obtain ⟨m, hm⟩ : ∃ m : Nat, (1 + d : Int) = (m : Int) := ⟨(1 + d).toNat, by omega⟩
    have em : (1 + d : Int).toNat = m := by omega
    rw [em]
    refine lc_range (lo := 0) (n := m) (SgAt H1 p D (n + 1) fun c => small c = true) (SgAt.start hp1 hD) (fun i H2 hi hI => ?_) (fun H2 hI => ?_)
    · obtain ⟨cs, hl, hg, eD, hp2, k2⟩ := hI
      refine ⟨rfl, tyes ?_⟩
      refine signs_turn (z := Str.ofString "abcdefghijklmnopqrstuvwxyz") (n := n + 1 + i) rfl (fun _ _ q => q) hp2 (by omega) (by rw [letters_len]; rfl) (by decide) (by decide) eD ?_ np fun c H' hc hk' hp' => ?_
      · rw [List.length_map, hl]
        exact Nat.lt_of_lt_of_le (by omega : i < 1000) (by decide)
      · exact SgAt.next hD np hl hg k2 (letters_small c hc) hk' hp'
    · obtain ⟨cs, hl, hg, eD, hp2, k2⟩ := hI
      refine ⟨Str.ofString "", D, cs.map one, rfl, rfl, .inl (SqL.of (by rw [one_map]; exact eD)), ?_, ?_⟩
      · rw [sum_ones, List.length_map, show (Str.ofString "").length = 0 by decide +kernel]
        omega
      · refine kk _ _ ⟨?_, ?_, ?_⟩ (Keep.trans (fun b o hb e => by rw [hk b (fun z => hb (by rw [z]; exact in1))]; exact e) k2) (hp2.le (by omega))
        · rw [join_ones, hl]; omega
        · rw [join_ones, hl]; omega
        · rw [join_ones]; exact hg
theorem signs_ascii : ∀ c ∈ (Str.ofString " !\"#$&'()*+,-./0123456789:;<=>?@ABCDEFGHIJKLMNOPQRSTUVWXYZ[\\]^_`abcdefghijklmnopqrstuvwxyz{|}~").cps.toList, c < 128 := by decide +kernel
theorem signs_len : (Str.ofString " !\"#$&'()*+,-./0123456789:;<=>?@ABCDEFGHIJKLMNOPQRSTUVWXYZ[\\]^_`abcdefghijklmnopqrstuvwxyz{|}~").cps.toList.length = 94 := by decide +kernel
theorem ok_text {f fD : Addr} {fd fdD : FuncData} (F : Fun K "_law_text" "_law_text" sText f fd) (FD : FnOk P w K mg base CX0 1 fD fdD ["_law_pot_here", "_law_many"] spDigit) (mD : mg "_law_digit" = some (.ref fD)) (kD : PySem.W.keepIn K (.ref fD) = true) (bD : Binds K fdD ["_law_pot_here", "_law_many"] []) (mR : mg "range" = none) (mI : mg "int" = none) :
    FnOk P w K mg base CX0 2 f fd ["_law_pot_here"] spText := by
  refine F.ok scText (fun vs H Q E h => ?_) (fun cdv A outer s H vs Q E hr h => ?_)
  · obtain ⟨p, n, rfl, _⟩ := h
    rfl
  · obtain ⟨p, n, rfl, hp, hn, kk⟩ := h
    refine ⟨_, pss_cons (ps_set (i := 1) scText.nd rfl (Or.inr rfl) pe_str)
      (pss_cons (ps_set (i := 2) scText.nd rfl (Or.inl rfl) (pe_ix ix_list (pe_lst (pa_cons (pe_call FD hr rfl mD kD bD .nil pass0 (pa_cons (pv 0) (pa_cons pe_int pa_nil))) (pa_cons (pe_call FD hr rfl mD kD bD .nil pass0 (pa_cons (pv 0) (pa_cons pe_int pa_nil))) pa_nil)))
        (pe_callTy call_int1 (by rfl) mI (by decide +kernel) (pa_cons (pe_cmpR op_eq (pe_call FD hr rfl mD kD bD .nil pass0 (pa_cons (pv 0) (pa_cons pe_int pa_nil))) pe_int (nomark _)) pa_nil)) (fun _ _ => rfl)))
      (pss_one (ps_ret (pe_join pe_str (pe_lc (own := [("_law_k", 3)]) (g := gName 3) (tt := tYes) rfl scText.nd
      (pi_range1 rfl mR (pa_cons (pv 2) pa_nil))
      (blkOk_by (N := nText) (sc := defScope sText) (by decide +kernel)) (fun _ _ _ _ _ => pg_name (i := 3) scText.nd rfl (Or.inl rfl)) (fun _ _ _ _ _ => pts_nil)
      (fun _ _ _ _ _ => pe_ix ix_str (pv 1) (pe_call FD hr rfl mD kD bD .nil pass0 (pa_cons (pv 0) (pa_cons pe_int pa_nil))) (fun _ _ => rfl))))))), ?_⟩
    refine ⟨_, rfl, p, n, 4, rfl, hp, by omega, by decide, by decide, fun d1 H1 a0 a1 hk1 hp1 => ?_⟩
    refine ⟨_, rfl, p, n + 1, 41, rfl, hp1, by omega, by decide, by decide, fun d2 H2 b0 b1 hk2 hp2 => ?_⟩
    refine ⟨(by show 2 ≤ sizeLine; decide), fun L hL => ?_⟩
    obtain ⟨xs2, ep2⟩ := hp2.some
    have npL : p ≠ L := ne_of_none ep2 hL
    refine ⟨_, rfl, p, n + 2, 5, rfl, hp2.keep (ex := []) (Keep.new hL) nin0, by omega, by decide, by decide, fun d3 H3 c0 c1 hk3 hp3 => ?_⟩
    have eL : H3 L = some (.lst [.int d1, .int d2]) := by rw [hk3 L npL.symm, upd_same]
    have k3 : Keep [p] H H3 := fun b o hb e => by
      have nb : b ≠ p := fun z => hb (by rw [z]; exact in1)
      have e1 : H1 b = some o := by rw [hk1 b nb]; exact e
      have e2 : H2 b = some o := by rw [hk2 b nb]; exact e1
      rw [hk3 b nb, upd_ne (ne_of_none e2 hL)]
      exact e2
    refine ⟨rfl, ?_⟩
    have fin : ∀ d : Int, 0 ≤ d → d ≤ 40 → tRet (tM1 (fun x xs H Q => ∃ a p, ∃ ys : List Str, x = .str a ∧ xs = [.ref p] ∧ (SqL K H p (ys.map V.str) ∨ SqT K H p (ys.map V.str)) ∧ (ys.map (·.length)).sum + ys.length * a.length ≤ 16777216 ∧ Q (.str (Txt.join a ys)) H) (tC (.str (Str.ofString "")))
        (tLc (iRng1 (tCons (tVar 2) tNil)) (gName 3) tYes (tOp rIxS (tVar 1) (tCall spDigit [] E0 (tCons (tVar 0) (tCons (tC (.int 94)) tNil)))) [3])) { nx := fun _ H' => Q .non H', rt := Q } [some (.ref p), some (.str (Str.ofString " !\"#$&'()*+,-./0123456789:;<=>?@ABCDEFGHIJKLMNOPQRSTUVWXYZ[\\]^_`abcdefghijklmnopqrstuvwxyz{|}~")), some (.int d), none] H3 := by
      intro d e0 e1
      refine ⟨⟨_, rfl⟩, _, rfl, _, rfl, by omega, by omega, fun D hD => ?_⟩
      obtain ⟨xs, ep⟩ := hp3.some
      have np : D ≠ p := Ne.symm (ne_of_none ep hD)
      obtain ⟨m, rfl⟩ : ∃ m : Nat, d = (m : Int) := ⟨d.toNat, by omega⟩
      rw [Int.toNat_natCast]
      refine lc_range (lo := 0) (n := m) (SgAt H3 p D (n + 3) fun c => c < 128) (SgAt.start hp3 hD) (fun i H4 hi hI => ?_) (fun H4 hI => ?_)
      · obtain ⟨cs, hl, hg, eD, hp4, k4⟩ := hI
        refine ⟨rfl, tyes ?_⟩
        refine signs_turn (z := Str.ofString " !\"#$&'()*+,-./0123456789:;<=>?@ABCDEFGHIJKLMNOPQRSTUVWXYZ[\\]^_`abcdefghijklmnopqrstuvwxyz{|}~") (n := n + 3 + i) rfl (fun _ _ q => ⟨_, rfl, q⟩) hp4 (by omega) (by rw [signs_len]; rfl) (by decide) (by decide) eD ?_ np fun c H' hc hk' hp' => ?_
        · rw [List.length_map, hl]
          exact Nat.lt_of_lt_of_le (by omega : i < 1000) (by decide)
        · exact SgAt.next hD np hl hg k4 (signs_ascii c hc) hk' hp'
      · obtain ⟨cs, hl, hg, eD, hp4, k4⟩ := hI
        refine ⟨Str.ofString "", D, cs.map one, rfl, rfl, .inl (SqL.of (by rw [one_map]; exact eD)), ?_, ?_⟩
        · rw [sum_ones, List.length_map, show (Str.ofString "").length = 0 by decide +kernel]
          omega
        · refine kk _ _ ⟨?_, ?_⟩ (k3.trans k4) (hp4.le (by omega))
          · rw [join_ones, hl]; omega
          · rw [join_ones]; exact hg
    by_cases hz : V.int d3 = V.int 0
    · refine .inr ⟨_, rfl, ?_⟩
      rw [decide_eq_true hz]
      exact ⟨L, _, _, _, rfl, rfl, SqL.of eL, rfl, fin d2 b0 (by omega)⟩
    · refine .inr ⟨_, rfl, ?_⟩
      rw [decide_eq_false hz]
      exact ⟨L, _, _, _, rfl, rfl, SqL.of eL, rfl, fin d1 a0 (by omega)⟩
end
end Fs
/-! A name that isn't taken. -/
namespace Fs
open PySem L2 TL
abbrev sFresh : Stmt := top 22
abbrev nFresh : List Str := ["_law_pot_here", "_law_taken", "_law_name_here", "_law_letters", "_law_k"]
theorem scFresh : FnScope nFresh ["_law_pot_here", "_law_taken"] (defScope sFresh) := ⟨rfl, rfl, rfl, by decide +kernel, rfl, by decide +kernel, by decide +kernel⟩
def cand (j : Nat) : Str := ⟨#[122, 97 + j / 26, 97 + j % 26]⟩
theorem cand_nm {j : Nat} (h : j < 260) : IsNm (cand j) := by
  refine ⟨by show 1 ≤ 3; decide, by show 3 ≤ 8; decide, fun c hc => ?_⟩
  have h1 : c = 122 ∨ c = 97 + j / 26 ∨ c = 97 + j % 26 := by
    have z : c ∈ [122, 97 + j / 26, 97 + j % 26] := hc
    simpa using z
  unfold small
  simp only [Bool.and_eq_true, decide_eq_true_eq]
  omega
theorem cand_inj {i j : Nat} (e : cand i = cand j) : i = j := by
  have h : [122, 97 + i / 26, 97 + i % 26] = [122, 97 + j / 26, 97 + j % 26] := congrArg (fun s : Str => s.cps.toList) e
  simp at h
  omega
theorem len_le_of_sub {α : Type} [DecidableEq α] : ∀ {l ts : List α}, l.Nodup → (∀ x ∈ l, x ∈ ts) → l.length ≤ ts.length
  | [], _, _, _ => Nat.zero_le _
  | x :: l, ts, nd, h => by
    have hx := h x List.mem_cons_self
    obtain ⟨h1, h2⟩ := List.nodup_cons.mp nd
    have ih := len_le_of_sub (ts := ts.erase x) h2 fun y hy => by
      have ne : y ≠ x := fun z => h1 (by rw [← z]; exact hy)
      exact (List.mem_erase_of_ne ne).mpr (h y (List.mem_cons_of_mem _ hy))
    rw [List.length_erase_of_mem hx] at ih
    have hp : 0 < ts.length := List.length_pos_iff.mpr (fun z => by rw [z] at hx; cases hx)
    show l.length + 1 ≤ ts.length
    omega
theorem cand_left {ts : List Str} (h : ts.length ≤ 100) : ¬ ∀ j, j < 260 → cand j ∈ ts := fun q => by
  have nd : ((List.range 260).map cand).Nodup := by
    refine List.Pairwise.map (R := fun a b => a ≠ b) cand (fun a b hab e => hab (cand_inj e)) List.nodup_range
  have z := len_le_of_sub nd (ts := ts) fun x hx => by
    obtain ⟨j, hj, e⟩ := List.mem_map.mp hx
    rw [← e]
    exact q j (List.mem_range.mp hj)
  rw [List.length_map, List.length_range] at z
  omega
theorem eqV_str (a b : Str) : eqV (.str a) (.str b) = decide (a = b) := by
  by_cases h : a = b
  · rw [decide_eq_true h, h]; simp [eqV]
  · rw [decide_eq_false h]; simp [eqV, h]
theorem inV_strs (z : Str) (ts : List Str) : inV (.str z) (ts.map V.str) = decide (z ∈ ts) := by
  unfold inV
  induction ts with
  | nil => simp
  | cons t r ih =>
    rw [List.map_cons, List.any_cons, ih, eqV_str]
    by_cases h1 : t = z
    · simp [h1]
    · have h2 : ¬ z = t := fun e => h1 e.symm
      simp [h1, h2]
theorem flat_strs (ts : List Str) : (ts.map V.str).all flatV = true := by
  rw [List.all_eq_true]
  intro x hx
  obtain ⟨t, _, e⟩ := List.mem_map.mp hx
  rw [← e]
  rfl
/-- the pot and a list of texts: a name that is none of them -/
def spFresh (K : PySem.W.Frag) : Sp := fun vs H Q _ => ∃ (p t : Addr) (n : Nat) (ts : List Str), vs = [.ref p, .ref t] ∧ PotAt H p n ∧ n < 2 ^ 38 ∧ H t = some (.lst (ts.map V.str)) ∧ t ≠ p ∧ ts.length ≤ 100 ∧
  ∀ (z : Str) (H' : Hp), IsNm z → z ∉ ts → Keep [p] H H' → PotAt H' p (n + 9) → Q (.str z) H'
theorem letter_at {i : Nat} (h : i < 26) : (Str.ofString "abcdefghijklmnopqrstuvwxyz").cps.toList[i]? = some (97 + i) := by
  have q : ∀ i, i < 26 → (Str.ofString "abcdefghijklmnopqrstuvwxyz").cps.toList[i]? = some (97 + i) := by decide +kernel
  exact q i h
theorem cand_eq (j : Nat) : ((Str.ofString "z" ++ one (97 + j / 26)) ++ one (97 + j % 26) : Str) = cand j := by
  have h : (Str.ofString "z") = ⟨#[122]⟩ := by decide +kernel
  rw [h]
  rfl
section
variable {P : Program} {w : World} {K : PySem.W.Frag} {mg : Str → Option Value} {base : Heap}
theorem ok_fresh {f fN : Addr} {fd fdN : FuncData} (F : Fun K "_law_fresh" "_law_fresh" sFresh f fd) (FN : FnOk P w K mg base CX0 2 fN fdN ["_law_pot_here"] spName) (mN : mg "_law_name" = some (.ref fN)) (kN : PySem.W.keepIn K (.ref fN) = true) (bN : Binds K fdN ["_law_pot_here"] []) (mR : mg "range" = none) :
    FnOk P w K mg base CX0 3 f fd ["_law_pot_here", "_law_taken"] (spFresh K) := by
  refine F.ok scFresh (fun vs H Q E h => ?_) (fun cdv A outer s H vs Q E hr h => ?_)
  · obtain ⟨p, t, n, ts, rfl, _⟩ := h
    rfl
  · obtain ⟨p, t, n, ts, rfl, hp, hn, ht, ntp, hl, kk⟩ := h
    refine ⟨_, pss_cons (ps_set (i := 2) scFresh.nd rfl (Or.inl rfl) (pe_call FN hr rfl mN kN bN .nil pass0 (pa_cons (pv 0) pa_nil)))
      (pss_cons (ps_set (i := 3) scFresh.nd rfl (Or.inl rfl) pe_str)
      (pss_cons (ps_for PassesOwn.never rfl (pi_range1 rfl mR (pa_cons pe_int pa_nil)) (pg_name (i := 4) scFresh.nd rfl (Or.inl rfl))
        (pss_one (ps_if (pt_cmpR op_in_seq (pv 2) (pv 1) rfl) (pss_one (ps_set (i := 2) scFresh.nd rfl (Or.inl rfl) (pe_op op_add_str (pe_op op_add_str pe_str (pe_ix ix_str (pv 3) (pe_op op_fdiv (pv 4) pe_int) (fun _ _ => rfl))) (pe_ix ix_str (pv 3) (pe_op op_mod (pv 4) pe_int) (fun _ _ => rfl))))) pss_nil)))
      (pss_one (ps_ret (pv 2))))), ?_⟩
    refine ⟨_, rfl, p, n, rfl, hp, by omega, fun z0 H1 hz0 k1 hp1 => ?_⟩
    have ht1 : H1 t = some (.lst (ts.map V.str)) := k1.at ht (nin1 ntp)
    refine ⟨260, rfl, by decide, by decide, for_range (lo := 0) (n := 260) (fun i σ H' => H' = H1 ∧ ∃ (z : Str) (kv : Option V), σ = [some (.ref p), some (.ref t), some (.str z), some (.str (Str.ofString "abcdefghijklmnopqrstuvwxyz")), kv] ∧ IsNm z ∧ (z ∉ ts ∨ ∀ j, j < i → cand j ∈ ts)) ⟨rfl, z0, none, rfl, hz0, .inr fun j hj => absurd hj (Nat.not_lt_zero j)⟩ ?_ ?_⟩
    · rintro i σ H' hi ⟨rfl, z, kv, rfl, hz, hc⟩
      refine ⟨_, rfl, _, rfl, t, _, rfl, .inl (SqL.of ht1), rfl, flat_strs ts, _, rfl, ?_⟩
      rw [inV_strs]
      refine ite2 (fun hd => ?_) (fun hd => ?_)
      · have hin : z ∈ ts := of_decide_eq_true hd
        have hall : ∀ j, j < i → cand j ∈ ts := hc.resolve_left (fun q => q hin)
        have e0 : (0 + (i : Int)) = (i : Int) := Int.zero_add _
        have q1 : ((i : Int) / 26) = ((i / 26 : Nat) : Int) := rfl
        have q2 : ((i : Int) % 26) = ((i % 26 : Nat) : Int) := rfl
        have zl : (Str.ofString "abcdefghijklmnopqrstuvwxyz").length ≤ sizeLine := by decide +kernel
        refine ⟨_, rfl, _, rfl, _, _, rfl, rfl, ⟨by decide, by decide⟩, Str.ofString "abcdefghijklmnopqrstuvwxyz", _, 97 + i / 26, rfl, rfl, zl, ?_, _, _, rfl, rfl, ?_, ?_⟩
        · rw [e0, q1]
          exact atI_nat (letter_at (by omega))
        · show 1 + 1 ≤ sizeLine
          decide
        refine ⟨_, rfl, _, rfl, _, _, rfl, rfl, (by show (0 : Int) < 26; decide), Str.ofString "abcdefghijklmnopqrstuvwxyz", _, 97 + i % 26, rfl, rfl, zl, ?_, _, _, rfl, rfl, ?_, ?_⟩
        · rw [e0, q2]
          exact atI_nat (letter_at (by omega))
        · show 2 + 1 ≤ sizeLine
          decide
        refine ⟨rfl, cand i, some (.int (0 + (i : Int))), ?_, cand_nm hi, ?_⟩
        · rw [cand_eq]
          rfl
        · by_cases hci : cand i ∈ ts
          · refine .inr fun j hj => ?_
            by_cases hji : j = i
            · rw [hji]; exact hci
            · exact hall j (by omega)
          · exact .inl hci
      · have hin : z ∉ ts := fun q => hd (decide_eq_true q)
        exact ⟨rfl, z, _, rfl, hz, .inl hin⟩
    · rintro σ H' ⟨rfl, z, kv, rfl, hz, hc⟩
      exact ⟨_, rfl, kk z _ hz (hc.resolve_right (cand_left hl)) k1 hp1⟩
end
end Fs
/-! The pairs of kinds. -/
namespace Fs
open PySem L2 TL
abbrev sPairs : Stmt := top 23
abbrev sKindL : Stmt := top 24
abbrev nPairs : List Str := ["_law_pot_here", "_law_pairs_here", "_law_k", "_law_aboves", "_law_name_here", "_law_above"]
abbrev nKindL : List Str := ["_law_pot_here", "_law_pairs_here", "_law_name_here", "_law_above"]
theorem scPairs : FnScope nPairs ["_law_pot_here"] (defScope sPairs) := ⟨rfl, rfl, rfl, by decide +kernel, rfl, by decide +kernel, by decide +kernel⟩
theorem scKindL : FnScope nKindL ["_law_pot_here", "_law_pairs_here"] (defScope sKindL) := ⟨rfl, rfl, rfl, by decide +kernel, rfl, by decide +kernel, by decide +kernel⟩
abbrev sF : Str := Str.ofString "fault"
abbrev sS : Str := Str.ofString "sheaf"
/-- kinds as they are told, one behind another -/
inductive Wf : List (Str × Str) → Prop where
  | nil : Wf []
  | snoc {ps : List (Str × Str)} {z y : Str} : Wf ps → IsNm z → z ∉ sS :: sF :: ps.map Prod.fst → y ∈ sF :: ps.map Prod.fst → Wf (ps ++ [(z, y)])
/-- a tuple a pair -/
def TupsAt (H : Hp) : List Addr → List (Str × Str) → Prop
  | [], [] => True
  | a :: as, q :: ps => H a = some (.tup [.str q.1, .str q.2]) ∧ TupsAt H as ps
  | _, _ => False
theorem TupsAt.len {H : Hp} : ∀ {as : List Addr} {ps : List (Str × Str)}, TupsAt H as ps → as.length = ps.length
  | [], [], _ => rfl
  | _ :: as, _ :: ps, h => by rw [List.length_cons, List.length_cons, TupsAt.len h.2]
  | [], _ :: _, h => h.elim
  | _ :: _, [], h => h.elim
theorem TupsAt.map {H H' : Hp} (k : ∀ a xs, H a = some (.tup xs) → H' a = some (.tup xs)) : ∀ {as : List Addr} {ps : List (Str × Str)}, TupsAt H as ps → TupsAt H' as ps
  | [], [], _ => True.intro
  | _ :: as, _ :: ps, h => ⟨k _ _ h.1, TupsAt.map k h.2⟩
  | [], _ :: _, h => h.elim
  | _ :: _, [], h => h.elim
theorem TupsAt.snoc {H : Hp} {b : Addr} {q : Str × Str} (hb : H b = some (.tup [.str q.1, .str q.2])) : ∀ {as : List Addr} {ps : List (Str × Str)}, TupsAt H as ps → TupsAt H (as ++ [b]) (ps ++ [q])
  | [], [], _ => ⟨hb, True.intro⟩
  | _ :: as, _ :: ps, h => ⟨h.1, TupsAt.snoc hb h.2⟩
  | [], _ :: _, h => h.elim
  | _ :: _, [], h => h.elim
theorem TupsAt.at {H : Hp} : ∀ {as : List Addr} {ps : List (Str × Str)} {i : Nat} {a : Addr}, TupsAt H as ps → as[i]? = some a → ∃ q, ps[i]? = some q ∧ H a = some (.tup [.str q.1, .str q.2])
  | [], _, _, _, _, e => by simp at e
  | _ :: _, [], _, _, h, _ => h.elim
  | b :: as, q :: ps, 0, a, h, e => by
    have e' : b = a := by simpa using e
    subst e'
    exact ⟨q, rfl, h.1⟩
  | b :: as, q :: ps, i + 1, a, h, e => TupsAt.at (i := i) h.2 (by simpa using e)
/-- a list of pairs -/
def PairsAt (H : Hp) (l : Addr) (ps : List (Str × Str)) : Prop := ∃ as : List Addr, H l = some (.lst (as.map V.ref)) ∧ TupsAt H as ps
theorem Keep.tup {ex : List Addr} {H H' : Hp} (k : Keep ex H H') (hx : ∀ b ∈ ex, ∃ o, H b = some o ∧ ∀ xs, o ≠ .tup xs) {a : Addr} {xs : List V} (h : H a = some (.tup xs)) : H' a = some (.tup xs) :=
  k.at h fun z => by
    obtain ⟨o, e, n⟩ := hx a z
    rw [h] at e
    exact n xs (Option.some.inj e).symm
theorem lst_ex {H : Hp} {p : Addr} {xs : List V} (h : H p = some (.lst xs)) : ∀ b ∈ [p], ∃ o, H b = some o ∧ ∀ xs, o ≠ .tup xs := fun b hb => by
  rw [List.mem_singleton.mp hb]
  exact ⟨_, h, fun _ z => nomatch z⟩
theorem PairsAt.keep {ex : List Addr} {H H' : Hp} {l : Addr} {ps : List (Str × Str)} (h : PairsAt H l ps) (k : Keep ex H H') (hl : l ∉ ex) (hx : ∀ b ∈ ex, ∃ o, H b = some o ∧ ∀ xs, o ≠ .tup xs) : PairsAt H' l ps := by
  obtain ⟨as, e, t⟩ := h
  exact ⟨as, k.at e hl, t.map fun a xs q => k.tup hx q⟩
theorem PairsAt.some {H : Hp} {l : Addr} {ps : List (Str × Str)} (h : PairsAt H l ps) : ∃ xs, H l = some (.lst xs) := by
  obtain ⟨as, e, _⟩ := h
  exact ⟨_, e⟩
/-- [name for name, above in pairs]: slots i, j -/
theorem names_run {K : PySem.W.Frag} {l D : Addr} {ps : List (Str × Str)} {i j : Nat} {σ : L2.St} {H1 : Hp} {Qd : Hp → Prop} (h : PairsAt H1 l ps) (hD : H1 D = none) (hlen : ps.length ≤ 1000)
    (hw : ∀ v u, wipe (((wipe σ [i, j]).set i (some v)).set j (some u)) [i, j] = wipe σ [i, j]) (hv : ∀ v u, (((wipe σ [i, j]).set i (some v)).set j (some u))[i]? = some (some v))
    (hq : ∀ H, H D = some (.lst ((ps.map Prod.fst).map V.str)) → Keep [] H1 H → Qd H) :
    ∃ W : Nat → Nat → Hp → Prop, (∃ m, W 0 m (upd H1 D (.lst []))) ∧ ∀ k m H, W k m H →
      ((Itl K l).stop k H ∧ Qd H) ∨ ((Itl K l).go k H ∧ ∃ Nx : Hp → Prop, (∀ H', Nx H' → ∃ m', m' < m ∧ W (k + 1) m' H') ∧ ∀ x H', (Itl K l).yld k H x H' → gTup K 2 (gCons (gName i) (gCons (gName j) gNil)) x (wipe σ [i, j]) H' fun σ2 H2 => wipe σ2 [i, j] = wipe σ [i, j] ∧ tYes σ2 H2 fun b H3 =>
        if b = true then tVar i σ2 H3 fun y H4 => ∃ acc, H4 D = some (.lst acc) ∧ acc.length < sizeLine ∧ Nx (upd H4 D (.lst (acc ++ [y]))) else Nx H3) := by
  obtain ⟨as, e, t⟩ := h
  have hl := t.len
  refine lc_list (K := K) (a := l) (xs := as.map V.ref) (fun k H => H D = some (.lst (((ps.take k).map Prod.fst).map V.str)) ∧ Keep [] H1 H) ⟨upd_same, Keep.new hD⟩ (fun k H _ hI => SqL.of (hI.2.at e nin0)) (fun k x H hx hI => ?_) (fun H hI => ?_)
  · obtain ⟨a, ha, rfl⟩ : ∃ a, as[k]? = some a ∧ x = V.ref a := by
      rw [List.getElem?_map] at hx
      cases q : as[k]? with
      | none => rw [q] at hx; cases hx
      | some a => rw [q] at hx; exact ⟨a, rfl, (Option.some.inj hx).symm⟩
    obtain ⟨q, hq2, hta⟩ := t.at ha
    have hk : k < ps.length := (List.getElem?_eq_some_iff.mp hq2).1
    refine ⟨a, _, rfl, SqT.of (hI.2.at hta nin0), rfl, _, _, rfl, _, _, rfl, rfl, hw _ _, tyes ?_⟩
    refine ⟨_, hv _ _, _, hI.1, ?_, ?_, fun b o hb ho => ?_⟩
    · rw [List.length_map, List.length_map, List.length_take]
      exact Nat.lt_of_le_of_lt (by omega : min k ps.length ≤ 1000) (by decide)
    · rw [upd_same, List.take_add_one, hq2, List.map_append, List.map_append]
      rfl
    · rw [upd_ne (ne_of_none ho hD)]
      exact hI.2 b o hb ho
  · rw [List.length_map, hl, List.take_length] at hI
    exact hq H hI.1 hI.2
theorem Keep.freshTo {ex : List Addr} {H H1 : Hp} {p : Addr} {o : HO} (a : Keep ex H H1) (h : H p = none) : Keep ex H (upd H1 p o) := fun b u n q => by
  rw [upd_ne (ne_of_none q h)]
  exact a b u n q
def spPairs : Sp := fun vs H Q _ => ∃ (p : Addr) (n : Nat), vs = [.ref p] ∧ PotAt H p n ∧ n < 2 ^ 30 ∧
  ∀ (l : Addr) (ps : List (Str × Str)) (H' : Hp), H l = none → Wf ps → ps.length ≤ 8 → PairsAt H' l ps → Keep [p] H H' → PotAt H' p (n + 100) → Q (.ref l) H'
/-- one of the kinds, not sheaf -/
def spKindL : Sp := fun vs H Q _ => ∃ (p l : Addr) (n : Nat) (ps : List (Str × Str)), vs = [.ref p, .ref l] ∧ PotAt H p n ∧ n < 2 ^ 30 ∧ PairsAt H l ps ∧ l ≠ p ∧ ps.length ≤ 1000 ∧
  ∀ (z : Str) (H' : Hp), z ∈ sF :: ps.map Prod.fst → Keep [p] H H' → PotAt H' p (n + 1) → Q (.str z) H'
theorem digit_in {α : Type} {l : List α} {d : Int} (h0 : 0 ≤ d) (h1 : d < (l.length : Int)) : ∃ c, c ∈ l ∧ l[d.toNat]? = some c ∧ ((d.toNat : Nat) : Int) = d := by
  have h2 : d.toNat < l.length := by omega
  exact ⟨l[d.toNat], List.getElem_mem h2, List.getElem?_eq_getElem h2, Int.toNat_of_nonneg h0⟩
theorem keep_of_dig {p : Addr} {H H' : Hp} (h : ∀ b, b ≠ p → H' b = H b) : Keep [p] H H' := fun b o hb e => by
  rw [h b (fun z => hb (by rw [z]; exact in1))]
  exact e
section
variable {P : Program} {w : World} {K : PySem.W.Frag} {mg : Str → Option Value} {base : Heap}
theorem ok_kindL {f fD : Addr} {fd fdD : FuncData} (F : Fun K "_law_kind" "_law_kind" sKindL f fd) (FD : FnOk P w K mg base CX0 1 fD fdD ["_law_pot_here", "_law_many"] spDigit) (mD : mg "_law_digit" = some (.ref fD)) (kD : PySem.W.keepIn K (.ref fD) = true) (bD : Binds K fdD ["_law_pot_here", "_law_many"] []) (mL : mg "len" = none) :
    FnOk P w K mg base CX0 2 f fd ["_law_pot_here", "_law_pairs_here"] spKindL := by
  refine F.ok scKindL (fun vs H Q E h => ?_) (fun cdv A outer s H vs Q E hr h => ?_)
  · obtain ⟨p, l, n, ps, rfl, _⟩ := h
    rfl
  · obtain ⟨p, l, n, ps, rfl, hp, hn, hl, nlp, hlen, kk⟩ := h
    refine ⟨_, pss_one (ps_ret (pe_ix ix_list (pe_op op_cat (pe_lst (pa_cons pe_str pa_nil)) (pe_lc (own := [("_law_name_here", 2), ("_law_above", 3)]) (g := gTup K 2 (gCons (gName 2) (gCons (gName 3) gNil))) (tt := tYes) rfl scKindL.nd (pi_list (pv 1))
        (blkOk_by (N := nKindL) (sc := defScope sKindL) (by decide +kernel)) (fun _ _ _ _ _ => by exact (pg_tup rfl (pgs_cons (pg_name (i := 2) scKindL.nd rfl (Or.inl rfl)) (pgs_cons (pg_name (i := 3) scKindL.nd rfl (Or.inl rfl)) pgs_nil)))) (fun _ _ _ _ _ => pts_nil) (fun _ _ _ _ _ => pv 2)))
      (pe_call FD hr rfl mD kD bD .nil pass0 (pa_cons (pv 0) (pa_cons (pe_op op_add (pe_callB call_len_seq (by rfl) mL PySem.boot_len (pa_cons (pv 1) pa_nil)) pe_int) pa_nil))) (fun _ _ => rfl))), ?_⟩
    refine ⟨(by show 1 ≤ sizeLine; decide), fun a ha => ?_⟩
    have h1 : PairsAt (upd H a (.lst [.str sF])) l ps := hl.keep (ex := []) (Keep.new ha) nin0 (fun _ z => absurd z nin0)
    obtain ⟨xs, el⟩ := h1.some
    refine ⟨_, rfl, l, rfl, ⟨_, SqL.of el⟩, fun D hD => ?_⟩
    refine names_run (K := K) (i := 2) (j := 3) (σ := L2.start nKindL [V.ref p, V.ref l]) h1 hD hlen (fun _ _ => rfl) (fun _ _ => rfl) fun H2 e2 k2 => ?_
    have ea : H2 a = some (.lst [.str sF]) := k2.at upd_same nin0
    refine ⟨a, D, _, _, rfl, rfl, ea, e2, ?_, fun b hb => ?_⟩
    · show ([V.str sF] : List V).length + _ ≤ sizeLine
      rw [List.length_map, List.length_map]
      exact Nat.le_trans (Nat.add_le_add_left hlen 1) (by decide)
    have k3 : Keep [] H (upd H2 b (.lst ([V.str sF] ++ (ps.map Prod.fst).map V.str))) := ((Keep.new ha).trans k2).newTo hb
    have hp3 := hp.keep k3 nin0
    obtain ⟨as, e3, t3⟩ := hl.keep k3 nin0 (fun _ z => absurd z nin0)
    refine ⟨_, rfl, _, rfl, l, _, rfl, .inl (SqL.of e3), _, _, rfl, rfl, p, n, _, rfl, hp3, by omega, ?_, ?_, fun d H4 d0 d1 hk hp4 => ?_⟩
    · omega
    · rw [List.length_map, t3.len]; omega
    · rw [List.length_map, t3.len] at d1
      have eb : H4 b = some (.lst (([sF] ++ ps.map Prod.fst).map V.str)) := by
        obtain ⟨ys, ep⟩ := hp.some
        have nbp : p ≠ b := Keep.ne ((Keep.new ha).trans k2) ep nin0 hb
        rw [hk b nbp.symm, upd_same]
        rfl
      obtain ⟨c, hc, hc2, hc3⟩ := digit_in (l := [sF] ++ ps.map Prod.fst) d0 (by rw [List.length_append, List.length_map, List.length_singleton]; omega)
      refine ⟨b, _, d, .str c, rfl, rfl, SqL.of eb, ?_, kk c H4 hc ((k3.more (fun _ z => absurd z nin0)).trans (keep_of_dig hk)) hp4⟩
      rw [← hc3]
      exact atI_nat (by rw [List.getElem?_map, hc2]; rfl)
theorem ok_pairs {f fD fR : Addr} {fd fdD fdR : FuncData} (F : Fun K "_law_pairs" "_law_pairs" sPairs f fd) (FD : FnOk P w K mg base CX0 1 fD fdD ["_law_pot_here", "_law_many"] spDigit) (mD : mg "_law_digit" = some (.ref fD)) (kD : PySem.W.keepIn K (.ref fD) = true) (bD : Binds K fdD ["_law_pot_here", "_law_many"] [])
    (FR : FnOk P w K mg base CX0 3 fR fdR ["_law_pot_here", "_law_taken"] (spFresh K)) (mF : mg "_law_fresh" = some (.ref fR)) (kF : PySem.W.keepIn K (.ref fR) = true) (bF : Binds K fdR ["_law_pot_here", "_law_taken"] []) (mL : mg "len" = none) (mR : mg "range" = none) :
    FnOk P w K mg base CX0 4 f fd ["_law_pot_here"] spPairs := by
  refine F.ok scPairs (fun vs H Q E h => ?_) (fun cdv A outer s H vs Q E hr h => ?_)
  · obtain ⟨p, n, rfl, _⟩ := h
    rfl
  · obtain ⟨p, n, rfl, hp, hn, kk⟩ := h
    have hr1 : Room 1 _ := hr.mono (by decide)
    refine ⟨_, pss_cons (ps_set (i := 1) scPairs.nd rfl (Or.inl rfl) (pe_lst pa_nil))
      (pss_cons (ps_for PassesOwn.never rfl (pi_range1 rfl mR (pa_cons (pe_call FD hr1 rfl mD kD bD .nil pass0 (pa_cons (pv 0) (pa_cons pe_int pa_nil))) pa_nil)) (pg_name (i := 2) scPairs.nd rfl (Or.inl rfl))
        (pss_cons (ps_set (i := 3) scPairs.nd rfl (Or.inl rfl) (pe_op op_cat (pe_lst (pa_cons pe_str pa_nil)) (pe_lc (own := [("_law_name_here", 4), ("_law_above", 5)]) (g := gTup K 2 (gCons (gName 4) (gCons (gName 5) gNil))) (tt := tYes) rfl scPairs.nd (pi_list (pv 1))
          (blkOk_by (N := nPairs) (sc := defScope sPairs) (by decide +kernel)) (fun _ _ _ _ _ => by exact (pg_tup rfl (pgs_cons (pg_name (i := 4) scPairs.nd rfl (Or.inl rfl)) (pgs_cons (pg_name (i := 5) scPairs.nd rfl (Or.inl rfl)) pgs_nil)))) (fun _ _ _ _ _ => pts_nil) (fun _ _ _ _ _ => pv 4))))
        (pss_cons (ps_set (i := 4) scPairs.nd rfl (Or.inl rfl) (pe_call FR hr rfl mF kF bF .nil pass0 (pa_cons (pv 0) (pa_cons (pe_op op_cat (pe_lst (pa_cons pe_str pa_nil)) (pv 3)) pa_nil))))
        (pss_one (ps_expr (pe_bm PySem.F.plainAttrs_list PySem.F.slot_list_append PySem.F.type_list_append mt_append (pv 1) (pa_cons (pe_tup (pa_cons (pv 4) (pa_cons (pe_ix ix_list (pv 3) (pe_call FD hr1 rfl mD kD bD .nil pass0 (pa_cons (pv 0) (pa_cons (pe_callB call_len_seq (by rfl) mL PySem.boot_len (pa_cons (pv 3) pa_nil)) pa_nil))) (fun _ _ => rfl)) pa_nil))) pa_nil)))))))
      (pss_one (ps_ret (pv 1)))), ?_⟩
    refine ⟨Nat.zero_le _, fun l hl => ?_⟩
    have hp0 : PotAt (upd H l (.lst [])) p n := hp.keep (ex := []) (Keep.new hl) nin0
    obtain ⟨x0, ep0⟩ := hp.some
    have nlp : l ≠ p := Ne.symm (ne_of_none ep0 hl)
    refine ⟨_, rfl, p, n, 9, rfl, hp0, by omega, by decide, by decide, fun d H1 d0 d1 hk1 hp1 => ?_⟩
    have hl1 : H1 l = some (.lst []) := by rw [hk1 l nlp, upd_same]
    have k1 : Keep [p] H H1 := (Keep.new hl).trans (keep_of_dig hk1)
    obtain ⟨m, rfl⟩ : ∃ m : Nat, d = (m : Int) := ⟨d.toNat, by omega⟩
    refine ⟨_, rfl, by omega, by omega, ?_⟩
    rw [Int.toNat_natCast]
    refine for_range (lo := 0) (n := m) (fun i σ H' => ∃ (ps : List (Str × Str)) (v2 v3 v4 v5 : Option V), σ = [some (.ref p), some (.ref l), v2, v3, v4, v5] ∧ Wf ps ∧ ps.length = i ∧ PairsAt H' l ps ∧ PotAt H' p (n + 1 + 10 * i) ∧ Keep [p] H H')
      ⟨[], none, none, none, none, rfl, .nil, rfl, ⟨[], hl1, True.intro⟩, hp1, k1⟩ ?_ ?_
    · rintro i σ H2 hi ⟨ps, v2, v3, v4, v5, rfl, hw, hlen, hP, hp2, k2⟩
      -- aboves
      refine ⟨(by show 1 ≤ sizeLine; decide), fun a ha => ?_⟩
      have h1 : PairsAt (upd H2 a (.lst [.str sF])) l ps := hP.keep (ex := []) (Keep.new ha) nin0 (fun _ z => absurd z nin0)
      obtain ⟨xs, el⟩ := h1.some
      refine ⟨_, rfl, l, rfl, ⟨_, SqL.of el⟩, fun D hD => ?_⟩
      refine names_run (K := K) (i := 4) (j := 5) h1 hD (by omega) (fun _ _ => rfl) (fun _ _ => rfl) fun H3 e3 k3 => ?_
      have ea : H3 a = some (.lst [.str sF]) := k3.at upd_same nin0
      refine ⟨a, D, _, _, rfl, rfl, ea, e3, ?_, fun b hb => ?_⟩
      · show ([V.str sF] : List V).length + _ ≤ sizeLine
        rw [List.length_map, List.length_map]
        exact Nat.le_trans (by show 1 + ps.length ≤ 1000; omega) (by decide)
      have k4 : Keep [] H2 (upd H3 b (.lst ([V.str sF] ++ (ps.map Prod.fst).map V.str))) := ((Keep.new ha).trans k3).newTo hb
      generalize hH4 : upd H3 b (.lst ([V.str sF] ++ (ps.map Prod.fst).map V.str)) = H4 at k4
      have eb4 : H4 b = some (.lst ((sF :: ps.map Prod.fst).map V.str)) := by rw [← hH4, upd_same]; rfl
      -- name
      refine ⟨_, rfl, ?_⟩
      refine ⟨(by show 1 ≤ sizeLine; decide), fun c hc => ?_⟩
      have nbc : b ≠ c := ne_of_none eb4 hc
      refine ⟨_, rfl, c, b, _, _, rfl, rfl, upd_same, by rw [upd_ne nbc]; exact eb4, ?_, fun t ht => ?_⟩
      · show ([V.str sS] : List V).length + _ ≤ sizeLine
        have e9 : ([V.str sS] : List V).length + ((sF :: ps.map Prod.fst).map V.str).length = ps.length + 2 := by simp; omega
        exact Nat.le_trans (Nat.le_of_eq e9) (Nat.le_trans (by omega : ps.length + 2 ≤ 1000) (by decide))
      have k5 : Keep [] H2 (upd (upd H4 c (.lst [.str sS])) t (.lst ([V.str sS] ++ (sF :: ps.map Prod.fst).map V.str))) := (k4.newTo hc).newTo ht
      have eb5 : upd (upd H4 c (.lst [.str sS])) t (.lst ([V.str sS] ++ (sF :: ps.map Prod.fst).map V.str)) b = some (.lst ((sF :: ps.map Prod.fst).map V.str)) := by
        have nbt : b ≠ t := ne_of_none (show upd H4 c (.lst [.str sS]) b = _ by rw [upd_ne nbc]; exact eb4) ht
        rw [upd_ne nbt, upd_ne nbc]
        exact eb4
      have hp5 := hp2.keep k5 nin0
      obtain ⟨x2, ep2⟩ := hp2.some
      have ntp : t ≠ p := Ne.symm (Keep.ne (k4.newTo hc) ep2 nin0 ht)
      have nbp : b ≠ p := fun z => by
        rw [z] at hb
        exact absurd rfl (Keep.ne ((Keep.new ha).trans k3) ep2 nin0 hb)
      refine ⟨p, t, n + 1 + 10 * i, sS :: sF :: ps.map Prod.fst, rfl, hp5, by omega, upd_same, ntp, by rw [List.length_cons, List.length_cons, List.length_map]; omega, fun z H6 hz hz2 k6 hp6 => ?_⟩
      have eb6 := k6.at eb5 (nin1 nbp)
      have hl6 : PairsAt H6 l ps := (hP.keep k5 nin0 (fun _ z => absurd z nin0)).keep k6 (nin1 nlp) (lst_ex (k5.at ep2 nin0))
      obtain ⟨as, el6, tl6⟩ := hl6
      -- append
      refine ⟨_, rfl, .inl ⟨rfl, _, SqL.of el6⟩, _, rfl, _, rfl, _, rfl, _, rfl, b, _, rfl, .inl (SqL.of eb6), p, n + 1 + 10 * i + 9, _, rfl, hp6, by omega, ?_, ?_, fun e H7 e0 e1 hk7 hp7 => ?_⟩
      · rw [List.length_map, List.length_cons]; omega
      · rw [List.length_map, List.length_cons, List.length_map]; omega
      · rw [List.length_map] at e1
        obtain ⟨y, hy, hy2, hy3⟩ := digit_in (l := sF :: ps.map Prod.fst) e0 e1
        have k7 : Keep [p] H6 H7 := keep_of_dig hk7
        refine ⟨b, _, e, .str y, rfl, rfl, SqL.of (k7.at eb6 (nin1 nbp)), ?_, (by show 2 ≤ sizeLine; decide), fun g hg => ?_⟩
        · rw [← hy3]
          exact atI_nat (by rw [List.getElem?_map, hy2]; rfl)
        have el7 : H7 l = some (.lst (as.map V.ref)) := k7.at el6 (nin1 nlp)
        have nlg : l ≠ g := ne_of_none el7 hg
        refine ⟨l, _, _, rfl, rfl, by rw [upd_ne nlg]; exact el7, ?_, ?_⟩
        · rw [List.length_map, tl6.len]
          exact Nat.lt_of_le_of_lt (by omega : ps.length ≤ 1000) (by decide)
        obtain ⟨x6, ep6⟩ := hp6.some
        have tl7 : TupsAt H7 as ps := tl6.map fun a xs q => k7.tup (lst_ex ep6) q
        have tl8 : TupsAt (upd (upd H7 g (.tup [.str z, .str y])) l (.lst (as.map V.ref ++ [V.ref g]))) (as ++ [g]) (ps ++ [(z, y)]) := by
          refine TupsAt.snoc (by rw [upd_ne nlg.symm, upd_same]) (tl7.map fun a xs q => ?_)
          rw [upd_ne (ne_of q el7 (fun z => nomatch z)), upd_ne (ne_of_none q hg)]
          exact q
        refine ⟨ps ++ [(z, y)], _, _, _, _, rfl, .snoc hw hz hz2 hy, by rw [List.length_append, hlen]; rfl, ⟨as ++ [g], by rw [upd_same, List.map_append]; rfl, tl8⟩, ?_, ?_⟩
        · obtain ⟨x7, ep7⟩ := hp7.some
          have hp8 : PotAt (upd (upd H7 g (.tup [.str z, .str y])) l (.lst (as.map V.ref ++ [V.ref g]))) p (n + 1 + 10 * i + 9 + 1) :=
            (hp7.keep (ex := []) (Keep.new hg) nin0).keep (ex := [l]) (Keep.own in1) (nin1 nlp.symm)
          exact hp8.le (by omega)
        · exact (((((k2.trans (k5.more fun _ q => absurd q nin0)).trans k6).trans k7).newTo hg).freshTo hl)
    · rintro σ H2 ⟨ps, v2, v3, v4, v5, rfl, hw, hlen, hP, hp2, k2⟩
      exact ⟨_, rfl, kk l ps H2 hl hw (by omega) hP k2 (hp2.le (by omega))⟩
end
end Fs
/-! What is a whole number, a text, a name; the kinds. -/
namespace Fs
open PySem L2 TL
abbrev sWhole : Stmt := top 2
abbrev sIsText : Stmt := top 3
abbrev sIsName : Stmt := top 4
theorem scWhole : FnScope ["thing"] ["thing"] (defScope sWhole) := ⟨rfl, rfl, rfl, by decide +kernel, rfl, by decide +kernel, by decide +kernel⟩
theorem scIsText : FnScope ["thing"] ["thing"] (defScope sIsText) := ⟨rfl, rfl, rfl, by decide +kernel, rfl, by decide +kernel, by decide +kernel⟩
theorem scIsName : FnScope ["thing"] ["thing"] (defScope sIsName) := ⟨rfl, rfl, rfl, by decide +kernel, rfl, by decide +kernel, by decide +kernel⟩
def spWhole : Sp := fun vs H Q _ => ∃ i : Int, vs = [.int i] ∧ Q (.bl true) H
def spIsText : Sp := fun vs H Q _ => ∃ z : Str, vs = [.str z] ∧ Q (.bl true) H
def spIsName (Pt : Addr) : Sp := fun vs H Q _ => ∃ z : Str, vs = [.str z] ∧ IsNm z ∧ GxR.TabG H Pt ∧ ∀ H2, GxR.Tabbed Pt H H2 → Q (.bl true) H2
/-- 'a' <= sign <= 'z' -/
def pbN (c : Nat) : Bool := (!decide ([c] < (Str.ofString "a").cps.toList)) && (!decide ((Str.ofString "z").cps.toList < [c]))
theorem one_lt {a b : Nat} : ([a] < [b]) ↔ a < b := by
  constructor
  · intro h
    cases h with
    | rel h => exact h
    | cons h => cases h
  · intro h
    exact List.Lex.rel h
theorem pbN_small {c : Nat} (h : small c = true) : pbN c = true := by
  unfold small at h
  simp only [Bool.and_eq_true, decide_eq_true_eq] at h
  have ea : (Str.ofString "a").cps.toList = [97] := by decide +kernel
  have ez : (Str.ofString "z").cps.toList = [122] := by decide +kernel
  have h1 : ¬ ([c] < [97]) := fun q => by have := one_lt.mp q; omega
  have h2 : ¬ ([122] < [c]) := fun q => by have := one_lt.mp q; omega
  unfold pbN
  rw [ea, ez, decide_eq_false h1, decide_eq_false h2]
  rfl
theorem elt_name {prog : Program} {w : World} {scope : Scope} {x : Str} {j1 j2 : Nat} {p1 p2 p3 p4 : Pos} (hk : scope.kind = .function) (hl : scope.names.lookup x = some .local) (hd : (x == ("__debug__" : Str)) = false := by decide) :
    GxR.EltP prog w scope x (.Compare (.Constant (.str "a") j1 p1) [.LtE, .LtE] [.Name x p2, .Constant (.str "z") j2 p3] p4) pbN := by
  intro cenv A' E' c t s₂ m₂ hs hn hm
  have name : ∀ (s : Shared) (Q : Value → Shared → Prop), s.heap.Ns cenv.locals m₂ → Q (.str ⟨#[c]⟩ t) s → wpAny (model prog w) A' (eval (.Name x p2) cenv) Q E' s := fun s Q hn' h =>
    wpAny_Name (wpAny_loadName_local (by rw [hs]; exact hk) (show cenv.scope.names.lookup x = some .local by rw [hs]; exact hl) hn' hm h) hd
  refine PyProof.Rows.Compare_chain (PySem.Calls.Constant_str (PyProof.Rows.chain_link (name _ _ hn (PySem.P.le_str ?_)))) (by with_unfolding_all rfl)
  refine wpAny_truthy_bool ?_
  by_cases h : [c] < (Str.ofString "a").cps.toList
  · have e : pbN c = false := by unfold pbN; rw [decide_eq_true h]; rfl
    have e2 : (!decide ((Str.mk #[c]).cps.toList < (Str.ofString "a").cps.toList)) = false := by
      show (!decide ([c] < _)) = false
      rw [decide_eq_true h]; rfl
    rw [e2]
    exact PyProof.Rows.ite_ff ⟨by rw [e], GxR.keeps_tok _ _⟩
  · have e2 : (!decide ((Str.mk #[c]).cps.toList < (Str.ofString "a").cps.toList)) = true := by
      show (!decide ([c] < _)) = true
      rw [decide_eq_false h]; rfl
    rw [e2]
    refine PyProof.Rows.ite_tt (PyProof.Rows.chain_last (PySem.Calls.Constant_str (PySem.P.le_str ⟨?_, GxR.keeps_tok _ _⟩)))
    · have e : pbN c = (!decide ((Str.ofString "z").cps.toList < [c])) := by unfold pbN; rw [decide_eq_false h]; rfl
      rw [e]
section
variable {P : Program} {w : World} {K : PySem.W.Frag} {mg : Str → Option Value} {base : Heap}
theorem ok_whole {f : Addr} {fd : FuncData} (F : Fun K "is_whole" "is_whole" sWhole f fd) (mI : mg "isinstance" = none) (mT : mg "int" = none) (mB : mg "bool" = none) : FnOk P w K mg base CX0 1 f fd ["thing"] spWhole := by
  refine F.ok scWhole (fun vs H Q E h => ?_) (fun cdv A outer s H vs Q E hr h => ?_)
  · obtain ⟨i, rfl, _⟩ := h
    rfl
  · obtain ⟨i, rfl, kk⟩ := h
    refine ⟨_, pss_one (ps_ret (pe_and (pe_callB call_isi (by rfl) mI (by decide +kernel) (pa_cons (pv 0) (pa_cons (pe_bltn (v := .ty "int") (u := .type "int") (by rfl) mT (by decide +kernel) rfl) pa_nil)))
      (pe_one (pe_not (pe_callB call_isi (by rfl) mI (by decide +kernel) (pa_cons (pv 0) (pa_cons (pe_bltn (v := .ty "bool") (u := .type "bool") (by rfl) mB (by decide +kernel) rfl) pa_nil))))))), ?_⟩
    refine ⟨_, rfl, _, _, _, _, _, rfl, .ty "int", .base (.int i), kit_ty (r := true) (by decide +kernel), true, rfl, iteT ?_⟩
    exact ⟨_, rfl, _, _, _, _, _, rfl, .ty "bool", .base (.int i), kit_ty (r := false) (by decide +kernel), false, rfl, kk⟩
theorem ok_isText {f : Addr} {fd : FuncData} (F : Fun K "is_text" "is_text" sIsText f fd) (mI : mg "isinstance" = none) (mS : mg "str" = none) : FnOk P w K mg base CX0 1 f fd ["thing"] spIsText := by
  refine F.ok scIsText (fun vs H Q E h => ?_) (fun cdv A outer s H vs Q E hr h => ?_)
  · obtain ⟨i, rfl, _⟩ := h
    rfl
  · obtain ⟨i, rfl, kk⟩ := h
    refine ⟨_, pss_one (ps_ret (pe_callB call_isi (by rfl) mI (by decide +kernel) (pa_cons (pv 0) (pa_cons (pe_bltn (v := .ty "str") (u := .type "str") (by rfl) mS (by decide +kernel) rfl) pa_nil)))), ?_⟩
    exact ⟨_, rfl, _, _, _, _, _, rfl, .ty "str", .base (.str i), kit_ty (r := true) (by decide +kernel), kk⟩
theorem ok_isName {f fT c Pt : Addr} {fdT : FuncData} {oc dV kV doc pm ct : Value} {an od : Option Addr} {osl : Array (Option Value)} (lk : K.lookup f = some ⟨oc, od, .func (PySem.W.fnOf "is_name" "is_name" (defArgs sIsName) (defBody sIsName) (defScope sIsName) dV kV doc pm an (.ref c) ct), osl⟩) (hcd : PySem.W.codeIn K (.ref c) "is_name" = true)
    (TB : GxR.TabB base mg c Pt) (FT : FnOk P w K mg base CX0 1 fT fdT ["thing"] spIsText) (mT : mg "is_text" = some (.ref fT)) (kT : PySem.W.keepIn K (.ref fT) = true) (bT : Binds K fdT ["thing"] []) (mL : mg "len" = none) (mA : mg "all" = none) :
    FnOk P w K mg base CX0 2 f (PySem.W.fnOf "is_name" "is_name" (defArgs sIsName) (defBody sIsName) (defScope sIsName) dV kV doc pm an (.ref c) ct) ["thing"] (spIsName Pt) := by
  refine fn_of (CX := CX0) lk hcd scIsName (fun vs H Q E h => ?_) (fun A outer s H vs Q E hr h => ?_)
  · obtain ⟨z, rfl, _⟩ := h
    rfl
  · obtain ⟨z, rfl, ⟨h1, h2, h3⟩, hT, kk⟩ := h
    refine ⟨_, PSs.nox (pss_one (ps_ret (pe_and (pe_call FT hr rfl mT kT bT .nil pass0 (pa_cons (pv 0) pa_nil)) (pe_and (pe_chain op_le op_le pe_int (pe_callB call_len_str (by rfl) mL PySem.boot_len (pa_cons (pv 0) pa_nil)) pe_int)
      (pe_one (GxR.pe_allS hr (by rfl) mA (by decide +kernel) TB rfl ⟨rfl, rfl, by decide +kernel, rfl, rfl, fun y hy e => ?_⟩ (pv 0) (elt_name rfl rfl) (fun v => rfl))))))), ?_⟩
    · have q : ∀ y ∈ ([((".0" : Str), NameKind.local), (("sign" : Str), NameKind.local)] : List (Str × NameKind)), y.2 = NameKind.free → False := by decide
      exact (q y hy e).elim
    have hzl : z.length = z.cps.toList.length := by simp [Str.length]
    refine ⟨_, rfl, z, rfl, true, rfl, iteT ?_⟩
    refine ⟨_, rfl, z, rfl, Nat.le_of_lt (Nat.lt_of_lt_of_le (by omega : z.length < 1000) (by decide)), _, _, rfl, rfl, _, rfl, ?_⟩
    rw [decide_eq_true (show (1 : Int) ≤ (z.length : Int) by omega)]
    refine iteT ⟨_, _, rfl, rfl, _, rfl, ?_⟩
    rw [decide_eq_true (show (z.length : Int) ≤ (8 : Int) by omega)]
    refine iteT ⟨_, rfl, z, rfl, hT, fun H2 hH => ?_⟩
    have ea : z.cps.toList.all pbN = true := List.all_eq_true.mpr fun c hc => pbN_small (h3 c hc)
    rw [ea]
    exact kk H2 hH
end
end Fs
/-! The class of kinds. -/
namespace Fs
open PySem L2 TL
abbrev sKInit : Stmt := inClass (top 16) 0
abbrev sIsKind : Stmt := inClass (top 16) 2
abbrev sChkNew : Stmt := inClass (top 16) 6
theorem scKInit : FnScope ["self", "pairs", "name", "above"] ["self", "pairs"] (defScope sKInit) := ⟨rfl, rfl, rfl, by decide +kernel, rfl, by decide +kernel, by decide +kernel⟩
theorem scIsKind : FnScope ["self", "thing"] ["self", "thing"] (defScope sIsKind) := ⟨rfl, rfl, rfl, by decide +kernel, rfl, by decide +kernel, by decide +kernel⟩
theorem scChkNew : FnScope ["self", "name", "above"] ["self", "name", "above"] (defScope sChkNew) := ⟨rfl, rfl, rfl, by decide +kernel, rfl, by decide +kernel, by decide +kernel⟩
/-- what a kinds' dict holds -/
def kvsOf (ps : List (Str × Str)) : List (Key × V) := [(.inr sF, .non), (.inr sS, .str sF)] ++ ps.map fun q => (.inr q.1, .str q.2)
theorem sFS : ¬ sF = sS := by decide +kernel
theorem kvs_some (z : Str) : ∀ ps : List (Str × Str), (valV (ps.map fun q => ((.inr q.1 : Key), V.str q.2)) (.inr z)).isSome = decide (z ∈ ps.map Prod.fst)
  | [] => rfl
  | q :: r => by
    rw [List.map_cons, List.map_cons]
    by_cases h : q.1 = z
    · rw [valV_pos (by rw [h]), decide_eq_true (by rw [h]; exact List.mem_cons_self)]
      rfl
    · rw [valV_neg (fun e => h (Sum.inr.inj e)), kvs_some z r]
      have h2 : ¬ z = q.1 := fun e => h e.symm
      simp only [List.mem_cons, h2, false_or]
theorem kvs_is (z : Str) (ps : List (Str × Str)) : (valV (kvsOf ps) (.inr z)).isSome = decide (z ∈ sF :: sS :: ps.map Prod.fst) := by
  show (valV ((.inr sF, V.non) :: (.inr sS, V.str sF) :: ps.map fun q => ((.inr q.1 : Key), V.str q.2)) (.inr z)).isSome = _
  by_cases h : sF = z
  · rw [valV_pos (by rw [h]), decide_eq_true (by rw [h]; exact List.mem_cons_self)]
    rfl
  · rw [valV_neg (fun e => h (Sum.inr.inj e))]
    have h' : ¬ z = sF := fun e => h e.symm
    by_cases h2 : sS = z
    · rw [valV_pos (by rw [h2]), decide_eq_true (by rw [h2]; exact List.mem_cons_of_mem _ List.mem_cons_self)]
      rfl
    · have h2' : ¬ z = sS := fun e => h2 e.symm
      rw [valV_neg (fun e => h2 (Sum.inr.inj e)), kvs_some]
      simp only [List.mem_cons, h', h2', false_or]
theorem kvs_put {z y : Str} {ps : List (Str × Str)} (h : z ∉ sF :: sS :: ps.map Prod.fst) : putK (kvsOf ps) (.inr z) (.str y) = kvsOf (ps ++ [(z, y)]) := by
  have hn : ((kvsOf ps).any fun kv => decide (kv.1 = (.inr z : Key))) = false := by
    rw [List.any_eq_false]
    intro kv hkv e
    have e' := of_decide_eq_true e
    rcases List.mem_append.mp hkv with m | m
    · rcases List.mem_cons.mp m with m | m
      · rw [m] at e'
        exact h (by rw [← Sum.inr.inj e']; exact List.mem_cons_self)
      · rw [List.mem_singleton.mp m] at e'
        exact h (by rw [← Sum.inr.inj e']; exact List.mem_cons_of_mem _ List.mem_cons_self)
    · obtain ⟨q, hq, rfl⟩ := List.mem_map.mp m
      exact h (by rw [← Sum.inr.inj e']; exact List.mem_cons_of_mem _ (List.mem_cons_of_mem _ (List.mem_map.mpr ⟨q, hq, rfl⟩)))
  unfold putK
  rw [hn, if_neg Bool.false_ne_true]
  unfold kvsOf
  rw [List.map_append, ← List.append_assoc]
  rfl
theorem kvs_len (ps : List (Str × Str)) : (kvsOf ps).length = ps.length + 2 := by
  unfold kvsOf
  rw [List.length_append, List.length_map]
  show 2 + ps.length = _
  omega
/-- kinds of these pairs at kd, its dict at d -/
def KindsAt (C : Addr) (H : Hp) (kd : Addr) (ps : List (Str × Str)) : Prop := ∃ dx d, H kd = some (.ins C dx [("_above", .ref d)]) ∧ H d = some (.dK (kvsOf ps))
theorem ab_look (v : V) : ([(("_above" : Str), v)] : List (Str × V)).lookup ("_above" : Str) = some v := by simp [List.lookup]
theorem ab_no (v : V) {m : Str} (h : ¬ m = "_above") : ([(("_above" : Str), v)] : List (Str × V)).lookup m = none := by
  have e : (m == ("_above" : Str)) = false := by simpa using h
  simp [List.lookup, e]
theorem KindsAt.keep {C : Addr} {ex : List Addr} {H H' : Hp} {kd : Addr} {ps : List (Str × Str)} (h : KindsAt C H kd ps) (k : Keep ex H H') (hx : ∀ b ∈ ex, ∃ o, H b = some o ∧ (∀ C dx fs, o ≠ .ins C dx fs) ∧ ∀ kvs, o ≠ .dK kvs) : KindsAt C H' kd ps := by
  obtain ⟨dx, d, e1, e2⟩ := h
  refine ⟨dx, d, k.at e1 fun z => ?_, k.at e2 fun z => ?_⟩
  · obtain ⟨o, e, n, _⟩ := hx _ z
    rw [e1] at e
    exact n _ _ _ (Option.some.inj e).symm
  · obtain ⟨o, e, _, n⟩ := hx _ z
    rw [e2] at e
    exact n _ (Option.some.inj e).symm
/-- the class's own text -/
structure KTxt (K : PySem.W.Frag) (mg : Str → Option Value) (C fI fK fN : Addr) : Prop where
  cl : Cls K C
  nA : NoAttr K C "_above"
  mK : Meth K C "is_kind" fK
  mN : Meth K C "_check_new" fN
/-- a new object is told the pairs -/
def spKInit (C Pt : Addr) : Sp := fun vs H Q _ => ∃ (p l dx : Addr) (ps : List (Str × Str)), vs = [.ref p, .ref l] ∧ H p = some (.ins C dx []) ∧ PairsAt H l ps ∧ Wf ps ∧ ps.length ≤ 30 ∧ GxR.TabG H Pt ∧
  ∀ H' : Hp, Keep [p, Pt] H H' → KindsAt C H' p ps → GxR.TabG H' Pt → Q .non H'
theorem Wf.not_sheaf {ps : List (Str × Str)} (h : Wf ps) : ∀ y ∈ sF :: ps.map Prod.fst, ¬ y = sS := by
  induction h with
  | nil =>
    intro y hy e
    rw [List.mem_singleton.mp hy] at e
    exact sFS e
  | @snoc ps z y hw hz hn hy ih =>
    intro x hx e
    rw [List.map_append] at hx
    rcases List.mem_cons.mp hx with q | q
    · exact ih x (by rw [q]; exact List.mem_cons_self) e
    · rcases List.mem_append.mp q with q | q
      · exact ih x (List.mem_cons_of_mem _ q) e
      · have e2 : x = z := by simpa using q
        exact hn (by rw [← e2, e]; exact List.mem_cons_self)
/-- the first pairs, and the next one -/
theorem Wf.step {ps : List (Str × Str)} (h : Wf ps) : ∀ {i : Nat} {q : Str × Str}, ps[i]? = some q → IsNm q.1 ∧ q.1 ∉ sF :: sS :: (ps.take i).map Prod.fst ∧ q.2 ∈ sF :: (ps.take i).map Prod.fst := by
  induction h with
  | nil => intro i q e; simp at e
  | @snoc ps z y hw hz hn hy ih =>
    intro i q e
    by_cases hi : i < ps.length
    · rw [List.getElem?_append_left hi] at e
      rw [List.take_append_of_le_length (Nat.le_of_lt hi)]
      exact ih e
    · have hi2 : i = ps.length := by
        have := (List.getElem?_eq_some_iff.mp e).1
        rw [List.length_append, List.length_singleton] at this
        omega
      subst hi2
      rw [List.getElem?_append_right (Nat.le_refl _), Nat.sub_self] at e
      have e' : (z, y) = q := by simpa using e
      subst e'
      rw [List.take_left]
      refine ⟨hz, fun m => hn ?_, hy⟩
      rcases List.mem_cons.mp m with m | m
      · exact (show z = sF from m) ▸ List.mem_cons_of_mem _ List.mem_cons_self
      · rcases List.mem_cons.mp m with m | m
        · exact (show z = sS from m) ▸ List.mem_cons_self
        · exact List.mem_cons_of_mem _ (List.mem_cons_of_mem _ m)
def spIsKind (C : Addr) : Sp := fun vs H Q _ => ∃ (kd : Addr) (z : Str) (ps : List (Str × Str)), vs = [.ref kd, .str z] ∧ KindsAt C H kd ps ∧ Q (.bl (decide (z ∈ sF :: sS :: ps.map Prod.fst))) H
def spChkNew (C Pt : Addr) : Sp := fun vs H Q _ => ∃ (kd : Addr) (z y : Str) (ps : List (Str × Str)), vs = [.ref kd, .str z, .str y] ∧ KindsAt C H kd ps ∧ IsNm z ∧ z ∉ sF :: sS :: ps.map Prod.fst ∧ y ∈ sF :: ps.map Prod.fst ∧ ¬ y = sS ∧ GxR.TabG H Pt ∧ ∀ H2, GxR.Tabbed Pt H H2 → Q .non H2
theorem tab_keep {Pt : Addr} {H H' : Hp} (h : GxR.Tabbed Pt H H') : Keep [Pt] H H' := fun b o hb e => by
  rw [h.2 b (fun z => hb (by rw [z]; exact in1))]
  exact e
theorem tab_ex {H : Hp} {Pt : Addr} (h : GxR.TabG H Pt) : ∀ b ∈ [Pt], ∃ o, H b = some o ∧ (∀ C dx fs, o ≠ .ins C dx fs) ∧ ∀ kvs, o ≠ .dK kvs := fun b hb => by
  obtain ⟨ps, e, _⟩ := h
  rw [List.mem_singleton.mp hb]
  exact ⟨_, e, (fun _ _ _ z => by cases z), fun _ z => by cases z⟩
section
variable {P : Program} {w : World} {K : PySem.W.Frag} {mg : Str → Option Value} {base : Heap} {C fI fK fN : Addr}
theorem ok_isKind {fT : Addr} {fd fdT : FuncData} (F : Fun K "is_kind" "Kinds.is_kind" sIsKind fK fd) (T : KTxt K mg C fI fK fN) (FT : FnOk P w K mg base CX0 1 fT fdT ["thing"] spIsText) (mT : mg "is_text" = some (.ref fT)) (kT : PySem.W.keepIn K (.ref fT) = true) (bT : Binds K fdT ["thing"] []) :
    FnOk P w K mg base CX0 2 fK fd ["self", "thing"] (spIsKind C) := by
  refine F.ok scIsKind (fun vs H Q E h => ?_) (fun cdv A outer s H vs Q E hr h => ?_)
  · obtain ⟨kd, z, ps, rfl, _⟩ := h
    rfl
  · obtain ⟨kd, z, ps, rfl, ⟨dx, d, e1, e2⟩, kk⟩ := h
    refine ⟨_, pss_one (ps_ret (pe_and (pe_call FT hr rfl mT kT bT .nil pass0 (pa_cons (pv 1) pa_nil)) (pe_one (pe_cmp (pc_din (hu_of hr) (pv 1) (pe_fld (pv 0) rfl)) rfl)))), ?_⟩
    refine ⟨_, rfl, z, rfl, true, rfl, iteT ⟨_, rfl, _, rfl, kd, C, dx, _, _, rfl, e1, T.cl, T.nA, ab_look _, d, _, rfl, DGet.k (k := Sum.inr z) e2, ?_⟩⟩
    rw [kvs_is]
    exact kk
theorem ok_chkNew {fM : Addr} {fd fdM fdK : FuncData} {Pt : Addr} (F : Fun K "_check_new" "Kinds._check_new" sChkNew fN fd) (T : KTxt K mg C fI fK fN) (FM : FnOk P w K mg base CX0 2 fM fdM ["thing"] (spIsName Pt)) (mM : mg "is_name" = some (.ref fM)) (kM : PySem.W.keepIn K (.ref fM) = true) (bM : Binds K fdM ["thing"] [])
    (FK : FnOk P w K mg base CX0 2 fK fdK ["self", "thing"] (spIsKind C)) (bK : Binds K fdK ["self", "thing"] []) : FnOk P w K mg base CX0 3 fN fd ["self", "name", "above"] (spChkNew C Pt) := by
  refine F.ok scChkNew (fun vs H Q E h => ?_) (fun cdv A outer s H vs Q E hr h => ?_)
  · obtain ⟨kd, z, y, ps, rfl, _⟩ := h
    rfl
  · obtain ⟨kd, z, y, ps, rfl, hk, hz, hz2, hy, hy2, hT, kk⟩ := h
    refine ⟨_, pss_cons (ps_if (PW.pt (pw_or (pt_not (pt_val (pe_call FM hr rfl mM kM bM .nil pass0 (pa_cons (pv 1) pa_nil)))) (pw_or1 (pt_val (pe_meth (pv 0) T.cl T.mK FK hr bK .nil pass0 (pa_cons (pv 1) pa_nil)))))) (pss_one ps_never) pss_nil)
      (pss_one (ps_if (PW.pt (pw_or (pt_not (pt_val (pe_meth (pv 0) T.cl T.mK FK hr bK .nil pass0 (pa_cons (pv 2) pa_nil)))) (pw_or1 (pt_cmpR op_eq (pv 2) pe_str (nomark _))))) (pss_one ps_never) pss_nil)), ?_⟩
    refine ⟨_, rfl, z, rfl, hz, hT, fun H2 hH => ⟨true, rfl, iteF ?_⟩⟩
    have hk2 := hk.keep (tab_keep hH) (tab_ex hT)
    obtain ⟨dx, d, e1, e2⟩ := id hk2
    have noK : ([(("_above" : Str), V.ref d)] : List (Str × V)).lookup ("is_kind" : Str) = none := ab_no _ (by decide +kernel)
    refine ⟨_, rfl, kd, dx, _, rfl, e1, noK, _, rfl, kd, z, ps, rfl, hk2, _, rfl, ?_⟩
    rw [decide_eq_false hz2]
    refine iteF ?_
    refine ⟨_, rfl, kd, dx, _, rfl, e1, noK, _, rfl, kd, y, ps, rfl, hk2, _, rfl, ?_⟩
    have hy3 : y ∈ sF :: sS :: ps.map Prod.fst := by
      rcases List.mem_cons.mp hy with q | q
      · rw [q]; exact List.mem_cons_self
      · exact List.mem_cons_of_mem _ (List.mem_cons_of_mem _ q)
    rw [decide_eq_true hy3]
    refine iteF ⟨_, rfl, rfl, _, rfl, ?_⟩
    rw [decide_eq_false (fun e => hy2 (V.str.inj e))]
    exact iteF (kk H2 hH)
theorem ok_kInit {fd fdN : FuncData} {Pt : Addr} (F : Fun K "__init__" "Kinds.__init__" sKInit fI fd) (T : KTxt K mg C fI fK fN) (FN : FnOk P w K mg base CX0 3 fN fdN ["self", "name", "above"] (spChkNew C Pt)) (bN : Binds K fdN ["self", "name", "above"] []) :
    FnOk P w K mg base CX0 4 fI fd ["self", "pairs"] (spKInit C Pt) := by
  refine F.ok scKInit (fun vs H Q E h => ?_) (fun cdv A outer s H vs Q E hr h => ?_)
  · obtain ⟨p, l, dx, ps, rfl, _⟩ := h
    rfl
  · obtain ⟨p, l, dx, ps, rfl, hp, hP, hw, hlen, hT, kk⟩ := h
    refine ⟨_, pss_cons (ps_fld (pv 0) (pe_disp (pps_cons pe_str pe_non (pps_cons pe_str pe_str pps_nil)) (by rfl) (by rfl) (fun z => by cases z) (by decide)) rfl)
      (pss_one (ps_for PassesOwn.never rfl (pi_list (pv 1)) (pg_tup rfl (pgs_cons (pg_name (i := 2) scKInit.nd rfl (Or.inl rfl)) (pgs_cons (pg_name (i := 3) scKInit.nd rfl (Or.inl rfl)) pgs_nil)))
        (pss_cons (ps_expr (pe_meth (pv 0) T.cl T.mN FN hr bN .nil pass0 (pa_cons (pv 2) (pa_cons (pv 3) pa_nil)))) (pss_one (ps_dput (hu_of hr) (pe_fld (pv 0) rfl) (pv 2) (pv 3) rfl))))), ?_⟩
    intro d hd
    refine ⟨upd_same, kvsOf [], rfl, by decide, ?_⟩
    have npd : p ≠ d := ne_of_none hp hd
    have eK : mergeK [] (kvsOf []) = kvsOf [] := by decide +kernel
    rw [eK, upd_upd]
    refine ⟨_, rfl, p, C, dx, [], rfl, by rw [upd_ne npd]; exact hp, T.cl, T.nA, by decide, ?_⟩
    have k0 : Keep [p, Pt] H (upd (upd H d (.dK (kvsOf []))) p (.ins C dx [("_above", .ref d)])) := (Keep.new hd).ownTo List.mem_cons_self
    obtain ⟨as, el, tl⟩ := hP
    obtain ⟨tb, et, ht⟩ := hT
    have nlp : l ≠ p := ne_of el hp (fun z => nomatch z)
    have nlT : l ≠ Pt := ne_of el et (fun z => nomatch z)
    have nld : l ≠ d := ne_of_none el hd
    have npT : p ≠ Pt := ne_of hp et (fun z => nomatch z)
    have ndT : d ≠ Pt := fun z => by rw [z, et] at hd; cases hd
    have nlx : l ∉ [p, Pt] := fun z => by
      rcases List.mem_cons.mp z with z | z
      · exact nlp z
      · exact nlT (List.mem_singleton.mp z)
    have tx : ∀ a xs, H a = some (.tup xs) → a ∉ [p, Pt] := fun a xs q z => by
      rcases List.mem_cons.mp z with z | z
      · rw [z, hp] at q; cases q
      · rw [List.mem_singleton.mp z, et] at q; cases q
    refine ⟨_, rfl, l, rfl, ⟨_, SqL.of (k0.at el nlx)⟩, for_list (K := K) (a := l) (xs := as.map V.ref) (fun i σ H' => ∃ v2 v3 : Option V, σ = [some (.ref p), some (.ref l), v2, v3] ∧ Keep [p, Pt] H H' ∧ H' p = some (.ins C dx [("_above", .ref d)]) ∧ H' d = some (.dK (kvsOf (ps.take i))) ∧ GxR.TabG H' Pt)
      ⟨none, none, rfl, k0, upd_same, by rw [upd_ne npd.symm, upd_same]; rfl, ⟨tb, by rw [upd_ne npT.symm, upd_ne ndT.symm]; exact et, ht⟩⟩
      (fun i σ H' _ ⟨_, _, _, k, _⟩ => SqL.of (k.at el nlx)) ?_ ?_⟩
    · rintro i x σ H1 hx ⟨v2, v3, rfl, k1, e1, e2, hT1⟩
      obtain ⟨a, ha, rfl⟩ : ∃ a, as[i]? = some a ∧ x = V.ref a := by
        rw [List.getElem?_map] at hx
        cases q : as[i]? with
        | none => rw [q] at hx; cases hx
        | some a => rw [q] at hx; exact ⟨a, rfl, (Option.some.inj hx).symm⟩
      obtain ⟨q, hq2, hta⟩ := tl.at ha
      obtain ⟨w1, w2, w3⟩ := hw.step hq2
      have hns := hw.not_sheaf
      have hta1 : H1 a = some (.tup [.str q.1, .str q.2]) := k1.at hta (tx a _ hta)
      refine ⟨a, _, rfl, SqT.of hta1, rfl, _, _, rfl, _, _, rfl, rfl, ?_⟩
      have noN : ([(("_above" : Str), V.ref d)] : List (Str × V)).lookup ("_check_new" : Str) = none := ab_no _ (by decide +kernel)
      have hy : ¬ q.2 = sS := by
        refine hns q.2 ?_
        rcases List.mem_cons.mp w3 with m | m
        · rw [m]; exact List.mem_cons_self
        · obtain ⟨u, hu, eu⟩ := List.mem_map.mp m
          exact List.mem_cons_of_mem _ (List.mem_map.mpr ⟨u, List.mem_of_mem_take hu, eu⟩)
      refine ⟨_, rfl, p, dx, _, rfl, e1, noN, _, rfl, _, rfl, p, q.1, q.2, ps.take i, rfl, ⟨dx, d, e1, e2⟩, w1, w2, w3, hy, hT1, fun H2 hH => ?_⟩
      have k2 := tab_keep hH
      have e12 : H2 p = some (.ins C dx [("_above", .ref d)]) := k2.at e1 (nin1 npT)
      have e22 : H2 d = some (.dK (kvsOf (ps.take i))) := k2.at e2 (nin1 ndT)
      have hil : i < ps.length := (List.getElem?_eq_some_iff.mp hq2).1
      refine ⟨_, rfl, _, rfl, p, C, dx, _, _, rfl, e12, T.cl, T.nA, ab_look _, ?_⟩
      have hlk : (kvsOf (ps.take i)).length < sizeLine := by
        rw [kvs_len, List.length_take]
        exact Nat.lt_of_lt_of_le (by omega : min i ps.length + 2 < 1000) (by decide)
      refine ⟨_, rfl, d, _, rfl, DPut.k (k := Sum.inr q.1) e22 hlk, ?_⟩
      have eT : ps.take (i + 1) = ps.take i ++ [(q.1, q.2)] := by rw [List.take_add_one, hq2]; rfl
      rw [kvs_put w2, ← eT]
      refine ⟨_, _, rfl, ((k1.trans (k2.more fun b hb => List.mem_cons_of_mem _ hb)).freshTo hd), by rw [upd_ne npd]; exact e12, upd_same, ?_⟩
      obtain ⟨tb2, et2, ht2⟩ := hH.1
      exact ⟨tb2, by rw [upd_ne ndT.symm]; exact et2, ht2⟩
    · rintro σ H1 ⟨v2, v3, rfl, k1, e1, e2, hT1⟩
      rw [List.length_map, tl.len, List.take_length] at e2
      exact kk H1 k1 ⟨dx, d, e1, e2⟩ hT1
end
end Fs
/-! The ledger: what it holds. -/
namespace Fs
open PySem L2 TL
/-- a fault -/
structure Ent where
  kind : Str
  text : Str
  mem : List Nat
  notes : List Str
  cause : Option Nat
  atw : Option Nat
def optV : Option Nat → V
  | none => .non
  | some k => .int (k : Int)
/-- where a ledger's own lists stand -/
structure LA where
  dx : Addr
  kd : Addr
  l1 : Addr
  l2 : Addr
  l3 : Addr
  l4 : Addr
  l5 : Addr
  l6 : Addr
def LA.ls (A : LA) : List Addr := [A.l1, A.l2, A.l3, A.l4, A.l5, A.l6]
def fldsL (A : LA) : List (Str × V) := [("_kinds", .ref A.kd), ("_kind_of", .ref A.l1), ("_text_of", .ref A.l2), ("_members_of", .ref A.l3), ("_notes_of", .ref A.l4), ("_cause_of", .ref A.l5), ("_at_work_of", .ref A.l6)]
theorem fl0 (A : LA) : (fldsL A).lookup ("_kinds" : Str) = some (.ref A.kd) := rfl
theorem fl1 (A : LA) : (fldsL A).lookup ("_kind_of" : Str) = some (.ref A.l1) := rfl
theorem fl2 (A : LA) : (fldsL A).lookup ("_text_of" : Str) = some (.ref A.l2) := rfl
theorem fl3 (A : LA) : (fldsL A).lookup ("_members_of" : Str) = some (.ref A.l3) := rfl
theorem fl4 (A : LA) : (fldsL A).lookup ("_notes_of" : Str) = some (.ref A.l4) := rfl
theorem fl5 (A : LA) : (fldsL A).lookup ("_cause_of" : Str) = some (.ref A.l5) := rfl
theorem fl6 (A : LA) : (fldsL A).lookup ("_at_work_of" : Str) = some (.ref A.l6) := rfl
theorem flno (A : LA) : (fldsL A).lookup ("_check_fault" : Str) = none := rfl
/-- a list of tuples of whole numbers, as the faults have them -/
def MemsAt (H : Hp) : List Addr → List Ent → Prop
  | [], [] => True
  | a :: as, e :: es => H a = some (.tup (e.mem.map fun k : Nat => V.int (k : Int))) ∧ MemsAt H as es
  | _, _ => False
def NotesAt (H : Hp) : List Addr → List Ent → Prop
  | [], [] => True
  | a :: as, e :: es => H a = some (.lst (e.notes.map V.str)) ∧ NotesAt H as es
  | _, _ => False
theorem MemsAt.map {H H' : Hp} (k : ∀ a xs, H a = some (.tup xs) → H' a = some (.tup xs)) : ∀ {as : List Addr} {es : List Ent}, MemsAt H as es → MemsAt H' as es
  | [], [], _ => True.intro
  | _ :: as, _ :: es, h => ⟨k _ _ h.1, MemsAt.map k h.2⟩
  | [], _ :: _, h => h.elim
  | _ :: _, [], h => h.elim
theorem MemsAt.len {H : Hp} : ∀ {as : List Addr} {es : List Ent}, MemsAt H as es → as.length = es.length
  | [], [], _ => rfl
  | _ :: as, _ :: es, h => by rw [List.length_cons, List.length_cons, MemsAt.len h.2]
  | [], _ :: _, h => h.elim
  | _ :: _, [], h => h.elim
theorem MemsAt.snoc {H : Hp} {b : Addr} {e : Ent} (hb : H b = some (.tup (e.mem.map fun k : Nat => V.int (k : Int)))) : ∀ {as : List Addr} {es : List Ent}, MemsAt H as es → MemsAt H (as ++ [b]) (es ++ [e])
  | [], [], _ => ⟨hb, True.intro⟩
  | _ :: as, _ :: es, h => ⟨h.1, MemsAt.snoc hb h.2⟩
  | [], _ :: _, h => h.elim
  | _ :: _, [], h => h.elim
theorem MemsAt.at {H : Hp} : ∀ {as : List Addr} {es : List Ent} {i : Nat} {e : Ent}, MemsAt H as es → es[i]? = some e → ∃ a, as[i]? = some a ∧ H a = some (.tup (e.mem.map fun k : Nat => V.int (k : Int)))
  | _, [], _, _, _, q => by simp at q
  | [], _ :: _, _, _, h, _ => h.elim
  | b :: as, f :: es, 0, e, h, q => by
    have e' : f = e := by simpa using q
    subst e'
    exact ⟨b, rfl, h.1⟩
  | b :: as, f :: es, i + 1, e, h, q => MemsAt.at (i := i) h.2 (by simpa using q)
theorem NotesAt.map {H H' : Hp} : ∀ {as : List Addr} {es : List Ent}, (∀ a ∈ as, ∀ xs, H a = some (.lst xs) → H' a = some (.lst xs)) → NotesAt H as es → NotesAt H' as es
  | [], [], _, _ => True.intro
  | _ :: as, _ :: es, k, h => ⟨k _ List.mem_cons_self _ h.1, NotesAt.map (fun a ha => k a (List.mem_cons_of_mem _ ha)) h.2⟩
  | [], _ :: _, _, h => h.elim
  | _ :: _, [], _, h => h.elim
theorem NotesAt.len {H : Hp} : ∀ {as : List Addr} {es : List Ent}, NotesAt H as es → as.length = es.length
  | [], [], _ => rfl
  | _ :: as, _ :: es, h => by rw [List.length_cons, List.length_cons, NotesAt.len h.2]
  | [], _ :: _, h => h.elim
  | _ :: _, [], h => h.elim
theorem NotesAt.snoc {H : Hp} {b : Addr} {e : Ent} (hb : H b = some (.lst (e.notes.map V.str))) : ∀ {as : List Addr} {es : List Ent}, NotesAt H as es → NotesAt H (as ++ [b]) (es ++ [e])
  | [], [], _ => ⟨hb, True.intro⟩
  | _ :: as, _ :: es, h => ⟨h.1, NotesAt.snoc hb h.2⟩
  | [], _ :: _, h => h.elim
  | _ :: _, [], h => h.elim
theorem NotesAt.at {H : Hp} : ∀ {as : List Addr} {es : List Ent} {i : Nat} {e : Ent}, NotesAt H as es → es[i]? = some e → ∃ a, as[i]? = some a ∧ H a = some (.lst (e.notes.map V.str))
  | _, [], _, _, _, q => by simp at q
  | [], _ :: _, _, _, h, _ => h.elim
  | b :: as, f :: es, 0, e, h, q => by
    have e' : f = e := by simpa using q
    subst e'
    exact ⟨b, rfl, h.1⟩
  | b :: as, f :: es, i + 1, e, h, q => NotesAt.at (i := i) h.2 (by simpa using q)
theorem NotesAt.is {H : Hp} : ∀ {as : List Addr} {es : List Ent}, NotesAt H as es → ∀ a ∈ as, ∃ xs, H a = some (.lst xs)
  | [], [], _, _, h => absurd h List.not_mem_nil
  | _ :: as, _ :: es, h, a, m => by
    rcases List.mem_cons.mp m with m | m
    · rw [m]; exact ⟨_, h.1⟩
    · exact NotesAt.is h.2 a m
  | [], _ :: _, h, _, _ => h.elim
  | _ :: _, [], h, _, _ => h.elim
/-- a ledger at p with these faults -/
structure LedAt (C : Addr) (H : Hp) (p : Addr) (A : LA) (ms ns : List Addr) (es : List Ent) : Prop where
  ins : H p = some (.ins C A.dx (fldsL A))
  h1 : H A.l1 = some (.lst (es.map fun e => V.str e.kind))
  h2 : H A.l2 = some (.lst (es.map fun e => V.str e.text))
  h3 : H A.l3 = some (.lst (ms.map V.ref))
  h4 : H A.l4 = some (.lst (ns.map V.ref))
  h5 : H A.l5 = some (.lst (es.map fun e => optV e.cause))
  h6 : H A.l6 = some (.lst (es.map fun e => optV e.atw))
  mems : MemsAt H ms es
  notes : NotesAt H ns es
  nd : (A.ls ++ ns).Nodup
theorem LedAt.isl {C : Addr} {H : Hp} {p : Addr} {A : LA} {ms ns : List Addr} {es : List Ent} (h : LedAt C H p A ms ns es) : ∀ a ∈ A.ls, ∃ xs, H a = some (.lst xs) := by
  intro a ha
  have q : a = A.l1 ∨ a = A.l2 ∨ a = A.l3 ∨ a = A.l4 ∨ a = A.l5 ∨ a = A.l6 := by simpa [LA.ls] using ha
  rcases q with q | q | q | q | q | q <;> rw [q]
  · exact ⟨_, h.h1⟩
  · exact ⟨_, h.h2⟩
  · exact ⟨_, h.h3⟩
  · exact ⟨_, h.h4⟩
  · exact ⟨_, h.h5⟩
  · exact ⟨_, h.h6⟩
/-- what does not touch its lists leaves a ledger as it is -/
theorem LedAt.keep {C : Addr} {H H' : Hp} {p : Addr} {A : LA} {ms ns : List Addr} {es : List Ent} {ex : List Addr} (h : LedAt C H p A ms ns es) (k : Keep ex H H') (hl : ∀ b ∈ ex, b ∉ A.ls ++ ns) (hx : ∀ b ∈ ex, ∃ xs, H b = some (.lst xs)) : LedAt C H' p A ms ns es := by
  have nl : ∀ a ∈ A.ls ++ ns, a ∉ ex := fun a ha z => hl a z ha
  have ni : ∀ o, (∀ xs, o ≠ .lst xs) → ∀ b, H b = some o → b ∉ ex := fun o ho b e z => by
    obtain ⟨xs, q⟩ := hx b z
    rw [e] at q
    exact ho xs (Option.some.inj q)
  have m : ∀ a, a ∈ A.ls → a ∉ ex := fun a ha => nl a (List.mem_append_left _ ha)
  exact ⟨k.at h.ins (ni _ (fun _ z => by cases z) _ h.ins), k.at h.h1 (m _ (by simp [LA.ls])), k.at h.h2 (m _ (by simp [LA.ls])), k.at h.h3 (m _ (by simp [LA.ls])), k.at h.h4 (m _ (by simp [LA.ls])), k.at h.h5 (m _ (by simp [LA.ls])), k.at h.h6 (m _ (by simp [LA.ls])),
    h.mems.map fun a xs q => k.at q (ni _ (fun _ z => by cases z) _ q), h.notes.map fun a ha xs q => k.at q (nl a (List.mem_append_right _ ha)), h.nd⟩
end Fs
/-! The ledger's ways in and out. -/
namespace Fs
open PySem L2 TL
abbrev cLed : Stmt := top 14
abbrev sLInit : Stmt := inClass cLed 0
abbrev sPlain : Stmt := inClass cLed 1
abbrev sSheaf : Stmt := inClass cLed 2
abbrev sMany : Stmt := inClass cLed 4
abbrev sKind : Stmt := inClass cLed 5
abbrev sTextM : Stmt := inClass cLed 6
abbrev sMembers : Stmt := inClass cLed 7
abbrev sNotes : Stmt := inClass cLed 8
abbrev sCause : Stmt := inClass cLed 9
abbrev sAtWork : Stmt := inClass cLed 10
abbrev sAdd : Stmt := inClass cLed 18
abbrev sChkF : Stmt := inClass cLed 20
abbrev sChkT : Stmt := inClass cLed 22
abbrev sChkM : Stmt := inClass cLed 23
theorem scLInit : FnScope ["self", "kinds"] ["self", "kinds"] (defScope sLInit) := ⟨rfl, rfl, rfl, by decide +kernel, rfl, by decide +kernel, by decide +kernel⟩
theorem scPlain : FnScope ["self", "kind", "text"] ["self", "kind", "text"] (defScope sPlain) := ⟨rfl, rfl, rfl, by decide +kernel, rfl, by decide +kernel, by decide +kernel⟩
theorem scSheaf : FnScope ["self", "text", "members"] ["self", "text", "members"] (defScope sSheaf) := ⟨rfl, rfl, rfl, by decide +kernel, rfl, by decide +kernel, by decide +kernel⟩
theorem scMany : FnScope ["self"] ["self"] (defScope sMany) := ⟨rfl, rfl, rfl, by decide +kernel, rfl, by decide +kernel, by decide +kernel⟩
theorem scKind : FnScope ["self", "k"] ["self", "k"] (defScope sKind) := ⟨rfl, rfl, rfl, by decide +kernel, rfl, by decide +kernel, by decide +kernel⟩
theorem scTextM : FnScope ["self", "k"] ["self", "k"] (defScope sTextM) := ⟨rfl, rfl, rfl, by decide +kernel, rfl, by decide +kernel, by decide +kernel⟩
theorem scMembers : FnScope ["self", "k"] ["self", "k"] (defScope sMembers) := ⟨rfl, rfl, rfl, by decide +kernel, rfl, by decide +kernel, by decide +kernel⟩
theorem scNotes : FnScope ["self", "k"] ["self", "k"] (defScope sNotes) := ⟨rfl, rfl, rfl, by decide +kernel, rfl, by decide +kernel, by decide +kernel⟩
theorem scCause : FnScope ["self", "k"] ["self", "k"] (defScope sCause) := ⟨rfl, rfl, rfl, by decide +kernel, rfl, by decide +kernel, by decide +kernel⟩
theorem scAtWork : FnScope ["self", "k"] ["self", "k"] (defScope sAtWork) := ⟨rfl, rfl, rfl, by decide +kernel, rfl, by decide +kernel, by decide +kernel⟩
theorem scAdd : FnScope ["self", "kind", "text", "members"] ["self", "kind", "text", "members"] (defScope sAdd) := ⟨rfl, rfl, rfl, by decide +kernel, rfl, by decide +kernel, by decide +kernel⟩
theorem scChkF : FnScope ["self", "k"] ["self", "k"] (defScope sChkF) := ⟨rfl, rfl, rfl, by decide +kernel, rfl, by decide +kernel, by decide +kernel⟩
theorem scChkT : FnScope ["self", "text"] ["self", "text"] (defScope sChkT) := ⟨rfl, rfl, rfl, by decide +kernel, rfl, by decide +kernel, by decide +kernel⟩
theorem scChkM : FnScope ["self", "members", "k"] ["self", "members"] (defScope sChkM) := ⟨rfl, rfl, rfl, by decide +kernel, rfl, by decide +kernel, by decide +kernel⟩
/-- the class's own text -/
structure LTxt (K : PySem.W.Frag) (mg : Str → Option Value) (C fA fCF fCT fCM : Addr) : Prop where
  cl : Cls K C
  n0 : NoAttr K C "_kinds"
  n1 : NoAttr K C "_kind_of"
  n2 : NoAttr K C "_text_of"
  n3 : NoAttr K C "_members_of"
  n4 : NoAttr K C "_notes_of"
  n5 : NoAttr K C "_cause_of"
  n6 : NoAttr K C "_at_work_of"
  mA : Meth K C "_add" fA
  mF : Meth K C "_check_fault" fCF
  mT : Meth K C "_check_text" fCT
  mM : Meth K C "_check_members" fCM
  len : mg "len" = none
  tup : mg "tuple" = none
  lst : mg "list" = none
/-- a number of a fault that is there -/
def spChkF (C : Addr) : Sp := fun vs H Q _ => ∃ (p : Addr) (A : LA) (ms ns : List Addr) (es : List Ent) (k : Nat), vs = [.ref p, .int (k : Int)] ∧ LedAt C H p A ms ns es ∧ k < es.length ∧ Q .non H
def spChkT (C : Addr) : Sp := fun vs H Q _ => ∃ (p : Addr) (z : Str), vs = [.ref p, .str z] ∧ Q .non H
def spMany (C : Addr) : Sp := fun vs H Q _ => ∃ (p : Addr) (A : LA) (ms ns : List Addr) (es : List Ent), vs = [.ref p] ∧ LedAt C H p A ms ns es ∧ Q (.int (es.length : Int)) H
/-- one of the ways to look at a fault -/
def spGet (C : Addr) (g : Ent → V) : Sp := fun vs H Q _ => ∃ (p : Addr) (A : LA) (ms ns : List Addr) (es : List Ent) (k : Nat) (e : Ent), vs = [.ref p, .int (k : Int)] ∧ LedAt C H p A ms ns es ∧ es[k]? = some e ∧ Q (g e) H
/-- .. a list of one's own -/
def spGetL (C : Addr) (g : Ent → List V) : Sp := fun vs H Q _ => ∃ (p : Addr) (A : LA) (ms ns : List Addr) (es : List Ent) (k : Nat) (e : Ent), vs = [.ref p, .int (k : Int)] ∧ LedAt C H p A ms ns es ∧ es[k]? = some e ∧ ∀ l, H l = none → Q (.ref l) (upd H l (.lst (g e)))
section
variable {P : Program} {w : World} {K : PySem.W.Frag} {mg : Str → Option Value} {base : Heap} {C fA fCF fCT fCM : Addr}
theorem ok_chkF {fW : Addr} {fd fdW : FuncData} (F : Fun K "_check_fault" "Ledger._check_fault" sChkF fCF fd) (T : LTxt K mg C fA fCF fCT fCM) (FW : FnOk P w K mg base CX0 1 fW fdW ["thing"] spWhole) (mW : mg "is_whole" = some (.ref fW)) (kW : PySem.W.keepIn K (.ref fW) = true) (bW : Binds K fdW ["thing"] []) :
    FnOk P w K mg base CX0 2 fCF fd ["self", "k"] (spChkF C) := by
  refine F.ok scChkF (fun vs H Q E h => ?_) (fun cdv A outer s H vs Q E hr h => ?_)
  · obtain ⟨p, L, ms, ns, es, k, rfl, _⟩ := h
    rfl
  · obtain ⟨p, L, ms, ns, es, k, rfl, hL, hk, kk⟩ := h
    refine ⟨_, pss_one (ps_if (PW.pt (pw_or (pt_not (pt_val (pe_call FW hr rfl mW kW bW .nil pass0 (pa_cons (pv 1) pa_nil)))) (pw_or1 (pt_not (pt_chain op_le op_lt pe_int (pv 1) (pe_callB call_len_seq (by rfl) T.len PySem.boot_len (pa_cons (pe_fld (pv 0) rfl) pa_nil))))))) (pss_one ps_never) pss_nil), ?_⟩
    refine ⟨_, rfl, _, rfl, true, rfl, iteF ?_⟩
    refine ⟨_, rfl, _, _, rfl, rfl, _, rfl, ?_⟩
    rw [decide_eq_true (show (0 : Int) ≤ (k : Int) by omega)]
    refine iteT ⟨_, rfl, p, C, L.dx, _, _, rfl, hL.ins, T.cl, T.n1, fl1 L, L.l1, _, rfl, .inl (SqL.of hL.h1), _, _, rfl, rfl, _, rfl, ?_⟩
    rw [List.length_map, decide_eq_true (show (k : Int) < (es.length : Int) by omega)]
    exact iteF kk
theorem ok_chkT {fX : Addr} {fd fdX : FuncData} (F : Fun K "_check_text" "Ledger._check_text" sChkT fCT fd) (FX : FnOk P w K mg base CX0 1 fX fdX ["thing"] spIsText) (mX : mg "is_text" = some (.ref fX)) (kX : PySem.W.keepIn K (.ref fX) = true) (bX : Binds K fdX ["thing"] []) :
    FnOk P w K mg base CX0 2 fCT fd ["self", "text"] (spChkT C) := by
  refine F.ok scChkT (fun vs H Q E h => ?_) (fun cdv A outer s H vs Q E hr h => ?_)
  · obtain ⟨p, z, rfl, _⟩ := h
    rfl
  · obtain ⟨p, z, rfl, kk⟩ := h
    refine ⟨_, pss_one (ps_if (pt_not (pt_val (pe_call FX hr rfl mX kX bX .nil pass0 (pa_cons (pv 1) pa_nil)))) (pss_one ps_never) pss_nil), ?_⟩
    exact ⟨_, rfl, z, rfl, true, rfl, iteF kk⟩
theorem ok_kind {f : Addr} {fd fdF : FuncData} (F : Fun K "kind" "Ledger.kind" sKind f fd) (T : LTxt K mg C fA fCF fCT fCM) (FF : FnOk P w K mg base CX0 2 fCF fdF ["self", "k"] (spChkF C)) (bF : Binds K fdF ["self", "k"] []) : FnOk P w K mg base CX0 3 f fd ["self", "k"] (spGet C fun e => .str e.kind) := by
  refine F.ok scKind (fun vs H Q E h => ?_) (fun cdv A outer s H vs Q E hr h => ?_)
  · obtain ⟨p, L, ms, ns, es, k, e, rfl, _⟩ := h
    rfl
  · obtain ⟨p, L, ms, ns, es, k, e, rfl, hL, he, kk⟩ := h
    have hk := (List.getElem?_eq_some_iff.mp he).1
    refine ⟨_, pss_cons (ps_expr (pe_meth (pv 0) T.cl T.mF FF hr bF .nil pass0 (pa_cons (pv 1) pa_nil))) (pss_one (ps_ret (pe_ix ix_list (pe_fld (pv 0) rfl) (pv 1) (fun _ _ => rfl)))), ?_⟩
    refine ⟨_, rfl, p, L.dx, _, rfl, hL.ins, flno L, _, rfl, p, L, ms, ns, es, k, rfl, hL, hk, ?_⟩
    exact ⟨_, rfl, p, C, L.dx, _, _, rfl, hL.ins, T.cl, T.n1, fl1 L, _, rfl, L.l1, _, _, _, rfl, rfl, SqL.of hL.h1, atI_nat (by rw [List.getElem?_map, he]; rfl), kk⟩
theorem ok_textM {f : Addr} {fd fdF : FuncData} (F : Fun K "text" "Ledger.text" sTextM f fd) (T : LTxt K mg C fA fCF fCT fCM) (FF : FnOk P w K mg base CX0 2 fCF fdF ["self", "k"] (spChkF C)) (bF : Binds K fdF ["self", "k"] []) : FnOk P w K mg base CX0 3 f fd ["self", "k"] (spGet C fun e => .str e.text) := by
  refine F.ok scTextM (fun vs H Q E h => ?_) (fun cdv A outer s H vs Q E hr h => ?_)
  · obtain ⟨p, L, ms, ns, es, k, e, rfl, _⟩ := h
    rfl
  · obtain ⟨p, L, ms, ns, es, k, e, rfl, hL, he, kk⟩ := h
    have hk := (List.getElem?_eq_some_iff.mp he).1
    refine ⟨_, pss_cons (ps_expr (pe_meth (pv 0) T.cl T.mF FF hr bF .nil pass0 (pa_cons (pv 1) pa_nil))) (pss_one (ps_ret (pe_ix ix_list (pe_fld (pv 0) rfl) (pv 1) (fun _ _ => rfl)))), ?_⟩
    refine ⟨_, rfl, p, L.dx, _, rfl, hL.ins, flno L, _, rfl, p, L, ms, ns, es, k, rfl, hL, hk, ?_⟩
    exact ⟨_, rfl, p, C, L.dx, _, _, rfl, hL.ins, T.cl, T.n2, fl2 L, _, rfl, L.l2, _, _, _, rfl, rfl, SqL.of hL.h2, atI_nat (by rw [List.getElem?_map, he]; rfl), kk⟩
end
end Fs
/-! A fault more. -/
namespace Fs
open PySem L2 TL
/-- a new fault: its members as they are handed in -/
def spAdd (K : PySem.W.Frag) (C : Addr) : Sp := fun vs H Q _ => ∃ (p m : Addr) (A : LA) (ms ns : List Addr) (es : List Ent) (z t : Str) (mem : List Nat), vs = [.ref p, .str z, .str t, .ref m] ∧ LedAt C H p A ms ns es ∧ SqL K H m (mem.map fun k : Nat => V.int (k : Int)) ∧ m ∉ A.ls ∧ es.length < 1000 ∧
  ∀ (H' : Hp) (t' n' : Addr), Keep A.ls H H' → LedAt C H' p A (ms ++ [t']) (ns ++ [n']) (es ++ [⟨z, t, mem, [], none, none⟩]) → H n' = none → Q (.int (es.length : Int)) H'
theorem app_run {K : PySem.W.Frag} {C p dx l : Addr} {fs : List (Str × V)} {f : Str} {xs : List V} {v : V} {σ : L2.St} {H : Hp} {te : TE} {D : Ends} (hσ : σ[0]? = some (some (.ref p))) (hp : H p = some (.ins C dx fs)) (cl : Cls K C) (na : NoAttr K C f) (hf : fs.lookup f = some (.ref l))
    (hl : H l = some (.lst xs)) (hlen : xs.length ≤ 1000) (hte : ∀ Q : VK, Q v H → te σ H Q) (h : D.nx σ (upd H l (.lst (xs ++ [v])))) : tDrop (tBM K "list" rAppend (tFld K (tVar 0) f) (tCons te tNil)) D σ H := by
  refine ⟨_, hσ, p, C, dx, fs, _, rfl, hp, cl, na, hf, .inl ⟨rfl, _, SqL.of hl⟩, hte _ ?_⟩
  exact ⟨l, xs, v, rfl, rfl, hl, Nat.lt_of_le_of_lt hlen (by decide), h⟩
theorem ls_ne {A : LA} {ns : List Addr} (h : (A.ls ++ ns).Nodup) : A.l1 ≠ A.l2 ∧ A.l1 ≠ A.l3 ∧ A.l1 ≠ A.l4 ∧ A.l1 ≠ A.l5 ∧ A.l1 ≠ A.l6 ∧ A.l2 ≠ A.l3 ∧ A.l2 ≠ A.l4 ∧ A.l2 ≠ A.l5 ∧ A.l2 ≠ A.l6 ∧ A.l3 ≠ A.l4 ∧ A.l3 ≠ A.l5 ∧ A.l3 ≠ A.l6 ∧ A.l4 ≠ A.l5 ∧ A.l4 ≠ A.l6 ∧ A.l5 ≠ A.l6 := by
  have q := (List.nodup_append.mp h).1
  simp [LA.ls] at q
  obtain ⟨⟨a, b, c, d, e⟩, ⟨f, g, h, i⟩, ⟨j, k, l⟩, ⟨m, n⟩, o⟩ := q
  exact ⟨a, b, c, d, e, f, g, h, i, j, k, l, m, n, o⟩
theorem l_in (A : LA) : A.l1 ∈ A.ls ∧ A.l2 ∈ A.ls ∧ A.l3 ∈ A.ls ∧ A.l4 ∈ A.ls ∧ A.l5 ∈ A.ls ∧ A.l6 ∈ A.ls := by simp [LA.ls]
section
variable {P : Program} {w : World} {K : PySem.W.Frag} {mg : Str → Option Value} {base : Heap} {C fA fCF fCT fCM : Addr}
theorem ok_add {fd : FuncData} (F : Fun K "_add" "Ledger._add" sAdd fA fd) (T : LTxt K mg C fA fCF fCT fCM) : FnOk P w K mg base CX0 1 fA fd ["self", "kind", "text", "members"] (spAdd K C) := by
  refine F.ok scAdd (fun vs H Q E h => ?_) (fun cdv A outer s H vs Q E hr h => ?_)
  · obtain ⟨p, m, L, ms, ns, es, z, t, mem, rfl, _⟩ := h
    rfl
  · obtain ⟨p, m, L, ms, ns, es, z, t, mem, rfl, hL, hm, hmn, hlen, kk⟩ := h
    obtain ⟨n12, n13, n14, n15, n16, n23, n24, n25, n26, n34, n35, n36, n45, n46, n56⟩ := ls_ne hL.nd
    obtain ⟨i1, i2, i3, i4, i5, i6⟩ := l_in L
    have lm := hL.mems.len
    have ln := hL.notes.len
    refine ⟨_, pss_cons (ps_expr (pe_bm PySem.F.plainAttrs_list PySem.F.slot_list_append PySem.F.type_list_append mt_append (pe_fld (pv 0) rfl) (pa_cons (pv 1) pa_nil))) (pss_cons (ps_expr (pe_bm PySem.F.plainAttrs_list PySem.F.slot_list_append PySem.F.type_list_append mt_append (pe_fld (pv 0) rfl) (pa_cons (pv 2) pa_nil))) (pss_cons (ps_expr (pe_bm PySem.F.plainAttrs_list PySem.F.slot_list_append PySem.F.type_list_append mt_append (pe_fld (pv 0) rfl) (pa_cons (pe_callTy call_tuple_of (by rfl) T.tup (by decide +kernel) (pa_cons (pv 3) pa_nil)) pa_nil))) (pss_cons (ps_expr (pe_bm PySem.F.plainAttrs_list PySem.F.slot_list_append PySem.F.type_list_append mt_append (pe_fld (pv 0) rfl) (pa_cons (pe_lst pa_nil) pa_nil))) (pss_cons (ps_expr (pe_bm PySem.F.plainAttrs_list PySem.F.slot_list_append PySem.F.type_list_append mt_append (pe_fld (pv 0) rfl) (pa_cons pe_non pa_nil))) (pss_cons (ps_expr (pe_bm PySem.F.plainAttrs_list PySem.F.slot_list_append PySem.F.type_list_append mt_append (pe_fld (pv 0) rfl) (pa_cons pe_non pa_nil)))
      (pss_one (ps_ret (pe_op op_sub (pe_callB call_len_seq (by rfl) T.len PySem.boot_len (pa_cons (pe_fld (pv 0) rfl) pa_nil)) pe_int)))))))), ?_⟩
    -- kind
    refine app_run rfl hL.ins T.cl T.n1 (fl1 L) hL.h1 (by rw [List.length_map]; omega) (fun Q q => ⟨_, rfl, q⟩) ?_
    have k1 : Keep [L.l1] H (upd H L.l1 (.lst ((es.map fun e => V.str e.kind) ++ [.str z]))) := Keep.own in1
    have a1 : (upd H L.l1 (.lst ((es.map fun e => V.str e.kind) ++ [.str z]))) L.l1 = _ := upd_same
    generalize (upd H L.l1 (.lst ((es.map fun e => V.str e.kind) ++ [.str z]))) = H1 at k1 a1 ⊢
    have p1 : H1 p = some (.ins C L.dx (fldsL L)) := k1.at hL.ins (nin1 (ne_of hL.ins hL.h1 (fun z => by cases z)))
    have b2 := k1.at hL.h2 (nin1 n12.symm)
    -- text
    refine app_run rfl p1 T.cl T.n2 (fl2 L) b2 (by rw [List.length_map]; omega) (fun Q q => ⟨_, rfl, q⟩) ?_
    have k2 : Keep [L.l2] H1 (upd H1 L.l2 (.lst ((es.map fun e => V.str e.text) ++ [.str t]))) := Keep.own in1
    have a2 : (upd H1 L.l2 (.lst ((es.map fun e => V.str e.text) ++ [.str t]))) L.l2 = _ := upd_same
    generalize (upd H1 L.l2 (.lst ((es.map fun e => V.str e.text) ++ [.str t]))) = H2 at k2 a2 ⊢
    have p2 : H2 p = some (.ins C L.dx (fldsL L)) := k2.at p1 (nin1 (ne_of p1 b2 (fun z => by cases z)))
    have nm : ∀ l, l ∈ L.ls → m ∉ [l] := fun l hl z => hmn (by rw [List.mem_singleton.mp z]; exact hl)
    have m2 := k2.seq (nm _ i2) (k1.seq (nm _ i1) hm)
    have b3 := k2.at (k1.at hL.h3 (nin1 n13.symm)) (nin1 n23.symm)
    -- tuple(members)
    refine ⟨_, rfl, p, C, L.dx, _, _, rfl, p2, T.cl, T.n3, fl3 L, .inl ⟨rfl, _, SqL.of b3⟩, _, rfl, m, _, rfl, .inl ⟨m2, fun u hu => ?_⟩⟩
    have k3 : Keep [] H2 (upd H2 u (.tup (mem.map fun k : Nat => V.int (k : Int)))) := Keep.new hu
    have a3 : (upd H2 u (.tup (mem.map fun k : Nat => V.int (k : Int)))) u = _ := upd_same
    generalize (upd H2 u (.tup (mem.map fun k : Nat => V.int (k : Int)))) = H3 at k3 a3 ⊢
    have b3' := k3.at b3 nin0
    refine ⟨L.l3, _, _, rfl, rfl, b3', Nat.lt_of_le_of_lt (by rw [List.length_map]; omega : (ms.map V.ref).length ≤ 1000) (by decide), ?_⟩
    have k4 : Keep [L.l3] H3 (upd H3 L.l3 (.lst ((ms.map V.ref) ++ [.ref u]))) := Keep.own in1
    have a4 : (upd H3 L.l3 (.lst ((ms.map V.ref) ++ [.ref u]))) L.l3 = _ := upd_same
    generalize (upd H3 L.l3 (.lst ((ms.map V.ref) ++ [.ref u]))) = H4 at k4 a4 ⊢
    have p4 : H4 p = some (.ins C L.dx (fldsL L)) := k4.at (k3.at p2 nin0) (nin1 (ne_of (k3.at p2 nin0) b3' (fun z => by cases z)))
    have b4 := k4.at (k3.at (k2.at (k1.at hL.h4 (nin1 n14.symm)) (nin1 n24.symm)) nin0) (nin1 n34.symm)
    -- []
    refine ⟨_, rfl, p, C, L.dx, _, _, rfl, p4, T.cl, T.n4, fl4 L, .inl ⟨rfl, _, SqL.of b4⟩, Nat.zero_le _, fun n hn => ?_⟩
    have k5 : Keep [] H4 (upd H4 n (.lst [])) := Keep.new hn
    have a5 : (upd H4 n (.lst [])) n = _ := upd_same
    generalize (upd H4 n (.lst [])) = H5 at k5 a5 ⊢
    have b4' := k5.at b4 nin0
    refine ⟨L.l4, _, _, rfl, rfl, b4', Nat.lt_of_le_of_lt (by rw [List.length_map]; omega : (ns.map V.ref).length ≤ 1000) (by decide), ?_⟩
    have k6 : Keep [L.l4] H5 (upd H5 L.l4 (.lst ((ns.map V.ref) ++ [.ref n]))) := Keep.own in1
    have a6 : (upd H5 L.l4 (.lst ((ns.map V.ref) ++ [.ref n]))) L.l4 = _ := upd_same
    generalize (upd H5 L.l4 (.lst ((ns.map V.ref) ++ [.ref n]))) = H6 at k6 a6 ⊢
    have p6 : H6 p = some (.ins C L.dx (fldsL L)) := k6.at (k5.at p4 nin0) (nin1 (ne_of (k5.at p4 nin0) b4' (fun z => by cases z)))
    have b5 := k6.at (k5.at (k4.at (k3.at (k2.at (k1.at hL.h5 (nin1 n15.symm)) (nin1 n25.symm)) nin0) (nin1 n35.symm)) nin0) (nin1 n45.symm)
    -- None
    refine app_run rfl p6 T.cl T.n5 (fl5 L) b5 (by rw [List.length_map]; omega) (fun Q q => q) ?_
    have k7 : Keep [L.l5] H6 (upd H6 L.l5 (.lst ((es.map fun e => optV e.cause) ++ [.non]))) := Keep.own in1
    have a7 : (upd H6 L.l5 (.lst ((es.map fun e => optV e.cause) ++ [.non]))) L.l5 = _ := upd_same
    generalize (upd H6 L.l5 (.lst ((es.map fun e => optV e.cause) ++ [.non]))) = H7 at k7 a7 ⊢
    have p7 : H7 p = some (.ins C L.dx (fldsL L)) := k7.at p6 (nin1 (ne_of p6 b5 (fun z => by cases z)))
    have b6 := k7.at (k6.at (k5.at (k4.at (k3.at (k2.at (k1.at hL.h6 (nin1 n16.symm)) (nin1 n26.symm)) nin0) (nin1 n36.symm)) nin0) (nin1 n46.symm)) (nin1 n56.symm)
    refine app_run rfl p7 T.cl T.n6 (fl6 L) b6 (by rw [List.length_map]; omega) (fun Q q => q) ?_
    have k8 : Keep [L.l6] H7 (upd H7 L.l6 (.lst ((es.map fun e => optV e.atw) ++ [.non]))) := Keep.own in1
    have a8 : (upd H7 L.l6 (.lst ((es.map fun e => optV e.atw) ++ [.non]))) L.l6 = _ := upd_same
    generalize (upd H7 L.l6 (.lst ((es.map fun e => optV e.atw) ++ [.non]))) = H8 at k8 a8 ⊢
    have p8 : H8 p = some (.ins C L.dx (fldsL L)) := k8.at p7 (nin1 (ne_of p7 b6 (fun z => by cases z)))
    have e1 : H8 L.l1 = _ := k8.at (k7.at (k6.at (k5.at (k4.at (k3.at (k2.at a1 (nin1 n12)) nin0) (nin1 n13)) nin0) (nin1 n14)) (nin1 n15)) (nin1 n16)
    have e2 : H8 L.l2 = _ := k8.at (k7.at (k6.at (k5.at (k4.at (k3.at a2 nin0) (nin1 n23)) nin0) (nin1 n24)) (nin1 n25)) (nin1 n26)
    have e3 : H8 L.l3 = _ := k8.at (k7.at (k6.at (k5.at a4 nin0) (nin1 n34)) (nin1 n35)) (nin1 n36)
    have e4 : H8 L.l4 = _ := k8.at (k7.at a6 (nin1 n45)) (nin1 n46)
    have e5 : H8 L.l5 = _ := k8.at a7 (nin1 n56)
    have sub : ∀ {l : Addr}, l ∈ L.ls → ∀ b, b ∈ [l] → b ∈ L.ls := fun hl b hb => by rw [List.mem_singleton.mp hb]; exact hl
    have s0 : ∀ b, b ∈ ([] : List Addr) → b ∈ L.ls := fun b hb => absurd hb nin0
    have kA2 : Keep L.ls H H2 := (k1.more (sub i1)).trans (k2.more (sub i2))
    have kA4 : Keep L.ls H H4 := (kA2.trans (k3.more s0)).trans (k4.more (sub i3))
    have kA : Keep L.ls H H8 := (((kA4.trans (k5.more s0)).trans (k6.more (sub i4))).trans (k7.more (sub i5))).trans (k8.more (sub i6))
    have isl := hL.isl
    have nu : ∀ l, l ∈ L.ls → u ≠ l := fun l hl z => by
      have q : H2 l ≠ none := by
        rcases (show l = L.l1 ∨ l = L.l2 ∨ l = L.l3 ∨ l = L.l4 ∨ l = L.l5 ∨ l = L.l6 by simpa [LA.ls] using hl) with q | q | q | q | q | q
        · rw [q, k2.at a1 (nin1 n12)]; simp
        · rw [q, a2]; simp
        · rw [q, b3]; simp
        · rw [q, k2.at (k1.at hL.h4 (nin1 n14.symm)) (nin1 n24.symm)]; simp
        · rw [q, k2.at (k1.at hL.h5 (nin1 n15.symm)) (nin1 n25.symm)]; simp
        · rw [q, k2.at (k1.at hL.h6 (nin1 n16.symm)) (nin1 n26.symm)]; simp
      exact q (by rw [← z]; exact hu)
    have nn : ∀ l, l ∈ L.ls → n ≠ l := fun l hl z => by
      have q : H4 l ≠ none := by
        rcases (show l = L.l1 ∨ l = L.l2 ∨ l = L.l3 ∨ l = L.l4 ∨ l = L.l5 ∨ l = L.l6 by simpa [LA.ls] using hl) with q | q | q | q | q | q
        · rw [q, k4.at (k3.at (k2.at a1 (nin1 n12)) nin0) (nin1 n13)]; simp
        · rw [q, k4.at (k3.at a2 nin0) (nin1 n23)]; simp
        · rw [q, a4]; simp
        · rw [q, b4]; simp
        · rw [q, k4.at (k3.at (k2.at (k1.at hL.h5 (nin1 n15.symm)) (nin1 n25.symm)) nin0) (nin1 n35.symm)]; simp
        · rw [q, k4.at (k3.at (k2.at (k1.at hL.h6 (nin1 n16.symm)) (nin1 n26.symm)) nin0) (nin1 n36.symm)]; simp
      exact q (by rw [← z]; exact hn)
    have nl : ∀ l, l ∈ L.ls → u ∉ [l] := fun l hl => nin1 (nu l hl)
    have eu : H8 u = _ := k8.at (k7.at (k6.at (k5.at (k4.at a3 (nl _ i3)) nin0) (nl _ i4)) (nl _ i5)) (nl _ i6)
    have ml : ∀ l, l ∈ L.ls → n ∉ [l] := fun l hl => nin1 (nn l hl)
    have en : H8 n = _ := k8.at (k7.at (k6.at a5 (ml _ i4)) (ml _ i5)) (ml _ i6)
    have nns : n ∉ ns := fun z => by
      obtain ⟨xs, q⟩ := hL.notes.is n z
      have q2 := kA4.at q (fun y => (nn n y) rfl)
      rw [q2] at hn
      cases hn
    refine ⟨_, rfl, p, C, L.dx, _, _, rfl, p8, T.cl, T.n1, fl1 L, L.l1, _, rfl, .inl (SqL.of e1), _, _, rfl, rfl, ?_⟩
    have el : (((es.map fun e => V.str e.kind) ++ [V.str z]).length : Int) - 1 = (es.length : Int) := by
      rw [List.length_append, List.length_map]; show ((es.length + 1 : Nat) : Int) - 1 = _; omega
    show Q (V.int (((((es.map fun e => V.str e.kind) ++ [V.str z]).length : Nat) : Int) - 1)) H8
    rw [el]
    refine kk H8 u n kA ⟨p8, by rw [e1, List.map_append]; rfl, by rw [e2, List.map_append]; rfl, by rw [e3, List.map_append]; rfl, by rw [e4, List.map_append]; rfl, by rw [e5, List.map_append]; rfl, by rw [a8, List.map_append]; rfl, ?_, ?_, ?_⟩ ?_
    · refine MemsAt.snoc (e := ⟨z, t, mem, [], none, none⟩) eu (hL.mems.map fun a xs q => kA.at q fun y => ?_)
      obtain ⟨ys, qy⟩ := isl a y
      rw [q] at qy
      cases qy
    · refine NotesAt.snoc (e := ⟨z, t, mem, [], none, none⟩) en (hL.notes.map fun a ha xs q => kA.at q fun y => ?_)
      exact (List.nodup_append.mp hL.nd).2.2 a y a ha rfl
    · rw [← List.append_assoc]
      refine List.nodup_append.mpr ⟨hL.nd, by simp, fun a ha b hb => ?_⟩
      rw [List.mem_singleton.mp hb]
      intro z
      rw [z] at ha
      rcases List.mem_append.mp ha with q | q
      · exact nn n q rfl
      · exact nns q
    · exact Keep.free kA4 hn (fun y => nn n y rfl)
end
end Fs
/-! A plain fault, a sheaf; a new ledger. -/
namespace Fs
open PySem L2 TL
def spChkM (K : PySem.W.Frag) (C : Addr) : Sp := fun vs H Q _ => ∃ (p m : Addr) (A : LA) (ms ns : List Addr) (es : List Ent) (mem : List Nat), vs = [.ref p, .ref m] ∧ LedAt C H p A ms ns es ∧ SqL K H m (mem.map fun k : Nat => V.int (k : Int)) ∧ mem ≠ [] ∧ (∀ k ∈ mem, k < es.length) ∧ Q .non H
def spPlain (C CK : Addr) : Sp := fun vs H Q _ => ∃ (p : Addr) (A : LA) (ms ns : List Addr) (es : List Ent) (z t : Str) (ps : List (Str × Str)), vs = [.ref p, .str z, .str t] ∧ LedAt C H p A ms ns es ∧ KindsAt CK H A.kd ps ∧ z ∈ sF :: ps.map Prod.fst ∧ ¬ z = sS ∧ es.length < 1000 ∧
  ∀ (H' : Hp) (t' n' : Addr), Keep A.ls H H' → LedAt C H' p A (ms ++ [t']) (ns ++ [n']) (es ++ [⟨z, t, [], [], none, none⟩]) → H n' = none → Q (.int (es.length : Int)) H'
def spSheaf (K : PySem.W.Frag) (C : Addr) : Sp := fun vs H Q _ => ∃ (p m : Addr) (A : LA) (ms ns : List Addr) (es : List Ent) (t : Str) (mem : List Nat), vs = [.ref p, .str t, .ref m] ∧ LedAt C H p A ms ns es ∧ SqL K H m (mem.map fun k : Nat => V.int (k : Int)) ∧ m ∉ A.ls ∧ mem ≠ [] ∧ (∀ k ∈ mem, k < es.length) ∧ es.length < 1000 ∧
  ∀ (H' : Hp) (t' n' : Addr), Keep A.ls H H' → LedAt C H' p A (ms ++ [t']) (ns ++ [n']) (es ++ [⟨sS, t, mem, [], none, none⟩]) → H n' = none → Q (.int (es.length : Int)) H'
def spLInit (C : Addr) : Sp := fun vs H Q _ => ∃ (p kd dx : Addr), vs = [.ref p, .ref kd] ∧ H p = some (.ins C dx []) ∧ ∀ (H' : Hp) (A : LA), A.kd = kd → Keep [p] H H' → LedAt C H' p A [] [] [] → (∀ l ∈ A.ls, H l = none) → Q .non H'
theorem flnoM (A : LA) : (fldsL A).lookup ("_check_members" : Str) = none := rfl
theorem flnoT (A : LA) : (fldsL A).lookup ("_check_text" : Str) = none := rfl
theorem flnoA (A : LA) : (fldsL A).lookup ("_add" : Str) = none := rfl
section
variable {P : Program} {w : World} {K : PySem.W.Frag} {mg : Str → Option Value} {base : Heap} {C fA fCF fCT fCM CK fKI fKK fKN : Addr}
theorem ok_chkM {fd fdF : FuncData} (F : Fun K "_check_members" "Ledger._check_members" sChkM fCM fd) (T : LTxt K mg C fA fCF fCT fCM) (FF : FnOk P w K mg base CX0 2 fCF fdF ["self", "k"] (spChkF C)) (bF : Binds K fdF ["self", "k"] []) : FnOk P w K mg base CX0 3 fCM fd ["self", "members"] (spChkM K C) := by
  refine F.ok scChkM (fun vs H Q E h => ?_) (fun cdv A outer s H vs Q E hr h => ?_)
  · obtain ⟨p, m, L, ms, ns, es, mem, rfl, _⟩ := h
    rfl
  · obtain ⟨p, m, L, ms, ns, es, mem, rfl, hL, hm, hne, hall, kk⟩ := h
    refine ⟨_, pss_cons (ps_if (pt_not (pt_truth (pv 1) (fun _ => rfl))) (pss_one ps_never) pss_nil)
      (pss_one (ps_for PassesOwn.never rfl (pi_list (pv 1)) (pg_name (i := 2) scChkM.nd rfl (Or.inl rfl)) (pss_one (ps_expr (pe_meth (pv 0) T.cl T.mF FF hr bF .nil pass0 (pa_cons (pv 2) pa_nil)))))), ?_⟩
    refine ⟨_, rfl, true, ?_, iteF ?_⟩
    · refine .inl ⟨_, hm, ?_⟩
      cases mem with
      | nil => exact absurd rfl hne
      | cons k r => rfl
    · refine ⟨_, rfl, m, rfl, ⟨_, hm⟩, for_list (K := K) (a := m) (xs := mem.map fun k : Nat => V.int (k : Int)) (fun i σ H' => H' = H ∧ ∃ v2 : Option V, σ = [some (.ref p), some (.ref m), v2]) ⟨rfl, none, rfl⟩ (fun i σ H' _ hh => by rw [hh.1]; exact hm) ?_ ?_⟩
      · rintro i x σ H' hx ⟨rfl, v2, rfl⟩
        obtain ⟨k, hk, rfl⟩ : ∃ k, mem[i]? = some k ∧ x = V.int ((k : Nat) : Int) := by
          rw [List.getElem?_map] at hx
          cases q : mem[i]? with
          | none => rw [q] at hx; cases hx
          | some a => rw [q] at hx; exact ⟨a, rfl, (Option.some.inj hx).symm⟩
        exact ⟨_, rfl, p, L.dx, _, rfl, hL.ins, flno L, _, rfl, p, L, ms, ns, es, k, rfl, hL, hall k (List.mem_of_getElem? hk), rfl, _, rfl⟩
      · rintro σ H' ⟨rfl, v2, rfl⟩
        exact kk
theorem ok_plain {fd fdA fdT fdK : FuncData} {f : Addr} (F : Fun K "plain" "Ledger.plain" sPlain f fd) (T : LTxt K mg C fA fCF fCT fCM) (TK : KTxt K mg CK fKI fKK fKN) (FK : FnOk P w K mg base CX0 2 fKK fdK ["self", "thing"] (spIsKind CK)) (bK : Binds K fdK ["self", "thing"] []) (FT : FnOk P w K mg base CX0 2 fCT fdT ["self", "text"] (spChkT C)) (bT : Binds K fdT ["self", "text"] [])
    (FA : FnOk P w K mg base CX0 1 fA fdA ["self", "kind", "text", "members"] (spAdd K C)) (bA : Binds K fdA ["self", "kind", "text", "members"] []) : FnOk P w K mg base CX0 3 f fd ["self", "kind", "text"] (spPlain C CK) := by
  refine F.ok scPlain (fun vs H Q E h => ?_) (fun cdv A outer s H vs Q E hr h => ?_)
  · obtain ⟨p, L, ms, ns, es, z, t, ps, rfl, _⟩ := h
    rfl
  · obtain ⟨p, L, ms, ns, es, z, t, ps, rfl, hL, hK, hz, hzs, hlen, kk⟩ := h
    have hr1 : Room 1 _ := hr.mono (by decide)
    refine ⟨_, pss_cons (ps_if (PW.pt (pw_or (pt_not (pt_val (pe_meth (pe_fld (pv 0) rfl) TK.cl TK.mK FK hr bK .nil pass0 (pa_cons (pv 1) pa_nil)))) (pw_or1 (pt_cmpR op_eq (pv 1) pe_str (nomark _))))) (pss_one ps_never) pss_nil)
      (pss_cons (ps_expr (pe_meth (pv 0) T.cl T.mT FT hr bT .nil pass0 (pa_cons (pv 2) pa_nil)))
      (pss_one (ps_ret (pe_meth (pv 0) T.cl T.mA FA hr1 bA .nil pass0 (pa_cons (pv 1) (pa_cons (pv 2) (pa_cons (pe_lst pa_nil) pa_nil))))))), ?_⟩
    obtain ⟨dk, dd, g1, g2⟩ := id hK
    have hz3 : z ∈ sF :: sS :: ps.map Prod.fst := by
      rcases List.mem_cons.mp hz with q | q
      · rw [q]; exact List.mem_cons_self
      · exact List.mem_cons_of_mem _ (List.mem_cons_of_mem _ q)
    refine ⟨_, rfl, p, C, L.dx, _, _, rfl, hL.ins, T.cl, T.n0, fl0 L, L.kd, dk, _, rfl, g1, ab_no _ (by decide +kernel), _, rfl, L.kd, z, ps, rfl, hK, _, rfl, ?_⟩
    rw [decide_eq_true hz3]
    refine iteF ⟨_, rfl, rfl, _, rfl, ?_⟩
    rw [decide_eq_false (fun e => hzs (V.str.inj e))]
    refine iteF ⟨_, rfl, p, L.dx, _, rfl, hL.ins, flnoT L, _, rfl, p, t, rfl, ?_⟩
    refine ⟨_, rfl, p, L.dx, _, rfl, hL.ins, flnoA L, _, rfl, _, rfl, Nat.zero_le _, fun l hl => ?_⟩
    have k1 : Keep [] H (upd H l (.lst [])) := Keep.new hl
    have nl : l ∉ L.ls := fun q => by
      obtain ⟨xs, e⟩ := hL.isl l q
      rw [e] at hl
      cases hl
    refine ⟨p, l, L, ms, ns, es, z, t, [], rfl, hL.keep k1 (fun b q => absurd q nin0) (fun b q => absurd q nin0), SqL.of upd_same, nl, hlen, fun H' t' n' k2 hL' hn => kk H' t' n' ((k1.more fun b q => absurd q nin0).trans k2) hL' (Keep.free k1 hn nin0)⟩
theorem ok_sheaf {fd fdA fdT fdM : FuncData} {f : Addr} (F : Fun K "sheaf" "Ledger.sheaf" sSheaf f fd) (T : LTxt K mg C fA fCF fCT fCM) (FT : FnOk P w K mg base CX0 2 fCT fdT ["self", "text"] (spChkT C)) (bT : Binds K fdT ["self", "text"] []) (FM : FnOk P w K mg base CX0 3 fCM fdM ["self", "members"] (spChkM K C)) (bM : Binds K fdM ["self", "members"] [])
    (FA : FnOk P w K mg base CX0 1 fA fdA ["self", "kind", "text", "members"] (spAdd K C)) (bA : Binds K fdA ["self", "kind", "text", "members"] []) : FnOk P w K mg base CX0 4 f fd ["self", "text", "members"] (spSheaf K C) := by
  refine F.ok scSheaf (fun vs H Q E h => ?_) (fun cdv A outer s H vs Q E hr h => ?_)
  · obtain ⟨p, m, L, ms, ns, es, t, mem, rfl, _⟩ := h
    rfl
  · obtain ⟨p, m, L, ms, ns, es, t, mem, rfl, hL, hm, hmn, hne, hall, hlen, kk⟩ := h
    have hr1 : Room 1 _ := hr.mono (by decide)
    have hr2 : Room 2 _ := hr.mono (by decide)
    refine ⟨_, pss_cons (ps_expr (pe_meth (pv 0) T.cl T.mT FT hr2 bT .nil pass0 (pa_cons (pv 1) pa_nil)))
      (pss_cons (ps_expr (pe_meth (pv 0) T.cl T.mM FM hr bM .nil pass0 (pa_cons (pv 2) pa_nil)))
      (pss_one (ps_ret (pe_meth (pv 0) T.cl T.mA FA hr1 bA .nil pass0 (pa_cons pe_str (pa_cons (pv 1) (pa_cons (pv 2) pa_nil))))))), ?_⟩
    refine ⟨_, rfl, p, L.dx, _, rfl, hL.ins, flnoT L, _, rfl, p, t, rfl, ?_⟩
    refine ⟨_, rfl, p, L.dx, _, rfl, hL.ins, flnoM L, _, rfl, p, m, L, ms, ns, es, mem, rfl, hL, hm, hne, hall, ?_⟩
    exact ⟨_, rfl, p, L.dx, _, rfl, hL.ins, flnoA L, _, rfl, _, rfl, p, m, L, ms, ns, es, sS, t, mem, rfl, hL, hm, hmn, hlen, kk⟩
theorem ok_lInit {f : Addr} {fd : FuncData} (F : Fun K "__init__" "Ledger.__init__" sLInit f fd) (T : LTxt K mg C fA fCF fCT fCM) : FnOk P w K mg base CX0 1 f fd ["self", "kinds"] (spLInit C) := by
  refine F.ok scLInit (fun vs H Q E h => ?_) (fun cdv A outer s H vs Q E hr h => ?_)
  · obtain ⟨p, kd, dx, rfl, _⟩ := h
    rfl
  · obtain ⟨p, kd, dx, rfl, hp, kk⟩ := h
    refine ⟨_, pss_cons (ps_fld (pv 0) (pv 1) rfl) (pss_cons (ps_fld (pv 0) (pe_lst pa_nil) rfl) (pss_cons (ps_fld (pv 0) (pe_lst pa_nil) rfl) (pss_cons (ps_fld (pv 0) (pe_lst pa_nil) rfl) (pss_cons (ps_fld (pv 0) (pe_lst pa_nil) rfl) (pss_cons (ps_fld (pv 0) (pe_lst pa_nil) rfl) (pss_one (ps_fld (pv 0) (pe_lst pa_nil) rfl))))))), ?_⟩
    refine ⟨_, rfl, _, rfl, p, C, dx, [], rfl, hp, T.cl, T.n0, by decide, ?_⟩
    have k0 : Keep [p] H (upd H p (.ins C dx [("_kinds", .ref kd)])) := Keep.own in1
    have p0 : (upd H p (.ins C dx [("_kinds", .ref kd)])) p = some (.ins C dx [("_kinds", .ref kd)]) := upd_same
    have eq0 : upd H p (.ins C dx (putF "_kinds" (.ref kd) [])) = upd H p (.ins C dx [("_kinds", .ref kd)]) := rfl
    rw [eq0]
    generalize (upd H p (.ins C dx [("_kinds", .ref kd)])) = G0 at k0 p0 ⊢
    refine ⟨Nat.zero_le _, fun l1 hl1 => ?_⟩
    have np1 : p ≠ l1 := ne_of_none p0 hl1
    refine ⟨_, rfl, p, C, dx, [("_kinds", .ref kd)], rfl, by rw [upd_ne np1]; exact p0, T.cl, T.n1, (by show 1 < 1000; decide), ?_⟩
    have eq1 : upd (upd G0 l1 (.lst [])) p (.ins C dx (putF "_kind_of" (.ref l1) [("_kinds", .ref kd)])) = upd (upd G0 l1 (.lst [])) p (.ins C dx [("_kinds", .ref kd), ("_kind_of", .ref l1)]) := rfl
    rw [eq1]
    have k1 : Keep [p] G0 (upd (upd G0 l1 (.lst [])) p (.ins C dx [("_kinds", .ref kd), ("_kind_of", .ref l1)])) := (Keep.new hl1).ownTo in1
    have p1 : (upd (upd G0 l1 (.lst [])) p (.ins C dx [("_kinds", .ref kd), ("_kind_of", .ref l1)])) p = some (.ins C dx [("_kinds", .ref kd), ("_kind_of", .ref l1)]) := upd_same
    have b1 : (upd (upd G0 l1 (.lst [])) p (.ins C dx [("_kinds", .ref kd), ("_kind_of", .ref l1)])) l1 = some (.lst []) := by rw [upd_ne np1.symm, upd_same]
    generalize (upd (upd G0 l1 (.lst [])) p (.ins C dx [("_kinds", .ref kd), ("_kind_of", .ref l1)])) = G1 at k1 p1 b1 ⊢
    refine ⟨Nat.zero_le _, fun l2 hl2 => ?_⟩
    have np2 : p ≠ l2 := ne_of_none p1 hl2
    refine ⟨_, rfl, p, C, dx, [("_kinds", .ref kd), ("_kind_of", .ref l1)], rfl, by rw [upd_ne np2]; exact p1, T.cl, T.n2, (by show 2 < 1000; decide), ?_⟩
    have eq2 : upd (upd G1 l2 (.lst [])) p (.ins C dx (putF "_text_of" (.ref l2) [("_kinds", .ref kd), ("_kind_of", .ref l1)])) = upd (upd G1 l2 (.lst [])) p (.ins C dx [("_kinds", .ref kd), ("_kind_of", .ref l1), ("_text_of", .ref l2)]) := rfl
    rw [eq2]
    have k2 : Keep [p] G1 (upd (upd G1 l2 (.lst [])) p (.ins C dx [("_kinds", .ref kd), ("_kind_of", .ref l1), ("_text_of", .ref l2)])) := (Keep.new hl2).ownTo in1
    have p2 : (upd (upd G1 l2 (.lst [])) p (.ins C dx [("_kinds", .ref kd), ("_kind_of", .ref l1), ("_text_of", .ref l2)])) p = some (.ins C dx [("_kinds", .ref kd), ("_kind_of", .ref l1), ("_text_of", .ref l2)]) := upd_same
    have b2 : (upd (upd G1 l2 (.lst [])) p (.ins C dx [("_kinds", .ref kd), ("_kind_of", .ref l1), ("_text_of", .ref l2)])) l2 = some (.lst []) := by rw [upd_ne np2.symm, upd_same]
    generalize (upd (upd G1 l2 (.lst [])) p (.ins C dx [("_kinds", .ref kd), ("_kind_of", .ref l1), ("_text_of", .ref l2)])) = G2 at k2 p2 b2 ⊢
    refine ⟨Nat.zero_le _, fun l3 hl3 => ?_⟩
    have np3 : p ≠ l3 := ne_of_none p2 hl3
    refine ⟨_, rfl, p, C, dx, [("_kinds", .ref kd), ("_kind_of", .ref l1), ("_text_of", .ref l2)], rfl, by rw [upd_ne np3]; exact p2, T.cl, T.n3, (by show 3 < 1000; decide), ?_⟩
    have eq3 : upd (upd G2 l3 (.lst [])) p (.ins C dx (putF "_members_of" (.ref l3) [("_kinds", .ref kd), ("_kind_of", .ref l1), ("_text_of", .ref l2)])) = upd (upd G2 l3 (.lst [])) p (.ins C dx [("_kinds", .ref kd), ("_kind_of", .ref l1), ("_text_of", .ref l2), ("_members_of", .ref l3)]) := rfl
    rw [eq3]
    have k3 : Keep [p] G2 (upd (upd G2 l3 (.lst [])) p (.ins C dx [("_kinds", .ref kd), ("_kind_of", .ref l1), ("_text_of", .ref l2), ("_members_of", .ref l3)])) := (Keep.new hl3).ownTo in1
    have p3 : (upd (upd G2 l3 (.lst [])) p (.ins C dx [("_kinds", .ref kd), ("_kind_of", .ref l1), ("_text_of", .ref l2), ("_members_of", .ref l3)])) p = some (.ins C dx [("_kinds", .ref kd), ("_kind_of", .ref l1), ("_text_of", .ref l2), ("_members_of", .ref l3)]) := upd_same
    have b3 : (upd (upd G2 l3 (.lst [])) p (.ins C dx [("_kinds", .ref kd), ("_kind_of", .ref l1), ("_text_of", .ref l2), ("_members_of", .ref l3)])) l3 = some (.lst []) := by rw [upd_ne np3.symm, upd_same]
    generalize (upd (upd G2 l3 (.lst [])) p (.ins C dx [("_kinds", .ref kd), ("_kind_of", .ref l1), ("_text_of", .ref l2), ("_members_of", .ref l3)])) = G3 at k3 p3 b3 ⊢
    refine ⟨Nat.zero_le _, fun l4 hl4 => ?_⟩
    have np4 : p ≠ l4 := ne_of_none p3 hl4
    refine ⟨_, rfl, p, C, dx, [("_kinds", .ref kd), ("_kind_of", .ref l1), ("_text_of", .ref l2), ("_members_of", .ref l3)], rfl, by rw [upd_ne np4]; exact p3, T.cl, T.n4, (by show 4 < 1000; decide), ?_⟩
    have eq4 : upd (upd G3 l4 (.lst [])) p (.ins C dx (putF "_notes_of" (.ref l4) [("_kinds", .ref kd), ("_kind_of", .ref l1), ("_text_of", .ref l2), ("_members_of", .ref l3)])) = upd (upd G3 l4 (.lst [])) p (.ins C dx [("_kinds", .ref kd), ("_kind_of", .ref l1), ("_text_of", .ref l2), ("_members_of", .ref l3), ("_notes_of", .ref l4)]) := rfl
    rw [eq4]
    have k4 : Keep [p] G3 (upd (upd G3 l4 (.lst [])) p (.ins C dx [("_kinds", .ref kd), ("_kind_of", .ref l1), ("_text_of", .ref l2), ("_members_of", .ref l3), ("_notes_of", .ref l4)])) := (Keep.new hl4).ownTo in1
    have p4 : (upd (upd G3 l4 (.lst [])) p (.ins C dx [("_kinds", .ref kd), ("_kind_of", .ref l1), ("_text_of", .ref l2), ("_members_of", .ref l3), ("_notes_of", .ref l4)])) p = some (.ins C dx [("_kinds", .ref kd), ("_kind_of", .ref l1), ("_text_of", .ref l2), ("_members_of", .ref l3), ("_notes_of", .ref l4)]) := upd_same
    have b4 : (upd (upd G3 l4 (.lst [])) p (.ins C dx [("_kinds", .ref kd), ("_kind_of", .ref l1), ("_text_of", .ref l2), ("_members_of", .ref l3), ("_notes_of", .ref l4)])) l4 = some (.lst []) := by rw [upd_ne np4.symm, upd_same]
    generalize (upd (upd G3 l4 (.lst [])) p (.ins C dx [("_kinds", .ref kd), ("_kind_of", .ref l1), ("_text_of", .ref l2), ("_members_of", .ref l3), ("_notes_of", .ref l4)])) = G4 at k4 p4 b4 ⊢
    refine ⟨Nat.zero_le _, fun l5 hl5 => ?_⟩
    have np5 : p ≠ l5 := ne_of_none p4 hl5
    refine ⟨_, rfl, p, C, dx, [("_kinds", .ref kd), ("_kind_of", .ref l1), ("_text_of", .ref l2), ("_members_of", .ref l3), ("_notes_of", .ref l4)], rfl, by rw [upd_ne np5]; exact p4, T.cl, T.n5, (by show 5 < 1000; decide), ?_⟩
    have eq5 : upd (upd G4 l5 (.lst [])) p (.ins C dx (putF "_cause_of" (.ref l5) [("_kinds", .ref kd), ("_kind_of", .ref l1), ("_text_of", .ref l2), ("_members_of", .ref l3), ("_notes_of", .ref l4)])) = upd (upd G4 l5 (.lst [])) p (.ins C dx [("_kinds", .ref kd), ("_kind_of", .ref l1), ("_text_of", .ref l2), ("_members_of", .ref l3), ("_notes_of", .ref l4), ("_cause_of", .ref l5)]) := rfl
    rw [eq5]
    have k5 : Keep [p] G4 (upd (upd G4 l5 (.lst [])) p (.ins C dx [("_kinds", .ref kd), ("_kind_of", .ref l1), ("_text_of", .ref l2), ("_members_of", .ref l3), ("_notes_of", .ref l4), ("_cause_of", .ref l5)])) := (Keep.new hl5).ownTo in1
    have p5 : (upd (upd G4 l5 (.lst [])) p (.ins C dx [("_kinds", .ref kd), ("_kind_of", .ref l1), ("_text_of", .ref l2), ("_members_of", .ref l3), ("_notes_of", .ref l4), ("_cause_of", .ref l5)])) p = some (.ins C dx [("_kinds", .ref kd), ("_kind_of", .ref l1), ("_text_of", .ref l2), ("_members_of", .ref l3), ("_notes_of", .ref l4), ("_cause_of", .ref l5)]) := upd_same
    have b5 : (upd (upd G4 l5 (.lst [])) p (.ins C dx [("_kinds", .ref kd), ("_kind_of", .ref l1), ("_text_of", .ref l2), ("_members_of", .ref l3), ("_notes_of", .ref l4), ("_cause_of", .ref l5)])) l5 = some (.lst []) := by rw [upd_ne np5.symm, upd_same]
    generalize (upd (upd G4 l5 (.lst [])) p (.ins C dx [("_kinds", .ref kd), ("_kind_of", .ref l1), ("_text_of", .ref l2), ("_members_of", .ref l3), ("_notes_of", .ref l4), ("_cause_of", .ref l5)])) = G5 at k5 p5 b5 ⊢
    refine ⟨Nat.zero_le _, fun l6 hl6 => ?_⟩
    have np6 : p ≠ l6 := ne_of_none p5 hl6
    refine ⟨_, rfl, p, C, dx, [("_kinds", .ref kd), ("_kind_of", .ref l1), ("_text_of", .ref l2), ("_members_of", .ref l3), ("_notes_of", .ref l4), ("_cause_of", .ref l5)], rfl, by rw [upd_ne np6]; exact p5, T.cl, T.n6, (by show 6 < 1000; decide), ?_⟩
    have eq6 : upd (upd G5 l6 (.lst [])) p (.ins C dx (putF "_at_work_of" (.ref l6) [("_kinds", .ref kd), ("_kind_of", .ref l1), ("_text_of", .ref l2), ("_members_of", .ref l3), ("_notes_of", .ref l4), ("_cause_of", .ref l5)])) = upd (upd G5 l6 (.lst [])) p (.ins C dx [("_kinds", .ref kd), ("_kind_of", .ref l1), ("_text_of", .ref l2), ("_members_of", .ref l3), ("_notes_of", .ref l4), ("_cause_of", .ref l5), ("_at_work_of", .ref l6)]) := rfl
    rw [eq6]
    have k6 : Keep [p] G5 (upd (upd G5 l6 (.lst [])) p (.ins C dx [("_kinds", .ref kd), ("_kind_of", .ref l1), ("_text_of", .ref l2), ("_members_of", .ref l3), ("_notes_of", .ref l4), ("_cause_of", .ref l5), ("_at_work_of", .ref l6)])) := (Keep.new hl6).ownTo in1
    have p6 : (upd (upd G5 l6 (.lst [])) p (.ins C dx [("_kinds", .ref kd), ("_kind_of", .ref l1), ("_text_of", .ref l2), ("_members_of", .ref l3), ("_notes_of", .ref l4), ("_cause_of", .ref l5), ("_at_work_of", .ref l6)])) p = some (.ins C dx [("_kinds", .ref kd), ("_kind_of", .ref l1), ("_text_of", .ref l2), ("_members_of", .ref l3), ("_notes_of", .ref l4), ("_cause_of", .ref l5), ("_at_work_of", .ref l6)]) := upd_same
    have b6 : (upd (upd G5 l6 (.lst [])) p (.ins C dx [("_kinds", .ref kd), ("_kind_of", .ref l1), ("_text_of", .ref l2), ("_members_of", .ref l3), ("_notes_of", .ref l4), ("_cause_of", .ref l5), ("_at_work_of", .ref l6)])) l6 = some (.lst []) := by rw [upd_ne np6.symm, upd_same]
    generalize (upd (upd G5 l6 (.lst [])) p (.ins C dx [("_kinds", .ref kd), ("_kind_of", .ref l1), ("_text_of", .ref l2), ("_members_of", .ref l3), ("_notes_of", .ref l4), ("_cause_of", .ref l5), ("_at_work_of", .ref l6)])) = G6 at k6 p6 b6 ⊢
    have c1 : G6 l1 = some (.lst []) := k6.at (k5.at (k4.at (k3.at (k2.at (b1) (nin1 np1.symm)) (nin1 np1.symm)) (nin1 np1.symm)) (nin1 np1.symm)) (nin1 np1.symm)
    have c2 : G6 l2 = some (.lst []) := k6.at (k5.at (k4.at (k3.at (b2) (nin1 np2.symm)) (nin1 np2.symm)) (nin1 np2.symm)) (nin1 np2.symm)
    have c3 : G6 l3 = some (.lst []) := k6.at (k5.at (k4.at (b3) (nin1 np3.symm)) (nin1 np3.symm)) (nin1 np3.symm)
    have c4 : G6 l4 = some (.lst []) := k6.at (k5.at (b4) (nin1 np4.symm)) (nin1 np4.symm)
    have c5 : G6 l5 = some (.lst []) := k6.at (b5) (nin1 np5.symm)
    have c6 : G6 l6 = some (.lst []) := b6
    have n12 : l1 ≠ l2 := ne_of_none (b1) hl2
    have n13 : l1 ≠ l3 := ne_of_none (k2.at (b1) (nin1 np1.symm)) hl3
    have n14 : l1 ≠ l4 := ne_of_none (k3.at (k2.at (b1) (nin1 np1.symm)) (nin1 np1.symm)) hl4
    have n15 : l1 ≠ l5 := ne_of_none (k4.at (k3.at (k2.at (b1) (nin1 np1.symm)) (nin1 np1.symm)) (nin1 np1.symm)) hl5
    have n16 : l1 ≠ l6 := ne_of_none (k5.at (k4.at (k3.at (k2.at (b1) (nin1 np1.symm)) (nin1 np1.symm)) (nin1 np1.symm)) (nin1 np1.symm)) hl6
    have n23 : l2 ≠ l3 := ne_of_none (b2) hl3
    have n24 : l2 ≠ l4 := ne_of_none (k3.at (b2) (nin1 np2.symm)) hl4
    have n25 : l2 ≠ l5 := ne_of_none (k4.at (k3.at (b2) (nin1 np2.symm)) (nin1 np2.symm)) hl5
    have n26 : l2 ≠ l6 := ne_of_none (k5.at (k4.at (k3.at (b2) (nin1 np2.symm)) (nin1 np2.symm)) (nin1 np2.symm)) hl6
    have n34 : l3 ≠ l4 := ne_of_none (b3) hl4
    have n35 : l3 ≠ l5 := ne_of_none (k4.at (b3) (nin1 np3.symm)) hl5
    have n36 : l3 ≠ l6 := ne_of_none (k5.at (k4.at (b3) (nin1 np3.symm)) (nin1 np3.symm)) hl6
    have n45 : l4 ≠ l5 := ne_of_none (b4) hl5
    have n46 : l4 ≠ l6 := ne_of_none (k5.at (b4) (nin1 np4.symm)) hl6
    have n56 : l5 ≠ l6 := ne_of_none (b5) hl6
    have f1 : H l1 = none := Keep.free (k0) hl1 (nin1 np1.symm)
    have f2 : H l2 = none := Keep.free ((k0).trans k1) hl2 (nin1 np2.symm)
    have f3 : H l3 = none := Keep.free (((k0).trans k1).trans k2) hl3 (nin1 np3.symm)
    have f4 : H l4 = none := Keep.free ((((k0).trans k1).trans k2).trans k3) hl4 (nin1 np4.symm)
    have f5 : H l5 = none := Keep.free (((((k0).trans k1).trans k2).trans k3).trans k4) hl5 (nin1 np5.symm)
    have f6 : H l6 = none := Keep.free ((((((k0).trans k1).trans k2).trans k3).trans k4).trans k5) hl6 (nin1 np6.symm)
    refine kk G6 ⟨dx, kd, l1, l2, l3, l4, l5, l6⟩ rfl (((((((k0).trans k1).trans k2).trans k3).trans k4).trans k5).trans k6) ⟨p6, c1, c2, c3, c4, c5, c6, True.intro, True.intro, ?_⟩ ?_
    · simp [LA.ls, n12, n13, n14, n15, n16, n23, n24, n25, n26, n34, n35, n36, n45, n46, n56]
    · intro l hl
      rcases (show l = l1 ∨ l = l2 ∨ l = l3 ∨ l = l4 ∨ l = l5 ∨ l = l6 by simpa [LA.ls] using hl) with q | q | q | q | q | q <;> rw [q] <;> assumption
end
end Fs
/-! All that a ledger tells. -/
namespace Fs
open PySem L2 TL
abbrev memV (l : List Nat) : List V := l.map fun k : Nat => V.int (k : Int)
/-- a row of what is told of a fault; none of its lists is one of these -/
def RowAt (bad : List Addr) (H : Hp) (r : Addr) (e : Ent) : Prop := ∃ m n : Addr, r ∉ bad ∧ m ∉ bad ∧ n ∉ bad ∧ H r = some (.lst [.str e.kind, .str e.text, .ref m, .ref n, optV e.cause, optV e.atw]) ∧ H m = some (.lst (memV e.mem)) ∧ H n = some (.lst (e.notes.map V.str))
def RowsAt (bad : List Addr) (H : Hp) : List Addr → List Ent → Prop
  | [], [] => True
  | a :: as, e :: es => RowAt bad H a e ∧ RowsAt bad H as es
  | _, _ => False
theorem RowAt.imp {bad bad' : List Addr} {H H' : Hp} {r : Addr} {e : Ent} (h : RowAt bad H r e) (k : Keep bad H H') (hb : ∀ a, a ∉ bad → (∃ o, H a = some o) → a ∉ bad') : RowAt bad' H' r e := by
  obtain ⟨m, n, h1, h2, h3, h4, h5, h6⟩ := h
  exact ⟨m, n, hb r h1 ⟨_, h4⟩, hb m h2 ⟨_, h5⟩, hb n h3 ⟨_, h6⟩, k.at h4 h1, k.at h5 h2, k.at h6 h3⟩
theorem RowsAt.imp {bad bad' : List Addr} {H H' : Hp} (k : Keep bad H H') (hb : ∀ a, a ∉ bad → (∃ o, H a = some o) → a ∉ bad') : ∀ {as : List Addr} {es : List Ent}, RowsAt bad H as es → RowsAt bad' H' as es
  | [], [], _ => True.intro
  | _ :: as, _ :: es, h => ⟨h.1.imp k hb, RowsAt.imp k hb h.2⟩
  | [], _ :: _, h => h.elim
  | _ :: _, [], h => h.elim
theorem RowsAt.keep {bad : List Addr} {H H' : Hp} (k : Keep bad H H') {as : List Addr} {es : List Ent} (h : RowsAt bad H as es) : RowsAt bad H' as es := h.imp k fun _ n _ => n
theorem RowsAt.less {bad bad' : List Addr} {H : Hp} (hb : ∀ a, a ∈ bad' → a ∈ bad) {as : List Addr} {es : List Ent} (h : RowsAt bad H as es) : RowsAt bad' H as es := h.imp (Keep.refl _ _) fun a n _ q => n (hb a q)
/-- what isn't tracked may be told bad, too -/
theorem RowsAt.more {bad : List Addr} {H : Hp} {p : Addr} (hp : H p = none) {as : List Addr} {es : List Ent} (h : RowsAt bad H as es) : RowsAt (p :: bad) H as es := h.imp (Keep.refl _ _) fun a n hx q => by
  rcases List.mem_cons.mp q with q | q
  · obtain ⟨o, e⟩ := hx
    rw [q, hp] at e
    cases e
  · exact n q
theorem RowsAt.len {bad : List Addr} {H : Hp} : ∀ {as : List Addr} {es : List Ent}, RowsAt bad H as es → as.length = es.length
  | [], [], _ => rfl
  | _ :: as, _ :: es, h => by rw [List.length_cons, List.length_cons, RowsAt.len h.2]
  | [], _ :: _, h => h.elim
  | _ :: _, [], h => h.elim
theorem RowsAt.snoc {bad : List Addr} {H : Hp} {b : Addr} {e : Ent} (hb : RowAt bad H b e) : ∀ {as : List Addr} {es : List Ent}, RowsAt bad H as es → RowsAt bad H (as ++ [b]) (es ++ [e])
  | [], [], _ => ⟨hb, True.intro⟩
  | _ :: as, _ :: es, h => ⟨h.1, RowsAt.snoc hb h.2⟩
  | [], _ :: _, h => h.elim
  | _ :: _, [], h => h.elim
/-- a list of such rows -/
def ToldAt (bad : List Addr) (H : Hp) (F : Addr) (es : List Ent) : Prop := ∃ rs : List Addr, H F = some (.lst (rs.map V.ref)) ∧ RowsAt bad H rs es
def optD : Option Nat → PyData
  | none => .none
  | some k => .int (k : Int)
def entD (e : Ent) : PyData := .list [.str e.kind, .str e.text, .list (e.mem.map fun k : Nat => PyData.int (k : Int)), .list (e.notes.map PyData.str), optD e.cause, optD e.atw]
theorem dp_ints {K : PySem.W.Frag} {H : Hp} : ∀ l : List Nat, DpAll K H (memV l) (l.map fun k : Nat => PyData.int (k : Int))
  | [] => .nil
  | k :: r => .cons (.int _) (dp_ints r)
theorem dp_strs {K : PySem.W.Frag} {H : Hp} : ∀ l : List Str, DpAll K H (l.map V.str) (l.map PyData.str)
  | [] => .nil
  | k :: r => .cons (.str _) (dp_strs r)
theorem dp_opt {K : PySem.W.Frag} {H : Hp} : ∀ o : Option Nat, Dp K H (optV o) (optD o)
  | none => .non
  | some k => .int _
theorem RowAt.dp {K : PySem.W.Frag} {bad : List Addr} {H : Hp} {r : Addr} {e : Ent} (h : RowAt bad H r e) : Dp K H (.ref r) (entD e) := by
  obtain ⟨m, n, h1, h2, h3, h4, h5, h6⟩ := h
  exact .lst (SqL.of h4) (.cons (.str _) (.cons (.str _) (.cons (.lst (SqL.of h5) (dp_ints _)) (.cons (.lst (SqL.of h6) (dp_strs _)) (.cons (dp_opt _) (.cons (dp_opt _) .nil))))))
theorem RowsAt.dp {K : PySem.W.Frag} {bad : List Addr} {H : Hp} : ∀ {as : List Addr} {es : List Ent}, RowsAt bad H as es → DpAll K H (as.map V.ref) (es.map entD)
  | [], [], _ => .nil
  | _ :: as, _ :: es, h => .cons h.1.dp (RowsAt.dp h.2)
  | [], _ :: _, h => h.elim
  | _ :: _, [], h => h.elim
theorem ToldAt.dp {K : PySem.W.Frag} {bad : List Addr} {H : Hp} {F : Addr} {es : List Ent} (h : ToldAt bad H F es) : Dp K H (.ref F) (.list (es.map entD)) := by
  obtain ⟨rs, e, r⟩ := h
  exact .lst (SqL.of e) r.dp
structure GTxt (K : PySem.W.Frag) (C f1 f2 f3 f4 f5 f6 f7 : Addr) : Prop where
  many : Meth K C "many" f1
  kind : Meth K C "kind" f2
  text : Meth K C "text" f3
  members : Meth K C "members" f4
  notes : Meth K C "notes" f5
  cause : Meth K C "cause" f6
  atw : Meth K C "at_work" f7
theorem flg1 (A : LA) : (fldsL A).lookup ("many" : Str) = none := rfl
theorem flg2 (A : LA) : (fldsL A).lookup ("kind" : Str) = none := rfl
theorem flg3 (A : LA) : (fldsL A).lookup ("text" : Str) = none := rfl
theorem flg4 (A : LA) : (fldsL A).lookup ("members" : Str) = none := rfl
theorem flg5 (A : LA) : (fldsL A).lookup ("notes" : Str) = none := rfl
theorem flg6 (A : LA) : (fldsL A).lookup ("cause" : Str) = none := rfl
theorem flg7 (A : LA) : (fldsL A).lookup ("at_work" : Str) = none := rfl
end Fs
/-! What a fault that comes wants. -/
namespace Fs
open PySem L2 TL
def intsD (l : List Nat) : PyData := .list (l.map fun k : Nat => PyData.int (k : Int))
theorem ints_lay : ∀ l : List Nat, PyData.canLayAll0 (l.map fun k : Nat => PyData.int (k : Int)) = true
  | [] => by simp [PyData.canLayAll0]
  | k :: r => by rw [List.map_cons]; simp [PyData.canLayAll0, PyData.canLay0, ints_lay r]
theorem ints_deep : ∀ l : List Nat, PyData.depthAll (l.map fun k : Nat => PyData.int (k : Int)) ≤ 1
  | [] => by simp [PyData.depthAll]
  | k :: r => by
    have := ints_deep r
    rw [List.map_cons]
    simp [PyData.depthAll, PyData.depth]
    omega
theorem ints_shaped (l : List Nat) : SeqAt.shaped (intsD l) = true := by
  have h := ints_deep l
  have h1 : (intsD l).canLay0 = true := by
    unfold intsD
    simp only [PyData.canLay0]
    exact ints_lay l
  have h2 : (intsD l).depth ≤ 64 := by
    unfold intsD
    simp only [PyData.depth]
    omega
  unfold SeqAt.shaped
  rw [h1, decide_eq_true h2]
  rfl
theorem ints_nil (l : List Nat) : PyData.eqv (intsD l) (intsD []) = l.isEmpty := by
  cases l <;> simp [intsD, PyData.eqv, PyData.eqvAll]
theorem ints_refl (l : List Nat) : PyData.eqv (intsD l) (intsD l) = true := by
  unfold intsD
  simp only [PyData.eqv]
  induction l with
  | nil => simp [PyData.eqvAll]
  | cons k r ih => rw [List.map_cons]; simp [PyData.eqvAll, PyData.eqv, ih]
theorem dp_intsD {K : PySem.W.Frag} {H : Hp} {a : Addr} {l : List Nat} (h : H a = some (.lst (memV l))) : Dp K H (.ref a) (intsD l) := .lst (SqL.of h) (dp_ints l)
/-- tuples of two whole numbers -/
def TwoAt (H : Hp) : List Addr → Prop
  | [] => True
  | t :: r => (∃ a b : Int, H t = some (.tup [.int a, .int b])) ∧ TwoAt H r
theorem TwoAt.map {H H' : Hp} (k : ∀ a xs, H a = some (.tup xs) → H' a = some (.tup xs)) : ∀ {ts : List Addr}, TwoAt H ts → TwoAt H' ts
  | [], _ => True.intro
  | _ :: r, ⟨⟨a, b, e⟩, h⟩ => ⟨⟨a, b, k _ _ e⟩, TwoAt.map k h⟩
theorem TwoAt.at {H : Hp} : ∀ {ts : List Addr} {i : Nat} {t : Addr}, TwoAt H ts → ts[i]? = some t → ∃ a b : Int, H t = some (.tup [.int a, .int b])
  | [], _, _, _, e => by simp at e
  | s :: r, 0, t, h, e => by
    have e' : s = t := by simpa using e
    subst e'
    exact h.1
  | s :: r, i + 1, t, h, e => TwoAt.at (i := i) h.2 (by simpa using e)
theorem TwoAt.snoc {H : Hp} {t : Addr} (ht : ∃ a b : Int, H t = some (.tup [.int a, .int b])) : ∀ {ts : List Addr}, TwoAt H ts → TwoAt H (ts ++ [t])
  | [], _ => ⟨ht, True.intro⟩
  | _ :: r, h => ⟨h.1, TwoAt.snoc ht h.2⟩
/-- [e for j in members]: whole numbers, nothing changed -/
theorem ints_run {K : PySem.W.Frag} {M D : Addr} {mem : List Nat} {i : Nat} {σ : L2.St} {H1 : Hp} {Qd : Hp → Prop} {te : TE} (hM : H1 M = some (.lst (memV mem))) (hD : H1 D = none) (hlen : mem.length ≤ 1000)
    (hw : ∀ v, wipe ((wipe σ [i]).set i (some v)) [i] = wipe σ [i])
    (hte : ∀ k ∈ mem, ∀ (H : Hp), Keep [] H1 H → ∀ Q : VK, (∀ v : Int, Q (.int v) H) → te ((wipe σ [i]).set i (some (.int ((k : Nat) : Int)))) H Q)
    (hq : ∀ (H : Hp) (ns : List Int), ns.length = mem.length → H D = some (.lst (ns.map V.int)) → Keep [] H1 H → Qd H) :
    ∃ W : Nat → Nat → Hp → Prop, (∃ m, W 0 m (upd H1 D (.lst []))) ∧ ∀ k m H, W k m H →
      ((Itl K M).stop k H ∧ Qd H) ∨ ((Itl K M).go k H ∧ ∃ Nx : Hp → Prop, (∀ H', Nx H' → ∃ m', m' < m ∧ W (k + 1) m' H') ∧ ∀ x H', (Itl K M).yld k H x H' → gName i x (wipe σ [i]) H' fun σ2 H2 => wipe σ2 [i] = wipe σ [i] ∧ tYes σ2 H2 fun b H3 =>
        if b = true then te σ2 H3 fun y H4 => ∃ acc, H4 D = some (.lst acc) ∧ acc.length < sizeLine ∧ Nx (upd H4 D (.lst (acc ++ [y]))) else Nx H3) := by
  refine lc_list (K := K) (a := M) (xs := memV mem) (fun k H => ∃ ns : List Int, ns.length = k ∧ H D = some (.lst (ns.map V.int)) ∧ Keep [] H1 H) ⟨[], rfl, upd_same, Keep.new hD⟩ (fun k H _ ⟨_, _, _, kH⟩ => SqL.of (kH.at hM nin0)) (fun k x H hx hI => ?_) (fun H hI => ?_)
  · obtain ⟨ns, hl, eD, kH⟩ := hI
    obtain ⟨a, ha, rfl⟩ : ∃ a, mem[k]? = some a ∧ x = V.int ((a : Nat) : Int) := by
      rw [List.getElem?_map] at hx
      cases q : mem[k]? with
      | none => rw [q] at hx; cases hx
      | some a => rw [q] at hx; exact ⟨a, rfl, (Option.some.inj hx).symm⟩
    have hk := (List.getElem?_eq_some_iff.mp ha).1
    refine ⟨hw _, tyes (hte a (List.mem_of_getElem? ha) H kH _ fun v => ?_)⟩
    refine ⟨_, eD, ?_, ns ++ [v], by rw [List.length_append, hl]; rfl, by rw [upd_same, List.map_append]; rfl, fun b o hb ho => ?_⟩
    · rw [List.length_map, hl]
      exact Nat.lt_of_le_of_lt (by omega : k ≤ 1000) (by decide)
    · rw [upd_ne (ne_of_none ho hD)]
      exact kH b o hb ho
  · obtain ⟨ns, hl, eD, kH⟩ := hI
    exact hq H ns (by rw [hl, List.length_map]) eD kH
/-- where the law stands: the ledger at q, the entries at E, their sizes at S, the pairs at l -/
structure StAt (C CK : Addr) (H : Hp) (q E S l : Addr) (A : LA) (ps : List (Str × Str)) (es : List Ent) (ms ns rs ts : List Addr) : Prop where
  led : LedAt C H q A ms ns es
  kin : KindsAt CK H A.kd ps
  prs : PairsAt H l ps
  wf : Wf ps
  few : ps.length ≤ 8
  ent : H E = some (.lst (rs.map V.ref))
  rows : RowsAt (E :: S :: A.ls) H rs es
  siz : H S = some (.lst (ts.map V.ref))
  two : TwoAt H ts
  tl : ts.length = es.length
  nES : E ≠ S
  nE : E ∉ A.ls ++ ns
  nS : S ∉ A.ls ++ ns
  lE : l ≠ E
  lS : l ≠ S
  lA : l ∉ A.ls
/-- a fault as the law makes it -/
def Small (n : Nat) (e : Ent) : Prop := e.kind.cps.toList.length ≤ 8 ∧ (∀ c ∈ e.kind.cps.toList, c < 128) ∧ IsTx e.text ∧ e.mem.length ≤ 6 ∧ (∀ k ∈ e.mem, k < n) ∧ e.notes = [] ∧ e.cause = none ∧ e.atw = none
theorem log_small {n : Nat} (h : n ≤ 1000) : ((n : Int)).natAbs.log2 < 1920 := by
  rw [Int.natAbs_natCast]
  exact Nat.lt_of_le_of_lt (Nat.log2_le_self n) (by omega)
end Fs
/-! What is shown of all that a ledger tells. -/
namespace Fs
open PySem L2 TL
/-- repr(x), x a list or tuple of data at any depth: where nothing else is being shown -/
theorem call_reprD {X : Cx} (hg : X.A.guards = some []) (hu : X.A.units + 64 < cLine) : CallR X (.builtin "repr") (fun xs H Q => ∃ (a : Addr) (d : PyData), xs = [.ref a] ∧ Dp X.K H (.ref a) d ∧ d.showable = true ∧ d.hasDict = false ∧ d.depth ≤ 60 ∧ d.shown.length ≤ sizeLine ∧ Q (.str d.shown) H) := by
  intro pins s σ H xs us Q I r h
  obtain ⟨a, d, rfl, hd, h1, h2, h3, h4, q⟩ := h
  obtain ⟨u, rfl, ru⟩ := vals1 r
  have eu : u = Value.ref a := ru
  subst eu
  obtain ⟨as, rd⟩ := Dp.reads I d _ _ hd rfl
  exact repr_of_reads' rd h1 (PyData.noDict_hsm h2) hg (by omega) (fun _ _ e => e) (fun h' u tk hk => ⟨.str _, H, I.kept hk, ⟨_, rfl⟩, q⟩) h4
theorem textFrom_le : ∀ (ts : List Str) (k : Nat) (acc : Str), (textFrom k acc ts).length ≤ acc.length + piled ts
  | [], k, acc => Nat.le_add_right _ _
  | t :: r, k, acc => by
    have ih := textFrom_le r (k + 1) (acc ++ (if k > 0 then ", " else "" : String) ++ t)
    have e : (acc ++ (if k > 0 then ", " else "" : String) ++ t).length ≤ acc.length + 2 + t.length := by
      rw [strLen_append, strLen_append]
      have e1 : (((if k > 0 then ", " else "" : String) : Str)).length ≤ 2 := by split <;> decide +kernel
      omega
    rw [piled_cons]
    show (textFrom (k + 1) (acc ++ (if k > 0 then ", " else "" : String) ++ t) r).length ≤ _
    omega
theorem listText_le (ts : List Str) : (listText ts).length ≤ piled ts + 2 := by
  have e1 : (("[" : String) : Str).length = 1 := by decide +kernel
  have e2 : (("]" : String) : Str).length = 1 := by decide +kernel
  have h := textFrom_le ts 0 "["
  unfold listText
  rw [strLen_append, e2]
  omega
theorem piled_le {ts : List Str} {n : Nat} : (∀ t ∈ ts, t.length ≤ n) → piled ts ≤ ts.length * (n + 2) := by
  induction ts with
  | nil => intro _; exact Nat.zero_le _
  | cons t r ih =>
    intro h
    have h1 := h t List.mem_cons_self
    have h2 := ih fun u hu => h u (List.mem_cons_of_mem _ hu)
    rw [piled_cons, List.length_cons, Nat.succ_mul]
    omega
theorem shownAll_map {α : Type} (f : α → PyData) : ∀ l : List α, PyData.shownAll (l.map f) = l.map fun x => (f x).shown
  | [] => by simp only [List.map_nil, PyData.shownAll]
  | x :: r => by simp only [List.map_cons, PyData.shownAll, shownAll_map f r]
theorem int_short {k : Nat} (h : k < 100) : (PyData.int (k : Int)).shown.length ≤ 3 := by
  have q : ∀ k, k < 100 → ((toString ((k : Nat) : Int) : String) : Str).length ≤ 3 := by decide +kernel
  simp only [PyData.shown]
  exact q k h
theorem str_short {z : Str} {n : Nat} (h : z.cps.toList.length ≤ n) (hc : ∀ c ∈ z.cps.toList, c < 128) : (PyData.str z).shown.length ≤ 10 * n + 2 := by
  have h1 := StrLaws.reprText_len z fun c hc' => Nat.lt_of_lt_of_le (hc c hc') (by decide)
  have e : z.length = z.cps.toList.length := by simp [Str.length]
  simp only [PyData.shown]
  omega
theorem ints_shown {l : List Nat} (h6 : l.length ≤ 6) (h : ∀ k ∈ l, k < 100) : (intsD l).shown.length ≤ 40 := by
  unfold intsD
  simp only [PyData.shown]
  have h1 := listText_le (PyData.shownAll (l.map fun k : Nat => PyData.int (k : Int)))
  rw [shownAll_map] at h1 ⊢
  have h2 := piled_le (ts := l.map fun k : Nat => (PyData.int (k : Int)).shown) (n := 3) fun t ht => by
    obtain ⟨k, hk, e⟩ := List.mem_map.mp ht
    rw [← e]
    exact int_short (h k hk)
  rw [List.length_map] at h2
  have h3 : l.length * (3 + 2) ≤ 6 * 5 := Nat.mul_le_mul_right 5 h6
  omega
/-- a fault as the law has it -/
def Sm (n : Nat) (e : Ent) : Prop := e.kind.cps.toList.length ≤ 8 ∧ (∀ c ∈ e.kind.cps.toList, c < 128) ∧ IsTx e.text ∧ e.mem.length ≤ 6 ∧ (∀ k ∈ e.mem, k < n) ∧ (e.notes.length ≤ 30 ∧ ∀ z ∈ e.notes, IsTx z) ∧ (∀ y, e.cause = some y → y < n) ∧ (∀ y, e.atw = some y → y < n)
theorem strs_shown {l : List Str} (h : l.length ≤ 30) (hz : ∀ z ∈ l, IsTx z) : (PyData.list (l.map PyData.str)).shown.length ≤ 13000 := by
  simp only [PyData.shown]
  have h1 := listText_le (PyData.shownAll (l.map PyData.str))
  rw [shownAll_map] at h1 ⊢
  have h2 := piled_le (ts := l.map fun z => (PyData.str z).shown) (n := 402) fun t ht => by
    obtain ⟨z, hz', e⟩ := List.mem_map.mp ht
    rw [← e]
    exact str_short (n := 40) (hz z hz').1 (hz z hz').2
  rw [List.length_map] at h2
  have h3 : l.length * (402 + 2) ≤ 30 * 404 := Nat.mul_le_mul_right 404 h
  omega
theorem strs_ok (l : List Str) : PyData.showableAll (l.map PyData.str) = true ∧ PyData.hasDictAll (l.map PyData.str) = false ∧ PyData.depthAll (l.map PyData.str) ≤ 1 := by
  induction l with
  | nil => simp only [List.map_nil, PyData.showableAll, PyData.hasDictAll, PyData.depthAll]; decide
  | cons z r ih =>
    obtain ⟨i1, i2, i3⟩ := ih
    rw [List.map_cons]
    simp only [PyData.showableAll, PyData.showable, PyData.hasDictAll, PyData.hasDict, PyData.depthAll, PyData.depth, i1, i2, Bool.and_self, Bool.or_self, true_and]
    omega
theorem opt_shown {n : Nat} {o : Option Nat} (h : ∀ y, o = some y → y < n) (hn : n ≤ 100) : (optD o).shown.length ≤ 4 := by
  cases o with
  | none => simp only [optD, PyData.shown]; decide +kernel
  | some k => exact Nat.le_succ_of_le (int_short (Nat.lt_of_lt_of_le (h k rfl) hn))
theorem opt_ok {n : Nat} {o : Option Nat} (h : ∀ y, o = some y → y < n) (hn : n ≤ 100) : (optD o).showable = true ∧ (optD o).hasDict = false ∧ (optD o).depth = 0 := by
  cases o with
  | none => refine ⟨?_, ?_, ?_⟩ <;> simp only [optD, PyData.showable, PyData.hasDict, PyData.depth]
  | some k =>
    have h1 := h k rfl
    refine ⟨?_, ?_, ?_⟩
    · simp only [optD, PyData.showable, decide_eq_true_eq]
      exact log_small (by omega)
    · simp only [optD, PyData.hasDict]
    · simp only [optD, PyData.depth]
theorem ent_shown {n : Nat} {e : Ent} (h : Sm n e) (hn : n ≤ 100) : (entD e).shown.length ≤ 14000 := by
  obtain ⟨h1, h2, ⟨h3, h4⟩, h5, h6, h7, h8, h9⟩ := h
  obtain ⟨ki, te, me, no, ca, at'⟩ := e
  have a1 : (PyData.str ki).shown.length ≤ 10 * 8 + 2 := str_short h1 h2
  have a2 : (PyData.str te).shown.length ≤ 10 * 40 + 2 := str_short h3 h4
  have a3 : (PyData.list (me.map fun k : Nat => PyData.int (k : Int))).shown.length ≤ 40 := ints_shown h5 fun k hk => Nat.lt_of_lt_of_le (h6 k hk) hn
  have a4 : (PyData.list (no.map PyData.str)).shown.length ≤ 13000 := strs_shown h7.1 h7.2
  have a5 : (optD ca).shown.length ≤ 4 := opt_shown h8 hn
  have a6 : (optD at').shown.length ≤ 4 := opt_shown h9 hn
  unfold entD
  simp only [PyData.shown]
  have g := listText_le (PyData.shownAll [.str ki, .str te, .list (me.map fun k : Nat => PyData.int (k : Int)), .list (no.map PyData.str), optD ca, optD at'])
  simp only [PyData.shownAll, piled_cons, piled_nil] at g ⊢
  omega
theorem ints_showable {l : List Nat} (h : ∀ k ∈ l, k < 100) : PyData.showableAll (l.map fun k : Nat => PyData.int (k : Int)) = true := by
  induction l with
  | nil => simp only [List.map_nil, PyData.showableAll]
  | cons k r ih =>
    rw [List.map_cons]
    simp only [PyData.showableAll, PyData.showable, ih fun x hx => h x (List.mem_cons_of_mem _ hx), Bool.and_true, decide_eq_true_eq]
    exact log_small (Nat.le_trans (Nat.le_of_lt (h k List.mem_cons_self)) (by omega))
theorem ints_nodict (l : List Nat) : PyData.hasDictAll (l.map fun k : Nat => PyData.int (k : Int)) = false := by
  induction l with
  | nil => simp only [List.map_nil, PyData.hasDictAll]
  | cons k r ih => rw [List.map_cons]; simp only [PyData.hasDictAll, PyData.hasDict, ih, Bool.or_self]
theorem ent_ok {n : Nat} {e : Ent} (h : Sm n e) (hn : n ≤ 100) : (entD e).showable = true ∧ (entD e).hasDict = false ∧ (entD e).depth ≤ 3 := by
  obtain ⟨h1, h2, h3, h5, h6, h7, h8, h9⟩ := h
  obtain ⟨ki, te, me, no, ca, at'⟩ := e
  obtain ⟨s1, s2, s3⟩ := strs_ok no
  have q := ints_showable fun k hk => Nat.lt_of_lt_of_le (h6 k hk) hn
  have q2 := ints_deep me
  obtain ⟨c1, c2, c3⟩ := opt_ok h8 hn
  obtain ⟨d1, d2, d3⟩ := opt_ok h9 hn
  refine ⟨?_, ?_, ?_⟩
  · simp only [entD, PyData.showable, PyData.showableAll, s1, q, c1, d1, Bool.and_self]
  · simp only [entD, PyData.hasDict, PyData.hasDictAll, s2, ints_nodict, c2, d2, Bool.or_self]
  · simp only [entD, PyData.depth, PyData.depthAll, c3, d3]
    omega
/-- all that is there is small -/
def AllSmall (es : List Ent) : Prop := ∀ e ∈ es, Sm 100 e
def entsD (es : List Ent) : PyData := .list (es.map entD)
theorem ents_ok {es : List Ent} (h : AllSmall es) (hl : es.length ≤ 60) : (entsD es).showable = true ∧ (entsD es).hasDict = false ∧ (entsD es).depth ≤ 60 ∧ (entsD es).shown.length ≤ sizeLine := by
  have h1 : PyData.showableAll (es.map entD) = true ∧ PyData.hasDictAll (es.map entD) = false ∧ PyData.depthAll (es.map entD) ≤ 3 := by
    clear hl
    induction es with
    | nil => simp only [List.map_nil, PyData.showableAll, PyData.hasDictAll, PyData.depthAll]; decide
    | cons e r ih =>
      obtain ⟨i1, i2, i3⟩ := ih fun x hx => h x (List.mem_cons_of_mem _ hx)
      obtain ⟨j1, j2, j3⟩ := ent_ok (h e List.mem_cons_self) (Nat.le_refl _)
      rw [List.map_cons]
      simp only [PyData.showableAll, PyData.hasDictAll, PyData.depthAll, i1, i2, j1, j2, Bool.and_self, Bool.or_self, true_and]
      omega
  obtain ⟨i1, i2, i3⟩ := h1
  refine ⟨?_, ?_, ?_, ?_⟩
  · simp only [entsD, PyData.showable, i1]
  · simp only [entsD, PyData.hasDict, i2]
  · simp only [entsD, PyData.depth]
    omega
  · simp only [entsD, PyData.shown]
    have g := listText_le (PyData.shownAll (es.map entD))
    rw [shownAll_map] at g ⊢
    have g2 := piled_le (ts := es.map fun e => (entD e).shown) (n := 14000) fun t ht => by
      obtain ⟨e, he, q⟩ := List.mem_map.mp ht
      rw [← q]
      exact ent_shown (h e he) (Nat.le_refl _)
    rw [List.length_map] at g2
    have g3 : es.length * (14000 + 2) ≤ 60 * 14002 := Nat.mul_le_mul_right 14002 hl
    exact Nat.le_trans (by omega : _ ≤ 841000) (by decide)
end Fs
/-! A def's promise at places where nothing is being shown. -/
namespace Fs
open PySem L2 TL
structure FnG (P : Program) (w : World) (K : PySem.W.Frag) (mg : Str → Option Value) (base : Heap) (k : Nat) (f : Addr) (fd : FuncData) (ps : List Str) (sp : Sp) : Prop where
  many : ∀ vs H Q E, sp vs H Q E → vs.length = ps.length
  go : ∀ (A : Around) (outer : List Env) (s : Shared) (H : Hp) (us : List Value) (vs : List V) (Q : VK) (E : XK), A.guards = some [] → Room k A → Env0 P w K mg base A outer s H →
    BindsTo s fd ⟨us, []⟩ (ps.zip us) → Vals vs us → sp vs H Q E → codeAny (model P w) A (.call (.ref f) ⟨us, []⟩) (CR CX0 outer P w H s Q E) s
section
variable {P : Program} {w : World} {K : PySem.W.Frag} {mg : Str → Option Value} {base : Heap}
theorem okG {x q : Str} {st : Stmt} {f : Addr} {fd : FuncData} {N ps : List Str} {k : Nat} {sp : Sp} (F : Fun K x q st f fd) (S : FnScope N ps (defScope st)) (len : ∀ vs H Q E, sp vs H Q E → vs.length = ps.length)
    (body : ∀ (cdv : Value) (A : Around) (outer : List Env) (s : Shared) (H : Hp) (vs : List V) (Q : VK) (E : XK), A.guards = some [] → Room k (A.deeper (PyProof.Rows.envOfC q (defScope st) s.heap.objs.size f cdv)) → sp vs H Q E →
      ∃ t, PSs (cxOf CX0 P w K mg base N q (defScope st) f cdv A outer s H E).nox (defBody st) t ∧ t { nx := fun _ H' => Q .non H', rt := Q } (L2.start N vs) H) : FnG P w K mg base (k + 1) f fd ps sp := by
  obtain ⟨oc, od, kV, doc, pm, an, cdv, ct, osl, rfl, lk, hcd⟩ := F.ex
  refine ⟨len, fun A outer s H us vs Q E hg hr e0 bd rv hsp => ?_⟩
  have now : K.In s.heap := e0.mod.kin.keeps fun b o e => (e0.bs b o e).1
  have hl := len _ _ _ _ hsp
  refine codeAny_call_function hr.depth (now f _ lk) rfl S.co S.gen rfl (PySem.W.codeRec_of now hcd) (bd _ _ _ _ (wpAny_newFunctionEnv_cells S.kind (fun z hz => ?_) fun env he s1 entered => ?_))
  · obtain ⟨n, v⟩ := z
    exact (S.par n (List.of_mem_zip hz).1).imp id fun c => ⟨c, PySem.W.cellsFrom_some _ _ _ (.inl c)⟩
  · cases he
    have free : s1.heap.NoLimit := (e0.mod.nolimit.keeps fun b o e => (e0.bs b o e).1).keeps entered.toInCall.keep
    obtain ⟨t, ht, hq⟩ := body cdv A outer s H vs Q E hg (hr.deeper _) hsp
    have at1 := inv_start (CX := CX0) (E := E) (ps := ps) (us := us) (vs := vs) S hr.hd e0 hl rv entered
    refine ⟨free, codeAny_func (wpAny_mono (ht.nox.run [] s1 _ H _ at1 hq) (fun fl s' end_ => ?_) fun e s' bad => ?_)⟩
    · cases fl with
      | ret u' =>
        obtain ⟨v', _, H', J, rv', q'⟩ := end_
        exact ⟨v', H', J.os, J.bare, J.base, J.hok, rv', q'⟩
      | next =>
        obtain ⟨_, H', J, q'⟩ := end_
        exact ⟨.non, H', J.os, J.bare, J.base, J.hok, rfl, q'⟩
      | brk => obtain ⟨_, _, _, no⟩ := end_; exact no.elim
      | cont => obtain ⟨_, _, _, no⟩ := end_; exact no.elim
    · exact wpAny_mono bad (fun _ _ no => False.elim no) fun _ _ no => False.elim no
end
section
variable {X : Cx} {k : Nat} {f : Addr} {fd : FuncData} {ps : List Str} {sp : Sp} {x : Str} {p pos : Pos} {e : Expr} {es : List Expr} {t : TA}
theorem pe_callG (F : FnG X.prog X.w X.K X.mg X.base k f fd ps sp) (hg : X.A.guards = some []) (hr : Room k X.A) (gl : Gl X x) (hm : X.mg x = some (.ref f)) (hk : PySem.W.keepIn X.K (.ref f) = true) (hb : Binds X.K fd ps [])
    (ha : PA X (e :: es) t) (hdb : (x == ("__debug__" : Str)) = false := by decide) (he : starEach (e :: es) X.env = (false, eval e X.env) :: starEach es X.env := by rfl) (hpl : (backTo pos (starEach es X.env)).any (·.1) = false := by rfl) :
    PE X (.Call (.Name x p) (e :: es) [] pos) (tCall sp [] E0 t) := by
  refine ⟨fun pins s σ H Q I h => wpAny_Call_Name_kw (ld_glob I gl hm ?_ hdb)⟩
  refine PySem.W.callWith_K (h₀ := X.base) I.ok.mod.kin hk (thn (ha.run pos pins s σ H _ I h) fun us s1 ⟨vs, H1, I1, r, q⟩ => ⟨I1.kIn, ?_⟩) he hpl
  have q : sp (vs ++ []) H1 Q E0 := q
  rw [List.append_nil] at q
  have hl : us.length = ps.length := by rw [← r.length]; exact F.many _ _ _ _ q
  have b1 := hb s1 us I1.kIn (by rw [List.append_nil]; exact hl)
  rw [List.append_nil] at b1
  refine wpAny_call (codeAny_mono (F.go X.A X.stack s1 H1 us vs Q E0 hg hr I1.env0 b1 r q) fun r s' hq => ?_)
  cases r with
  | error e => exact False.elim hq
  | ok fl =>
    cases fl with
    | ret u => exact I1.after hq
    | next => exact False.elim hq
    | brk => exact False.elim hq
    | cont => exact False.elim hq
end
end Fs
/-! Leaves, depths, nodes of each fault. -/
namespace Fs
open PySem L2 TL
structure Tree (es : List Ent) (Lf Df Nf : Nat → Nat) : Prop where
  leaf : ∀ (i : Nat) (e : Ent), es[i]? = some e → e.mem = [] → Lf i = 1 ∧ Nf i = 1 ∧ Df i = 0
  nest : ∀ (i : Nat) (e : Ent), es[i]? = some e → e.mem ≠ [] → Lf i = (e.mem.map Lf).sum ∧ Nf i = 1 + (e.mem.map Nf).sum ∧ (∀ m ∈ e.mem, Df m + 1 ≤ Df i) ∧ ∃ m ∈ e.mem, Df i = Df m + 1
  few : ∀ (i : Nat) (e : Ent), es[i]? = some e → Lf i ≤ 60 ∧ Df i ≤ 12
  back : ∀ (i : Nat) (e : Ent), es[i]? = some e → ∀ m ∈ e.mem, m < i
theorem Tree.pos {es : List Ent} {Lf Df Nf : Nat → Nat} (T : Tree es Lf Df Nf) : ∀ n i, i ≤ n → i < es.length → 1 ≤ Lf i ∧ Nf i ≤ Lf i * (Df i + 1) := by
  intro n
  induction n with
  | zero =>
    intro i hi hl
    have he := List.getElem?_eq_getElem hl
    generalize es[i] = e at he
    cases q : e.mem with
    | nil =>
      obtain ⟨a, b, c⟩ := T.leaf i e he q
      rw [a, b, c]
      decide
    | cons x r =>
      have := T.back i e he x (by rw [q]; exact List.mem_cons_self)
      omega
  | succ n ih =>
    intro i hi hl
    have he := List.getElem?_eq_getElem hl
    generalize es[i] = e at he
    by_cases q : e.mem = []
    · obtain ⟨a, b, c⟩ := T.leaf i e he q
      rw [a, b, c]
      decide
    · obtain ⟨a, b, c, d⟩ := T.nest i e he q
      have bk := T.back i e he
      have main : ∀ l : List Nat, (∀ m ∈ l, m ∈ e.mem) → l.length ≤ (l.map Lf).sum ∧ (l.map Nf).sum ≤ (l.map Lf).sum * Df i := by
        intro l hm
        induction l with
        | nil => simp
        | cons m r ih2 =>
          obtain ⟨j1, j2⟩ := ih2 fun x hx => hm x (List.mem_cons_of_mem _ hx)
          have hmm := hm m List.mem_cons_self
          have hmi := bk m hmm
          obtain ⟨k1, k2⟩ := ih m (by omega) (by omega)
          have k3 := c m hmm
          have k4 : Lf m * (Df m + 1) ≤ Lf m * Df i := Nat.mul_le_mul_left _ k3
          simp only [List.map_cons, List.sum_cons, List.length_cons, Nat.add_mul]
          omega
      obtain ⟨m1, m2⟩ := main e.mem fun m h => h
      have m3 : 1 ≤ e.mem.length := by
        cases h : e.mem with
        | nil => exact absurd h q
        | cons x r => rw [List.length_cons]; omega
      rw [a, b]
      refine ⟨by omega, ?_⟩
      rw [Nat.mul_add, Nat.mul_one]
      omega
theorem Tree.nodes {es : List Ent} {Lf Df Nf : Nat → Nat} (T : Tree es Lf Df Nf) {i : Nat} (hi : i < es.length) : Nf i ≤ 780 := by
  obtain ⟨h1, h2⟩ := T.pos i i (Nat.le_refl _) hi
  obtain ⟨h3, h4⟩ := T.few i _ (List.getElem?_eq_getElem hi)
  have h5 : Lf i * (Df i + 1) ≤ 60 * 13 := Nat.mul_le_mul h3 (by omega)
  omega
theorem Tree.congr {es es' : List Ent} {Lf Df Nf : Nat → Nat} (T : Tree es Lf Df Nf) (h : es.map Ent.mem = es'.map Ent.mem) : Tree es' Lf Df Nf := by
  have g : ∀ (i : Nat) (e : Ent), es'[i]? = some e → ∃ f, es[i]? = some f ∧ f.mem = e.mem := fun i e q => by
    have q2 : (es.map Ent.mem)[i]? = some e.mem := by rw [h, List.getElem?_map, q]; rfl
    rw [List.getElem?_map] at q2
    cases z : es[i]? with
    | none => rw [z] at q2; cases q2
    | some f => rw [z] at q2; exact ⟨f, rfl, Option.some.inj q2⟩
  refine ⟨fun i e q a => ?_, fun i e q a => ?_, fun i e q => ?_, fun i e q => ?_⟩
  · obtain ⟨f, z, w⟩ := g i e q
    exact T.leaf i f z (by rw [w]; exact a)
  · obtain ⟨f, z, w⟩ := g i e q
    rw [← w] at a ⊢
    exact T.nest i f z a
  · obtain ⟨f, z, w⟩ := g i e q
    exact T.few i f z
  · obtain ⟨f, z, w⟩ := g i e q
    rw [← w]
    exact T.back i f z
theorem map_same {l : List Nat} {f g : Nat → Nat} (h : ∀ m ∈ l, f m = g m) : l.map f = l.map g := List.map_congr_left h
def put (f : Nat → Nat) (n v : Nat) : Nat → Nat := fun j => if j = n then v else f j
theorem put_same (f : Nat → Nat) (n v : Nat) : put f n v n = v := if_pos rfl
theorem put_old {f : Nat → Nat} {n v i : Nat} (h : i < n) : put f n v i = f i := if_neg (by omega)
/-- one more -/
theorem Tree.snoc {es : List Ent} {Lf Df Nf : Nat → Nat} (T : Tree es Lf Df Nf) {e : Ent} {a d : Nat} (hb : ∀ m ∈ e.mem, m < es.length) (ha : a = (if e.mem = [] then 1 else (e.mem.map Lf).sum)) (h60 : a ≤ 60) (hd : d ≤ 12) (hd0 : e.mem = [] → d = 0) (hd1 : ∀ m ∈ e.mem, Df m + 1 ≤ d) (hd2 : e.mem ≠ [] → ∃ m ∈ e.mem, d = Df m + 1) :
    Tree (es ++ [e]) (put Lf es.length a) (put Df es.length d) (put Nf es.length (if e.mem = [] then 1 else 1 + (e.mem.map Nf).sum)) := by
  have split : ∀ (i : Nat) (f : Ent), (es ++ [e])[i]? = some f → (i < es.length ∧ es[i]? = some f) ∨ (i = es.length ∧ f = e) := fun i f q => by
    by_cases hi : i < es.length
    · rw [List.getElem?_append_left hi] at q
      exact .inl ⟨hi, q⟩
    · rw [List.getElem?_append_right (by omega)] at q
      have hl : i - es.length < 1 := (List.getElem?_eq_some_iff.mp q).1
      have hi2 : i = es.length := by omega
      rw [hi2, Nat.sub_self] at q
      exact .inr ⟨hi2, (Option.some.inj q).symm⟩
  refine ⟨fun i f q h => ?_, fun i f q h => ?_, fun i f q => ?_, fun i f q => ?_⟩
  · rcases split i f q with ⟨hi, q⟩ | ⟨rfl, rfl⟩
    · rw [put_old hi, put_old hi, put_old hi]
      exact T.leaf i f q h
    · rw [put_same, put_same, put_same, ha, if_pos h, if_pos h]
      exact ⟨rfl, rfl, hd0 h⟩
  · rcases split i f q with ⟨hi, q⟩ | ⟨rfl, rfl⟩
    · obtain ⟨x, y, z, m0, hm0, w⟩ := T.nest i f q h
      have bk := T.back i f q
      rw [put_old hi, put_old hi, put_old hi]
      refine ⟨?_, ?_, fun m hm => ?_, m0, hm0, ?_⟩
      · rw [x]
        exact congrArg List.sum (map_same fun m hm => (put_old (by have := bk m hm; omega)).symm)
      · rw [y]
        exact congrArg (fun l => 1 + List.sum l) (map_same fun m hm => (put_old (by have := bk m hm; omega)).symm)
      · rw [put_old (by have := bk m hm; omega)]
        exact z m hm
      · rw [put_old (by have := bk m0 hm0; omega)]
        exact w
    · obtain ⟨m0, hm0, w⟩ := hd2 h
      rw [put_same, put_same, put_same]
      refine ⟨?_, ?_, fun m hm => ?_, m0, hm0, ?_⟩
      · rw [ha, if_neg h]
        exact congrArg List.sum (map_same fun m hm => (put_old (hb m hm)).symm)
      · rw [if_neg h]
        exact congrArg (fun l => 1 + List.sum l) (map_same fun m hm => (put_old (hb m hm)).symm)
      · rw [put_old (hb m hm)]
        exact hd1 m hm
      · rw [put_old (hb m0 hm0)]
        exact w
  · rcases split i f q with ⟨hi, q⟩ | ⟨rfl, rfl⟩
    · rw [put_old hi, put_old hi]
      exact T.few i f q
    · rw [put_same, put_same]
      exact ⟨h60, hd⟩
  · rcases split i f q with ⟨hi, q⟩ | ⟨rfl, rfl⟩
    · exact T.back i f q
    · exact hb
/-- the law's rows, their lists told -/
def TriAt (bad : List Addr) (H : Hp) : List Addr → List Addr → List Addr → List Ent → Prop
  | [], [], [], [] => True
  | r :: rs, m :: mm, n :: nn, e :: es => (r ∉ bad ∧ m ∉ bad ∧ n ∉ bad ∧ H r = some (.lst [.str e.kind, .str e.text, .ref m, .ref n, optV e.cause, optV e.atw]) ∧ H m = some (.lst (memV e.mem)) ∧ H n = some (.lst (e.notes.map V.str))) ∧ TriAt bad H rs mm nn es
  | _, _, _, _ => False
theorem TriAt.rows {bad : List Addr} {H : Hp} : ∀ {rs mm nn : List Addr} {es : List Ent}, TriAt bad H rs mm nn es → RowsAt bad H rs es
  | [], [], [], [], _ => True.intro
  | r :: rs, m :: mm, n :: nn, e :: es, h => ⟨⟨m, n, h.1⟩, TriAt.rows h.2⟩
theorem TriAt.imp {bad bad' : List Addr} {H H' : Hp} (k : Keep bad H H') (hb : ∀ a, a ∉ bad → (∃ xs, H a = some (.lst xs)) → a ∉ bad') : ∀ {rs mm nn : List Addr} {es : List Ent}, TriAt bad H rs mm nn es → TriAt bad' H' rs mm nn es
  | [], [], [], [], _ => True.intro
  | r :: rs, m :: mm, n :: nn, e :: es, h => by
    obtain ⟨⟨h1, h2, h3, h4, h5, h6⟩, t⟩ := h
    exact ⟨⟨hb r h1 ⟨_, h4⟩, hb m h2 ⟨_, h5⟩, hb n h3 ⟨_, h6⟩, k.at h4 h1, k.at h5 h2, k.at h6 h3⟩, TriAt.imp k hb t⟩
theorem TriAt.keep {bad : List Addr} {H H' : Hp} (k : Keep bad H H') {rs mm nn : List Addr} {es : List Ent} (h : TriAt bad H rs mm nn es) : TriAt bad H' rs mm nn es := h.imp k fun _ n _ => n
theorem TriAt.less {bad bad' : List Addr} {H : Hp} (hb : ∀ a, a ∈ bad' → a ∈ bad) {rs mm nn : List Addr} {es : List Ent} (h : TriAt bad H rs mm nn es) : TriAt bad' H rs mm nn es := h.imp (Keep.refl _ _) fun a n _ q => n (hb a q)
theorem TriAt.more {bad : List Addr} {H : Hp} {p : Addr} (hp : ∀ xs, H p ≠ some (.lst xs)) {rs mm nn : List Addr} {es : List Ent} (h : TriAt bad H rs mm nn es) : TriAt (p :: bad) H rs mm nn es := h.imp (Keep.refl _ _) fun a n ⟨xs, hx⟩ q => by
  rcases List.mem_cons.mp q with q | q
  · rw [q] at hx; exact hp xs hx
  · exact n q
theorem TriAt.snoc {bad : List Addr} {H : Hp} {r m n : Addr} {e : Ent} (hb : r ∉ bad ∧ m ∉ bad ∧ n ∉ bad ∧ H r = some (.lst [.str e.kind, .str e.text, .ref m, .ref n, optV e.cause, optV e.atw]) ∧ H m = some (.lst (memV e.mem)) ∧ H n = some (.lst (e.notes.map V.str))) : ∀ {rs mm nn : List Addr} {es : List Ent}, TriAt bad H rs mm nn es → TriAt bad H (rs ++ [r]) (mm ++ [m]) (nn ++ [n]) (es ++ [e])
  | [], [], [], [], _ => ⟨hb, True.intro⟩
  | _ :: _, _ :: _, _ :: _, _ :: _, h => ⟨h.1, TriAt.snoc hb h.2⟩
theorem TriAt.is {bad : List Addr} {H : Hp} : ∀ {rs mm nn : List Addr} {es : List Ent}, TriAt bad H rs mm nn es → ∀ a ∈ rs ++ (mm ++ nn), ∃ xs, H a = some (.lst xs)
  | [], [], [], [], _, a, h => by simp at h
  | r :: rs, m :: mm, n :: nn, e :: es, h, a, q => by
    have q' : a = r ∨ a = m ∨ a = n ∨ a ∈ rs ++ (mm ++ nn) := by
      simp only [List.mem_append, List.mem_cons] at q ⊢
      rcases q with (q | q) | (q | q) | (q | q) <;> simp [q]
    rcases q' with q | q | q | q
    · rw [q]; exact ⟨_, h.1.2.2.2.1⟩
    · rw [q]; exact ⟨_, h.1.2.2.2.2.1⟩
    · rw [q]; exact ⟨_, h.1.2.2.2.2.2⟩
    · exact TriAt.is h.2 a q
theorem two_more {mm nn : List Addr} {m n : Addr} (h : (mm ++ nn).Nodup) (hm : m ∉ mm ++ nn) (hn : n ∉ mm ++ nn) (ne : m ≠ n) : ((mm ++ [m]) ++ (nn ++ [n])).Nodup := by
  rw [List.nodup_append] at h ⊢
  obtain ⟨h1, h2, h3⟩ := h
  simp only [List.mem_append, not_or] at hm hn
  refine ⟨?_, ?_, ?_⟩
  · refine List.nodup_append.mpr ⟨h1, by simp, fun a ha b hb z => hm.1 ?_⟩
    rw [← List.mem_singleton.mp hb, ← z]; exact ha
  · refine List.nodup_append.mpr ⟨h2, by simp, fun a ha b hb z => hn.2 ?_⟩
    rw [← List.mem_singleton.mp hb, ← z]; exact ha
  · intro a ha b hb z
    rcases List.mem_append.mp ha with q | q <;> rcases List.mem_append.mp hb with q2 | q2
    · exact h3 a q b q2 z
    · exact hn.1 (by rw [← List.mem_singleton.mp q2, ← z]; exact q)
    · exact hm.2 (by rw [← List.mem_singleton.mp q, z]; exact q2)
    · exact ne (by rw [← List.mem_singleton.mp q, z, List.mem_singleton.mp q2])
theorem Tree.nil : Tree [] (fun _ => 0) (fun _ => 0) (fun _ => 0) := ⟨fun i e q => by simp at q, fun i e q => by simp at q, fun i e q => by simp at q, fun i e q => by simp at q⟩
theorem sum_cast {l : List Nat} (f : Nat → Nat) : (l.map fun m => (f m : Int)).sum = ((l.map f).sum : Nat) := by
  induction l with
  | nil => rfl
  | cons m r ih => simp only [List.map_cons, List.sum_cons, ih]; omega
end Fs
/-! The law's entries: what a turn does behind the draw of the members. -/
namespace Fs
open PySem L2 TL
/-- [e for j in members]: whole numbers, nothing changed -/
theorem ints_runG {K : PySem.W.Frag} {M D : Addr} {mem : List Nat} {i : Nat} {σ : L2.St} {H1 : Hp} {Qd : Hp → Prop} {te : TE} (g : Nat → Int) (hM : H1 M = some (.lst (memV mem))) (hD : H1 D = none) (hlen : mem.length ≤ 1000)
    (hw : ∀ v, wipe ((wipe σ [i]).set i (some v)) [i] = wipe σ [i])
    (hte : ∀ k ∈ mem, ∀ (H : Hp), Keep [] H1 H → ∀ Q : VK, Q (.int (g k)) H → te ((wipe σ [i]).set i (some (.int ((k : Nat) : Int)))) H Q)
    (hq : ∀ (H : Hp), H D = some (.lst ((mem.map g).map V.int)) → Keep [] H1 H → Qd H) :
    ∃ W : Nat → Nat → Hp → Prop, (∃ m, W 0 m (upd H1 D (.lst []))) ∧ ∀ k m H, W k m H →
      ((Itl K M).stop k H ∧ Qd H) ∨ ((Itl K M).go k H ∧ ∃ Nx : Hp → Prop, (∀ H', Nx H' → ∃ m', m' < m ∧ W (k + 1) m' H') ∧ ∀ x H', (Itl K M).yld k H x H' → gName i x (wipe σ [i]) H' fun σ2 H2 => wipe σ2 [i] = wipe σ [i] ∧ tYes σ2 H2 fun b H3 =>
        if b = true then te σ2 H3 fun y H4 => ∃ acc, H4 D = some (.lst acc) ∧ acc.length < sizeLine ∧ Nx (upd H4 D (.lst (acc ++ [y]))) else Nx H3) := by
  refine lc_list (K := K) (a := M) (xs := memV mem) (fun k H => H D = some (.lst (((mem.take k).map g).map V.int)) ∧ Keep [] H1 H) ⟨upd_same, Keep.new hD⟩ (fun k H _ ⟨_, kH⟩ => SqL.of (kH.at hM nin0)) (fun k x H hx hI => ?_) (fun H hI => ?_)
  · obtain ⟨eD, kH⟩ := hI
    obtain ⟨a, ha, rfl⟩ : ∃ a, mem[k]? = some a ∧ x = V.int ((a : Nat) : Int) := by
      rw [List.getElem?_map] at hx
      cases q : mem[k]? with
      | none => rw [q] at hx; cases hx
      | some a => rw [q] at hx; exact ⟨a, rfl, (Option.some.inj hx).symm⟩
    have hk := (List.getElem?_eq_some_iff.mp ha).1
    refine ⟨hw _, tyes (hte a (List.mem_of_getElem? ha) H kH _ ?_)⟩
    refine ⟨_, eD, ?_, ?_, fun b o hb ho => ?_⟩
    · rw [List.length_map, List.length_map, List.length_take]
      exact Nat.lt_of_le_of_lt (by omega : min k mem.length ≤ 1000) (by decide)
    · rw [upd_same, List.take_add_one, ha, List.map_append, List.map_append]; rfl
    · rw [upd_ne (ne_of_none ho hD)]
      exact kH b o hb ho
  · obtain ⟨eD, kH⟩ := hI
    rw [List.length_map, List.take_length] at eD
    exact hq H eD kH
abbrev sEnt : Stmt := top 25
abbrev nEnt : List Str := ["_law_pot_here", "_law_pairs_here", "_law_most", "_law_entries_here", "_law_leaves_here", "_law_depths", "_law_k", "_law_members", "_law_j", "_law_many", "_law_deep", "_law_kind_here"]
theorem scEnt : FnScope nEnt ["_law_pot_here", "_law_pairs_here", "_law_most"] (defScope sEnt) := ⟨rfl, rfl, rfl, by decide +kernel, rfl, by decide +kernel, by decide +kernel⟩
def inFor : Stmt → List Stmt
  | .For _ _ b _ _ => b
  | _ => []
abbrev bEnt : List Stmt := inFor ((defBody sEnt).getD 3 (.Pass ⟨0, 0, 0, 0⟩))
/-- a fault as the law draws it -/
def KindOk (ps : List (Str × Str)) (mem : List Nat) (z : Str) : Prop := (mem = [] → z ∈ sF :: ps.map Prod.fst) ∧ (mem ≠ [] → z = sS)
def Fresh (ps : List (Str × Str)) (i : Nat) (e : Ent) : Prop := IsTx e.text ∧ e.mem.length ≤ 6 ∧ (∀ k ∈ e.mem, k < i) ∧ e.notes = [] ∧ e.cause = none ∧ e.atw = none ∧ KindOk ps e.mem e.kind
def Built (ps : List (Str × Str)) (es : List Ent) : Prop := ∀ (i : Nat) (e : Ent), es[i]? = some e → Fresh ps i e
theorem Built.snoc {ps : List (Str × Str)} {es : List Ent} {e : Ent} (h : Built ps es) (he : Fresh ps es.length e) : Built ps (es ++ [e]) := fun i f q => by
  by_cases hi : i < es.length
  · rw [List.getElem?_append_left hi] at q
    exact h i f q
  · rw [List.getElem?_append_right (by omega)] at q
    have hl : i - es.length < 1 := (List.getElem?_eq_some_iff.mp q).1
    have hi2 : i = es.length := by omega
    rw [hi2, Nat.sub_self] at q
    rw [hi2, ← Option.some.inj q]
    exact he
structure EnAt (ps : List (Str × Str)) (Lf Df Nf : Nat → Nat) (H0 H : Hp) (p E L D : Addr) (es : List Ent) (rs : List Addr) (lv dp : List Int) : Prop where
  ent : H E = some (.lst (rs.map V.ref))
  lvs : H L = some (.lst (lv.map V.int))
  dps : H D = some (.lst (dp.map V.int))
  ll : lv = (List.range es.length).map fun i => (Lf i : Int)
  dl : dp = (List.range es.length).map fun i => (Df i : Int)
  tree : Tree es Lf Df Nf
  rows : RowsAt [p, E, L, D] H rs es
  tri : ∃ mm nn : List Addr, TriAt [p, E, L, D] H rs mm nn es ∧ (mm ++ nn).Nodup ∧ ∀ x ∈ mm ++ nn, H0 x = none
  nd : rs.Nodup
  fresh : ∀ r ∈ rs, H0 r = none
  built : Built ps es
  keep : Keep [p] H0 H
  E0 : H0 E = none
  L0 : H0 L = none
  D0 : H0 D = none
  nEL : E ≠ L
  nED : E ≠ D
  nLD : L ≠ D
structure ETxt (K : PySem.W.Frag) (mg : Str → Option Value) (fKd fDg fTx : Addr) : Prop where
  gK : mg "_law_kind" = some (.ref fKd)
  kK : PySem.W.keepIn K (.ref fKd) = true
  gD : mg "_law_digit" = some (.ref fDg)
  kD : PySem.W.keepIn K (.ref fDg) = true
  gT : mg "_law_text" = some (.ref fTx)
  kT : PySem.W.keepIn K (.ref fTx) = true
  sum : mg "sum" = none
  max : mg "max" = none
  range : mg "range" = none
/-- the leaves, the depth of a fault of these members -/
structure MD (Lf Df : Nat → Nat) (mem : List Nat) (many : Int) (a d : Nat) : Prop where
  val : (if many > 1 then many else 1) = (a : Int)
  sum : a = (if mem = [] then 1 else (mem.map Lf).sum)
  few : a ≤ 60
  flat : d ≤ 12
  zero : mem = [] → d = 0
  up : ∀ m ∈ mem, Df m + 1 ≤ d
  top : mem ≠ [] → ∃ m ∈ mem, d = Df m + 1
theorem MD.none {Lf Df : Nat → Nat} : MD Lf Df [] 0 1 0 := ⟨by decide, by simp, by decide, by decide, fun _ => rfl, (fun m h => absurd h List.not_mem_nil), fun h => absurd rfl h⟩
theorem range_put (f : Nat → Nat) (n v : Nat) : ((List.range n).map fun i => (f i : Int)) ++ [(v : Int)] = (List.range (n + 1)).map fun i => (put f n v i : Int) := by
  rw [List.range_succ, List.map_append]
  refine congr (congrArg _ (List.map_congr_left fun i hi => ?_)) ?_
  · rw [put_old (List.mem_range.mp hi)]
  · rw [List.map_singleton, put_same]
/-- behind the kind -/
def CutC (ps : List (Str × Str)) (Lf Df : Nat → Nat) (G : Hp) (p l E L D : Addr) (k n : Nat) (σ : L2.St) (H : Hp) : Prop :=
  ∃ (M : Addr) (mem : List Nat) (many : Int) (a d : Nat) (z : Str) (v2 v8 : Option V), σ = [some (.ref p), some (.ref l), v2, some (.ref E), some (.ref L), some (.ref D), some (.int (k : Int)), some (.ref M), v8, some (.int many), some (.int (d : Int)), some (.str z)] ∧ MD Lf Df mem many a d ∧ KindOk ps mem z ∧
    mem.length ≤ 6 ∧ (∀ a ∈ mem, a < k) ∧ G M = none ∧ H M = some (.lst (memV mem)) ∧ PotAt H p n ∧ Keep [p] G H
/-- ahead of the kind -/
def CutB (Lf Df : Nat → Nat) (G : Hp) (p l E L D : Addr) (k n : Nat) (σ : L2.St) (H : Hp) : Prop :=
  ∃ (M : Addr) (mem : List Nat) (many : Int) (a d : Nat) (v2 v8 v11 : Option V), σ = [some (.ref p), some (.ref l), v2, some (.ref E), some (.ref L), some (.ref D), some (.int (k : Int)), some (.ref M), v8, some (.int many), some (.int (d : Int)), v11] ∧ MD Lf Df mem many a d ∧
    mem.length ≤ 6 ∧ (∀ a ∈ mem, a < k) ∧ G M = none ∧ H M = some (.lst (memV mem)) ∧ PotAt H p n ∧ Keep [p] G H
/-- ahead of the sum -/
def CutA (G : Hp) (p l E L D : Addr) (k n : Nat) (σ : L2.St) (H : Hp) : Prop :=
  ∃ (M : Addr) (mem : List Nat) (v2 v8 v9 v10 v11 : Option V), σ = [some (.ref p), some (.ref l), v2, some (.ref E), some (.ref L), some (.ref D), some (.int (k : Int)), some (.ref M), v8, v9, v10, v11] ∧
    mem.length ≤ 6 ∧ (∀ a ∈ mem, a < k) ∧ G M = none ∧ H M = some (.lst (memV mem)) ∧ PotAt H p n ∧ Keep [p] G H
theorem RowsAt.is {bad : List Addr} {H : Hp} : ∀ {as : List Addr} {es : List Ent}, RowsAt bad H as es → ∀ a ∈ as, ∃ o, H a = some o
  | [], [], _, _, h => absurd h List.not_mem_nil
  | _ :: as, _ :: es, h, a, m => by
    rcases List.mem_cons.mp m with m | m
    · rw [m]
      obtain ⟨_, _, _, _, _, e, _⟩ := h.1
      exact ⟨_, e⟩
    · exact RowsAt.is h.2 a m
  | [], _ :: _, h, _, _ => h.elim
  | _ :: _, [], h, _, _ => h.elim
/-- what a turn leaves -/
def Turned (ps : List (Str × Str)) (H0 : Hp) (p l E L D : Addr) (n : Nat) (es : List Ent) (rs : List Addr) (lv dp : List Int) (De : Ends) : Prop :=
  ∀ (e : Ent) (r : Addr) (x y : Int) (Lf Df Nf : Nat → Nat) (v2 v6 v7 v8 v9 v10 v11 : Option V) (G' : Hp), EnAt ps Lf Df Nf H0 G' p E L D (es ++ [e]) (rs ++ [r]) (lv ++ [x]) (dp ++ [y]) → PotAt G' p n → De.nx [some (.ref p), some (.ref l), v2, some (.ref E), some (.ref L), some (.ref D), v6, v7, v8, v9, v10, v11] G'
section
variable {P : Program} {w : World} {K : PySem.W.Frag} {mg : Str → Option Value} {base : Heap} {fKd fDg fTx : Addr}
theorem ent_7 {dTx : FuncData} {f : Addr} (T : ETxt K mg fKd fDg fTx) (FT : FnOk P w K mg base CX0 2 fTx dTx ["_law_pot_here"] spText) (bT : Binds K dTx ["_law_pot_here"] [])
    (cdv : Value) (A0 : Around) (outer : List Env) (s : Shared) (Hs : Hp) (Es : XK) (hr : Room 2 (A0.deeper (PyProof.Rows.envOfC "_law_entries" (defScope sEnt) s.heap.objs.size f cdv))) :
    ∃ t, PSs (cxOf CX0 P w K mg base nEnt "_law_entries" (defScope sEnt) f cdv A0 outer s Hs Es).nox (bEnt.drop 7) t ∧
      ∀ (ps : List (Str × Str)) (Lf Df Nf : Nat → Nat) (H0 G : Hp) (p l E L D : Addr) (n0 n : Nat) (es : List Ent) (rs : List Addr) (lv dp : List Int), PotAt H0 p n0 → (∃ xs, G p = some (.lst xs)) → n < 2 ^ 30 → es.length ≤ 100 → EnAt ps Lf Df Nf H0 G p E L D es rs lv dp → ∀ (De : Ends) σ H, CutC ps Lf Df G p l E L D es.length n σ H →
        Turned ps H0 p l E L D (n + 43) es rs lv dp De → t De σ H := by
  refine ⟨_, pss_cons (ps_expr (pe_bm PySem.F.plainAttrs_list PySem.F.slot_list_append PySem.F.type_list_append mt_append (pv 3) (pa_cons (pe_lst (pa_cons (pv 11) (pa_cons (pe_call FT hr rfl T.gT T.kT bT .nil pass0 (pa_cons (pv 0) pa_nil)) (pa_cons (pv 7) (pa_cons (pe_lst pa_nil) (pa_cons pe_non (pa_cons pe_non pa_nil))))))) pa_nil)))
    (pss_cons (ps_expr (pe_bm PySem.F.plainAttrs_list PySem.F.slot_list_append PySem.F.type_list_append mt_append (pv 4) (pa_cons (pe_callB (call_max2 rfl) (by rfl) T.max (by decide +kernel) (pa_cons pe_int (pa_cons (pv 9) pa_nil))) pa_nil)))
    (pss_one (ps_expr (pe_bm PySem.F.plainAttrs_list PySem.F.slot_list_append PySem.F.type_list_append mt_append (pv 5) (pa_cons (pv 10) pa_nil))))), ?_⟩
  rintro ps Lf Df Nf H0 G p l E L D n0 n es rs lv dp hp00 ⟨gx, gp⟩ hn hlen S De σ H ⟨M, mem, many, da, dd, z, v2, v8, rfl, md, hz, hm6, hmk, hM0, hM, hp, k0⟩ kk
  obtain ⟨x0, ep0⟩ := hp00.some
  have free0 : ∀ b, G b = none → H0 b = none := fun b hb => Keep.free S.keep hb (nin1 fun z => by rw [z, gp] at hb; cases hb)
  have nb : ∀ b, G b = none → b ∉ [p, E, L, D] := fun b hb z => by
    rcases (show b = p ∨ b = E ∨ b = L ∨ b = D by simpa using z) with z | z | z | z
    · rw [z, gp] at hb; cases hb
    · rw [z, S.ent] at hb; cases hb
    · rw [z, S.lvs] at hb; cases hb
    · rw [z, S.dps] at hb; cases hb
  have nEp : E ≠ p := fun z => by rw [← z, S.E0] at ep0; cases ep0
  have nLp : L ≠ p := fun z => by rw [← z, S.L0] at ep0; cases ep0
  have nDp : D ≠ p := fun z => by rw [← z, S.D0] at ep0; cases ep0
  refine ⟨_, rfl, .inl ⟨rfl, _, SqL.of (k0.at S.ent (nin1 nEp))⟩, _, rfl, _, rfl, p, n, rfl, hp, by omega, fun tx H5 htx k5 hp5 => ?_⟩
  have k05 : Keep [p] G H5 := k0.trans k5
  have nMp : M ≠ p := fun z => by rw [z, gp] at hM0; cases hM0
  have hM5 : H5 M = some (.lst (memV mem)) := k5.at hM (nin1 nMp)
  obtain ⟨x5, ep5⟩ := hp5.some
  refine ⟨_, rfl, Nat.zero_le _, fun N hN => ?_⟩
  refine ⟨(by show 6 ≤ sizeLine; decide), fun r hr' => ?_⟩
  have hN0 : G N = none := Keep.free k05 hN (nin1 fun z => by rw [z, ep5] at hN; cases hN)
  have hr5 : H5 r = none := Keep.free (Keep.new hN (ex := [])) hr' nin0
  have hr0 : G r = none := Keep.free k05 hr5 (nin1 fun z => by rw [z, ep5] at hr5; cases hr5)
  have kG7 : Keep [p] G (upd (upd H5 N (.lst [])) r (.lst [.str z, .str tx, .ref M, .ref N, .non, .non])) := (k05.newTo hN).newTo hr'
  have p7 : PotAt (upd (upd H5 N (.lst [])) r (.lst [.str z, .str tx, .ref M, .ref N, .non, .non])) p (n + 43) := hp5.keep ((Keep.new hN (ex := [])).newTo hr') nin0
  have eM7 : (upd (upd H5 N (.lst [])) r (.lst [.str z, .str tx, .ref M, .ref N, .non, .non])) M = some (.lst (memV mem)) := ((Keep.new hN (ex := [])).newTo hr').at hM5 nin0
  have eN7 : (upd (upd H5 N (.lst [])) r (.lst [.str z, .str tx, .ref M, .ref N, .non, .non])) N = some (.lst []) := (Keep.new hr' (ex := [])).at upd_same nin0
  have er7 : (upd (upd H5 N (.lst [])) r (.lst [.str z, .str tx, .ref M, .ref N, .non, .non])) r = some (.lst [.str z, .str tx, .ref M, .ref N, .non, .non]) := upd_same
  generalize (upd (upd H5 N (.lst [])) r (.lst [.str z, .str tx, .ref M, .ref N, .non, .non])) = H7 at kG7 p7 eM7 eN7 er7 ⊢
  have ent7 := kG7.at S.ent (nin1 nEp)
  have lvs7 := kG7.at S.lvs (nin1 nLp)
  have dps7 := kG7.at S.dps (nin1 nDp)
  have lr := S.rows.len
  refine ⟨E, _, _, rfl, rfl, ent7, Nat.lt_of_le_of_lt (by rw [List.length_map, lr]; omega : (rs.map V.ref).length ≤ 1000) (by decide), ?_⟩
  refine ⟨_, rfl, .inl ⟨rfl, _, SqL.of (by rw [upd_ne S.nEL.symm]; exact lvs7)⟩, _, rfl, _, _, rfl, L, _, _, rfl, rfl, (by rw [upd_ne S.nEL.symm]; exact lvs7), Nat.lt_of_le_of_lt (by rw [List.length_map, S.ll, List.length_map, List.length_range]; omega : (lv.map V.int).length ≤ 1000) (by decide), ?_⟩
  have d9 : ∀ o o', (upd (upd H7 E o) L o') D = some (.lst (dp.map V.int)) := fun o o' => by rw [upd_ne S.nLD.symm, upd_ne S.nED.symm]; exact dps7
  refine ⟨_, rfl, .inl ⟨rfl, _, SqL.of (d9 _ _)⟩, _, rfl, D, _, _, rfl, rfl, d9 _ _, Nat.lt_of_le_of_lt (by rw [List.length_map, S.dl, List.length_map, List.length_range]; omega : (dp.map V.int).length ≤ 1000) (by decide), ?_⟩
  have kend : ∀ o1 o2 o3, Keep [E, L, D] H7 (upd (upd (upd H7 E o1) L o2) D o3) := fun o1 o2 o3 => ((Keep.own (by simp)).ownTo (by simp)).ownTo (by simp)
  have e1 : ∀ o1 o2 o3, (upd (upd (upd H7 E o1) L o2) D o3) E = some o1 := fun o1 o2 o3 => by rw [upd_ne S.nED, upd_ne S.nEL, upd_same]
  have e2 : ∀ o1 o2 o3, (upd (upd (upd H7 E o1) L o2) D o3) L = some o2 := fun o1 o2 o3 => by rw [upd_ne S.nLD, upd_same]
  have sub : ∀ b, b ∈ [E, L, D] → b ∈ [p, E, L, D] := fun b hb => List.mem_cons_of_mem _ hb
  have sub1 : ∀ b, b ∈ [p] → b ∈ [p, E, L, D] := fun b hb => by rw [List.mem_singleton.mp hb]; exact List.mem_cons_self
  have ns : ∀ b, G b = none → b ∉ [E, L, D] := fun b hb z => nb b hb (sub b z)
  refine kk ⟨z, tx, mem, [], none, none⟩ r _ _ (put Lf es.length da) (put Df es.length dd) _ _ _ _ _ _ _ _ _ ⟨by rw [e1, List.map_append]; rfl, by rw [e2, List.map_append]; rfl, by rw [upd_same, List.map_append]; rfl, by rw [md.val, List.length_append, S.ll]; exact range_put Lf es.length da, by rw [List.length_append, S.dl]; exact range_put Df es.length dd, S.tree.snoc (e := (⟨z, tx, mem, [], none, none⟩ : Ent)) hmk md.sum md.few md.flat md.zero md.up md.top,
    RowsAt.snoc (e := (⟨z, tx, mem, [], none, none⟩ : Ent)) ⟨M, N, nb r hr0, nb M hM0, nb N hN0, (kend _ _ _).at er7 (ns r hr0), (kend _ _ _).at eM7 (ns M hM0), (kend _ _ _).at eN7 (ns N hN0)⟩ (S.rows.keep ((kG7.more sub1).trans ((kend _ _ _).more sub))), ?_, ?_, ?_, S.built.snoc ⟨htx, hm6, hmk, rfl, rfl, rfl, hz⟩, (((S.keep.trans kG7).freshTo S.E0).freshTo S.L0).freshTo S.D0, S.E0, S.L0, S.D0, S.nEL, S.nED, S.nLD⟩ (p7.keep (kend _ _ _) ?_)
  · obtain ⟨mm, nn, t1, t2, t3⟩ := S.tri
    have out : ∀ b, G b = none → b ∉ mm ++ nn := fun b hb z => by
      obtain ⟨xs, e⟩ := t1.is b (List.mem_append_right _ z)
      rw [e] at hb; cases hb
    refine ⟨mm ++ [M], nn ++ [N], TriAt.snoc (e := (⟨z, tx, mem, [], none, none⟩ : Ent)) ⟨nb r hr0, nb M hM0, nb N hN0, (kend _ _ _).at er7 (ns r hr0), (kend _ _ _).at eM7 (ns M hM0), (kend _ _ _).at eN7 (ns N hN0)⟩ (t1.keep ((kG7.more sub1).trans ((kend _ _ _).more sub))), two_more t2 (out M hM0) (out N hN0) (ne_of_none hM5 hN), fun x hx => ?_⟩
    have q' : x ∈ mm ++ nn ∨ x = M ∨ x = N := by
      simp only [List.mem_append, List.mem_singleton] at hx ⊢
      rcases hx with (q | q) | (q | q) <;> simp [q]
    rcases q' with q | q | q
    · exact t3 x q
    · rw [q]; exact free0 M hM0
    · rw [q]; exact free0 N hN0
  · refine List.nodup_append.mpr ⟨S.nd, by simp, fun a ha b hb z => ?_⟩
    obtain ⟨o, e⟩ := S.rows.is a ha
    rw [z, List.mem_singleton.mp hb, hr0] at e
    cases e
  · intro b hb
    rcases List.mem_append.mp hb with z | z
    · exact S.fresh b z
    · rw [List.mem_singleton.mp z]; exact free0 r hr0
  · simp [nEp.symm, nLp.symm, nDp.symm]
theorem ent_5 {dKd dTx : FuncData} {f : Addr} (T : ETxt K mg fKd fDg fTx) (FK : FnOk P w K mg base CX0 2 fKd dKd ["_law_pot_here", "_law_pairs_here"] spKindL) (bK : Binds K dKd ["_law_pot_here", "_law_pairs_here"] []) (FT : FnOk P w K mg base CX0 2 fTx dTx ["_law_pot_here"] spText) (bT : Binds K dTx ["_law_pot_here"] [])
    (cdv : Value) (A0 : Around) (outer : List Env) (s : Shared) (Hs : Hp) (Es : XK) (hr : Room 2 (A0.deeper (PyProof.Rows.envOfC "_law_entries" (defScope sEnt) s.heap.objs.size f cdv))) :
    ∃ t, PSs (cxOf CX0 P w K mg base nEnt "_law_entries" (defScope sEnt) f cdv A0 outer s Hs Es).nox (bEnt.drop 5) t ∧
      ∀ (ps : List (Str × Str)) (Lf Df Nf : Nat → Nat) (H0 G : Hp) (p l E L D : Addr) (n0 n : Nat) (es : List Ent) (rs : List Addr) (lv dp : List Int), PotAt H0 p n0 → (∃ xs, G p = some (.lst xs)) → PairsAt H0 l ps → ps.length ≤ 1000 → l ≠ p → n < 2 ^ 29 → es.length ≤ 100 → EnAt ps Lf Df Nf H0 G p E L D es rs lv dp → ∀ (De : Ends) σ H, CutB Lf Df G p l E L D es.length n σ H →
        Turned ps H0 p l E L D (n + 44) es rs lv dp De → t De σ H := by
  obtain ⟨t7, h7, r7⟩ := ent_7 (P := P) (w := w) (base := base) T FT bT cdv A0 outer s Hs Es hr
  refine ⟨_, pss_cons (ps_set (i := 11) scEnt.nd rfl (Or.inl rfl) pe_str)
    (pss_cons (ps_if (pt_cmpR (op_eqD hr.units) (pv 7) (pe_lst pa_nil) (nomark _)) (pss_one (ps_set (i := 11) scEnt.nd rfl (Or.inl rfl) (pe_call FK hr rfl T.gK T.kK bK .nil pass0 (pa_cons (pv 0) (pa_cons (pv 1) pa_nil))))) pss_nil) h7), ?_⟩
  rintro ps Lf Df Nf H0 G p l E L D n0 n es rs lv dp hp00 ⟨gx, gp⟩ hl0 hps nlp hn hlen S De σ H ⟨M, mem, many, da, dd, v2, v8, v11, rfl, md, hm6, hmk, hM0, hM, hp, k0⟩ kk
  have nMp : M ≠ p := fun z => by rw [z, gp] at hM0; cases hM0
  refine ⟨_, rfl, Nat.zero_le _, fun e2 he2 => ?_⟩
  have k1 : Keep [] H (upd H e2 (.lst [])) := Keep.new he2
  have a1 : (upd H e2 (.lst [])) e2 = some (.lst []) := upd_same
  generalize (upd H e2 (.lst [])) = H1 at k1 a1 ⊢
  have hM1 := k1.at hM nin0
  have p1 := hp.keep k1 nin0
  have k01 : Keep [p] G H1 := k0.trans (k1.more fun b z => absurd z nin0)
  refine ⟨intsD mem, intsD [], dp_intsD hM1, dp_intsD (l := []) a1, ints_shaped _, ints_shaped _, _, rfl, ?_⟩
  rw [ints_nil]
  cases mem with
  | nil =>
    refine iteT ?_
    have hl1 : PairsAt H1 l ps := (hl0.keep (S.keep.trans k01) (nin1 nlp) (fun b hb => by
      obtain ⟨x0, ep0⟩ := hp00.some
      rw [List.mem_singleton.mp hb]; exact ⟨_, ep0, fun _ z => by cases z⟩))
    refine ⟨_, rfl, _, rfl, p, l, n, ps, rfl, p1, by omega, hl1, nlp, hps, fun zk G5 hzk k5 hp5 => ?_⟩
    exact r7 ps Lf Df Nf H0 G p l E L D n0 (n + 1) es rs lv dp hp00 ⟨gx, gp⟩ (by omega) hlen S De _ _ ⟨M, [], many, da, dd, zk, v2, v8, rfl, md, ⟨fun _ => hzk, fun h => absurd rfl h⟩, hm6, hmk, hM0, k5.at hM1 (nin1 nMp), hp5, k01.trans k5⟩ kk
  | cons x r =>
    refine iteF ?_
    exact r7 ps Lf Df Nf H0 G p l E L D n0 (n + 1) es rs lv dp hp00 ⟨gx, gp⟩ (by omega) hlen S De _ _ ⟨M, x :: r, many, da, dd, _, v2, v8, rfl, md, ⟨(fun h => by cases h), fun _ => rfl⟩, hm6, hmk, hM0, hM1, p1.le (by omega), k01⟩ kk
theorem ent_2 {dKd dTx : FuncData} {f : Addr} (T : ETxt K mg fKd fDg fTx) (FK : FnOk P w K mg base CX0 2 fKd dKd ["_law_pot_here", "_law_pairs_here"] spKindL) (bK : Binds K dKd ["_law_pot_here", "_law_pairs_here"] []) (FT : FnOk P w K mg base CX0 2 fTx dTx ["_law_pot_here"] spText) (bT : Binds K dTx ["_law_pot_here"] [])
    (cdv : Value) (A0 : Around) (outer : List Env) (s : Shared) (Hs : Hp) (Es : XK) (hr : Room 2 (A0.deeper (PyProof.Rows.envOfC "_law_entries" (defScope sEnt) s.heap.objs.size f cdv))) :
    ∃ t, PSs (cxOf CX0 P w K mg base nEnt "_law_entries" (defScope sEnt) f cdv A0 outer s Hs Es).nox (bEnt.drop 2) t ∧
      ∀ (ps : List (Str × Str)) (Lf Df Nf : Nat → Nat) (H0 G : Hp) (p l E L D : Addr) (n0 n : Nat) (es : List Ent) (rs : List Addr) (lv dp : List Int), PotAt H0 p n0 → (∃ xs, G p = some (.lst xs)) → PairsAt H0 l ps → ps.length ≤ 1000 → l ≠ p → n < 2 ^ 29 → es.length ≤ 100 → EnAt ps Lf Df Nf H0 G p E L D es rs lv dp → ∀ (De : Ends) σ H, CutA G p l E L D es.length n σ H →
        Turned ps H0 p l E L D (n + 44) es rs lv dp De → t De σ H := by
  obtain ⟨t5, h5, r5⟩ := ent_5 (P := P) (w := w) (base := base) T FK bK FT bT cdv A0 outer s Hs Es hr
  refine ⟨_, pss_cons (ps_set (i := 9) scEnt.nd rfl (Or.inl rfl) (pe_callB (cr_sum rfl) (by rfl) T.sum (by decide +kernel) (pa_cons (pe_lc (own := [("_law_j", 8)]) (g := gName 8) (tt := tYes) (te := tOp (rIxL K) (tVar 4) (tVar 8)) rfl scEnt.nd (pi_list (pv 7))
        (blkOk_by (N := nEnt) (sc := defScope sEnt) (by decide +kernel)) (fun _ _ _ _ _ => pg_name (i := 8) scEnt.nd rfl (Or.inl rfl)) (fun _ _ _ _ _ => pts_nil) (fun _ _ _ _ _ => by exact (pe_ix ix_list (pv 4) (pv 8) (fun _ _ => rfl)))) pa_nil)))
    (pss_cons (ps_set (i := 10) scEnt.nd rfl (Or.inl rfl) (pe_callB (cr_max rfl) (by rfl) T.max (by decide +kernel) (pa_cons (pe_op op_cat (pe_lst (pa_cons pe_int pa_nil)) (pe_lc (own := [("_law_j", 8)]) (g := gName 8) (tt := tYes) (te := tOp (rI0 fun i j => .int (i + j)) (tOp (rIxL K) (tVar 5) (tVar 8)) (tC (.int 1))) rfl scEnt.nd (pi_list (pv 7))
        (blkOk_by (N := nEnt) (sc := defScope sEnt) (by decide +kernel)) (fun _ _ _ _ _ => pg_name (i := 8) scEnt.nd rfl (Or.inl rfl)) (fun _ _ _ _ _ => pts_nil) (fun _ _ _ _ _ => by exact (pe_op op_add (pe_ix ix_list (pv 5) (pv 8) (fun _ _ => rfl)) pe_int)))) pa_nil)))
    (pss_cons (ps_if (PW.pt (pw_or (pt_cmpR op_gt (pv 9) pe_int (nomark _)) (pw_or1 (pt_cmpR op_gt (pv 10) pe_int (nomark _))))) (pss_cons (ps_set (i := 7) scEnt.nd rfl (Or.inl rfl) (pe_lst pa_nil)) (pss_cons (ps_set (i := 9) scEnt.nd rfl (Or.inl rfl) pe_int) (pss_one (ps_set (i := 10) scEnt.nd rfl (Or.inl rfl) pe_int)))) pss_nil) h5)), ?_⟩
  rintro ps Lf Df Nf H0 G p l E L D n0 n es rs lv dp hp00 ⟨gx, gp⟩ hl0 hps nlp hn hlen S De σ H ⟨M, mem, v2, v8, v9, v10, v11, rfl, hm6, hmk, hM0, hM, hp, k0⟩ kk
  obtain ⟨x0, ep0⟩ := hp00.some
  have nLp : L ≠ p := fun z => by rw [← z, S.L0] at ep0; cases ep0
  have nDp : D ≠ p := fun z => by rw [← z, S.D0] at ep0; cases ep0
  have lvH := k0.at S.lvs (nin1 nLp)
  have dpH := k0.at S.dps (nin1 nDp)
  have pick : ∀ (f : Nat → Nat), ∀ a ∈ mem, atI (((List.range es.length).map fun i => (f i : Int)).map V.int) ((a : Nat) : Int) = some (V.int (f a : Int)) := fun f a ha => by
    have hlt : a < es.length := hmk a ha
    exact atI_nat (by rw [List.getElem?_map, List.getElem?_map, List.getElem?_range hlt]; rfl)
  refine ⟨_, rfl, M, rfl, ⟨_, SqL.of hM⟩, fun D1 hD1 => ?_⟩
  refine ints_runG (K := K) (i := 8) (fun a => (Lf a : Int)) hM hD1 (by omega) (fun _ => rfl) (fun a ha H' k Q' hQ' => ?_) (fun H2 e2 k2 => ?_)
  · exact ⟨_, rfl, _, rfl, L, _, _, _, rfl, rfl, SqL.of (k.at lvH nin0), by rw [S.ll]; exact pick Lf a ha, hQ'⟩
  refine ⟨D1, _, rfl, SqL.of e2, ?_⟩
  have hM2 := k2.at hM nin0
  refine ⟨(by show 1 ≤ sizeLine; decide), fun a1 ha1 => ?_⟩
  have k3 : Keep [] H2 (upd H2 a1 (.lst [.int 0])) := Keep.new ha1
  have e3 : (upd H2 a1 (.lst [.int 0])) a1 = some (.lst [.int 0]) := upd_same
  generalize (upd H2 a1 (.lst [.int 0])) = H3 at k3 e3 ⊢
  refine ⟨_, rfl, M, rfl, ⟨_, SqL.of (k3.at hM2 nin0)⟩, fun D2 hD2 => ?_⟩
  refine ints_runG (K := K) (i := 8) (fun a => (Df a : Int) + 1) (k3.at hM2 nin0) hD2 (by omega) (fun _ => rfl) (fun a ha H' k Q' hQ' => ?_) (fun H4 e4 k4 => ?_)
  · exact ⟨_, rfl, _, rfl, D, _, _, _, rfl, rfl, SqL.of (((k2.trans k3).trans k).at dpH nin0), by rw [S.dl]; exact pick Df a ha, _, _, rfl, rfl, hQ'⟩
  have kH4 : Keep [] H H4 := (k2.trans k3).trans k4
  refine ⟨a1, D2, _, _, rfl, rfl, k4.at e3 nin0, e4, ?_, fun c hc => ?_⟩
  · rw [List.length_map, List.length_map]
    exact Nat.le_trans (by show 1 + mem.length ≤ 1000; omega) (by decide)
  have e5 : (upd H4 c (.lst ([.int 0] ++ (mem.map fun a => (Df a : Int) + 1).map V.int))) c = some (.lst ((0 :: mem.map fun a => (Df a : Int) + 1).map V.int)) := by rw [upd_same]; rfl
  have k5 : Keep [] H4 (upd H4 c (.lst ([.int 0] ++ (mem.map fun a => (Df a : Int) + 1).map V.int))) := Keep.new hc
  generalize (upd H4 c (.lst ([.int 0] ++ (mem.map fun a => (Df a : Int) + 1).map V.int))) = H5 at k5 e5 ⊢
  refine ⟨c, 0 :: mem.map fun a => (Df a : Int) + 1, rfl, SqL.of e5, Nat.succ_pos _, fun deep hd1 hd2 => ?_⟩
  have kH5 := kH4.trans k5
  have k05 : Keep [p] G H5 := k0.trans (kH5.more fun b z => absurd z nin0)
  have hp5 : PotAt H5 p n := hp.keep kH5 nin0
  have hM5 : H5 M = some (.lst (memV mem)) := kH5.at hM nin0
  have same : (mem.map fun a => (Lf a : Int)).sum ≤ 60 → deep ≤ 12 → t5 De [some (.ref p), some (.ref l), v2, some (.ref E), some (.ref L), some (.ref D), some (.int (es.length : Int)), some (.ref M), v8, some (.int (mem.map fun a => (Lf a : Int)).sum), some (.int deep), v11] H5 := fun q1 q2 => by
    have d0 : 0 ≤ deep := by
      have := hd2 0 List.mem_cons_self
      omega
    obtain ⟨dd, rfl⟩ : ∃ m : Nat, deep = (m : Int) := ⟨deep.toNat, by omega⟩
    have up : ∀ m ∈ mem, Df m + 1 ≤ dd := fun m hm => by
      have := hd2 ((Df m : Int) + 1) (List.mem_cons_of_mem _ (List.mem_map.mpr ⟨m, hm, rfl⟩))
      omega
    rw [sum_cast] at q1 ⊢
    refine r5 ps Lf Df Nf H0 G p l E L D n0 n es rs lv dp hp00 ⟨gx, gp⟩ hl0 hps nlp hn hlen S De _ _ ⟨M, mem, _, (if mem = [] then 1 else (mem.map Lf).sum), dd, v2, v8, v11, rfl, ⟨?_, rfl, ?_, by omega, fun h => ?_, up, fun h => ?_⟩, hm6, hmk, hM0, hM5, hp5, k05⟩ kk
    · cases mem with
      | nil => simp
      | cons m r =>
        have h1 := (S.tree.pos m m (Nat.le_refl _) (hmk m List.mem_cons_self)).1
        have h2 : 1 ≤ ((m :: r).map Lf).sum := by
          rw [List.map_cons, List.sum_cons]
          exact Nat.le_trans h1 (Nat.le_add_right _ _)
        rw [if_neg (show ¬ (m :: r : List Nat) = [] from fun z => by cases z)]
        generalize ((m :: r).map Lf).sum = x at h2 ⊢
        split <;> omega
    · split
      · decide
      · omega
    · subst h
      rcases List.mem_cons.mp hd1 with z | z
      · omega
      · exact absurd z List.not_mem_nil
    · rcases List.mem_cons.mp hd1 with z | z
      · exfalso
        cases mem with
        | nil => exact h rfl
        | cons m r =>
          have := up m List.mem_cons_self
          omega
      · obtain ⟨m, hm, e⟩ := List.mem_map.mp z
        exact ⟨m, hm, by omega⟩
  have anew : ∀ N : Addr, H5 N = none → t5 De [some (.ref p), some (.ref l), v2, some (.ref E), some (.ref L), some (.ref D), some (.int (es.length : Int)), some (.ref N), v8, some (.int 0), some (.int 0), v11] (upd H5 N (.lst [])) := fun N hN => by
    obtain ⟨xs, ep⟩ := hp5.some
    exact r5 ps Lf Df Nf H0 G p l E L D n0 n es rs lv dp hp00 ⟨gx, gp⟩ hl0 hps nlp hn hlen S De _ _ ⟨N, [], 0, 1, 0, v2, v8, v11, rfl, .none, Nat.zero_le _, (fun a h => absurd h List.not_mem_nil), Keep.free k05 hN (nin1 (Ne.symm (ne_of_none ep hN))), upd_same, hp5.keep (ex := []) (Keep.new hN) nin0, k05.newTo hN⟩ kk
  refine ⟨_, rfl, _, _, rfl, rfl, _, rfl, ?_⟩
  refine ite2 (fun _ => iteT ⟨Nat.zero_le _, fun N hN => anew N hN⟩) (fun q1 => ?_)
  refine ⟨_, rfl, _, _, rfl, rfl, _, rfl, ?_⟩
  refine ite2 (fun _ => ⟨Nat.zero_le _, fun N hN => anew N hN⟩) (fun q2 => same ?_ ?_)
  · have : ¬ (mem.map fun a => (Lf a : Int)).sum > 60 := fun z => q1 (decide_eq_true z)
    omega
  · have : ¬ deep > 12 := fun z => q2 (decide_eq_true z)
    omega
end
end Fs
/-! The law's entries. -/
namespace Fs
open PySem L2 TL
def spEnt : Sp := fun vs H Q _ => ∃ (p l : Addr) (n mo : Nat) (ps : List (Str × Str)), vs = [.ref p, .ref l, .int (mo : Int)] ∧ mo ≤ 20 ∧ PotAt H p n ∧ n < 2 ^ 20 ∧ PairsAt H l ps ∧ ps.length ≤ 1000 ∧ l ≠ p ∧
  ∀ (E : Addr) (rs : List Addr) (es : List Ent) (Lf Df Nf : Nat → Nat) (H' : Hp), Tree es Lf Df Nf → H E = none → (∀ r ∈ rs, H r = none) → H' E = some (.lst (rs.map V.ref)) → (∃ mm nn : List Addr, TriAt [p, E] H' rs mm nn es ∧ (mm ++ nn).Nodup ∧ ∀ x ∈ mm ++ nn, H x = none) → rs.Nodup → Built ps es → es.length ≤ mo → Keep [p] H H' → PotAt H' p (n + 2000) → Q (.ref E) H'
section
variable {P : Program} {w : World} {K : PySem.W.Frag} {mg : Str → Option Value} {base : Heap} {fKd fDg fTx : Addr}
theorem ok_ent {dKd dDg dTx fd : FuncData} {f : Addr} (F : Fun K "_law_entries" "_law_entries" sEnt f fd) (T : ETxt K mg fKd fDg fTx) (FK : FnOk P w K mg base CX0 2 fKd dKd ["_law_pot_here", "_law_pairs_here"] spKindL) (bK : Binds K dKd ["_law_pot_here", "_law_pairs_here"] []) (FD : FnOk P w K mg base CX0 1 fDg dDg ["_law_pot_here", "_law_many"] spDigit) (bD : Binds K dDg ["_law_pot_here", "_law_many"] []) (FT : FnOk P w K mg base CX0 2 fTx dTx ["_law_pot_here"] spText) (bT : Binds K dTx ["_law_pot_here"] []) :
    FnOk P w K mg base CX0 3 f fd ["_law_pot_here", "_law_pairs_here", "_law_most"] spEnt := by
  refine F.ok scEnt (fun vs H Q E h => ?_) (fun cdv A0 outer s H vs Q Es hr h => ?_)
  · obtain ⟨p, l, n, mo, ps, rfl, _⟩ := h
    rfl
  · obtain ⟨p, l, n, mo, ps, rfl, hmo, hp, hn, hl, hps, nlp, kk⟩ := h
    obtain ⟨t2, h2, r2⟩ := ent_2 (P := P) (w := w) (base := base) T FK bK FT bT cdv A0 outer s H Es hr
    have hr1 : Room 1 _ := hr.mono (by decide)
    refine ⟨_, pss_cons (ps_set (i := 3) scEnt.nd rfl (Or.inl rfl) (pe_lst pa_nil))
      (pss_cons (ps_set (i := 4) scEnt.nd rfl (Or.inr rfl) (pe_lst pa_nil))
      (pss_cons (ps_set (i := 5) scEnt.nd rfl (Or.inr rfl) (pe_lst pa_nil))
      (pss_cons (ps_for PassesOwn.never rfl (pi_range1 rfl T.range (pa_cons (pe_call FD hr1 rfl T.gD T.kD bD .nil pass0 (pa_cons (pv 0) (pa_cons (pe_op op_add (pv 2) pe_int) pa_nil))) pa_nil)) (pg_name (i := 6) scEnt.nd rfl (Or.inr rfl))
        (pss_cons (ps_set (i := 7) scEnt.nd rfl (Or.inl rfl) (pe_lst pa_nil))
        (pss_cons (ps_if (PW.pt (pw_and (pt_cmpR op_gt (pv 6) pe_int (nomark _)) (pw_and1 (pt_cmpR op_eq (pe_call FD hr1 rfl T.gD T.kD bD .nil pass0 (pa_cons (pv 0) (pa_cons pe_int pa_nil))) pe_int (nomark _)))))
          (pss_one (ps_setLc (i := 7) (own := [("_law_j", 8)]) (g := gName 8) (tt := tYes) rfl scEnt.nd rfl rfl (sw_true rfl rfl rfl (by decide +kernel)) (pi_range1 rfl T.range (pa_cons (pe_op op_add pe_int (pe_call FD hr1 rfl T.gD T.kD bD .nil pass0 (pa_cons (pv 0) (pa_cons pe_int pa_nil)))) pa_nil))
            (blkOk_by (N := nEnt) (sc := defScope sEnt) (by decide +kernel)) (fun _ _ _ _ _ => pg_name (i := 8) scEnt.nd rfl (Or.inl rfl)) (fun _ _ _ _ _ => pts_nil) (fun _ _ _ _ _ => by exact (pe_call FD hr1 rfl T.gD T.kD bD .nil pass0 (pa_cons (pv 0) (pa_cons (pv 6) pa_nil)))))) pss_nil) h2)))
      (pss_one (ps_ret (pv 3)))))), ?_⟩
    obtain ⟨x0, ep0⟩ := hp.some
    refine ⟨Nat.zero_le _, fun E hE => ?_⟩
    refine ⟨Nat.zero_le _, fun L hL => ?_⟩
    refine ⟨Nat.zero_le _, fun D hD => ?_⟩
    have k3 : Keep [] H (upd (upd (upd H E (.lst [])) L (.lst [])) D (.lst [])) := ((Keep.new hE).newTo hL).newTo hD
    have eE : (upd (upd (upd H E (.lst [])) L (.lst [])) D (.lst [])) E = some (.lst []) := ((Keep.new hL (ex := [])).newTo hD).at upd_same nin0
    have eL : (upd (upd (upd H E (.lst [])) L (.lst [])) D (.lst [])) L = some (.lst []) := (Keep.new hD (ex := [])).at upd_same nin0
    have eD : (upd (upd (upd H E (.lst [])) L (.lst [])) D (.lst [])) D = some (.lst []) := upd_same
    have nEL : E ≠ L := ne_of_none (show upd H E (.lst []) E = some (.lst []) from upd_same) hL
    have nED : E ≠ D := ne_of_none ((Keep.new hL (ex := [])).at (show upd H E (.lst []) E = some (.lst []) from upd_same) nin0) hD
    have nLD : L ≠ D := ne_of_none (show upd (upd H E (.lst [])) L (.lst []) L = some (.lst []) from upd_same) hD
    have hL0 : H L = none := Keep.free (Keep.new hE (ex := [])) hL nin0
    have hD0 : H D = none := Keep.free ((Keep.new hE (ex := [])).newTo hL) hD nin0
    generalize (upd (upd (upd H E (.lst [])) L (.lst [])) D (.lst [])) = H3 at k3 eE eL eD ⊢
    have nEp : E ≠ p := fun z => by rw [← z, hE] at ep0; cases ep0
    have nLp : L ≠ p := fun z => by rw [← z, hL0] at ep0; cases ep0
    have nDp : D ≠ p := fun z => by rw [← z, hD0] at ep0; cases ep0
    refine ⟨_, rfl, _, rfl, _, _, rfl, rfl, p, n, _, rfl, hp.keep k3 nin0, by omega, by omega, by omega, fun d H4 d0 d1 hk4 hp4 => ?_⟩
    have k4 := keep_of_dig hk4
    obtain ⟨m, rfl⟩ : ∃ m : Nat, d = (m : Int) := ⟨d.toNat, by omega⟩
    have S0 : EnAt ps (fun _ => 0) (fun _ => 0) (fun _ => 0) H H4 p E L D [] [] [] [] := ⟨k4.at eE (nin1 nEp), k4.at eL (nin1 nLp), k4.at eD (nin1 nDp), rfl, rfl, .nil, True.intro, ⟨[], [], True.intro, List.nodup_nil, fun x h => absurd h List.not_mem_nil⟩, List.nodup_nil, (fun r h => absurd h List.not_mem_nil), (fun i e h => by simp at h), (k3.more fun b z => absurd z nin0).trans k4, hE, hL0, hD0, nEL, nED, nLD⟩
    refine ⟨_, rfl, by omega, by omega, ?_⟩
    rw [Int.toNat_natCast]
    refine for_range (lo := 0) (n := m) (fun i σ G => ∃ (v2 v6 v7 v8 v9 v10 v11 : Option V) (es : List Ent) (rs : List Addr) (lv dp : List Int) (Lf Df Nf : Nat → Nat), σ = [some (.ref p), some (.ref l), v2, some (.ref E), some (.ref L), some (.ref D), v6, v7, v8, v9, v10, v11] ∧ EnAt ps Lf Df Nf H G p E L D es rs lv dp ∧ es.length = i ∧ PotAt G p (n + 1 + 60 * i))
      ⟨_, none, none, none, none, none, none, [], [], [], [], _, _, _, rfl, S0, rfl, hp4⟩ ?_ ?_
    · rintro i σ G hi ⟨v2, v6, v7, v8, v9, v10, v11, es, rs, lv, dp, Lf, Df, Nf, rfl, S, hl', pot⟩
      have z0 : (0 : Int) + (i : Int) = (i : Int) := Int.zero_add _
      obtain ⟨gx, gp⟩ := pot.some
      refine ⟨Nat.zero_le _, fun N hN => ?_⟩
      have nNp : N ≠ p := Ne.symm (ne_of_none gp hN)
      have kN : Keep [] G (upd G N (.lst [])) := Keep.new hN
      have eN : (upd G N (.lst [])) N = some (.lst []) := upd_same
      generalize (upd G N (.lst [])) = G1 at kN eN ⊢
      have pot1 := pot.keep kN nin0
      have done : ∀ (De : Ends) (q : Nat) (M : Addr) (mem : List Nat) (v8 v9 v10 v11 : Option V) (G' : Hp), mem.length ≤ 6 → (∀ a ∈ mem, a < i) → G M = none → G' M = some (.lst (memV mem)) → PotAt G' p q → Keep [p] G G' → q ≤ n + 1 + 60 * i + 10 →
          Turned ps H p l E L D (q + 44) es rs lv dp De → t2 De [some (.ref p), some (.ref l), v2, some (.ref E), some (.ref L), some (.ref D), some (.int (0 + (i : Int))), some (.ref M), v8, v9, v10, v11] G' := fun De q M mem v8 v9 v10 v11 G' a1 a2 a3 a4 a5 a6 a7 a8 => by
        rw [z0]
        exact r2 ps Lf Df Nf H G p l E L D n q es rs lv dp hp ⟨gx, gp⟩ hl hps nlp (by omega) (by omega) S De _ _ ⟨M, mem, v2, v8, v9, v10, v11, by rw [hl'], a1, by rw [hl']; exact a2, a3, a4, a5, a6⟩ a8
      have turned : ∀ (q : Nat) (De : Ends), q ≤ n + 1 + 60 * i + 10 → (∀ (v2 v6 v7 v8 v9 v10 v11 : Option V) (es : List Ent) (rs : List Addr) (lv dp : List Int) (Lf Df Nf : Nat → Nat) G', EnAt ps Lf Df Nf H G' p E L D es rs lv dp → es.length = i + 1 → PotAt G' p (n + 1 + 60 * (i + 1)) → De.nx [some (.ref p), some (.ref l), v2, some (.ref E), some (.ref L), some (.ref D), v6, v7, v8, v9, v10, v11] G') → Turned ps H p l E L D (q + 44) es rs lv dp De := fun q De hq hD e r x y Lf' Df' Nf' v2 v6 v7 v8 v9 v10 v11 G' S' P' =>
        hD v2 v6 v7 v8 v9 v10 v11 (es ++ [e]) (rs ++ [r]) (lv ++ [x]) (dp ++ [y]) Lf' Df' Nf' G' S' (by rw [List.length_append, hl']; rfl) (P'.le (by omega))
      refine ⟨_, rfl, _, _, rfl, rfl, _, rfl, ?_⟩
      refine ite2 (fun hi0 => ?_) (fun _ => iteF ?_)
      · have hi' : 0 < i := by
          have := of_decide_eq_true hi0
          omega
        refine ⟨_, rfl, p, _, 2, rfl, pot1, by omega, by decide, by decide, fun d2 G2 e0 e1 hk2 pot2 => ?_⟩
        have kG2 : Keep [p] G G2 := (kN.more fun b z => absurd z nin0).trans (keep_of_dig hk2)
        refine ⟨rfl, _, rfl, ?_⟩
        refine ite2 (fun _ => ?_) (fun _ => ?_)
        · refine ⟨_, rfl, p, _, 6, rfl, pot2, by omega, by decide, by decide, fun d3 G3 f0 f1 hk3 pot3 => ?_⟩
          have kG3 : Keep [p] G G3 := kG2.trans (keep_of_dig hk3)
          refine ⟨_, _, rfl, rfl, _, rfl, by omega, by omega, fun B hB => ?_⟩
          obtain ⟨x3, ep3⟩ := pot3.some
          have nBp : B ≠ p := Ne.symm (ne_of_none ep3 hB)
          have hB0 : G B = none := Keep.free kG3 hB (nin1 nBp)
          obtain ⟨c, hc⟩ : ∃ c : Nat, (1 + d3 : Int) = (c : Int) := ⟨(1 + d3).toNat, by omega⟩
          have ec : (1 + d3 : Int).toNat = c := by omega
          rw [ec]
          refine lc_range (lo := 0) (n := c) (fun a G' => ∃ mem : List Nat, mem.length = a ∧ (∀ x ∈ mem, x < i) ∧ G' B = some (.lst (memV mem)) ∧ PotAt G' p (n + 1 + 60 * i + 2 + a) ∧ Keep [p] G G')
            ⟨[], rfl, (fun a h => absurd h List.not_mem_nil), upd_same, (pot3.keep (ex := []) (Keep.new hB) nin0).le (by omega), kG3.newTo hB⟩ (fun a G' ha hI => ?_) (fun G' hI => ?_)
          · obtain ⟨mem, hm, hg, eB, hpG, kG⟩ := hI
            refine ⟨rfl, tyes ?_⟩
            refine ⟨_, rfl, _, rfl, p, _, _, rfl, hpG, by omega, by omega, by omega, fun x G5 x0 x1 hk5 hp5 => ?_⟩
            refine ⟨_, by rw [hk5 B nBp]; exact eB, ?_, mem ++ [x.toNat], by rw [List.length_append, hm]; rfl, fun b hb => ?_, ?_, ?_, ?_⟩
            · rw [List.length_map, hm]
              exact Nat.lt_of_le_of_lt (by omega : a ≤ 1000) (by decide)
            · rcases List.mem_append.mp hb with h | h
              · exact hg b h
              · rw [List.mem_singleton.mp h]; omega
            · have ex : ((x.toNat : Nat) : Int) = x := Int.toNat_of_nonneg x0
              rw [upd_same]
              show _ = some (HO.lst ((mem ++ [x.toNat]).map fun k : Nat => V.int (k : Int)))
              rw [List.map_append, List.map_singleton, ex]
            · exact (hp5.keep (ex := [B]) (Keep.own in1) (nin1 nBp.symm)).le (by omega)
            · exact (kG.trans (keep_of_dig hk5)).freshTo hB0
          · obtain ⟨mem, hm, hg, eB, hpG, kG⟩ := hI
            exact done _ _ B mem _ _ _ _ G' (by omega) hg hB0 eB (hpG.le (Nat.le_refl _)) kG (by omega) (turned _ _ (by omega) fun v2 v6 v7 v8 v9 v10 v11 es rs lv dp Lf Df Nf G' a b c => ⟨v2, v6, v7, v8, v9, v10, v11, es, rs, lv, dp, Lf, Df, Nf, rfl, a, b, c⟩)
        · exact done _ _ N [] _ _ _ _ G2 (Nat.zero_le _) (fun a h => absurd h List.not_mem_nil) (Keep.free (Keep.refl [] G) hN nin0) ((keep_of_dig hk2).at eN (nin1 nNp)) pot2 kG2 (by omega) (turned _ _ (by omega) fun v2 v6 v7 v8 v9 v10 v11 es rs lv dp Lf Df Nf G' a b c => ⟨v2, v6, v7, v8, v9, v10, v11, es, rs, lv, dp, Lf, Df, Nf, rfl, a, b, c⟩)
      · exact done _ _ N [] _ _ _ _ G1 (Nat.zero_le _) (fun a h => absurd h List.not_mem_nil) hN eN pot1 (kN.more fun b z => absurd z nin0) (by omega) (turned _ _ (by omega) fun v2 v6 v7 v8 v9 v10 v11 es rs lv dp Lf Df Nf G' a b c => ⟨v2, v6, v7, v8, v9, v10, v11, es, rs, lv, dp, Lf, Df, Nf, rfl, a, b, c⟩)
    · rintro σ G ⟨v2, v6, v7, v8, v9, v10, v11, es, rs, lv, dp, Lf, Df, Nf, rfl, S, hl', pot⟩
      exact ⟨_, rfl, kk E rs es Lf Df Nf G S.tree hE S.fresh S.ent (by obtain ⟨mm, nn, t1, t2, t3⟩ := S.tri; exact ⟨mm, nn, t1.less fun a q => (by simp only [List.mem_cons, List.not_mem_nil, or_false] at q ⊢; rcases q with q | q <;> simp [q]), t2, t3⟩) S.nd S.built (by omega) S.keep (pot.le (by omega))⟩
end
end Fs
/-! One fault is written anew: in the ledger, in the law's rows. -/
namespace Fs
open PySem L2 TL
theorem set_id {α : Type} : ∀ {l : List α} {i : Nat} {a : α}, l[i]? = some a → l.set i a = l
  | [], _, _, h => by simp at h
  | b :: l, 0, a, h => by
    have e : b = a := by simpa using h
    rw [e]; rfl
  | b :: l, i + 1, a, h => by
    rw [List.set_cons_succ, set_id (by simpa using h)]
theorem map_put {β : Type} {es : List Ent} {x : Nat} {e e' : Ent} (f : Ent → β) (he : es[x]? = some e) (h : f e' = f e) : (es.set x e').map f = es.map f := by
  rw [List.map_set, h]
  exact set_id (by rw [List.getElem?_map, he]; rfl)
theorem MemsAt.congr {H : Hp} : ∀ {as : List Addr} {es es' : List Ent}, es.map Ent.mem = es'.map Ent.mem → MemsAt H as es → MemsAt H as es'
  | [], [], [], _, h => h
  | a :: as, e :: es, f :: fs, q, h => by
    have q1 : e.mem = f.mem := by have := congrArg List.head? q; simpa using this
    have q2 : es.map Ent.mem = fs.map Ent.mem := by have := congrArg List.tail q; simpa using this
    exact ⟨by rw [← q1]; exact h.1, MemsAt.congr q2 h.2⟩
  | _, [], _ :: _, q, _ => by simp at q
  | _, _ :: _, [], q, _ => by simp at q
  | [], _ :: _, _ :: _, _, h => h.elim
  | _ :: _, [], [], _, h => h.elim
theorem NotesAt.congr {H : Hp} : ∀ {as : List Addr} {es es' : List Ent}, es.map Ent.notes = es'.map Ent.notes → NotesAt H as es → NotesAt H as es'
  | [], [], [], _, h => h
  | a :: as, e :: es, f :: fs, q, h => by
    have q1 : e.notes = f.notes := by have := congrArg List.head? q; simpa using this
    have q2 : es.map Ent.notes = fs.map Ent.notes := by have := congrArg List.tail q; simpa using this
    exact ⟨by rw [← q1]; exact h.1, NotesAt.congr q2 h.2⟩
  | _, [], _ :: _, q, _ => by simp at q
  | _, _ :: _, [], q, _ => by simp at q
  | [], _ :: _, _ :: _, _, h => h.elim
  | _ :: _, [], [], _, h => h.elim
theorem LedAt.nes {C : Addr} {H : Hp} {p : Addr} {A : LA} {ms ns : List Addr} {es : List Ent} (h : LedAt C H p A ms ns es) : A.l1 ≠ A.l5 ∧ A.l2 ≠ A.l5 ∧ A.l3 ≠ A.l5 ∧ A.l4 ≠ A.l5 ∧ A.l1 ≠ A.l6 ∧ A.l2 ≠ A.l6 ∧ A.l3 ≠ A.l6 ∧ A.l4 ≠ A.l6 ∧ A.l5 ≠ A.l6 ∧ A.l5 ∉ ns ∧ A.l6 ∉ ns := by
  have h := h.nd
  simp only [LA.ls, List.cons_append, List.nil_append, List.nodup_cons, List.mem_cons, not_or] at h
  obtain ⟨⟨a2, a3, a4, a5, a6, a7⟩, ⟨b3, b4, b5, b6, b7⟩, ⟨c4, c5, c6, c7⟩, ⟨d5, d6, d7⟩, ⟨e6, e7⟩, f7, g⟩ := h
  exact ⟨a5, b5, c5, d5, a6, b6, c6, d6, e6, e7, f7⟩
def byE (e : Ent) (o : Option Nat) : Ent := { e with cause := o }
theorem LedAt.by' {C : Addr} {H : Hp} {p : Addr} {A : LA} {ms ns : List Addr} {es : List Ent} (h : LedAt C H p A ms ns es) {x : Nat} {e : Ent} (o : Option Nat) (he : es[x]? = some e) : LedAt C (upd H A.l5 (.lst ((es.map fun e => optV e.cause).set x (optV o)))) p A ms ns (es.set x (byE e o)) := by
  obtain ⟨n1, n2, n3, n4, _, _, _, _, n5, n7, _⟩ := h.nes
  have k : Keep [A.l5] H (upd H A.l5 (.lst ((es.map fun e => optV e.cause).set x (optV o)))) := Keep.own in1
  refine ⟨k.at h.ins (nin1 (ne_of h.ins h.h5 (fun z => by cases z))), ?_, ?_, k.at h.h3 (nin1 n3), k.at h.h4 (nin1 n4), ?_, ?_, ?_, ?_, h.nd⟩
  · rw [map_put (e := e) (e' := byE e o) (fun e => V.str e.kind) he rfl]; exact k.at h.h1 (nin1 n1)
  · rw [map_put (e := e) (e' := byE e o) (fun e => V.str e.text) he rfl]; exact k.at h.h2 (nin1 n2)
  · rw [upd_same, List.map_set]; rfl
  · rw [map_put (e := e) (e' := byE e o) (fun e => optV e.atw) he rfl]; exact k.at h.h6 (nin1 (Ne.symm n5))
  · exact MemsAt.congr (map_put (e := e) (e' := byE e o) Ent.mem he rfl).symm (h.mems.map fun a xs q => k.at q (nin1 (ne_of q h.h5 (fun z => by cases z))))
  · exact NotesAt.congr (map_put (e := e) (e' := byE e o) Ent.notes he rfl).symm (h.notes.map fun a ha xs q => k.at q (nin1 fun z => n7 (by rw [← z]; exact ha)))
def rowL (k t : Str) (m n : Addr) (c a : V) : List V := [.str k, .str t, .ref m, .ref n, c, a]
theorem row_ints {k t : Str} {m n : Addr} {c a : V} {l : List Nat} (h : memV l = rowL k t m n c a) : False := by
  cases l with
  | nil => cases h
  | cons x r => cases h
theorem row_strs {k t : Str} {m n : Addr} {c a : V} {l : List Str} (h : l.map V.str = rowL k t m n c a) : False := by
  match l, h with
  | [], h => cases h
  | [_], h => cases h
  | [_, _], h => cases h
  | _ :: _ :: _ :: _, h => cases h
theorem RowAt.other {bad : List Addr} {H : Hp} {r a : Addr} {e : Ent} {k t : Str} {m n : Addr} {c w : V} {o : HO} (h : RowAt bad H a e) (hr : H r = some (.lst (rowL k t m n c w))) (na : a ≠ r) : RowAt bad (upd H r o) a e := by
  obtain ⟨m', n', h1, h2, h3, h4, h5, h6⟩ := h
  refine ⟨m', n', h1, h2, h3, by rw [upd_ne na]; exact h4, ?_, ?_⟩
  · rw [upd_ne fun z => ?_]
    · exact h5
    · rw [z, hr] at h5
      exact row_ints (by injection h5 with q; injection q with q; exact q.symm)
  · rw [upd_ne fun z => ?_]
    · exact h6
    · rw [z, hr] at h6
      exact row_strs (by injection h6 with q; injection q with q; exact q.symm)
theorem RowsAt.other {bad : List Addr} {H : Hp} {r : Addr} {k t : Str} {m n : Addr} {c w : V} {o : HO} (hr : H r = some (.lst (rowL k t m n c w))) : ∀ {as : List Addr} {es : List Ent}, RowsAt bad H as es → r ∉ as → RowsAt bad (upd H r o) as es
  | [], [], _, _ => True.intro
  | _ :: as, _ :: es, h, n => ⟨h.1.other hr (fun z => n (by rw [z]; exact List.mem_cons_self)), RowsAt.other hr h.2 fun z => n (List.mem_cons_of_mem _ z)⟩
  | [], _ :: _, h, _ => h.elim
  | _ :: _, [], h, _ => h.elim
theorem RowsAt.at {bad : List Addr} {H : Hp} : ∀ {as : List Addr} {es : List Ent} {x : Nat} {e : Ent}, RowsAt bad H as es → es[x]? = some e → ∃ r, as[x]? = some r ∧ RowAt bad H r e
  | _, [], _, _, _, q => by simp at q
  | [], _ :: _, _, _, h, _ => h.elim
  | b :: as, f :: es, 0, e, h, q => by
    have e' : f = e := by simpa using q
    subst e'
    exact ⟨b, rfl, h.1⟩
  | b :: as, f :: es, x + 1, e, h, q => RowsAt.at (x := x) h.2 (by simpa using q)
theorem RowsAt.put {bad : List Addr} {H : Hp} {r : Addr} {e e' : Ent} {m n : Addr} (q1 : e'.kind = e.kind) (q2 : e'.text = e.text) (q3 : e'.mem = e.mem) (q4 : e'.notes = e.notes) (hm : m ∉ bad) (hn : n ∉ bad) (hr : H r = some (.lst (rowL e.kind e.text m n (optV e.cause) (optV e.atw)))) (h5 : H m = some (.lst (memV e.mem))) (h6 : H n = some (.lst (e.notes.map V.str))) : ∀ {as : List Addr} {es : List Ent} {x : Nat}, RowsAt bad H as es → as.Nodup → as[x]? = some r → es[x]? = some e → RowsAt bad (upd H r (.lst (rowL e.kind e.text m n (optV e'.cause) (optV e'.atw)))) as (es.set x e')
  | _, [], _, _, _, _, q => by simp at q
  | [], _ :: _, _, h, _, _, _ => h.elim
  | b :: as, f :: es, 0, h, nd, qa, qe => by
    have e1 : b = r := by simpa using qa
    subst e1
    obtain ⟨m', n', g1, _, _, _, _, _⟩ := h.1
    refine ⟨⟨m, n, g1, hm, hn, ?_, ?_, ?_⟩, RowsAt.other hr h.2 (List.nodup_cons.mp nd).1⟩
    · rw [upd_same, q1, q2]; rfl
    · rw [upd_ne fun z => ?_, q3]
      · exact h5
      · rw [z, hr] at h5
        exact row_ints (by injection h5 with q; injection q with q; exact q.symm)
    · rw [upd_ne fun z => ?_, q4]
      · exact h6
      · rw [z, hr] at h6
        exact row_strs (by injection h6 with q; injection q with q; exact q.symm)
  | b :: as, f :: es, x + 1, h, nd, qa, qe => by
    have ha : r ∈ as := List.mem_of_getElem? (by simpa using qa)
    refine ⟨h.1.other hr fun z => (List.nodup_cons.mp nd).1 (by rw [z]; exact ha), ?_⟩
    exact RowsAt.put q1 q2 q3 q4 hm hn hr h5 h6 h.2 (List.nodup_cons.mp nd).2 (by simpa using qa) (by simpa using qe)
/-- a row of the law's is none of the ledger's lists of notes -/
theorem NotesAt.norow {H : Hp} {r : Addr} {k t : Str} {m n : Addr} {c w : V} (hr : H r = some (.lst (rowL k t m n c w))) : ∀ {as : List Addr} {es : List Ent}, NotesAt H as es → r ∉ as
  | [], [], _ => fun z => absurd z List.not_mem_nil
  | a :: as, e :: es, h => fun z => by
    rcases List.mem_cons.mp z with z | z
    · have h1 := h.1
      rw [← z, hr] at h1
      exact row_strs (by injection h1 with q; injection q with q; exact q.symm)
    · exact NotesAt.norow hr h.2 z
  | [], _ :: _, h => h.elim
  | _ :: _, [], h => h.elim
end Fs
/-! The law's ledger. -/
namespace Fs
open PySem L2 TL
abbrev sLedg : Stmt := top 26
abbrev nLedg : List Str := ["_law_pairs_here", "_law_entries_here", "_law_ledger_here", "_law_kind_here", "_law_text_here", "_law_members", "_law_notes", "_law_cause", "_law_at_work"]
theorem scLedg : FnScope nLedg ["_law_pairs_here", "_law_entries_here"] (defScope sLedg) := ⟨rfl, rfl, rfl, by decide +kernel, rfl, by decide +kernel, by decide +kernel⟩
/-- what is changed came behind H, but for the table at Pt -/
theorem Keep.late {H H1 H2 : Hp} {Pt : Addr} {ex : List Addr} (k : Keep [Pt] H H1) (k2 : Keep ex H1 H2) (hx : ∀ b ∈ ex, b = Pt ∨ H b = none) : Keep [Pt] H H2 := fun b o hb e => k2 b o (fun z => by
  rcases hx b z with q | q
  · exact hb (by rw [q]; exact in1)
  · rw [q] at e; cases e) (k b o hb e)
theorem RowsAt.noTab {bad : List Addr} {H : Hp} {Pt : Addr} {tb : Array Value} (hT : H Pt = some (.tbl tb)) : ∀ {as : List Addr} {es : List Ent}, RowsAt bad H as es → RowsAt (Pt :: bad) H as es
  | [], [], _ => True.intro
  | _ :: as, _ :: es, h => by
    obtain ⟨m, n, h1, h2, h3, h4, h5, h6⟩ := h.1
    have no : ∀ {a : Addr} {xs : List V}, a ∉ bad → H a = some (.lst xs) → a ∉ Pt :: bad := fun ha e z => by
      rcases List.mem_cons.mp z with z | z
      · rw [z, hT] at e; cases e
      · exact ha z
    exact ⟨⟨m, n, no h1 h4, no h2 h5, no h3 h6, h4, h5, h6⟩, RowsAt.noTab hT h.2⟩
  | [], _ :: _, h => h.elim
  | _ :: _, [], h => h.elim
structure GLx (K : PySem.W.Frag) (mg : Str → Option Value) (C CK fI fIK fPl fSh : Addr) : Prop where
  cl : Cls K C
  gC : mg "Ledger" = some (.ref C)
  gK : mg "Kinds" = some (.ref CK)
  mkC : Mk K C fI
  mkK : Mk K CK fIK
  mP : Meth K C "plain" fPl
  mS : Meth K C "sheaf" fSh
  list : mg "list" = none
theorem flp (A : LA) : (fldsL A).lookup ("plain" : Str) = none := rfl
theorem fls (A : LA) : (fldsL A).lookup ("sheaf" : Str) = none := rfl
def spLedg (C CK Pt : Addr) : Sp := fun vs H Q _ => ∃ (l E : Addr) (rs : List Addr) (es : List Ent) (ps : List (Str × Str)), vs = [.ref l, .ref E] ∧ PairsAt H l ps ∧ Wf ps ∧ ps.length ≤ 30 ∧ H E = some (.lst (rs.map V.ref)) ∧ RowsAt [] H rs es ∧ Built ps es ∧ es.length ≤ 100 ∧ GxR.TabG H Pt ∧
  ∀ (q : Addr) (A : LA) (ms ns : List Addr) (H' : Hp), Keep [Pt] H H' → (∀ b ∈ A.ls, H b = none) → LedAt C H' q A ms ns es → (∀ b ∈ ns, H b = none) → GxR.TabG H' Pt → KindsAt CK H' A.kd ps → Q (.ref q) H'
section
variable {P : Program} {w : World} {K : PySem.W.Frag} {mg : Str → Option Value} {base : Heap} {C CK fI fIK fPl fSh Pt : Addr}
theorem ok_ledg {dI dIK dPl dSh fd : FuncData} {f : Addr} (F : Fun K "_law_ledger" "_law_ledger" sLedg f fd) (T : GLx K mg C CK fI fIK fPl fSh) (FI : FnOk P w K mg base CX0 1 fI dI ["self", "kinds"] (spLInit C)) (bI : Binds K dI ["self", "kinds"] [])
    (FIK : FnOk P w K mg base CX0 4 fIK dIK ["self", "pairs"] (spKInit CK Pt)) (bIK : Binds K dIK ["self", "pairs"] []) (FP : FnOk P w K mg base CX0 3 fPl dPl ["self", "kind", "text"] (spPlain C CK)) (bP : Binds K dPl ["self", "kind", "text"] []) (FS : FnOk P w K mg base CX0 4 fSh dSh ["self", "text", "members"] (spSheaf K C)) (bS : Binds K dSh ["self", "text", "members"] []) :
    FnOk P w K mg base CX0 6 f fd ["_law_pairs_here", "_law_entries_here"] (spLedg C CK Pt) := by
  refine F.ok scLedg (fun vs H Q E h => ?_) (fun cdv A0 outer s H vs Q Es hr h => ?_)
  · obtain ⟨l, E, rs, es, ps, rfl, _⟩ := h
    rfl
  · obtain ⟨l, E, rs, es, ps, rfl, hP, hw, hps, hE, hR, hB, h100, hTG, kk⟩ := h
    obtain ⟨tb0, hT, hTo⟩ := hTG
    have hr2 : Room 2 _ := hr.mono (by decide)
    have hr3 : Room 3 _ := hr.mono (by decide)
    have hr4 : Room 4 _ := hr.mono (by decide)
    refine ⟨_, pss_cons (ps_set (i := 2) scLedg.nd rfl (Or.inl rfl) (pe_make T.mkC FI hr2 rfl T.gC bI .nil pass0 (pa_cons (pe_make T.mkK FIK hr rfl T.gK bIK .nil pass0 (pa_cons (pe_callTy call_list_of (by rfl) T.list (by decide +kernel) (pa_cons (pv 0) pa_nil)) pa_nil)) pa_nil)))
      (pss_cons (ps_for PassesOwn.never rfl (pi_list (pv 1)) (pg_unl rfl (pgs_cons (pg_name (i := 3) scLedg.nd rfl (Or.inl rfl)) (pgs_cons (pg_name (i := 4) scLedg.nd rfl (Or.inl rfl)) (pgs_cons (pg_name (i := 5) scLedg.nd rfl (Or.inl rfl)) (pgs_cons (pg_name (i := 6) scLedg.nd rfl (Or.inl rfl)) (pgs_cons (pg_name (i := 7) scLedg.nd rfl (Or.inl rfl)) (pgs_cons (pg_name (i := 8) scLedg.nd rfl (Or.inl rfl)) pgs_nil)))))))
        (pss_one (ps_if (pt_cmpR (op_eqD hr.units) (pv 5) (pe_lst pa_nil) (nomark _))
          (pss_one (ps_expr (pe_meth (pv 2) T.cl T.mP FP hr3 bP .nil pass0 (pa_cons (pv 3) (pa_cons (pv 4) pa_nil)))))
          (pss_one (ps_expr (pe_meth (pv 2) T.cl T.mS FS hr4 bS .nil pass0 (pa_cons (pv 4) (pa_cons (pe_callTy call_list_of (by rfl) T.list (by decide +kernel) (pa_cons (pv 5) pa_nil)) pa_nil))))))))
      (pss_one (ps_ret (pv 2)))), ?_⟩
    -- list(pairs)
    obtain ⟨as, el, tl⟩ := id hP
    refine ⟨_, rfl, l, _, rfl, .inl (SqL.of el), fun l2 hl2 => ?_⟩
    have k3 : Keep [] H (upd H l2 (.lst (as.map V.ref))) := Keep.new hl2
    have P3 : PairsAt (upd H l2 (.lst (as.map V.ref))) l2 ps := ⟨as, upd_same, tl.map fun a xs q => k3.at q nin0⟩
    generalize (upd H l2 (.lst (as.map V.ref))) = H3 at k3 P3 ⊢
    -- Kinds(..)
    intro kd kx nkd nkx nkk
    have k4 : Keep [] H3 (upd (upd H3 kx (.own kd)) kd (.ins CK kx [])) := fun b o _ e => by
      rw [upd_ne (ne_of_none e nkd), upd_ne (ne_of_none e nkx)]
      exact e
    have e4 : (upd (upd H3 kx (.own kd)) kd (.ins CK kx [])) kd = some (.ins CK kx []) := upd_same
    generalize (upd (upd H3 kx (.own kd)) kd (.ins CK kx [])) = H4 at k4 e4 ⊢
    have hT4 : H4 Pt = some (.tbl tb0) := k4.at (k3.at hT nin0) nin0
    have P4 : PairsAt H4 l2 ps := P3.keep k4 nin0 (fun b z => absurd z nin0)
    refine ⟨kd, l2, kx, ps, rfl, e4, P4, hw, hps, ⟨tb0, hT4, hTo⟩, fun H5 k5 K5 T5 => ⟨rfl, ?_⟩⟩
    have kk4 : Keep [Pt] H H4 := (k3.more fun b z => absurd z nin0).trans (k4.more fun b z => absurd z nin0)
    have hnkd : H kd = none := Keep.free k3 nkd nin0
    have kk5 : Keep [Pt] H H5 := kk4.late k5 fun b hb => by
      rcases List.mem_cons.mp hb with z | z
      · exact .inr (by rw [z]; exact hnkd)
      · exact .inl (List.mem_singleton.mp z)
    obtain ⟨tb5, eT5, oT5⟩ := T5
    -- Ledger(..)
    intro q qx nq nqx nqq
    have k6 : Keep [] H5 (upd (upd H5 qx (.own q)) q (.ins C qx [])) := fun b o _ e => by
      rw [upd_ne (ne_of_none e nq), upd_ne (ne_of_none e nqx)]
      exact e
    have e6 : (upd (upd H5 qx (.own q)) q (.ins C qx [])) q = some (.ins C qx []) := upd_same
    generalize (upd (upd H5 qx (.own q)) q (.ins C qx [])) = H6 at k6 e6 ⊢
    refine ⟨q, kd, qx, rfl, e6, fun H7 A hA k7 led7 hnA => ⟨rfl, ?_⟩⟩
    have kk6 : Keep [Pt] H H6 := kk5.trans (k6.more fun b z => absurd z nin0)
    have hqT : q ≠ Pt := fun z => by rw [z, eT5] at nq; cases nq
    have hnq : H q = none := Keep.free kk5 nq (nin1 hqT)
    have kk7 : Keep [Pt] H H7 := kk6.late k7 fun b hb => .inr (by rw [List.mem_singleton.mp hb]; exact hnq)
    have eT6 : H6 Pt = some (.tbl tb5) := k6.at eT5 nin0
    have eT7 : H7 Pt = some (.tbl tb5) := k7.at eT6 (nin1 hqT.symm)
    have K7 : KindsAt CK H7 A.kd ps := by
      rw [hA]
      obtain ⟨dx, d, g1, g2⟩ := K5
      have n1 : kd ≠ q := ne_of_none g1 nq
      have n2 : d ≠ q := ne_of_none g2 nq
      exact ⟨dx, d, k7.at (k6.at g1 nin0) (nin1 n1), k7.at (k6.at g2 nin0) (nin1 n2)⟩
    have hA0 : ∀ b ∈ A.ls, H b = none := fun b hb => by
      refine Keep.free kk6 (hnA b hb) (nin1 fun z => ?_)
      have q1 := hnA b hb
      rw [z, eT6] at q1; cases q1
    have nEP : E ≠ Pt := fun z => by rw [z, hT] at hE; cases hE
    have hRT : RowsAt [Pt] H rs es := hR.noTab hT
    have lr := hR.len
    -- the walk
    refine ⟨_, rfl, E, rfl, ⟨_, SqL.of (kk7.at hE (nin1 nEP))⟩, ?_⟩
    refine for_list (xs := rs.map V.ref) (fun i σ G => ∃ (ms ns : List Addr) (v3 v4 v5 v6 v7 v8 : Option V), σ = [some (.ref l), some (.ref E), some (.ref q), v3, v4, v5, v6, v7, v8] ∧ LedAt C G q A ms ns (es.take i) ∧ KindsAt CK G A.kd ps ∧ Keep [Pt] H G ∧ G Pt = some (.tbl tb5) ∧ ∀ b ∈ ns, H b = none)
      ⟨[], [], none, none, none, none, none, none, rfl, led7, K7, kk7, eT7, fun b h => absurd h List.not_mem_nil⟩ (fun i σ G hi hI => ?_) (fun i x σ G hx hI => ?_) (fun σ G hI => ?_)
    · obtain ⟨ms, ns, v3, v4, v5, v6, v7, v8, _, _, _, kG, _, _⟩ := hI
      exact SqL.of (kG.at hE (nin1 nEP))
    · obtain ⟨ms, ns, v3, v4, v5, v6, v7, v8, rfl, led, kin, kG, eT, fr⟩ := hI
      have frs : ∀ {G' : Hp} {x : Addr}, Keep [Pt] H G' → G' Pt = some (.tbl tb5) → G' x = none → ∀ b ∈ ns ++ [x], H b = none := fun k t h b hb => by
        rcases List.mem_append.mp hb with z | z
        · exact fr b z
        · rw [List.mem_singleton.mp z]; exact Keep.free k h (nin1 fun z => by rw [z, t] at h; cases h)
      have hi : i < es.length := by
        have := (List.getElem?_eq_some_iff.mp hx).1
        rw [List.length_map] at this
        omega
      have he := List.getElem?_eq_getElem hi
      generalize es[i] = e at he
      obtain ⟨r, hq, m, n, _, _, _, g4, g5, g6⟩ := (hRT.keep kG).at he
      have ex : x = V.ref r := by
        rw [List.getElem?_map, hq] at hx
        exact (Option.some.inj hx).symm
      subst ex
      obtain ⟨f1, f2, f3, f4, f5, f6, f7⟩ := hB i e he
      have ht : (es.take i).length = i := by rw [List.length_take]; omega
      have htk : es.take (i + 1) = es.take i ++ [e] := by rw [List.take_add_one, he]; rfl
      have subA : ∀ {G' G'' : Hp}, Keep [Pt] H G' → Keep A.ls G' G'' → Keep [Pt] H G'' := fun a b => a.late b fun c hc => .inr (hA0 c hc)
      refine ⟨r, _, rfl, SqL.of g4, rfl, ?_⟩
      refine ⟨_, _, rfl, _, _, rfl, _, _, rfl, _, _, rfl, _, _, rfl, _, _, rfl, rfl, ?_⟩
      refine ⟨_, rfl, Nat.zero_le _, fun e2 he2 => ?_⟩
      have k1 : Keep [] G (upd G e2 (.lst [])) := Keep.new he2
      have a1 : (upd G e2 (.lst [])) e2 = some (.lst []) := upd_same
      generalize (upd G e2 (.lst [])) = G1 at k1 a1 ⊢
      have g51 := k1.at g5 nin0
      have led1 := led.keep k1 (fun b z => absurd z nin0) (fun b z => absurd z nin0)
      have kin1 := kin.keep k1 (fun b z => absurd z nin0)
      have kG1 := kG.trans (k1.more fun b z => absurd z nin0)
      have eT1 := k1.at eT nin0
      refine ⟨intsD e.mem, intsD [], dp_intsD g51, dp_intsD (l := []) a1, ints_shaped _, ints_shaped _, _, rfl, ?_⟩
      rw [ints_nil]
      have kinK : ∀ {G' G'' : Hp}, LedAt C G' q A ms ns (es.take i) → KindsAt CK G' A.kd ps → Keep A.ls G' G'' → KindsAt CK G'' A.kd ps := fun ld h k => h.keep k fun b hb => by
        obtain ⟨xs, e⟩ := ld.isl b hb
        exact ⟨_, e, (fun _ _ _ z => by cases z), fun _ z => by cases z⟩
      have noT : ∀ {G' : Hp}, LedAt C G' q A ms ns (es.take i) → G' Pt = some (.tbl tb5) → Pt ∉ A.ls := fun ld h z => by
        obtain ⟨xs, e⟩ := ld.isl Pt z
        rw [h] at e; cases e
      obtain ⟨ki, te, me, no, ca, aw⟩ := e
      simp only at f1 f2 f3 f4 f5 f6 f7
      subst f4 f5 f6
      cases me with
      | nil =>
        refine iteT ?_
        have ek := f7.1 rfl
        refine ⟨_, rfl, q, A.dx, _, rfl, led1.ins, flp A, _, rfl, _, rfl, q, A, ms, ns, es.take i, ki, te, ps, rfl, led1, kin1, ek, hw.not_sheaf ki ek, by omega, fun G2 t' n' k2 led2 hn2 => ?_⟩
        refine ⟨ms ++ [t'], ns ++ [n'], _, _, _, _, _, _, rfl, ?_, kinK led1 kin1 k2, subA kG1 k2, k2.at eT1 (noT led1 eT1), frs kG1 eT1 hn2⟩
        rw [htk]; exact led2
      | cons y ys =>
        refine iteF ?_
        have ek : ki = sS := f7.2 fun z => by cases z
        subst ek
        refine ⟨_, rfl, q, A.dx, _, rfl, led1.ins, fls A, _, rfl, _, rfl, m, _, rfl, .inl (SqL.of g51), fun m2 hm2 => ?_⟩
        have k2 : Keep [] G1 (upd G1 m2 (.lst (memV (y :: ys)))) := Keep.new hm2
        have em2 : (upd G1 m2 (.lst (memV (y :: ys)))) m2 = some (.lst (memV (y :: ys))) := upd_same
        have nmA : m2 ∉ A.ls := fun z => by
          obtain ⟨xs, e⟩ := led1.isl m2 z
          rw [e] at hm2; cases hm2
        have led2 := led1.keep k2 (fun b z => absurd z nin0) (fun b z => absurd z nin0)
        have kin2 := kin1.keep k2 (fun b z => absurd z nin0)
        have kG2 := kG1.trans (k2.more fun b z => absurd z nin0)
        have eT2 := k2.at eT1 nin0
        refine ⟨q, m2, A, ms, ns, es.take i, te, y :: ys, rfl, led2, SqL.of em2, nmA, (fun z => by cases z), fun k hk => ?_, by omega, fun G3 t' n' k3' led3 hn3 => ?_⟩
        · rw [ht]; exact f3 k hk
        refine ⟨ms ++ [t'], ns ++ [n'], _, _, _, _, _, _, rfl, ?_, kinK led2 kin2 k3', subA kG2 k3', k3'.at eT2 (noT led2 eT2), frs kG2 eT2 hn3⟩
        rw [htk]; exact led3
    · obtain ⟨ms, ns, v3, v4, v5, v6, v7, v8, rfl, led, kin, kG, eT, fr⟩ := hI
      rw [List.length_map, lr, List.take_length] at led
      exact ⟨_, rfl, kk q A ms ns G kG hA0 led fr ⟨_, eT, oT5⟩ kin⟩
end
end Fs
/-! The leaves of a fault, as the law finds them. -/
namespace Fs
open PySem L2 TL
abbrev sLvs : Stmt := top 27
abbrev nLvs : List Str := ["_law_entries_here", "_law_k", "_law_found", "_law_waiting", "_law_way", "_law_here", "_law_members", "_law_place"]
theorem scLvs : FnScope nLvs ["_law_entries_here", "_law_k"] (defScope sLvs) := ⟨rfl, rfl, rfl, by decide +kernel, rfl, by decide +kernel, by decide +kernel⟩
/-- a way, and whereto it leads -/
abbrev WH := List Nat × Nat
def WayAt (H : Hp) (t : Addr) (x : WH) : Prop := ∃ a : Addr, H t = some (.tup [.ref a, .int (x.2 : Int)]) ∧ H a = some (.tup (memV x.1))
def WaysAt (H : Hp) : List Addr → List WH → Prop
  | [], [] => True
  | t :: ts, x :: xs => WayAt H t x ∧ WaysAt H ts xs
  | _, _ => False
theorem WaysAt.map {H H' : Hp} (k : ∀ a xs, H a = some (.tup xs) → H' a = some (.tup xs)) : ∀ {ts : List Addr} {xs : List WH}, WaysAt H ts xs → WaysAt H' ts xs
  | [], [], _ => True.intro
  | _ :: ts, _ :: xs, ⟨⟨a, e1, e2⟩, h⟩ => ⟨⟨a, k _ _ e1, k _ _ e2⟩, WaysAt.map k h⟩
  | [], _ :: _, h => h.elim
  | _ :: _, [], h => h.elim
theorem WaysAt.len {H : Hp} : ∀ {ts : List Addr} {xs : List WH}, WaysAt H ts xs → ts.length = xs.length
  | [], [], _ => rfl
  | _ :: ts, _ :: xs, h => by rw [List.length_cons, List.length_cons, WaysAt.len h.2]
  | [], _ :: _, h => h.elim
  | _ :: _, [], h => h.elim
theorem WaysAt.snoc {H : Hp} {t : Addr} {x : WH} (hb : WayAt H t x) : ∀ {ts : List Addr} {xs : List WH}, WaysAt H ts xs → WaysAt H (ts ++ [t]) (xs ++ [x])
  | [], [], _ => ⟨hb, True.intro⟩
  | _ :: ts, _ :: xs, h => ⟨h.1, WaysAt.snoc hb h.2⟩
  | [], _ :: _, h => h.elim
  | _ :: _, [], h => h.elim
theorem WaysAt.unsnoc {H : Hp} {x : WH} : ∀ {xs : List WH} {ts : List Addr}, WaysAt H ts (xs ++ [x]) → ∃ t ts', ts = ts' ++ [t] ∧ WayAt H t x ∧ WaysAt H ts' xs
  | [], [t], h => ⟨t, [], rfl, h.1, True.intro⟩
  | [], _ :: _ :: _, h => h.2.elim
  | [], [], h => h.elim
  | y :: xs, t :: ts, h => by
    obtain ⟨t', ts', e, h1, h2⟩ := WaysAt.unsnoc h.2
    exact ⟨t', t :: ts', by rw [e]; rfl, h1, h.1, h2⟩
  | _ :: _, [], h => h.elim
def wayD (x : WH) : PyData := .tuple [.tuple (x.1.map fun k : Nat => PyData.int (k : Int)), .int (x.2 : Int)]
theorem WayAt.dp {K : PySem.W.Frag} {H : Hp} {t : Addr} {x : WH} (h : WayAt H t x) : Dp K H (.ref t) (wayD x) := by
  obtain ⟨a, e1, e2⟩ := h
  exact .tup (SqT.of e1) (.cons (.tup (SqT.of e2) (dp_ints _)) (.cons (.int _) .nil))
theorem WaysAt.dp {K : PySem.W.Frag} {H : Hp} : ∀ {ts : List Addr} {xs : List WH}, WaysAt H ts xs → DpAll K H (ts.map V.ref) (xs.map wayD)
  | [], [], _ => .nil
  | _ :: ts, _ :: xs, h => .cons h.1.dp (WaysAt.dp h.2)
  | [], _ :: _, h => h.elim
  | _ :: _, [], h => h.elim
theorem ways_flat (xs : List WH) : PyData.canLayAll0 (xs.map wayD) = true ∧ PyData.depthAll (xs.map wayD) ≤ 4 := by
  induction xs with
  | nil => simp [PyData.canLayAll0, PyData.depthAll]
  | cons x r ih =>
    have h1 := ints_lay x.1
    have h2 := ints_deep x.1
    obtain ⟨i1, i2⟩ := ih
    rw [List.map_cons]
    refine ⟨?_, ?_⟩
    · simp only [PyData.canLayAll0, wayD, PyData.canLay0, h1, i1, Bool.and_self]
    · simp only [PyData.depthAll, wayD, PyData.depth]
      omega
def waysD (xs : List WH) : PyData := .list (xs.map wayD)
theorem ways_shaped (xs : List WH) : SeqAt.shaped (waysD xs) = true := by
  obtain ⟨h1, h2⟩ := ways_flat xs
  have a1 : (waysD xs).canLay0 = true := by
    unfold waysD
    simp only [PyData.canLay0]
    exact h1
  have a2 : (waysD xs).depth ≤ 64 := by
    unfold waysD
    simp only [PyData.depth]
    omega
  unfold SeqAt.shaped
  rw [a1, decide_eq_true a2]
  rfl
theorem ways_nil (xs : List WH) : PyData.eqv (waysD xs) (waysD []) = xs.isEmpty := by
  cases xs <;> simp [waysD, PyData.eqv, PyData.eqvAll]
/-- of all that waits -/
def tot (f : Nat → Nat) (xs : List WH) : Nat := (xs.map fun x => f x.2).sum
theorem tot_snoc (f : Nat → Nat) (xs : List WH) (x : WH) : tot f (xs ++ [x]) = tot f xs + f x.2 := by
  unfold tot
  rw [List.map_append, List.sum_append]
  simp
theorem tot_len {f : Nat → Nat} {xs : List WH} (h : ∀ x ∈ xs, 1 ≤ f x.2) : xs.length ≤ tot f xs := by
  induction xs with
  | nil => exact Nat.zero_le _
  | cons x r ih =>
    have := h x List.mem_cons_self
    have := ih fun y hy => h y (List.mem_cons_of_mem _ hy)
    unfold tot at *
    simp only [List.map_cons, List.sum_cons, List.length_cons]
    omega
theorem Tree.node1 {es : List Ent} {Lf Df Nf : Nat → Nat} (T : Tree es Lf Df Nf) {i : Nat} (hi : i < es.length) : 1 ≤ Nf i := by
  have he := List.getElem?_eq_getElem hi
  generalize es[i] = e at he
  by_cases q : e.mem = []
  · rw [(T.leaf i e he q).2.1]
    exact Nat.le_refl _
  · rw [(T.nest i e he q).2.1]
    omega
/-- what is pushed of the members, the last one first -/
def kidsN (w : List Nat) (mem : List Nat) (i : Nat) : List WH := (List.range i).map fun j => (w ++ [mem.length - 1 - j], mem.getD (mem.length - 1 - j) 0)
theorem kidsN_succ {w mem : List Nat} {i : Nat} (h : mem.length - 1 - i < mem.length) : kidsN w mem (i + 1) = kidsN w mem i ++ [(w ++ [mem.length - 1 - i], mem[mem.length - 1 - i])] := by
  unfold kidsN
  rw [List.range_succ, List.map_append, List.map_singleton]
  rw [show mem.getD (mem.length - 1 - i) 0 = mem[mem.length - 1 - i] by rw [List.getD_eq_getElem?_getD, List.getElem?_eq_getElem h]; rfl]
/-- the walk over what waits -/
inductive Run (es : List Ent) : List WH → List WH → List WH → Prop where
  | done {f : List WH} : Run es f [] f
  | leaf {f st l r : List WH} {x : WH} {e : Ent} : st = l ++ [x] → es[x.2]? = some e → e.mem = [] → Run es (f ++ [x]) l r → Run es f st r
  | nest {f st l r : List WH} {x : WH} {e : Ent} : st = l ++ [x] → es[x.2]? = some e → e.mem ≠ [] → Run es f (l ++ kidsN x.1 e.mem e.mem.length) r → Run es f st r
theorem last_one {l l' : List WH} {x x' : WH} (h : l ++ [x] = l' ++ [x']) : l = l' ∧ x = x' := by
  have := List.append_inj' h rfl
  exact ⟨this.1, by have := this.2; simpa using this⟩
theorem Run.one {es : List Ent} {f st a b : List WH} (h : Run es f st a) (g : Run es f st b) : a = b := by
  induction h generalizing b with
  | done =>
    cases g with
    | done => rfl
    | leaf e _ _ _ => simp at e
    | nest e _ _ _ => simp at e
  | leaf h1 h2 h3 h4 ih =>
    cases g with
    | done => simp at h1
    | leaf g1 g2 g3 g4 =>
      obtain ⟨rfl, rfl⟩ := last_one (h1.symm.trans g1)
      exact ih g4
    | nest g1 g2 g3 g4 =>
      obtain ⟨rfl, rfl⟩ := last_one (h1.symm.trans g1)
      rw [h2] at g2
      rw [← Option.some.inj g2] at g3
      exact absurd h3 g3
  | nest h1 h2 h3 h4 ih =>
    cases g with
    | done => simp at h1
    | leaf g1 g2 g3 g4 =>
      obtain ⟨rfl, rfl⟩ := last_one (h1.symm.trans g1)
      rw [h2] at g2
      rw [← Option.some.inj g2] at g3
      exact absurd g3 h3
    | nest g1 g2 g3 g4 =>
      obtain ⟨rfl, rfl⟩ := last_one (h1.symm.trans g1)
      rw [h2] at g2
      rw [← Option.some.inj g2] at g4
      exact ih g4
def spLvs : Sp := fun vs H Q _ => ∃ (E : Addr) (k : Nat) (bad rs : List Addr) (es : List Ent) (Lf Df Nf : Nat → Nat), vs = [.ref E, .int (k : Int)] ∧ H E = some (.lst (rs.map V.ref)) ∧ RowsAt bad H rs es ∧ Tree es Lf Df Nf ∧ k < es.length ∧ (∀ e ∈ es, e.mem.length ≤ 6) ∧
  ∀ (H' : Hp) (F : Addr) (ts : List Addr) (fs : List WH), Keep [] H H' → H F = none → H' F = some (.lst (ts.map V.ref)) → WaysAt H' ts fs → fs.length = Lf k → (∀ b, (∀ x ∈ fs, x.1.length ≤ b) → Df k ≤ b) → (∀ x ∈ fs, x.1.length ≤ Df k) → Run es [] [([], k)] fs → Q (.ref F) H'
section
variable {P : Program} {w : World} {K : PySem.W.Frag} {mg : Str → Option Value} {base : Heap}
theorem ok_lvs {f : Addr} {fd : FuncData} (F : Fun K "_law_leaves" "_law_leaves" sLvs f fd) (mL : mg "len" = none) (mR : mg "range" = none) : FnOk P w K mg base CX0 1 f fd ["_law_entries_here", "_law_k"] spLvs := by
  refine F.ok scLvs (fun vs H Q E h => ?_) (fun cdv A outer s H vs Q Es hr h => ?_)
  · obtain ⟨E, k, bad, rs, es, Lf, Df, Nf, rfl, _⟩ := h
    rfl
  · obtain ⟨E, k, bad, rs, es, Lf, Df, Nf, rfl, hE, hR, T, hk, h6, kk⟩ := h
    refine ⟨_, pss_cons (ps_set (i := 2) scLvs.nd rfl (Or.inl rfl) (pe_lst pa_nil))
      (pss_cons (ps_set (i := 3) scLvs.nd rfl (Or.inl rfl) (pe_lst (pa_cons (pe_tup (pa_cons (pe_tup pa_nil) (pa_cons (pv 1) pa_nil))) pa_nil)))
      (pss_cons (ps_while PassesOwn.never (pt_cmpR (op_neD hr.units) (pv 3) (pe_lst pa_nil) (nomark _))
        (pss_cons (ps_asg (pe_bm0 PySem.F.plainAttrs_list PySem.F.slot_list_pop PySem.F.type_list_pop mt_pop (pv 3)) (pg_tup rfl (pgs_cons (pg_name (i := 4) scLvs.nd rfl (Or.inl rfl)) (pgs_cons (pg_name (i := 5) scLvs.nd rfl (Or.inl rfl)) pgs_nil))))
        (pss_cons (ps_set (i := 6) scLvs.nd rfl (Or.inl rfl) (pe_ix ix_list (pe_ix ix_list (pv 0) (pv 5) (fun _ _ => rfl)) pe_int (fun _ _ => rfl)))
        (pss_cons (ps_if (pt_cmpR (op_eqD hr.units) (pv 6) (pe_lst pa_nil) (nomark _)) (pss_one (ps_expr (pe_bm PySem.F.plainAttrs_list PySem.F.slot_list_append PySem.F.type_list_append mt_append (pv 2) (pa_cons (pe_tup (pa_cons (pv 4) (pa_cons (pv 5) pa_nil))) pa_nil)))) pss_nil)
        (pss_one (ps_for PassesOwn.never rfl (pi_range3 rfl mR (pa_cons (pe_op op_sub (pe_callB call_len_seq (by rfl) mL PySem.boot_len (pa_cons (pv 6) pa_nil)) pe_int) (pa_cons (pe_un un_neg pe_int) (pa_cons (pe_un un_neg pe_int) pa_nil)))) (pg_name (i := 7) scLvs.nd rfl (Or.inl rfl))
          (pss_one (ps_expr (pe_bm PySem.F.plainAttrs_list PySem.F.slot_list_append PySem.F.type_list_append mt_append (pv 3) (pa_cons (pe_tup (pa_cons (pe_op op_catA (pv 4) (pe_tup (pa_cons (pv 7) pa_nil))) (pa_cons (pe_ix ix_list (pv 6) (pv 7) (fun _ _ => rfl)) pa_nil))) pa_nil))))))))))
      (pss_one (ps_ret (pv 2))))), ?_⟩
    refine ⟨Nat.zero_le _, fun F hF => ?_⟩
    refine ⟨Nat.zero_le _, fun a0 ha0 => ?_⟩
    refine ⟨_, rfl, (by show 2 ≤ sizeLine; decide), fun t0 ht0 => ?_⟩
    refine ⟨(by show 1 ≤ sizeLine; decide), fun W hW => ?_⟩
    have k0 : Keep [] H (upd (upd (upd (upd H F (.lst [])) a0 (.tup [])) t0 (.tup [.ref a0, .int (k : Int)])) W (.lst [.ref t0])) := (((Keep.new hF).newTo ha0).newTo ht0).newTo hW
    have eF0 : (upd (upd (upd (upd H F (.lst [])) a0 (.tup [])) t0 (.tup [.ref a0, .int (k : Int)])) W (.lst [.ref t0])) F = some (.lst []) := (((Keep.new ha0 (ex := [])).newTo ht0).newTo hW).at upd_same nin0
    have ea0 : (upd (upd (upd (upd H F (.lst [])) a0 (.tup [])) t0 (.tup [.ref a0, .int (k : Int)])) W (.lst [.ref t0])) a0 = some (.tup []) := ((Keep.new ht0 (ex := [])).newTo hW).at upd_same nin0
    have et0 : (upd (upd (upd (upd H F (.lst [])) a0 (.tup [])) t0 (.tup [.ref a0, .int (k : Int)])) W (.lst [.ref t0])) t0 = some (.tup [.ref a0, .int (k : Int)]) := (Keep.new hW (ex := [])).at upd_same nin0
    have eW0 : (upd (upd (upd (upd H F (.lst [])) a0 (.tup [])) t0 (.tup [.ref a0, .int (k : Int)])) W (.lst [.ref t0])) W = some (.lst [.ref t0]) := upd_same
    have hW0 : H W = none := Keep.free (((Keep.new hF (ex := [])).newTo ha0).newTo ht0) hW nin0
    have nFW : F ≠ W := ne_of_none (((Keep.new ha0 (ex := [])).newTo ht0).at (show upd H F (.lst []) F = some (.lst []) from upd_same) nin0) hW
    generalize (upd (upd (upd (upd H F (.lst [])) a0 (.tup [])) t0 (.tup [.ref a0, .int (k : Int)])) W (.lst [.ref t0])) = G0 at k0 eF0 ea0 et0 eW0 ⊢
    have dk := (T.few k _ (List.getElem?_eq_getElem hk)).2
    have own : ∀ {G : Hp} {o : HO}, Keep [] H G → Keep [] H (upd G W o) := fun k => k.freshTo hW0
    have tups : ∀ {G : Hp} {xs : List V} {o : HO} {ts : List Addr} {zs : List WH}, G W = some (.lst xs) → WaysAt G ts zs → WaysAt (upd G W o) ts zs := fun eW h => h.map fun a ys q => by rw [upd_ne (ne_of q eW (fun z => by cases z))]; exact q
    have tupsF : ∀ {G : Hp} {xs : List V} {o : HO} {ts : List Addr} {zs : List WH}, G F = some (.lst xs) → WaysAt G ts zs → WaysAt (upd G F o) ts zs := fun eF h => h.map fun a ys q => by rw [upd_ne (ne_of q eF (fun z => by cases z))]; exact q
    have tupsN : ∀ {G G' : Hp} {ts : List Addr} {zs : List WH}, Keep [] G G' → WaysAt G ts zs → WaysAt G' ts zs := fun k h => h.map fun a ys q => k.at q nin0
    let Inv : Nat → L2.St → Hp → Prop := fun m σ G => ∃ (fs st : List WH) (tsF tsW : List Addr) (v4 v5 v6 v7 : Option V), σ = [some (.ref E), some (.int (k : Int)), some (.ref F), some (.ref W), v4, v5, v6, v7] ∧ Keep [] H G ∧ G F = some (.lst (tsF.map V.ref)) ∧ G W = some (.lst (tsW.map V.ref)) ∧ WaysAt G tsF fs ∧ WaysAt G tsW st ∧
      (∀ x ∈ st, x.2 < es.length) ∧ fs.length + tot Lf st = Lf k ∧ (∀ b, (∀ x ∈ fs, x.1.length ≤ b) → (∀ x ∈ st, x.1.length + Df x.2 ≤ b) → Df k ≤ b) ∧ (∀ x ∈ fs, x.1.length ≤ Df k) ∧ (∀ x ∈ st, x.1.length + Df x.2 ≤ Df k) ∧ tot Nf st ≤ 780 ∧ m = tot Nf st ∧ ∀ r, Run es fs st r → Run es [] [([], k)] r
    refine ⟨Inv, ⟨_, [], [([], k)], [], [t0], none, none, none, none, rfl, k0, eF0, eW0, True.intro, ⟨⟨a0, et0, ea0⟩, True.intro⟩, fun x hx => ?_, ?_, fun b _ hb => ?_, (fun x hx => absurd hx List.not_mem_nil), fun x hx => ?_, ?_, rfl, fun r h => h⟩, ?_⟩
    · rw [List.mem_singleton.mp hx]; exact hk
    · simp [tot]
    · have := hb _ List.mem_cons_self
      simpa using this
    · rw [List.mem_singleton.mp hx]; simp
    · have := T.nodes hk
      simpa [tot] using this
    rintro m σ G ⟨fs, st, tsF, tsW, v4, v5, v6, v7, rfl, kG, eF, eW, wF, wW, hin, hsum, hdeep, hf12, hs12, hn, rfl, hrun⟩
    refine ⟨_, rfl, Nat.zero_le _, fun e2 he2 => ?_⟩
    have k1 : Keep [] G (upd G e2 (.lst [])) := Keep.new he2
    have a1 : (upd G e2 (.lst [])) e2 = some (.lst []) := upd_same
    generalize (upd G e2 (.lst [])) = G1 at k1 a1 ⊢
    have kG1 : Keep [] H G1 := kG.trans k1
    have eF1 := k1.at eF nin0
    have eW1 := k1.at eW nin0
    have wF1 := tupsN k1 wF
    have wW1 := tupsN k1 wW
    refine ⟨waysD st, waysD [], .lst (SqL.of eW1) wW1.dp, .lst (SqL.of a1) .nil, ways_shaped _, ways_shaped _, _, rfl, ?_⟩
    rw [ways_nil]
    rcases List.eq_nil_or_concat st with hst | ⟨l0, x, hst⟩
    · subst hst
      refine iteF ?_
      exact ⟨_, rfl, kk G1 F tsF fs kG1 hF eF1 wF1 (by simpa [tot] using hsum) (fun b hb => hdeep b hb fun x hx => absurd hx List.not_mem_nil) hf12 (hrun _ .done)⟩
    · rw [List.concat_eq_append] at hst
      subst hst
      have ene : (l0 ++ [x]).isEmpty = false := by cases l0 <;> rfl
      rw [ene]
      refine iteT ⟨fun σ' H' => ∃ m', m' < tot Nf (l0 ++ [x]) ∧ Inv m' σ' H', fun σ' H' h => h, ?_⟩
      obtain ⟨t, ts', rfl, ⟨a, et, ea⟩, wl⟩ := WaysAt.unsnoc wW1
      have hx := hin x (List.mem_append_right _ List.mem_cons_self)
      have hx12 := hs12 x (List.mem_append_right _ List.mem_cons_self)
      -- pop
      have get : ((ts' ++ [t]).map V.ref)[((ts' ++ [t]).map V.ref).length - 1]? = some (V.ref t) := by
        rw [List.map_append, List.length_append, List.getElem?_append_right (by simp)]
        simp
      refine ⟨_, rfl, .inl ⟨rfl, _, SqL.of eW1⟩, W, _, V.ref t, rfl, rfl, eW1, get, ?_⟩
      have edr : ((ts' ++ [t]).map V.ref).dropLast = ts'.map V.ref := by rw [List.map_append]; simp
      rw [edr]
      have kG2 : Keep [] H (upd G1 W (.lst (ts'.map V.ref))) := own kG1
      have et2 : (upd G1 W (.lst (ts'.map V.ref))) t = some (.tup [.ref a, .int (x.2 : Int)]) := by rw [upd_ne (ne_of et eW1 (fun z => by cases z))]; exact et
      have ea2 : (upd G1 W (.lst (ts'.map V.ref))) a = some (.tup (memV x.1)) := by rw [upd_ne (ne_of ea eW1 (fun z => by cases z))]; exact ea
      have eF2 : (upd G1 W (.lst (ts'.map V.ref))) F = some (.lst (tsF.map V.ref)) := by rw [upd_ne nFW]; exact eF1
      have eW2 : (upd G1 W (.lst (ts'.map V.ref))) W = some (.lst (ts'.map V.ref)) := upd_same
      have wF2 := tups (o := .lst (ts'.map V.ref)) eW1 wF1
      have wl2 := tups (o := .lst (ts'.map V.ref)) eW1 wl
      generalize (upd G1 W (.lst (ts'.map V.ref))) = G2 at kG2 et2 ea2 eF2 eW2 wF2 wl2 ⊢
      refine ⟨t, _, rfl, SqT.of et2, rfl, _, _, rfl, _, _, rfl, rfl, ?_⟩
      -- members
      have he := List.getElem?_eq_getElem hx
      generalize es[x.2] = e at he
      obtain ⟨r, hq, mm, nn, _, _, _, g40, g50, g60⟩ := hR.at he
      have g4 := kG2.at g40 nin0
      have g5 := kG2.at g50 nin0
      refine ⟨_, rfl, _, rfl, E, _, _, V.ref r, rfl, rfl, SqL.of (kG2.at hE nin0), atI_nat (by rw [List.getElem?_map, hq]; rfl), r, _, _, V.ref mm, rfl, rfl, SqL.of g4, rfl, ?_⟩
      refine ⟨_, rfl, Nat.zero_le _, fun e3 he3 => ?_⟩
      have k3 : Keep [] G2 (upd G2 e3 (.lst [])) := Keep.new he3
      have a3 : (upd G2 e3 (.lst [])) e3 = some (.lst []) := upd_same
      generalize (upd G2 e3 (.lst [])) = G3 at k3 a3 ⊢
      have kG3 := kG2.trans k3
      have g53 := k3.at g5 nin0
      have ea3 := k3.at ea2 nin0
      have eF3 := k3.at eF2 nin0
      have eW3 := k3.at eW2 nin0
      have wF3 := tupsN k3 wF2
      have wl3 := tupsN k3 wl2
      refine ⟨intsD e.mem, intsD [], dp_intsD g53, dp_intsD (l := []) a3, ints_shaped _, ints_shaped _, _, rfl, ?_⟩
      rw [ints_nil]
      have hl6 := h6 e (List.mem_of_getElem? he)
      have rg : RgC ((e.mem.length : Int) - 1) (-1) (-1) e.mem.length := by
        have h := RgC.neg (i := (e.mem.length : Int) - 1) (j := -1) (by omega) (by omega) (by omega) (by omega)
        rw [show ((e.mem.length : Int) - 1 - -1).toNat = e.mem.length by omega] at h
        exact h
      rw [tot_snoc] at hsum hn ⊢
      have lF : tsF.length ≤ 60 := by
        have h1 := wF.len
        have h2 := (T.few k _ (List.getElem?_eq_getElem hk)).1
        omega
      by_cases hm : e.mem = []
      · obtain ⟨q1, q2, q3⟩ := T.leaf x.2 e he hm
        rw [show e.mem.isEmpty = true by rw [hm]; rfl]
        refine iteT ?_
        refine ⟨_, rfl, .inl ⟨rfl, _, SqL.of eF3⟩, _, rfl, _, rfl, (by show 2 ≤ sizeLine; decide), fun t4 ht4 => ?_⟩
        have k4 : Keep [] G3 (upd G3 t4 (.tup [.ref a, .int (x.2 : Int)])) := Keep.new ht4
        have et4 : (upd G3 t4 (.tup [.ref a, .int (x.2 : Int)])) t4 = some (.tup [.ref a, .int (x.2 : Int)]) := upd_same
        generalize (upd G3 t4 (.tup [.ref a, .int (x.2 : Int)])) = G4 at k4 et4 ⊢
        have eF4 := k4.at eF3 nin0
        refine ⟨F, _, _, rfl, rfl, eF4, Nat.lt_of_le_of_lt (by rw [List.length_map]; omega : (tsF.map V.ref).length ≤ 1000) (by decide), ?_⟩
        have k5 : Keep [] H (upd G4 F (.lst (tsF.map V.ref ++ [.ref t4]))) := (kG3.trans k4).freshTo hF
        have eF5 : (upd G4 F (.lst (tsF.map V.ref ++ [.ref t4]))) F = some (.lst ((tsF ++ [t4]).map V.ref)) := by rw [upd_same, List.map_append]; rfl
        have eW5 : (upd G4 F (.lst (tsF.map V.ref ++ [.ref t4]))) W = some (.lst (ts'.map V.ref)) := by rw [upd_ne nFW.symm]; exact k4.at eW3 nin0
        have wF5 : WaysAt (upd G4 F (.lst (tsF.map V.ref ++ [.ref t4]))) (tsF ++ [t4]) (fs ++ [x]) := tupsF eF4 (WaysAt.snoc ⟨a, et4, k4.at ea3 nin0⟩ (tupsN k4 wF3))
        have wl5 : WaysAt (upd G4 F (.lst (tsF.map V.ref ++ [.ref t4]))) ts' l0 := tupsF eF4 (tupsN k4 wl3)
        generalize (upd G4 F (.lst (tsF.map V.ref ++ [.ref t4]))) = G5 at k5 eF5 eW5 wF5 wl5 ⊢
        refine ⟨_, rfl, mm, _, rfl, .inl (SqL.of (k5.at g50 nin0)), _, _, rfl, rfl, _, rfl, _, rfl, _, _, _, e.mem.length, rfl, by rw [List.length_map]; exact rg, ?_⟩
        refine for_rangeC (lo := ((memV e.mem).length : Int) - 1) (c := -1) (n := e.mem.length) (fun _ σ G => σ = [some (.ref E), some (.int (k : Int)), some (.ref F), some (.ref W), some (.ref a), some (.int (x.2 : Int)), some (.ref mm), v7] ∧ G = G5) ⟨rfl, rfl⟩ (fun i σ G hi _ => by rw [hm] at hi; exact absurd hi (Nat.not_lt_zero _)) ?_
        rintro σ G ⟨rfl, rfl⟩
        refine ⟨_, ?_, fs ++ [x], l0, tsF ++ [t4], ts', _, _, _, _, rfl, k5, eF5, eW5, wF5, wl5, fun y hy => hin y (List.mem_append_left _ hy), ?_, fun b h1 h2 => ?_, fun y hy => ?_, fun y hy => hs12 y (List.mem_append_left _ hy), by omega, rfl, fun r hr => hrun r (.leaf rfl he hm hr)⟩
        · rw [q2]; omega
        · rw [List.length_append]; show fs.length + 1 + tot Lf l0 = Lf k; omega
        · refine hdeep b (fun y hy => h1 y (List.mem_append_left _ hy)) fun y hy => ?_
          rcases List.mem_append.mp hy with z | z
          · exact h2 y z
          · rw [List.mem_singleton.mp z, q3]
            exact h1 x (List.mem_append_right _ List.mem_cons_self)
        · rcases List.mem_append.mp hy with z | z
          · exact hf12 y z
          · rw [List.mem_singleton.mp z]; omega
      · obtain ⟨q1, q2, q3, m0, hm0, q4⟩ := T.nest x.2 e he hm
        have bk := T.back x.2 e he
        rw [show e.mem.isEmpty = false by cases h : e.mem with | nil => exact absurd h hm | cons y ys => rfl]
        refine iteF ?_
        refine ⟨_, rfl, mm, _, rfl, .inl (SqL.of g53), _, _, rfl, rfl, _, rfl, _, rfl, _, _, _, e.mem.length, rfl, by rw [List.length_map]; exact rg, ?_⟩
        let Pv : Nat → L2.St → Hp → Prop := fun i σ G => ∃ (kids : List WH) (tsK : List Addr) (v7 : Option V), σ = [some (.ref E), some (.int (k : Int)), some (.ref F), some (.ref W), some (.ref a), some (.int (x.2 : Int)), some (.ref mm), v7] ∧ Keep [] H G ∧ G F = some (.lst (tsF.map V.ref)) ∧ WaysAt G tsF fs ∧ G a = some (.tup (memV x.1)) ∧
          G W = some (.lst ((ts' ++ tsK).map V.ref)) ∧ WaysAt G (ts' ++ tsK) (l0 ++ kids) ∧ kids.length = i ∧ (∀ f, tot f kids = ((e.mem.drop (e.mem.length - i)).map f).sum) ∧ (∀ y ∈ kids, y.2 ∈ e.mem ∧ y.1.length = x.1.length + 1) ∧ (∀ z ∈ e.mem.drop (e.mem.length - i), ∃ y ∈ kids, y.2 = z) ∧ kids = kidsN x.1 e.mem i
        have nW : (l0.length : Nat) ≤ 780 := by
          have h1 := tot_len (f := Nf) (xs := l0) fun y hy => T.node1 (hin y (List.mem_append_left _ hy))
          omega
        have lts : ts'.length = l0.length := wl.len
        refine for_rangeC (lo := ((memV e.mem).length : Int) - 1) (c := -1) (n := e.mem.length) Pv ⟨[], [], _, rfl, kG3, eF3, wF3, ea3, by rw [List.append_nil]; exact eW3, by rw [List.append_nil, List.append_nil]; exact wl3, rfl, fun f => by simp [tot], (fun y hy => absurd hy List.not_mem_nil), (fun z hz => by simp at hz), rfl⟩ ?_ ?_
        · rintro i σ G hi ⟨kids, tsK, w7, rfl, kG', eF', wF', ea', eW', wl', hkl, htot, hkid, hall, hks0⟩
          have pl : ((memV e.mem).length : Int) - 1 + (i : Int) * -1 = ((e.mem.length - 1 - i : Nat) : Int) := by rw [List.length_map]; omega
          rw [pl]
          have hp : e.mem.length - 1 - i < e.mem.length := by omega
          have hd : e.mem.drop (e.mem.length - (i + 1)) = e.mem[e.mem.length - 1 - i] :: e.mem.drop (e.mem.length - i) := by
            rw [show e.mem.length - (i + 1) = e.mem.length - 1 - i by omega, List.drop_eq_getElem_cons hp, show e.mem.length - 1 - i + 1 = e.mem.length - i by omega]
          have hz := List.getElem?_eq_getElem hp
          have hzm := List.getElem_mem hp
          have hks : kidsN x.1 e.mem (i + 1) = kidsN x.1 e.mem i ++ [(x.1 ++ [e.mem.length - 1 - i], e.mem[e.mem.length - 1 - i])] := kidsN_succ hp
          generalize e.mem[e.mem.length - 1 - i] = z at hd hz hzm hks
          generalize e.mem.length - 1 - i = pl at hz hks ⊢
          have fin : ∀ (wy t : Addr) (G' : Hp), Keep [] G G' → G' wy = some (.tup (memV (x.1 ++ [pl]))) → G' t = some (.tup [.ref wy, .int (z : Int)]) → Pv (i + 1) [some (.ref E), some (.int (k : Int)), some (.ref F), some (.ref W), some (.ref a), some (.int (x.2 : Int)), some (.ref mm), some (.int (pl : Int))] (upd G' W (.lst ((ts' ++ tsK).map V.ref ++ [.ref t]))) := fun wy t G' k' ew et' => by
            have eWg := k'.at eW' nin0
            refine ⟨kids ++ [(x.1 ++ [pl], z)], tsK ++ [t], _, rfl, own (kG'.trans k'), by rw [upd_ne nFW]; exact k'.at eF' nin0, tups eWg (tupsN k' wF'), by rw [upd_ne (ne_of (k'.at ea' nin0) eWg (fun z => by cases z))]; exact k'.at ea' nin0, by rw [upd_same, ← List.append_assoc, List.map_append (l₁ := ts' ++ tsK)]; rfl, ?_, by rw [List.length_append, hkl]; rfl, fun f => ?_, fun y hy => ?_, fun y hy => ?_, by rw [hks0, hks]⟩
            · rw [← List.append_assoc, ← List.append_assoc]
              exact tups eWg (WaysAt.snoc ⟨wy, et', ew⟩ (tupsN k' wl'))
            · rw [tot_snoc, htot f, hd, List.map_cons, List.sum_cons]
              exact Nat.add_comm _ _
            · rcases List.mem_append.mp hy with q | q
              · exact hkid y q
              · rw [List.mem_singleton.mp q]
                exact ⟨hzm, by rw [List.length_append]; rfl⟩
            · rw [hd] at hy
              rcases List.mem_cons.mp hy with q | q
              · exact ⟨_, List.mem_append_right _ List.mem_cons_self, q.symm⟩
              · obtain ⟨y', h1, h2⟩ := hall y q
                exact ⟨y', List.mem_append_left _ h1, h2⟩
          have bW : ((ts' ++ tsK).map V.ref).length < sizeLine := by
            have h1 := wl'.len
            rw [List.length_append, List.length_append] at h1
            rw [List.length_map, List.length_append]
            exact Nat.lt_of_le_of_lt (by omega : ts'.length + tsK.length ≤ 1000) (by decide)
          have gm := kG'.at g50 nin0
          have ix : atI (memV e.mem) ((pl : Nat) : Int) = some (V.int (z : Int)) := atI_nat (by rw [List.getElem?_map, hz]; rfl)
          refine ⟨_, rfl, .inl ⟨rfl, _, SqL.of eW'⟩, _, rfl, _, rfl, (by show 1 ≤ sizeLine; decide), fun b1 hb1 => ?_⟩
          have kb : Keep [] G (upd G b1 (.tup [.int (pl : Int)])) := Keep.new hb1
          have eb : (upd G b1 (.tup [.int (pl : Int)])) b1 = some (.tup [.int (pl : Int)]) := upd_same
          generalize (upd G b1 (.tup [.int (pl : Int)])) = Gb at kb eb ⊢
          refine ⟨a, b1, _, _, rfl, rfl, SqT.of (kb.at ea' nin0), SqT.of eb, ?_, fun hx0 => ?_, (fun _ h => by cases h), fun hx0 _ p hp' => ?_⟩
          · rw [List.length_map]
            exact Nat.le_trans (by show x.1.length + 1 ≤ 1000; omega) (by decide)
          · have hx1 : x.1 = [] := by
              cases h : x.1 with
              | nil => rfl
              | cons y ys => rw [h] at hx0; cases hx0
            refine ⟨_, rfl, _, rfl, mm, _, _, V.int (z : Int), rfl, rfl, SqL.of (kb.at gm nin0), ix, (by show 2 ≤ sizeLine; decide), fun t ht => ?_⟩
            refine ⟨W, _, _, rfl, rfl, (kb.newTo ht).at eW' nin0, bW, ?_⟩
            exact fin b1 t _ (kb.newTo ht) (by rw [hx1]; exact (Keep.new ht (ex := [])).at eb nin0) upd_same
          · refine ⟨_, rfl, _, rfl, mm, _, _, V.int (z : Int), rfl, rfl, SqL.of ((kb.newTo hp').at gm nin0), ix, (by show 2 ≤ sizeLine; decide), fun t ht => ?_⟩
            refine ⟨W, _, _, rfl, rfl, ((kb.newTo hp').newTo ht).at eW' nin0, bW, ?_⟩
            refine fin p t _ ((kb.newTo hp').newTo ht) ?_ upd_same
            refine (Keep.new ht (ex := [])).at ?_ nin0
            rw [upd_same]
            show _ = some (HO.tup ((x.1 ++ [pl]).map fun k : Nat => V.int (k : Int)))
            rw [List.map_append]
            rfl
        · rintro σ G ⟨kids, tsK, w7, rfl, kG', eF', wF', ea', eW', wl', hkl, htot, hkid, hall, hks0⟩
          rw [Nat.sub_self, List.drop_zero] at htot hall
          have tl : ∀ f, tot f (l0 ++ kids) = tot f l0 + (e.mem.map f).sum := fun f => by
            rw [← htot f]
            unfold tot
            rw [List.map_append, List.sum_append]
          refine ⟨_, ?_, fs, l0 ++ kids, tsF, ts' ++ tsK, _, _, _, _, rfl, kG', eF', eW', wF', wl', fun y hy => ?_, ?_, fun b h1 h2 => ?_, hf12, fun y hy => ?_, ?_, rfl, fun r hr => hrun r (.nest rfl he hm (by rw [← hks0]; exact hr))⟩
          · rw [tl, q2]; omega
          · rcases List.mem_append.mp hy with q | q
            · exact hin y (List.mem_append_left _ q)
            · have := bk y.2 (hkid y q).1
              omega
          · rw [tl, ← q1]; omega
          · refine hdeep b h1 fun y hy => ?_
            rcases List.mem_append.mp hy with q | q
            · exact h2 y (List.mem_append_left _ q)
            · obtain ⟨y', h3, h4⟩ := hall m0 hm0
              have h5 := h2 y' (List.mem_append_right _ h3)
              rw [List.mem_singleton.mp q, q4]
              rw [h4, (hkid y' h3).2] at h5
              omega
          · rcases List.mem_append.mp hy with q | q
            · exact hs12 y (List.mem_append_left _ q)
            · obtain ⟨h3, h4⟩ := hkid y q
              have := q3 y.2 h3
              omega
          · rw [tl]; omega
end
end Fs
/-! The leaves of a fault, as the ledger tells them. -/
namespace Fs
open PySem L2 TL
abbrev sLvp : Stmt := inClass cLed 14
abbrev nLvp : List Str := ["self", "k", "found", "waiting", "way", "number", "members", "place"]
theorem scLvp : FnScope nLvp ["self", "k"] (defScope sLvp) := ⟨rfl, rfl, rfl, by decide +kernel, rfl, by decide +kernel, by decide +kernel⟩
def spLvp (C : Addr) : Sp := fun vs H Q _ => ∃ (p : Addr) (A : LA) (ms ns : List Addr) (es : List Ent) (k : Nat) (Lf Df Nf : Nat → Nat), vs = [.ref p, .int (k : Int)] ∧ LedAt C H p A ms ns es ∧ Tree es Lf Df Nf ∧ k < es.length ∧ (∀ e ∈ es, e.mem.length ≤ 6) ∧
  ∀ (H' : Hp) (F : Addr) (ts : List Addr) (fs : List WH), Keep [] H H' → H F = none → H' F = some (.lst (ts.map V.ref)) → WaysAt H' ts fs → fs.length = Lf k → (∀ b, (∀ x ∈ fs, x.1.length ≤ b) → Df k ≤ b) → (∀ x ∈ fs, x.1.length ≤ Df k) → Run es [] [([], k)] fs → Q (.ref F) H'
section
variable {P : Program} {w : World} {K : PySem.W.Frag} {mg : Str → Option Value} {base : Heap} {C fA fCF fCT fCM : Addr}
theorem ok_lvp {f : Addr} {fd fdF : FuncData} (F : Fun K "leaves" "Ledger.leaves" sLvp f fd) (T : LTxt K mg C fA fCF fCT fCM) (FF : FnOk P w K mg base CX0 2 fCF fdF ["self", "k"] (spChkF C)) (bF : Binds K fdF ["self", "k"] []) (mR : mg "range" = none) (mV : mg "reversed" = none) : FnOk P w K mg base CX0 3 f fd ["self", "k"] (spLvp C) := by
  refine F.ok scLvp (fun vs H Q E h => ?_) (fun cdv A0 outer s H vs Q Es hr h => ?_)
  · obtain ⟨p, A, ms, ns, es, k, Lf, Df, Nf, rfl, _⟩ := h
    rfl
  · obtain ⟨p, A, ms, ns, es, k, Lf, Df, Nf, rfl, hL, T', hk, h6, kk⟩ := h
    refine ⟨_, pss_cons (ps_expr (pe_meth (pv 0) T.cl T.mF FF hr bF .nil pass0 (pa_cons (pv 1) pa_nil)))
      (pss_cons (ps_set (i := 2) scLvp.nd rfl (Or.inl rfl) (pe_lst pa_nil))
      (pss_cons (ps_set (i := 3) scLvp.nd rfl (Or.inl rfl) (pe_lst (pa_cons (pe_tup (pa_cons (pe_tup pa_nil) (pa_cons (pv 1) pa_nil))) pa_nil)))
      (pss_cons (ps_while PassesOwn.never (pt_truth (pv 3) (fun _ => rfl))
        (pss_cons (ps_asg (pe_bm0 PySem.F.plainAttrs_list PySem.F.slot_list_pop PySem.F.type_list_pop mt_pop (pv 3)) (pg_tup rfl (pgs_cons (pg_name (i := 4) scLvp.nd rfl (Or.inl rfl)) (pgs_cons (pg_name (i := 5) scLvp.nd rfl (Or.inl rfl)) pgs_nil))))
        (pss_cons (ps_set (i := 6) scLvp.nd rfl (Or.inl rfl) (pe_ix ix_list (pe_fld (pv 0) rfl) (pv 5) (fun _ _ => rfl)))
        (pss_cons (ps_if (pt_not (pt_truth (pv 6) (fun _ => rfl))) (pss_one (ps_expr (pe_bm PySem.F.plainAttrs_list PySem.F.slot_list_append PySem.F.type_list_append mt_append (pv 2) (pa_cons (pe_tup (pa_cons (pv 4) (pa_cons (pv 5) pa_nil))) pa_nil)))) pss_nil)
        (pss_one (ps_for PassesOwn.never rfl (pi_revR rfl mV (prg_1 rfl mR (pe_callB call_len_seq (by rfl) T.len PySem.boot_len (pa_cons (pv 6) pa_nil)))) (pg_name (i := 7) scLvp.nd rfl (Or.inl rfl))
          (pss_one (ps_expr (pe_bm PySem.F.plainAttrs_list PySem.F.slot_list_append PySem.F.type_list_append mt_append (pv 3) (pa_cons (pe_tup (pa_cons (pe_op op_catA (pv 4) (pe_tup (pa_cons (pv 7) pa_nil))) (pa_cons (pe_ix ix_tup (pv 6) (pv 7) (fun _ _ => rfl)) pa_nil))) pa_nil))))))))))
      (pss_one (ps_ret (pv 2)))))), ?_⟩
    refine ⟨_, rfl, p, A.dx, _, rfl, hL.ins, flno A, _, rfl, p, A, ms, ns, es, k, rfl, hL, hk, ?_⟩
    refine ⟨Nat.zero_le _, fun F hF => ?_⟩
    refine ⟨Nat.zero_le _, fun a0 ha0 => ?_⟩
    refine ⟨_, rfl, (by show 2 ≤ sizeLine; decide), fun t0 ht0 => ?_⟩
    refine ⟨(by show 1 ≤ sizeLine; decide), fun W hW => ?_⟩
    have k0 : Keep [] H (upd (upd (upd (upd H F (.lst [])) a0 (.tup [])) t0 (.tup [.ref a0, .int (k : Int)])) W (.lst [.ref t0])) := (((Keep.new hF).newTo ha0).newTo ht0).newTo hW
    have eF0 : (upd (upd (upd (upd H F (.lst [])) a0 (.tup [])) t0 (.tup [.ref a0, .int (k : Int)])) W (.lst [.ref t0])) F = some (.lst []) := (((Keep.new ha0 (ex := [])).newTo ht0).newTo hW).at upd_same nin0
    have ea0 : (upd (upd (upd (upd H F (.lst [])) a0 (.tup [])) t0 (.tup [.ref a0, .int (k : Int)])) W (.lst [.ref t0])) a0 = some (.tup []) := ((Keep.new ht0 (ex := [])).newTo hW).at upd_same nin0
    have et0 : (upd (upd (upd (upd H F (.lst [])) a0 (.tup [])) t0 (.tup [.ref a0, .int (k : Int)])) W (.lst [.ref t0])) t0 = some (.tup [.ref a0, .int (k : Int)]) := (Keep.new hW (ex := [])).at upd_same nin0
    have eW0 : (upd (upd (upd (upd H F (.lst [])) a0 (.tup [])) t0 (.tup [.ref a0, .int (k : Int)])) W (.lst [.ref t0])) W = some (.lst [.ref t0]) := upd_same
    have hW0 : H W = none := Keep.free (((Keep.new hF (ex := [])).newTo ha0).newTo ht0) hW nin0
    have nFW : F ≠ W := ne_of_none (((Keep.new ha0 (ex := [])).newTo ht0).at (show upd H F (.lst []) F = some (.lst []) from upd_same) nin0) hW
    generalize (upd (upd (upd (upd H F (.lst [])) a0 (.tup [])) t0 (.tup [.ref a0, .int (k : Int)])) W (.lst [.ref t0])) = G0 at k0 eF0 ea0 et0 eW0 ⊢
    have dk := (T'.few k _ (List.getElem?_eq_getElem hk)).2
    have own : ∀ {G : Hp} {o : HO}, Keep [] H G → Keep [] H (upd G W o) := fun k => k.freshTo hW0
    have tups : ∀ {G : Hp} {xs : List V} {o : HO} {ts : List Addr} {zs : List WH}, G W = some (.lst xs) → WaysAt G ts zs → WaysAt (upd G W o) ts zs := fun eW h => h.map fun a ys q => by rw [upd_ne (ne_of q eW (fun z => by cases z))]; exact q
    have tupsF : ∀ {G : Hp} {xs : List V} {o : HO} {ts : List Addr} {zs : List WH}, G F = some (.lst xs) → WaysAt G ts zs → WaysAt (upd G F o) ts zs := fun eF h => h.map fun a ys q => by rw [upd_ne (ne_of q eF (fun z => by cases z))]; exact q
    have tupsN : ∀ {G G' : Hp} {ts : List Addr} {zs : List WH}, Keep [] G G' → WaysAt G ts zs → WaysAt G' ts zs := fun k h => h.map fun a ys q => k.at q nin0
    let Inv : Nat → L2.St → Hp → Prop := fun m σ G => ∃ (fs st : List WH) (tsF tsW : List Addr) (v4 v5 v6 v7 : Option V), σ = [some (.ref p), some (.int (k : Int)), some (.ref F), some (.ref W), v4, v5, v6, v7] ∧ Keep [] H G ∧ G F = some (.lst (tsF.map V.ref)) ∧ G W = some (.lst (tsW.map V.ref)) ∧ WaysAt G tsF fs ∧ WaysAt G tsW st ∧
      (∀ x ∈ st, x.2 < es.length) ∧ fs.length + tot Lf st = Lf k ∧ (∀ b, (∀ x ∈ fs, x.1.length ≤ b) → (∀ x ∈ st, x.1.length + Df x.2 ≤ b) → Df k ≤ b) ∧ (∀ x ∈ fs, x.1.length ≤ Df k) ∧ (∀ x ∈ st, x.1.length + Df x.2 ≤ Df k) ∧ tot Nf st ≤ 780 ∧ m = tot Nf st ∧ ∀ r, Run es fs st r → Run es [] [([], k)] r
    refine ⟨Inv, ⟨_, [], [([], k)], [], [t0], none, none, none, none, rfl, k0, eF0, eW0, True.intro, ⟨⟨a0, et0, ea0⟩, True.intro⟩, fun x hx => ?_, ?_, fun b _ hb => ?_, (fun x hx => absurd hx List.not_mem_nil), fun x hx => ?_, ?_, rfl, fun r h => h⟩, ?_⟩
    · rw [List.mem_singleton.mp hx]; exact hk
    · simp [tot]
    · have := hb _ List.mem_cons_self
      simpa using this
    · rw [List.mem_singleton.mp hx]; simp
    · have := T'.nodes hk
      simpa [tot] using this
    rintro m σ G ⟨fs, st, tsF, tsW, v4, v5, v6, v7, rfl, kG, eF, eW, wF, wW, hin, hsum, hdeep, hf12, hs12, hn, rfl, hrun⟩
    have lW := wW.len
    refine ⟨_, rfl, !(tsW.map V.ref).isEmpty, .inl ⟨_, SqL.of eW, rfl⟩, ?_⟩
    have eW1 := eW
    have eF1 := eF
    have wF1 := wF
    have wW1 := wW
    have kG1 := kG
    rcases List.eq_nil_or_concat st with hst | ⟨l0, x, hst⟩
    · subst hst
      have en : tsW = [] := by
        cases tsW with
        | nil => rfl
        | cons y ys => simp at lW
      rw [en]
      refine iteF ?_
      exact ⟨_, rfl, kk G F tsF fs kG1 hF eF1 wF1 (by simpa [tot] using hsum) (fun b hb => hdeep b hb fun x hx => absurd hx List.not_mem_nil) hf12 (hrun _ .done)⟩
    · rw [List.concat_eq_append] at hst
      subst hst
      have ene : (tsW.map V.ref).isEmpty = false := by
        cases tsW with
        | nil => simp at lW
        | cons y ys => rfl
      rw [ene]
      refine iteT ⟨fun σ' H' => ∃ m', m' < tot Nf (l0 ++ [x]) ∧ Inv m' σ' H', fun σ' H' h => h, ?_⟩
      obtain ⟨t, ts', rfl, ⟨a, et, ea⟩, wl⟩ := WaysAt.unsnoc wW1
      have hx := hin x (List.mem_append_right _ List.mem_cons_self)
      have hx12 := hs12 x (List.mem_append_right _ List.mem_cons_self)
      -- pop
      have get : ((ts' ++ [t]).map V.ref)[((ts' ++ [t]).map V.ref).length - 1]? = some (V.ref t) := by
        rw [List.map_append, List.length_append, List.getElem?_append_right (by simp)]
        simp
      refine ⟨_, rfl, .inl ⟨rfl, _, SqL.of eW1⟩, W, _, V.ref t, rfl, rfl, eW1, get, ?_⟩
      have edr : ((ts' ++ [t]).map V.ref).dropLast = ts'.map V.ref := by rw [List.map_append]; simp
      rw [edr]
      have kG2 : Keep [] H (upd G W (.lst (ts'.map V.ref))) := own kG1
      have et2 : (upd G W (.lst (ts'.map V.ref))) t = some (.tup [.ref a, .int (x.2 : Int)]) := by rw [upd_ne (ne_of et eW1 (fun z => by cases z))]; exact et
      have ea2 : (upd G W (.lst (ts'.map V.ref))) a = some (.tup (memV x.1)) := by rw [upd_ne (ne_of ea eW1 (fun z => by cases z))]; exact ea
      have eF2 : (upd G W (.lst (ts'.map V.ref))) F = some (.lst (tsF.map V.ref)) := by rw [upd_ne nFW]; exact eF1
      have eW2 : (upd G W (.lst (ts'.map V.ref))) W = some (.lst (ts'.map V.ref)) := upd_same
      have wF2 := tups (o := .lst (ts'.map V.ref)) eW1 wF1
      have wl2 := tups (o := .lst (ts'.map V.ref)) eW1 wl
      generalize (upd G W (.lst (ts'.map V.ref))) = G2 at kG2 et2 ea2 eF2 eW2 wF2 wl2 ⊢
      refine ⟨t, _, rfl, SqT.of et2, rfl, _, _, rfl, _, _, rfl, rfl, ?_⟩
      -- members
      have he := List.getElem?_eq_getElem hx
      generalize es[x.2] = e at he
      have LG := hL.keep kG2 (fun b z => absurd z nin0) (fun b z => absurd z nin0)
      obtain ⟨mm, hq, g50⟩ := hL.mems.at he
      have g5 := kG2.at g50 nin0
      refine ⟨_, rfl, p, C, A.dx, _, _, rfl, LG.ins, T.cl, T.n3, fl3 A, _, rfl, A.l3, _, _, V.ref mm, rfl, rfl, SqL.of LG.h3, atI_nat (by rw [List.getElem?_map, hq]; rfl), ?_⟩
      refine ⟨_, rfl, !(memV e.mem).isEmpty, .inr (.inl ⟨_, SqT.of g5, rfl⟩), ?_⟩
      have kG3 := kG2
      have g53 := g5
      have ea3 := ea2
      have eF3 := eF2
      have eW3 := eW2
      have wF3 := wF2
      have wl3 := wl2
      have hl6 := h6 e (List.mem_of_getElem? he)
      rw [tot_snoc] at hsum hn ⊢
      have lF : tsF.length ≤ 60 := by
        have h1 := wF.len
        have h2 := (T'.few k _ (List.getElem?_eq_getElem hk)).1
        omega
      by_cases hm : e.mem = []
      · obtain ⟨q1, q2, q3⟩ := T'.leaf x.2 e he hm
        rw [show (memV e.mem).isEmpty = true by rw [hm]; rfl]
        refine iteT ?_
        refine ⟨_, rfl, .inl ⟨rfl, _, SqL.of eF3⟩, _, rfl, _, rfl, (by show 2 ≤ sizeLine; decide), fun t4 ht4 => ?_⟩
        have k4 : Keep [] G2 (upd G2 t4 (.tup [.ref a, .int (x.2 : Int)])) := Keep.new ht4
        have et4 : (upd G2 t4 (.tup [.ref a, .int (x.2 : Int)])) t4 = some (.tup [.ref a, .int (x.2 : Int)]) := upd_same
        generalize (upd G2 t4 (.tup [.ref a, .int (x.2 : Int)])) = G4 at k4 et4 ⊢
        have eF4 := k4.at eF3 nin0
        refine ⟨F, _, _, rfl, rfl, eF4, Nat.lt_of_le_of_lt (by rw [List.length_map]; omega : (tsF.map V.ref).length ≤ 1000) (by decide), ?_⟩
        have k5 : Keep [] H (upd G4 F (.lst (tsF.map V.ref ++ [.ref t4]))) := (kG3.trans k4).freshTo hF
        have eF5 : (upd G4 F (.lst (tsF.map V.ref ++ [.ref t4]))) F = some (.lst ((tsF ++ [t4]).map V.ref)) := by rw [upd_same, List.map_append]; rfl
        have eW5 : (upd G4 F (.lst (tsF.map V.ref ++ [.ref t4]))) W = some (.lst (ts'.map V.ref)) := by rw [upd_ne nFW.symm]; exact k4.at eW3 nin0
        have wF5 : WaysAt (upd G4 F (.lst (tsF.map V.ref ++ [.ref t4]))) (tsF ++ [t4]) (fs ++ [x]) := tupsF eF4 (WaysAt.snoc ⟨a, et4, k4.at ea3 nin0⟩ (tupsN k4 wF3))
        have wl5 : WaysAt (upd G4 F (.lst (tsF.map V.ref ++ [.ref t4]))) ts' l0 := tupsF eF4 (tupsN k4 wl3)
        generalize (upd G4 F (.lst (tsF.map V.ref ++ [.ref t4]))) = G5 at k5 eF5 eW5 wF5 wl5 ⊢
        refine ⟨_, rfl, mm, _, rfl, .inr (SqT.of (k5.at g50 nin0)), _, rfl, by omega, by omega, by rw [List.length_map]; omega, by rw [List.length_map]; omega, ?_⟩
        have nn0 : (((memV e.mem).length : Int) - 0).toNat = e.mem.length := by rw [List.length_map]; omega
        rw [nn0]
        refine for_rangeC (lo := 0 + ((e.mem.length : Nat) : Int) - 1) (c := -1) (n := e.mem.length) (fun _ σ G => σ = [some (.ref p), some (.int (k : Int)), some (.ref F), some (.ref W), some (.ref a), some (.int (x.2 : Int)), some (.ref mm), v7] ∧ G = G5) ⟨rfl, rfl⟩ (fun i σ G hi _ => by rw [hm] at hi; exact absurd hi (Nat.not_lt_zero _)) ?_
        rintro σ G ⟨rfl, rfl⟩
        refine ⟨_, ?_, fs ++ [x], l0, tsF ++ [t4], ts', _, _, _, _, rfl, k5, eF5, eW5, wF5, wl5, fun y hy => hin y (List.mem_append_left _ hy), ?_, fun b h1 h2 => ?_, fun y hy => ?_, fun y hy => hs12 y (List.mem_append_left _ hy), by omega, rfl, fun r hr => hrun r (.leaf rfl he hm hr)⟩
        · rw [q2]; omega
        · rw [List.length_append]; show fs.length + 1 + tot Lf l0 = Lf k; omega
        · refine hdeep b (fun y hy => h1 y (List.mem_append_left _ hy)) fun y hy => ?_
          rcases List.mem_append.mp hy with z | z
          · exact h2 y z
          · rw [List.mem_singleton.mp z, q3]
            exact h1 x (List.mem_append_right _ List.mem_cons_self)
        · rcases List.mem_append.mp hy with z | z
          · exact hf12 y z
          · rw [List.mem_singleton.mp z]; omega
      · obtain ⟨q1, q2, q3, m0, hm0, q4⟩ := T'.nest x.2 e he hm
        have bk := T'.back x.2 e he
        rw [show (memV e.mem).isEmpty = false by cases h : e.mem with | nil => exact absurd h hm | cons y ys => rfl]
        refine iteF ?_
        refine ⟨_, rfl, mm, _, rfl, .inr (SqT.of g53), _, rfl, by omega, by omega, by rw [List.length_map]; omega, by rw [List.length_map]; omega, ?_⟩
        have nn0 : (((memV e.mem).length : Int) - 0).toNat = e.mem.length := by rw [List.length_map]; omega
        rw [nn0]
        let Pv : Nat → L2.St → Hp → Prop := fun i σ G => ∃ (kids : List WH) (tsK : List Addr) (v7 : Option V), σ = [some (.ref p), some (.int (k : Int)), some (.ref F), some (.ref W), some (.ref a), some (.int (x.2 : Int)), some (.ref mm), v7] ∧ Keep [] H G ∧ G F = some (.lst (tsF.map V.ref)) ∧ WaysAt G tsF fs ∧ G a = some (.tup (memV x.1)) ∧
          G W = some (.lst ((ts' ++ tsK).map V.ref)) ∧ WaysAt G (ts' ++ tsK) (l0 ++ kids) ∧ kids.length = i ∧ (∀ f, tot f kids = ((e.mem.drop (e.mem.length - i)).map f).sum) ∧ (∀ y ∈ kids, y.2 ∈ e.mem ∧ y.1.length = x.1.length + 1) ∧ (∀ z ∈ e.mem.drop (e.mem.length - i), ∃ y ∈ kids, y.2 = z) ∧ kids = kidsN x.1 e.mem i
        have nW : (l0.length : Nat) ≤ 780 := by
          have h1 := tot_len (f := Nf) (xs := l0) fun y hy => T'.node1 (hin y (List.mem_append_left _ hy))
          omega
        have lts : ts'.length = l0.length := wl.len
        refine for_rangeC (lo := 0 + ((e.mem.length : Nat) : Int) - 1) (c := -1) (n := e.mem.length) Pv ⟨[], [], _, rfl, kG3, eF3, wF3, ea3, by rw [List.append_nil]; exact eW3, by rw [List.append_nil, List.append_nil]; exact wl3, rfl, fun f => by simp [tot], (fun y hy => absurd hy List.not_mem_nil), (fun z hz => by simp at hz), rfl⟩ ?_ ?_
        · rintro i σ G hi ⟨kids, tsK, w7, rfl, kG', eF', wF', ea', eW', wl', hkl, htot, hkid, hall, hks0⟩
          have pl : 0 + ((e.mem.length : Nat) : Int) - 1 + (i : Int) * -1 = ((e.mem.length - 1 - i : Nat) : Int) := by omega
          rw [pl]
          have hp : e.mem.length - 1 - i < e.mem.length := by omega
          have hd : e.mem.drop (e.mem.length - (i + 1)) = e.mem[e.mem.length - 1 - i] :: e.mem.drop (e.mem.length - i) := by
            rw [show e.mem.length - (i + 1) = e.mem.length - 1 - i by omega, List.drop_eq_getElem_cons hp, show e.mem.length - 1 - i + 1 = e.mem.length - i by omega]
          have hz := List.getElem?_eq_getElem hp
          have hzm := List.getElem_mem hp
          have hks : kidsN x.1 e.mem (i + 1) = kidsN x.1 e.mem i ++ [(x.1 ++ [e.mem.length - 1 - i], e.mem[e.mem.length - 1 - i])] := kidsN_succ hp
          generalize e.mem[e.mem.length - 1 - i] = z at hd hz hzm hks
          generalize e.mem.length - 1 - i = pl at hz hks ⊢
          have fin : ∀ (wy t : Addr) (G' : Hp), Keep [] G G' → G' wy = some (.tup (memV (x.1 ++ [pl]))) → G' t = some (.tup [.ref wy, .int (z : Int)]) → Pv (i + 1) [some (.ref p), some (.int (k : Int)), some (.ref F), some (.ref W), some (.ref a), some (.int (x.2 : Int)), some (.ref mm), some (.int (pl : Int))] (upd G' W (.lst ((ts' ++ tsK).map V.ref ++ [.ref t]))) := fun wy t G' k' ew et' => by
            have eWg := k'.at eW' nin0
            refine ⟨kids ++ [(x.1 ++ [pl], z)], tsK ++ [t], _, rfl, own (kG'.trans k'), by rw [upd_ne nFW]; exact k'.at eF' nin0, tups eWg (tupsN k' wF'), by rw [upd_ne (ne_of (k'.at ea' nin0) eWg (fun z => by cases z))]; exact k'.at ea' nin0, by rw [upd_same, ← List.append_assoc, List.map_append (l₁ := ts' ++ tsK)]; rfl, ?_, by rw [List.length_append, hkl]; rfl, fun f => ?_, fun y hy => ?_, fun y hy => ?_, by rw [hks0, hks]⟩
            · rw [← List.append_assoc, ← List.append_assoc]
              exact tups eWg (WaysAt.snoc ⟨wy, et', ew⟩ (tupsN k' wl'))
            · rw [tot_snoc, htot f, hd, List.map_cons, List.sum_cons]
              exact Nat.add_comm _ _
            · rcases List.mem_append.mp hy with q | q
              · exact hkid y q
              · rw [List.mem_singleton.mp q]
                exact ⟨hzm, by rw [List.length_append]; rfl⟩
            · rw [hd] at hy
              rcases List.mem_cons.mp hy with q | q
              · exact ⟨_, List.mem_append_right _ List.mem_cons_self, q.symm⟩
              · obtain ⟨y', h1, h2⟩ := hall y q
                exact ⟨y', List.mem_append_left _ h1, h2⟩
          have bW : ((ts' ++ tsK).map V.ref).length < sizeLine := by
            have h1 := wl'.len
            rw [List.length_append, List.length_append] at h1
            rw [List.length_map, List.length_append]
            exact Nat.lt_of_le_of_lt (by omega : ts'.length + tsK.length ≤ 1000) (by decide)
          have gm := kG'.at g50 nin0
          have ix : atI (memV e.mem) ((pl : Nat) : Int) = some (V.int (z : Int)) := atI_nat (by rw [List.getElem?_map, hz]; rfl)
          refine ⟨_, rfl, .inl ⟨rfl, _, SqL.of eW'⟩, _, rfl, _, rfl, (by show 1 ≤ sizeLine; decide), fun b1 hb1 => ?_⟩
          have kb : Keep [] G (upd G b1 (.tup [.int (pl : Int)])) := Keep.new hb1
          have eb : (upd G b1 (.tup [.int (pl : Int)])) b1 = some (.tup [.int (pl : Int)]) := upd_same
          generalize (upd G b1 (.tup [.int (pl : Int)])) = Gb at kb eb ⊢
          refine ⟨a, b1, _, _, rfl, rfl, SqT.of (kb.at ea' nin0), SqT.of eb, ?_, fun hx0 => ?_, (fun _ h => by cases h), fun hx0 _ p hp' => ?_⟩
          · rw [List.length_map]
            exact Nat.le_trans (by show x.1.length + 1 ≤ 1000; omega) (by decide)
          · have hx1 : x.1 = [] := by
              cases h : x.1 with
              | nil => rfl
              | cons y ys => rw [h] at hx0; cases hx0
            refine ⟨_, rfl, _, rfl, mm, _, _, V.int (z : Int), rfl, rfl, SqT.of (kb.at gm nin0), ix, (by show 2 ≤ sizeLine; decide), fun t ht => ?_⟩
            refine ⟨W, _, _, rfl, rfl, (kb.newTo ht).at eW' nin0, bW, ?_⟩
            exact fin b1 t _ (kb.newTo ht) (by rw [hx1]; exact (Keep.new ht (ex := [])).at eb nin0) upd_same
          · refine ⟨_, rfl, _, rfl, mm, _, _, V.int (z : Int), rfl, rfl, SqT.of ((kb.newTo hp').at gm nin0), ix, (by show 2 ≤ sizeLine; decide), fun t ht => ?_⟩
            refine ⟨W, _, _, rfl, rfl, ((kb.newTo hp').newTo ht).at eW' nin0, bW, ?_⟩
            refine fin p t _ ((kb.newTo hp').newTo ht) ?_ upd_same
            refine (Keep.new ht (ex := [])).at ?_ nin0
            rw [upd_same]
            show _ = some (HO.tup ((x.1 ++ [pl]).map fun k : Nat => V.int (k : Int)))
            rw [List.map_append]
            rfl
        · rintro σ G ⟨kids, tsK, w7, rfl, kG', eF', wF', ea', eW', wl', hkl, htot, hkid, hall, hks0⟩
          rw [Nat.sub_self, List.drop_zero] at htot hall
          have tl : ∀ f, tot f (l0 ++ kids) = tot f l0 + (e.mem.map f).sum := fun f => by
            rw [← htot f]
            unfold tot
            rw [List.map_append, List.sum_append]
          refine ⟨_, ?_, fs, l0 ++ kids, tsF, ts' ++ tsK, _, _, _, _, rfl, kG', eF', eW', wF', wl', fun y hy => ?_, ?_, fun b h1 h2 => ?_, hf12, fun y hy => ?_, ?_, rfl, fun r hr => hrun r (.nest rfl he hm (by rw [← hks0]; exact hr))⟩
          · rw [tl, q2]; omega
          · rcases List.mem_append.mp hy with q | q
            · exact hin y (List.mem_append_left _ q)
            · have := bk y.2 (hkid y q).1
              omega
          · rw [tl, ← q1]; omega
          · refine hdeep b h1 fun y hy => ?_
            rcases List.mem_append.mp hy with q | q
            · exact h2 y (List.mem_append_left _ q)
            · obtain ⟨y', h3, h4⟩ := hall m0 hm0
              have h5 := h2 y' (List.mem_append_right _ h3)
              rw [List.mem_singleton.mp q, q4]
              rw [h4, (hkid y' h3).2] at h5
              omega
          · rcases List.mem_append.mp hy with q | q
            · exact hs12 y (List.mem_append_left _ q)
            · obtain ⟨h3, h4⟩ := hkid y q
              have := q3 y.2 h3
              omega
          · rw [tl]; omega
end
end Fs
/-! What is shown of ways and of pairs. -/
namespace Fs
open PySem L2 TL
def Good (n : Nat) (x : WH) : Prop := (∀ a ∈ x.1, a < 6) ∧ x.2 < n
theorem kidsN_good {n : Nat} {w mem : List Nat} (hw : ∀ a ∈ w, a < 6) (h6 : mem.length ≤ 6) (hm : ∀ m ∈ mem, m < n) (hne : mem ≠ []) : ∀ x ∈ kidsN w mem mem.length, Good n x := fun x hx => by
  obtain ⟨j, hj, rfl⟩ := List.mem_map.mp hx
  have hj' := List.mem_range.mp hj
  have hl : mem.length - 1 - j < mem.length := by omega
  refine ⟨fun a ha => ?_, ?_⟩
  · rcases List.mem_append.mp ha with z | z
    · exact hw a z
    · rw [List.mem_singleton.mp z]; omega
  · show mem.getD (mem.length - 1 - j) 0 < n
    rw [List.getD_eq_getElem?_getD, List.getElem?_eq_getElem hl]
    exact hm _ (List.getElem_mem hl)
theorem Run.good {es : List Ent} {f st r : List WH} (h : Run es f st r) (h6 : ∀ e ∈ es, e.mem.length ≤ 6) (hm : ∀ e ∈ es, ∀ m ∈ e.mem, m < es.length) : (∀ x ∈ f, Good es.length x) → (∀ x ∈ st, Good es.length x) → ∀ x ∈ r, Good es.length x := by
  induction h with
  | done => exact fun a _ => a
  | @leaf f st l r x e h1 h2 h3 h4 ih =>
    intro a b
    subst h1
    refine ih (fun y hy => ?_) fun y hy => b y (List.mem_append_left _ hy)
    rcases List.mem_append.mp hy with z | z
    · exact a y z
    · rw [List.mem_singleton.mp z]
      exact b x (List.mem_append_right _ List.mem_cons_self)
  | @nest f st l r x e h1 h2 h3 h4 ih =>
    intro a b
    subst h1
    have he := List.mem_of_getElem? h2
    have bx := b x (List.mem_append_right _ List.mem_cons_self)
    refine ih a fun y hy => ?_
    rcases List.mem_append.mp hy with z | z
    · exact b y (List.mem_append_left _ z)
    · exact kidsN_good bx.1 (h6 e he) (hm e he) h3 y z
theorem ways_ok {n : Nat} {fs : List WH} (hn : n ≤ 100) (hg : ∀ x ∈ fs, Good n x) (hl : ∀ x ∈ fs, x.1.length ≤ 12) (h60 : fs.length ≤ 60) : (waysD fs).showable = true ∧ (waysD fs).hasDict = false ∧ (waysD fs).depth ≤ 60 ∧ (waysD fs).shown.length ≤ sizeLine := by
  have one : ∀ x ∈ fs, (wayD x).showable = true ∧ (wayD x).hasDict = false ∧ (wayD x).depth ≤ 3 ∧ (wayD x).shown.length ≤ 120 := fun x hx => by
    obtain ⟨g1, g2⟩ := hg x hx
    have q := ints_showable (l := x.1) fun k hk => Nat.lt_of_lt_of_le (g1 k hk) (by decide)
    have q2 := ints_deep x.1
    refine ⟨?_, ?_, ?_, ?_⟩
    · simp only [wayD, PyData.showable, PyData.showableAll, q, Bool.and_true, Bool.true_and, decide_eq_true_eq]
      exact log_small (by omega)
    · simp only [wayD, PyData.hasDict, PyData.hasDictAll, ints_nodict, Bool.or_self]
    · simp only [wayD, PyData.depth, PyData.depthAll]
      omega
    · have a1 : (PyData.tuple (x.1.map fun k : Nat => PyData.int (k : Int))).shown.length ≤ 70 := by
        simp only [PyData.shown]
        have h1 := tupleText_len_le (PyData.shownAll (x.1.map fun k : Nat => PyData.int (k : Int)))
        rw [shownAll_map] at h1 ⊢
        have h2 : ∀ l : List Nat, (∀ k ∈ l, k < 6) → ((l.map fun k : Nat => (PyData.int (k : Int)).shown).map (·.length)).sum ≤ l.length * 3 := fun l => by
          induction l with
          | nil => intro _; exact Nat.zero_le _
          | cons k r ih =>
            intro h
            have i1 := ih fun y hy => h y (List.mem_cons_of_mem _ hy)
            have i2 := int_short (k := k) (by have := h k List.mem_cons_self; omega)
            rw [List.map_cons, List.map_cons, List.sum_cons, List.length_cons, Nat.succ_mul]
            omega
        have h3 := h2 x.1 g1
        have h4 := hl x hx
        rw [List.length_map] at h1
        omega
      have a2 := int_short (k := x.2) (by omega)
      unfold wayD
      simp only [PyData.shown]
      have g := tupleText_len_le (PyData.shownAll [.tuple (x.1.map fun k : Nat => PyData.int (k : Int)), .int (x.2 : Int)])
      simp only [PyData.shownAll, List.map_cons, List.map_nil, List.sum_cons, List.sum_nil, List.length_cons, List.length_nil] at g ⊢
      omega
  have h1 : PyData.showableAll (fs.map wayD) = true ∧ PyData.hasDictAll (fs.map wayD) = false ∧ PyData.depthAll (fs.map wayD) ≤ 3 := by
    clear hg hl h60
    induction fs with
    | nil => simp only [List.map_nil, PyData.showableAll, PyData.hasDictAll, PyData.depthAll]; decide
    | cons e r ih =>
      obtain ⟨i1, i2, i3⟩ := ih fun x hx => one x (List.mem_cons_of_mem _ hx)
      obtain ⟨j1, j2, j3, _⟩ := one e List.mem_cons_self
      rw [List.map_cons]
      simp only [PyData.showableAll, PyData.hasDictAll, PyData.depthAll, i1, i2, j1, j2, Bool.and_self, Bool.or_self, true_and]
      omega
  obtain ⟨i1, i2, i3⟩ := h1
  refine ⟨?_, ?_, ?_, ?_⟩
  · simp only [waysD, PyData.showable, i1]
  · simp only [waysD, PyData.hasDict, i2]
  · simp only [waysD, PyData.depth]
    omega
  · simp only [waysD, PyData.shown]
    have g := listText_le (PyData.shownAll (fs.map wayD))
    rw [shownAll_map] at g ⊢
    have g2 := piled_le (ts := fs.map fun x => (wayD x).shown) (n := 120) fun t ht => by
      obtain ⟨e, he, q⟩ := List.mem_map.mp ht
      rw [← q]
      exact (one e he).2.2.2
    rw [List.length_map] at g2
    have g3 : fs.length * (120 + 2) ≤ 60 * 122 := Nat.mul_le_mul_right 122 h60
    exact Nat.le_trans (by omega : _ ≤ 8000) (by decide)
end Fs
/-! Whether a thing is a whole number; where a way leads. -/
namespace Fs
open PySem L2 TL
/-- a thing of one of these six types -/
def Six (K : PySem.W.Frag) (H : Hp) (v : V) (t : String) : Prop := TyX K H v (.type t) ∧ (t = "int" ∨ t = "bool" ∨ t = "str" ∨ t = "NoneType" ∨ t = "tuple" ∨ t = "list")
def spWholeG (K : PySem.W.Frag) : Sp := fun vs H Q _ => ∃ (v : V) (t : String), vs = [v] ∧ Six K H v t ∧ Q (.bl (decide (t = "int"))) H
section
variable {P : Program} {w : World} {K : PySem.W.Frag} {mg : Str → Option Value} {base : Heap}
theorem ok_wholeG {f : Addr} {fd : FuncData} (F : Fun K "is_whole" "is_whole" sWhole f fd) (mI : mg "isinstance" = none) (mT : mg "int" = none) (mB : mg "bool" = none) : FnOk P w K mg base CX0 1 f fd ["thing"] (spWholeG K) := by
  refine F.ok scWhole (fun vs H Q E h => ?_) (fun cdv A outer s H vs Q E hr h => ?_)
  · obtain ⟨v, t, rfl, _⟩ := h
    rfl
  · obtain ⟨v, t, rfl, ⟨ty, ht⟩, kk⟩ := h
    refine ⟨_, pss_one (ps_ret (pe_and (pe_callB call_isi (by rfl) mI (by decide +kernel) (pa_cons (pv 0) (pa_cons (pe_bltn (v := .ty "int") (u := .type "int") (by rfl) mT (by decide +kernel) rfl) pa_nil)))
      (pe_one (pe_not (pe_callB call_isi (by rfl) mI (by decide +kernel) (pa_cons (pv 0) (pa_cons (pe_bltn (v := .ty "bool") (u := .type "bool") (by rfl) mB (by decide +kernel) rfl) pa_nil))))))), ?_⟩
    rcases ht with rfl | rfl | rfl | rfl | rfl | rfl
    · refine ⟨_, rfl, _, _, _, _, _, rfl, .ty "int", ty, kit_ty (r := true) (by decide +kernel), true, rfl, iteT ?_⟩
      exact ⟨_, rfl, _, _, _, _, _, rfl, .ty "bool", ty, kit_ty (r := false) (by decide +kernel), false, rfl, kk⟩
    · refine ⟨_, rfl, _, _, _, _, _, rfl, .ty "int", ty, kit_ty (r := true) (by decide +kernel), true, rfl, iteT ?_⟩
      exact ⟨_, rfl, _, _, _, _, _, rfl, .ty "bool", ty, kit_ty (r := true) (by decide +kernel), true, rfl, kk⟩
    · exact ⟨_, rfl, _, _, _, _, _, rfl, .ty "int", ty, kit_ty (r := false) (by decide +kernel), false, rfl, iteF kk⟩
    · exact ⟨_, rfl, _, _, _, _, _, rfl, .ty "int", ty, kit_ty (r := false) (by decide +kernel), false, rfl, iteF kk⟩
    · exact ⟨_, rfl, _, _, _, _, _, rfl, .ty "int", ty, kit_ty (r := false) (by decide +kernel), false, rfl, iteF kk⟩
    · exact ⟨_, rfl, _, _, _, _, _, rfl, .ty "int", ty, kit_ty (r := false) (by decide +kernel), false, rfl, iteF kk⟩
end
/-- a place in a way -/
inductive Pl where
  | int (i : Int)
  | odd
def plOk (K : PySem.W.Frag) (H : Hp) (v : V) : Pl → Prop
  | .int i => v = .int i
  | .odd => ∃ t, Six K H v t ∧ t ≠ "int"
/-- one step -/
def stp (es : List Ent) (n : Nat) : Pl → Option Nat
  | .int i => if 0 ≤ i ∧ i < ((es.getD n ⟨sF, sF, [], [], none, none⟩).mem.length : Int) then (es.getD n ⟨sF, sF, [], [], none, none⟩).mem[i.toNat]? else none
  | .odd => none
def goes (es : List Ent) : Nat → List Pl → Option Nat
  | n, [] => some n
  | n, p :: r => match stp es n p with
    | some m => goes es m r
    | none => none
end Fs
/-! Where a way leads, by the program. -/
namespace Fs
open PySem L2 TL
abbrev sLed : Stmt := inClass cLed 15
abbrev nLed : List Str := ["self", "k", "way", "number", "place", "members"]
theorem scLed : FnScope nLed ["self", "k", "way"] (defScope sLed) := ⟨rfl, rfl, rfl, by decide +kernel, rfl, by decide +kernel, by decide +kernel⟩
structure NWx (K : PySem.W.Frag) (mg : Str → Option Value) (CN : Addr) : Prop where
  gN : mg "NoWay" = some (.ref CN)
  xN : PySem.W.excIn K CN [.type "ValueError", .type "Exception", .type "BaseException", .type "object"] "ValueError.__new__" = true
  kN : PySem.W.keepIn K (.ref CN) = true
  bN : PySem.W.subIn K (.ref CN) (.type "BaseException") = some true
  tN : PySem.W.typeIn K (.ref CN) = some (.type "type")
def PlsOk (K : PySem.W.Frag) (H : Hp) : List V → List Pl → Prop
  | [], [] => True
  | v :: vs, p :: ps => plOk K H v p ∧ PlsOk K H vs ps
  | _, _ => False
theorem PlsOk.len {K : PySem.W.Frag} {H : Hp} : ∀ {vs : List V} {ps : List Pl}, PlsOk K H vs ps → vs.length = ps.length
  | [], [], _ => rfl
  | _ :: _, _ :: _, h => by rw [List.length_cons, List.length_cons, PlsOk.len h.2]
  | [], _ :: _, h => h.elim
  | _ :: _, [], h => h.elim
theorem PlsOk.at {K : PySem.W.Frag} {H : Hp} : ∀ {vs : List V} {ps : List Pl} {i : Nat} {v : V}, PlsOk K H vs ps → vs[i]? = some v → ∃ p, ps[i]? = some p ∧ plOk K H v p
  | [], _, _, _, _, e => by simp at e
  | _ :: _, [], _, _, h, _ => h.elim
  | a :: vs, p :: ps, 0, v, h, e => by
    have e' : a = v := by simpa using e
    subst e'
    exact ⟨p, rfl, h.1⟩
  | a :: vs, p :: ps, i + 1, v, h, e => PlsOk.at (i := i) h.2 (by simpa using e)
theorem goes_drop {es : List Ent} {n : Nat} {ps : List Pl} {i : Nat} {p : Pl} (h : ps[i]? = some p) : goes es n (ps.drop i) = match stp es n p with
    | some m => goes es m (ps.drop (i + 1))
    | none => none := by
  have hi := (List.getElem?_eq_some_iff.mp h).1
  rw [List.drop_eq_getElem_cons hi, (List.getElem?_eq_some_iff.mp h).2]
  rfl
def spLed (K : PySem.W.Frag) (C CN : Addr) : Sp := fun vs H Q E => ∃ (p : Addr) (A : LA) (ms ns : List Addr) (es : List Ent) (k : Nat) (W : V), vs = [.ref p, .int (k : Int), W] ∧ LedAt C H p A ms ns es ∧ k < es.length ∧ (∀ e ∈ es, ∀ m ∈ e.mem, m < es.length) ∧ (∀ e ∈ es, e.mem.length ≤ 6) ∧
  ((∃ (a : Addr) (ys : List V) (ps : List Pl), W = .ref a ∧ H a = some (.tup ys) ∧ PlsOk K H ys ps ∧ (∀ n, n < es.length → goes es k ps = some n → Q (.int (n : Int)) H) ∧ (goes es k ps = none → E (.ref CN) none H)) ∨ (∃ t, Six K H W t ∧ t ≠ "tuple" ∧ E (.ref CN) none H))
section
variable {P : Program} {w : World} {K : PySem.W.Frag} {mg : Str → Option Value} {base : Heap} {C CN fA fCF fCT fCM fW : Addr}
theorem ok_led {f : Addr} {fd fdF fdW : FuncData} (F : Fun K "led" "Ledger.led" sLed f fd) (T : LTxt K mg C fA fCF fCT fCM) (N : NWx K mg CN) (FF : FnOk P w K mg base CX0 2 fCF fdF ["self", "k"] (spChkF C)) (bF : Binds K fdF ["self", "k"] []) (FW : FnOk P w K mg base CX0 1 fW fdW ["thing"] (spWholeG K)) (mW : mg "is_whole" = some (.ref fW)) (kW : PySem.W.keepIn K (.ref fW) = true) (bW : Binds K fdW ["thing"] []) (mI : mg "isinstance" = none) :
    FnOk P w K mg base (L2.CX P w) 3 f fd ["self", "k", "way"] (spLed K C CN) := by
  refine F.okX scLed (fun vs H Q E h => ?_) (fun cdv A0 outer s H vs Q E hr h => ?_)
  · obtain ⟨p, A, ms, ns, es, k, W, rfl, _⟩ := h
    rfl
  · obtain ⟨p, A, ms, ns, es, k, W, rfl, hL, hk, inn, six, hW⟩ := h
    have hr1 : Room 1 _ := hr.mono (by decide)
    refine ⟨_, pss_cons (ps_expr (pe_meth (pv 0) T.cl T.mF FF hr bF .nil pass0 (pa_cons (pv 1) pa_nil)))
      (pss_cons (ps_if (pt_not (pt_val (pe_callB call_isi (by rfl) mI (by decide +kernel) (pa_cons (pv 2) (pa_cons (pe_bltn (v := .ty "tuple") (u := .type "tuple") (by rfl) T.tup (by decide +kernel) rfl) pa_nil))))) (pss_one (ps_raise rfl (takes_of rfl rfl rfl rfl) (pmk_own PySem.F.excBase_ValueError N.xN N.gN N.kN (raises_own N.bN N.tN) (by exact rfl)))) pss_nil)
      (pss_cons (ps_set (i := 3) scLed.nd rfl (Or.inl rfl) (pv 1))
      (pss_cons (ps_for (passes_of rfl) rfl (pi_tup (pv 2)) (pg_name (i := 4) scLed.nd rfl (Or.inl rfl))
        (pss_cons (ps_set (i := 5) scLed.nd rfl (Or.inl rfl) (pe_ix ix_list (pe_fld (pv 0) rfl) (pv 3) (fun _ _ => rfl)))
        (pss_cons (ps_if (PW.pt (pw_or (pt_not (pt_val (pe_call FW hr1 rfl mW kW bW .nil pass0 (pa_cons (pv 4) pa_nil)))) (pw_or1 (pt_not (pt_chain op_le op_lt pe_int (pv 4) (pe_callB call_len_seq (by rfl) T.len PySem.boot_len (pa_cons (pv 5) pa_nil))))))) (pss_one (ps_raise rfl (takes_of rfl rfl rfl rfl) (pmk_own PySem.F.excBase_ValueError N.xN N.gN N.kN (raises_own N.bN N.tN) (by exact rfl)))) pss_nil)
        (pss_one (ps_set (i := 3) scLed.nd rfl (Or.inl rfl) (pe_ix ix_tup (pv 5) (pv 4) (fun _ _ => rfl)))))))
      (pss_one (ps_ret (pv 3)))))), ?_⟩
    refine ⟨_, rfl, p, A.dx, _, rfl, hL.ins, flno A, _, rfl, p, A, ms, ns, es, k, rfl, hL, hk, ?_⟩
    rcases hW with ⟨a, ys, ps, rfl, ea, pk, kq, ke⟩ | ⟨t, ⟨ty, ht⟩, hne, ke⟩
    · refine ⟨_, rfl, _, _, _, _, _, rfl, .ty "tuple", .base (.tup ea), kit_ty (r := true) (by decide +kernel), true, rfl, iteF ?_⟩
      refine ⟨_, rfl, ?_⟩
      refine ⟨_, rfl, a, rfl, ⟨_, SqT.of ea⟩, ?_⟩
      refine for_tup (K := K) (a := a) (xs := ys) (fun i σ H' => H' = H ∧ ∃ (n : Nat) (v4 v5 : Option V), σ = [some (.ref p), some (.int (k : Int)), some (.ref a), some (.int (n : Int)), v4, v5] ∧ n < es.length ∧ goes es n (ps.drop i) = goes es k ps)
        ⟨rfl, k, none, none, rfl, hk, rfl⟩ (fun i σ H' _ hI => by rw [hI.1]; exact SqT.of ea) ?_ ?_
      · rintro i v σ H' hv ⟨rfl, n, v4, v5, rfl, hn, hg⟩
        obtain ⟨pl, hpl, ok⟩ := pk.at hv
        rw [goes_drop hpl] at hg
        have he := List.getElem?_eq_getElem hn
        generalize hee : es[n] = e at he
        have hgd : es.getD n ⟨sF, sF, [], [], none, none⟩ = e := by rw [List.getD_eq_getElem?_getD, he]; rfl
        have hem := List.mem_of_getElem? he
        obtain ⟨mm, hq, g5⟩ := hL.mems.at he
        refine ⟨_, rfl, p, C, A.dx, _, _, rfl, hL.ins, T.cl, T.n3, fl3 A, _, rfl, A.l3, _, _, V.ref mm, rfl, rfl, SqL.of hL.h3, atI_nat (by rw [List.getElem?_map, hq]; rfl), ?_⟩
        cases pl with
        | odd =>
          obtain ⟨t, s6, hti⟩ := ok
          refine ⟨_, rfl, v, t, rfl, s6, false, by rw [decide_eq_false hti], iteT ?_⟩
          exact ke hg.symm
        | int j =>
          have ev : v = .int j := ok
          subst ev
          refine ⟨_, rfl, .int j, "int", rfl, ⟨.base (.int j), .inl rfl⟩, true, rfl, iteF ?_⟩
          refine ⟨_, rfl, _, _, rfl, rfl, _, rfl, ?_⟩
          by_cases h0 : 0 ≤ j
          · rw [decide_eq_true h0]
            refine iteT ⟨_, rfl, mm, _, rfl, .inr (SqT.of g5), _, _, rfl, rfl, _, rfl, ?_⟩
            rw [List.length_map]
            by_cases h1 : j < (e.mem.length : Int)
            · rw [decide_eq_true h1]
              refine iteF ?_
              have hjl : j.toNat < e.mem.length := by omega
              have hm := List.getElem?_eq_getElem hjl
              generalize e.mem[j.toNat] = m at hm
              have hst : stp es n (.int j) = some m := by
                simp only [stp, hgd]
                rw [if_pos ⟨h0, h1⟩, hm]
              rw [hst] at hg
              have hj : ((j.toNat : Nat) : Int) = j := Int.toNat_of_nonneg h0
              exact ⟨_, rfl, _, rfl, mm, _, j, V.int (m : Int), rfl, rfl, SqT.of g5, by rw [← hj]; exact atI_nat (by rw [List.getElem?_map, hm]; rfl), rfl, m, _, _, rfl, inn e hem m (List.mem_of_getElem? hm), hg⟩
            · rw [decide_eq_false h1]
              refine iteT ?_
              have hst : stp es n (.int j) = none := by
                simp only [stp, hgd]
                rw [if_neg (fun z => h1 z.2)]
              rw [hst] at hg
              exact ke hg.symm
          · rw [decide_eq_false h0]
            have hst : stp es n (.int j) = none := by
              simp only [stp]
              rw [if_neg (fun z => h0 z.1)]
            rw [hst] at hg
            exact iteF ⟨false, rfl, iteT (ke hg.symm)⟩
      · rintro σ H' ⟨rfl, n, v4, v5, rfl, hn, hg⟩
        have el : ps.drop ys.length = [] := by rw [pk.len]; exact List.drop_length
        rw [el] at hg
        exact ⟨_, rfl, kq n hn hg.symm⟩
    · have kf : PySem.W.kitOne K (.type t) (.type "tuple") = some false := by
        rcases ht with rfl | rfl | rfl | rfl | rfl | rfl
        · exact kit_ty (by decide +kernel)
        · exact kit_ty (by decide +kernel)
        · exact kit_ty (by decide +kernel)
        · exact kit_ty (by decide +kernel)
        · exact absurd rfl hne
        · exact kit_ty (by decide +kernel)
      exact ⟨_, rfl, _, _, _, _, _, rfl, .ty "tuple", ty, kf, false, rfl, iteT ke⟩
end
end Fs
/-! Of which class a caught error is, among several. -/
namespace Fs
open PySem L2 TL
def rIsET (K : PySem.W.Frag) (D a : Addr) : List V → Hp → VK → Prop := fun xs H Q => ∃ (tp : Addr) (cs : List V) (us : List Value) (b : Bool), xs = [.ref a, .ref tp] ∧ H tp = some (.tup cs) ∧ Paired ClsV cs us ∧ PySem.W.kitAny K (.ref D) us = some b ∧ Q (.bl b) H
theorem call_isET {X : Cx} {a D : Addr} {oe : Obj} {pn : List (Addr × Obj)} (C : ExcC X.K D) (hz : Zc (.ref D) none oe) (hf : ∃ vs, oe.data = .fields vs) : CallR (X.suite a ((a, oe) :: pn)) (.builtin "isinstance") (rIsET X.K D a) := by
  intro pins s σ H xs us Q I r h
  obtain ⟨tp, cs, ws, b, rfl, hT, k, e, q⟩ := h
  obtain ⟨u1, u2, rfl, r1, r2⟩ := vals2 r
  cases (show u2 = Value.ref tp from r2)
  cases (show u1 = Value.ref a from r1)
  obtain ⟨hget, _⟩ := I.pin (a, oe) (List.mem_append.mpr (.inl List.mem_cons_self))
  obtain ⟨vs, hv⟩ := hf
  have J : PySem.W.InstAt s.heap a oe D none := by
    obtain ⟨oc, od, oda, osl⟩ := oe
    obtain ⟨h1, h2⟩ := hz
    dsimp only at h1 h2 hv
    subst h1 h2 hv
    exact ⟨hget, rfl, rfl, trivial⟩
  obtain ⟨_, its, rv, o, h1, h2, n, h3⟩ := (show ObjOk X.prog X.w H s.heap tp (.tup cs) from I.hok tp _ hT)
  have e3 := ClsV.all k rv
  subst e3
  obtain ⟨oc, od, dt, sl⟩ := o
  simp only at h2 h3
  subst h2 h3
  exact PySem.W.kia_tup (PySem.W.handS_kitx_exc C.hg C.hk C.hs C.hd C.ha C.hn C.ht C.hm) I.kIn J h1 e (fun z => nomatch z) fun tk => ⟨.bl b, H, I.kept (t' := tk) fun _ _ z => z, rfl, q⟩
end Fs
/-! A way, asked by the law. -/
namespace Fs
open PySem L2 TL
def rIsEG (K : PySem.W.Frag) (cls : Value) (d : Option Addr) (a : Addr) : List V → Hp → VK → Prop := fun xs H Q => ∃ D, cls = .ref D ∧ d = none ∧ ExcC K D ∧ rIsE K D a xs H Q
theorem call_isEG {X : Cx} {a : Addr} {cls : Value} {d : Option Addr} {oe : Obj} {pn : List (Addr × Obj)} (hz : Zc cls d oe) (hf : ∃ vs, oe.data = .fields vs) : CallR (X.suite a ((a, oe) :: pn)) (.builtin "isinstance") (rIsEG X.K cls d a) := by
  intro pins s σ H xs us Q I r h
  obtain ⟨D, rfl, rfl, C, q⟩ := h
  exact call_isE C hz hf pins s σ H xs us Q I r q
def rIsETG (K : PySem.W.Frag) (cls : Value) (d : Option Addr) (a : Addr) : List V → Hp → VK → Prop := fun xs H Q => ∃ D, cls = .ref D ∧ d = none ∧ ExcC K D ∧ rIsET K D a xs H Q
theorem call_isETG {X : Cx} {a : Addr} {cls : Value} {d : Option Addr} {oe : Obj} {pn : List (Addr × Obj)} (hz : Zc cls d oe) (hf : ∃ vs, oe.data = .fields vs) : CallR (X.suite a ((a, oe) :: pn)) (.builtin "isinstance") (rIsETG X.K cls d a) := by
  intro pins s σ H xs us Q I r h
  obtain ⟨D, rfl, rfl, C, q⟩ := h
  exact call_isET C hz hf pins s σ H xs us Q I r q
/-- a method that may raise, called within a try: what leaves is wished for where the slots stand -/
def tMethE (C : Addr) (m : Str) (sp : Sp) (E : L2.St → XK) (ta : TE) (t : TA) : TE := fun σ H Q => ta σ H fun y G => ∃ q dx gs, y = .ref q ∧ G q = some (.ins C dx gs) ∧ gs.lookup m = none ∧ t σ G fun ws G2 => sp (y :: ws) G2 Q (E σ)
theorem pe_methE {X : Cx} {CX : CXT} {k : Nat} {g C : Addr} {gd : FuncData} {ns : List Str} {sp : Sp} {E : L2.St → XK} {m : Str} {pos apos : Pos} {e o : Expr} {es : List Expr} {ta : TE} {t : TA} {pl : Sem Bool} (ho : PE X o ta) (cl : Cls X.K C) (mm : Meth X.K C m g)
    (G : FnOk X.prog X.w X.K X.mg X.base CX k g gd ns sp) (room : Room k X.A) (bi : Binds X.K gd ns []) (out : ∀ σ, PassesAt CX X σ (E σ)) (args : PA X (e :: es) t)
    (h1 : starEach (e :: es) X.env = (false, eval e X.env) :: starEach es X.env := by rfl) (h2 : (backTo pos (starEach es X.env)).any (·.1) = false := by rfl)
    (h3 : eval (.Call (.Attribute o m apos) (e :: es) [] pos) X.env = (do
      let obj ← eval o X.env
      standAt apos.atName
      let (fn, fst) ← holding [obj] (getMethod obj m pl)
      callWith pos fn fst (backTo pos (starEach (e :: es) X.env)) (backToKw pos (keywordEach [] X.env))) := by rfl) :
    PE X (.Call (.Attribute o m apos) (e :: es) [] pos) (tMethE C m sp E ta t) := ⟨fun pins s σ H Q I h => by
  refine PySem.W.methodCall_KW (pl := pl) (thn (ho.run pins s σ H _ I h) fun u s1 ⟨y, H1, I1, ry, q, dx, gs, ey, eq, l, z⟩ => ?_) h3
  subst ey
  cases (show u = Value.ref q from ry)
  refine getmeth_ok I1 eq cl mm l (PySem.W.callWith_K (first := [.ref q]) (h₀ := X.base) I.ok.mod.kin mm.kp (thn (args.run pos pins s1 σ H1 _ I1 z) fun us s2 ⟨ws, H2, I2, r, z2⟩ => ⟨I2.kIn, ?_⟩) h1 h2)
  exact run_fnS (us := .ref q :: us) (vs := .ref q :: ws) G room bi (out σ) I2 (.cons rfl r) z2⟩
abbrev sLdl : Stmt := top 30
abbrev nLdl : List Str := ["_law_ledger_here", "_law_k", "_law_way", "_law_found", "e", "_law_others"]
theorem scLdl : FnScope nLdl ["_law_ledger_here", "_law_k", "_law_way"] (defScope sLdl) := ⟨rfl, rfl, rfl, by decide +kernel, rfl, by decide +kernel, by decide +kernel⟩
structure EXx (K : PySem.W.Frag) (mg : Str → Option Value) (CN CF C1 C2 C3 C4 C5 : Addr) : Prop where
  gN : mg "NoWay" = some (.ref CN)
  gF : mg "FaultError" = some (.ref CF)
  g1 : mg "Empty" = some (.ref C1)
  g2 : mg "NoFault" = some (.ref C2)
  g3 : mg "NoKind" = some (.ref C3)
  g4 : mg "NoTest" = some (.ref C4)
  g5 : mg "NoText" = some (.ref C5)
  eF : PySem.W.exmOne K (.ref CN) (.ref CF) = some true
  exc : ExcC K CN
  no : PySem.W.kitAny K (.ref CN) [.ref C1, .ref C2, .ref C3, .ref C4, .ref C5] = some false
  own : PySem.W.kitOne K (.ref CN) (.ref CN) = some true
  val : PySem.W.kitOne K (.ref CN) (.type "ValueError") = some true
def spLdl (K : PySem.W.Frag) (C : Addr) : Sp := fun vs H Q _ => ∃ (p : Addr) (A : LA) (ms ns : List Addr) (es : List Ent) (k : Nat) (W : V), vs = [.ref p, .int (k : Int), W] ∧ LedAt C H p A ms ns es ∧ k < es.length ∧ (∀ e ∈ es, ∀ m ∈ e.mem, m < es.length) ∧ (∀ e ∈ es, e.mem.length ≤ 6) ∧
  ∃ r : Option Nat, ((∃ (a : Addr) (ys : List V) (ps : List Pl), W = .ref a ∧ H a = some (.tup ys) ∧ PlsOk K H ys ps ∧ goes es k ps = r) ∨ (∃ t, Six K H W t ∧ t ≠ "tuple" ∧ r = none)) ∧
  (∀ (n : Nat) (H' : Hp) (t : Addr), r = some n → n < es.length → Keep [] H H' → H t = none → H' t = some (.tup [.str "led", .int (n : Int)]) → Q (.ref t) H') ∧
  (∀ (H' : Hp) (t : Addr), r = none → Keep [] H H' → H t = none → H' t = some (.tup [.str "refused", .bl true]) → Q (.ref t) H')
theorem tyx_keep {K : PySem.W.Frag} {H H' : Hp} {v : V} {u : Value} (h : TyX K H v u) (k : Keep [] H H') : TyX K H' v u := by
  cases h with
  | base h =>
    cases h with
    | non => exact .base .non
    | bl x => exact .base (.bl x)
    | int x => exact .base (.int x)
    | str x => exact .base (.str x)
    | flt x => exact .base (.flt x)
    | lst e => exact .base (.lst (k.at e nin0))
    | frz e => exact .base (.frz (k.at e nin0))
    | tup e => exact .base (.tup (k.at e nin0))
    | dK e => exact .base (.dK (k.at e nin0))
    | dT e => exact .base (.dT (k.at e nin0))
    | ins e a b c d f => exact .base (.ins (k.at e nin0) a b c d f)
  | byt b => exact .byt b
  | set e => exact .set (k.at e nin0)
  | kList e c => exact .kList e c
  | kTuple e c => exact .kTuple e c
  | kDict e c => exact .kDict e c
  | fTuple e => exact .fTuple (k.at e nin0)
  | fDict e => exact .fDict (k.at e nin0)
theorem Six.keep {K : PySem.W.Frag} {H H' : Hp} {v : V} {t : String} (h : Six K H v t) (k : Keep [] H H') : Six K H' v t := ⟨tyx_keep h.1 k, h.2⟩
theorem PlsOk.keep {K : PySem.W.Frag} {H H' : Hp} (k : Keep [] H H') : ∀ {vs : List V} {ps : List Pl}, PlsOk K H vs ps → PlsOk K H' vs ps
  | [], [], _ => True.intro
  | v :: _, .int i :: _, h => ⟨h.1, PlsOk.keep k h.2⟩
  | v :: _, .odd :: _, h => ⟨(by obtain ⟨t, a, b⟩ := h.1; exact ⟨t, a.keep k, b⟩), PlsOk.keep k h.2⟩
  | [], _ :: _, h => h.elim
  | _ :: _, [], h => h.elim
theorem fled (A : LA) : (fldsL A).lookup ("led" : Str) = none := rfl
theorem led_of {K : PySem.W.Frag} {CN : Addr} {es : List Ent} {k : Nat} {W : V} {H : Hp} {Q : VK} {E : XK} {r : Option Nat} (hW : (∃ (a : Addr) (ys : List V) (ps : List Pl), W = .ref a ∧ H a = some (.tup ys) ∧ PlsOk K H ys ps ∧ goes es k ps = r) ∨ (∃ t, Six K H W t ∧ t ≠ "tuple" ∧ r = none))
    (he : r = none → E (.ref CN) none H) (hq : ∀ n, n < es.length → r = some n → Q (.int (n : Int)) H) :
    (∃ (a : Addr) (ys : List V) (ps : List Pl), W = .ref a ∧ H a = some (.tup ys) ∧ PlsOk K H ys ps ∧ (∀ n, n < es.length → goes es k ps = some n → Q (.int (n : Int)) H) ∧ (goes es k ps = none → E (.ref CN) none H)) ∨ (∃ t, Six K H W t ∧ t ≠ "tuple" ∧ E (.ref CN) none H) := by
  rcases hW with ⟨a, ys, ps, h1, h2, h3, h4⟩ | ⟨t, h1, h2, h3⟩
  · exact .inl ⟨a, ys, ps, h1, h2, h3, fun n hn g => hq n hn (h4.symm.trans g), fun g => he (h4.symm.trans g)⟩
  · exact .inr ⟨t, h1, h2, he h3⟩
theorem led_sp {K : PySem.W.Frag} {C CN p : Addr} {A : LA} {ms ns : List Addr} {es : List Ent} {k : Nat} {W : V} {H : Hp} {Q : VK} {E : XK} {r : Option Nat} (hL : LedAt C H p A ms ns es) (hk : k < es.length) (inn : ∀ e ∈ es, ∀ m ∈ e.mem, m < es.length) (six : ∀ e ∈ es, e.mem.length ≤ 6) (hW : (∃ (a : Addr) (ys : List V) (ps : List Pl), W = .ref a ∧ H a = some (.tup ys) ∧ PlsOk K H ys ps ∧ goes es k ps = r) ∨ (∃ t, Six K H W t ∧ t ≠ "tuple" ∧ r = none))
    (he : r = none → E (.ref CN) none H) (hq : ∀ n, n < es.length → r = some n → Q (.int (n : Int)) H) : spLed K C CN [.ref p, .int (k : Int), W] H Q E := ⟨p, A, ms, ns, es, k, W, rfl, hL, hk, inn, six, led_of hW he hq⟩
section
variable {P : Program} {w : World} {K : PySem.W.Frag} {mg : Str → Option Value} {base : Heap} {C CN CF C1 C2 C3 C4 C5 fL : Addr}
theorem ok_ldl {f : Addr} {fd dL : FuncData} (F : Fun K "_law_led" "_law_led" sLdl f fd) (cl : Cls K C) (mL : Meth K C "led" fL) (T : EXx K mg CN CF C1 C2 C3 C4 C5) (FL : FnOk P w K mg base (L2.CX P w) 3 fL dL ["self", "k", "way"] (spLed K C CN)) (bL : Binds K dL ["self", "k", "way"] []) (mI : mg "isinstance" = none) (mV : mg "ValueError" = none) :
    FnOk P w K mg base CX0 4 f fd ["_law_ledger_here", "_law_k", "_law_way"] (spLdl K C) := by
  refine F.ok scLdl (fun vs H Q E h => ?_) (fun cdv A0 outer s H vs Q Es hr h => ?_)
  · obtain ⟨p, A, ms, ns, es, k, W, rfl, _⟩ := h
    rfl
  · obtain ⟨p, A, ms, ns, es, k, W, rfl, hL, hk, inn, six, r, hW, kq, ke⟩ := h
    refine ⟨_, pss_cons (ps_set (i := 3) scLdl.nd rfl (Or.inl rfl) (pe_tup (pa_cons pe_str (pa_cons pe_bl pa_nil))))
      (pss_cons (ps_try_as (i := 4) (tb := fun W => tAsg (tTup (tCons (tC (.str "led")) (tCons (tMethE C "led" (spLed K C CN) (WE W) (tVar 0) (tCons (tVar 1) (tCons (tVar 2) tNil))) tNil))) (gName 3)) (Wout := fun _ _ _ _ => False) rfl rfl scLdl.nd rfl rfl ⟨rfl, by decide, Or.inl T.gF⟩ takes0
        (fun W pn xe tk _ => pss_one (ps_set (i := 3) scLdl.nd rfl (Or.inl rfl) (pe_tup (pa_cons pe_str (pa_cons (pe_methE (pv 0) cl mL FL hr bL (fun σ => passAt tk σ) (by exact (pa_cons (pv 1) (pa_cons (pv 2) pa_nil)))) pa_nil)))))
        (fun a oe cls d pn hz hf => pss_cons (ps_set (i := 5) scLdl.nd rfl (Or.inl rfl) (pe_callB (call_isETG hz hf) (by rfl) mI (by decide +kernel) (pa_cons (pv 4) (pa_cons (pe_tup (pa_cons (pe_glob (v := .ref C1) rfl T.g1 rfl) (pa_cons (pe_glob (v := .ref C2) rfl T.g2 rfl) (pa_cons (pe_glob (v := .ref C3) rfl T.g3 rfl) (pa_cons (pe_glob (v := .ref C4) rfl T.g4 rfl) (pa_cons (pe_glob (v := .ref C5) rfl T.g5 rfl) pa_nil)))))) pa_nil))))
          (pss_one (ps_set (i := 3) scLdl.nd rfl (Or.inl rfl) (pe_tup (pa_cons pe_str (pa_cons (pe_and (pe_callB (call_isEG hz hf) (by rfl) mI (by decide +kernel) (pa_cons (pv 4) (pa_cons (pe_glob (v := .ref CN) rfl T.gN rfl) pa_nil))) (pe_and (pe_not (pv 5)) (pe_one (pe_callB (call_isEG hz hf) (by rfl) mI (by decide +kernel) (pa_cons (pv 4) (pa_cons (pe_bltn (v := .ty "ValueError") (u := .type "ValueError") (by rfl) mV (by decide +kernel) rfl) pa_nil)))))) pa_nil)))))))
      (pss_one (ps_ret (pv 3)))), ?_⟩
    refine ⟨(by show 2 ≤ sizeLine; decide), fun t0 ht0 => ?_⟩
    have k1 : Keep [] H (upd H t0 (.tup [.str "refused", .bl false])) := Keep.new ht0
    generalize (upd H t0 (.tup [.str "refused", .bl false])) = H1 at k1 ⊢
    have hL1 := hL.keep k1 (fun b z => absurd z nin0) (fun b z => absurd z nin0)
    have hW1 : (∃ (a : Addr) (ys : List V) (ps : List Pl), W = .ref a ∧ H1 a = some (.tup ys) ∧ PlsOk K H1 ys ps ∧ goes es k ps = r) ∨ (∃ t, Six K H1 W t ∧ t ≠ "tuple" ∧ r = none) := by
      rcases hW with ⟨a, ys, ps, h1, h2, h3, h4⟩ | ⟨t, h1, h2, h3⟩
      · exact .inl ⟨a, ys, ps, h1, k1.at h2 nin0, h3.keep k1, h4⟩
      · exact .inr ⟨t, h1.keep k1, h2, h3⟩
    refine ⟨_, rfl, p, A.dx, _, rfl, hL1.ins, fled A, _, rfl, _, rfl, ?_⟩
    dsimp only [tNil]
    refine led_sp hL1 hk inn six hW1 (fun hr0 => ?_) (fun n hn hr0 => ?_)
    · -- refused
      refine ⟨true, T.eF, fun _ b hb => ?_, fun q => nomatch q⟩
      refine ⟨_, rfl, (by show 5 ≤ sizeLine; decide), fun tp htp => ?_⟩
      refine ⟨CN, rfl, rfl, T.exc, tp, _, [.ref C1, .ref C2, .ref C3, .ref C4, .ref C5], false, rfl, upd_same, .cons (.own _) (.cons (.own _) (.cons (.own _) (.cons (.own _) (.cons (.own _) .nil)))), T.no, ?_⟩
      have k2 : Keep [] H1 (upd H1 tp (.tup [.ref C1, .ref C2, .ref C3, .ref C4, .ref C5])) := Keep.new htp
      generalize (upd H1 tp (.tup [.ref C1, .ref C2, .ref C3, .ref C4, .ref C5])) = H2 at k2 ⊢
      refine ⟨_, rfl, CN, rfl, rfl, T.exc, .ref CN, .ref CN, true, rfl, (fun u q => q), T.own, true, rfl, iteT ?_⟩
      refine ⟨_, rfl, false, rfl, true, rfl, iteT ?_⟩
      refine ⟨_, rfl, CN, rfl, rfl, T.exc, .ty "ValueError", .type "ValueError", true, rfl, (fun u q => q), T.val, ?_⟩
      refine ⟨(by show 2 ≤ sizeLine; decide), fun t ht => ?_⟩
      exact ⟨_, rfl, ke _ t hr0 ((k1.trans k2).newTo ht) (Keep.free (k1.trans k2) ht nin0) upd_same⟩
    · -- led
      refine ⟨(by show 2 ≤ sizeLine; decide), fun t ht => ?_⟩
      exact ⟨_, rfl, kq n _ t hr0 hn (k1.newTo ht) (Keep.free k1 ht nin0) upd_same⟩
end
end Fs
/-! A way that the law walks. -/
namespace Fs
open PySem L2 TL
abbrev sWk : Stmt := top 28
abbrev nWk : List Str := ["_law_pot_here", "_law_entries_here", "_law_k", "_law_way", "_law_here", "_law_turn", "_law_members", "_law_place"]
theorem scWk : FnScope nWk ["_law_pot_here", "_law_entries_here", "_law_k"] (defScope sWk) := ⟨rfl, rfl, rfl, by decide +kernel, rfl, by decide +kernel, by decide +kernel⟩
def plI (w : List Nat) : List Pl := w.map fun k : Nat => Pl.int (k : Int)
theorem goes_app {es : List Ent} : ∀ {ps : List Pl} {n m : Nat} {q : Pl}, goes es n ps = some m → goes es n (ps ++ [q]) = stp es m q
  | [], n, m, q, h => by
    have e : n = m := Option.some.inj h
    subst e
    show (match stp es n q with | some m => goes es m [] | none => none) = stp es n q
    cases stp es n q <;> rfl
  | p :: r, n, m, q, h => by
    show (match stp es n p with | some m => goes es m (r ++ [q]) | none => none) = stp es m q
    have h' : (match stp es n p with | some m => goes es m r | none => none) = some m := h
    cases e : stp es n p with
    | none => rw [e] at h'; cases h'
    | some x =>
      rw [e] at h'
      exact goes_app h'
def spWk : Sp := fun vs H Q _ => ∃ (p E : Addr) (k n : Nat) (bad rs : List Addr) (es : List Ent), vs = [.ref p, .ref E, .int (k : Int)] ∧ PotAt H p n ∧ n < 2 ^ 20 ∧ p ∈ bad ∧ E ≠ p ∧ H E = some (.lst (rs.map V.ref)) ∧ RowsAt bad H rs es ∧ k < es.length ∧ (∀ e ∈ es, e.mem.length ≤ 6) ∧ (∀ e ∈ es, ∀ m ∈ e.mem, m < es.length) ∧
  ∀ (H' : Hp) (t a : Addr) (w : List Nat) (m : Nat), Keep [p] H H' → H t = none → H' t = some (.tup [.ref a, .int (m : Int)]) → H' a = some (.tup (memV w)) → goes es k (plI w) = some m → w.length ≤ 13 → (∀ x ∈ w, x < 6) → m < es.length → PotAt H' p (n + 20) → Q (.ref t) H'
section
variable {P : Program} {w : World} {K : PySem.W.Frag} {mg : Str → Option Value} {base : Heap} {fDg : Addr}
theorem ok_wk {f : Addr} {fd dD : FuncData} (F : Fun K "_law_walked" "_law_walked" sWk f fd) (FD : FnOk P w K mg base CX0 1 fDg dD ["_law_pot_here", "_law_many"] spDigit) (bD : Binds K dD ["_law_pot_here", "_law_many"] []) (gD : mg "_law_digit" = some (.ref fDg)) (kD : PySem.W.keepIn K (.ref fDg) = true) (mL : mg "len" = none) (mR : mg "range" = none) :
    FnOk P w K mg base CX0 2 f fd ["_law_pot_here", "_law_entries_here", "_law_k"] spWk := by
  refine F.ok scWk (fun vs H Q E h => ?_) (fun cdv A0 outer s H vs Q Es hr h => ?_)
  · obtain ⟨p, E, k, n, bad, rs, es, rfl, _⟩ := h
    rfl
  · obtain ⟨p, E, k, n, bad, rs, es, rfl, pot, hn, pb, nEp, hE, hR, hk, six, inn, kk⟩ := h
    refine ⟨_, pss_cons (ps_set (i := 3) scWk.nd rfl (Or.inl rfl) (pe_tup pa_nil))
      (pss_cons (ps_set (i := 4) scWk.nd rfl (Or.inl rfl) (pv 2))
      (pss_cons (ps_for PassesOwn.never rfl (pi_range1 rfl mR (pa_cons (pe_call FD hr rfl gD kD bD .nil pass0 (pa_cons (pv 0) (pa_cons pe_int pa_nil))) pa_nil)) (pg_name (i := 5) scWk.nd rfl (Or.inl rfl))
        (pss_cons (ps_set (i := 6) scWk.nd rfl (Or.inl rfl) (pe_ix ix_list (pe_ix ix_list (pv 1) (pv 4) (fun _ _ => rfl)) pe_int (fun _ _ => rfl)))
        (pss_one (ps_if (pt_cmpR (op_neD hr.units) (pv 6) (pe_lst pa_nil) (nomark _))
          (pss_cons (ps_set (i := 7) scWk.nd rfl (Or.inl rfl) (pe_call FD hr rfl gD kD bD .nil pass0 (pa_cons (pv 0) (pa_cons (pe_callB call_len_seq (by rfl) mL PySem.boot_len (pa_cons (pv 6) pa_nil)) pa_nil))))
          (pss_cons (ps_set (i := 3) scWk.nd rfl (Or.inl rfl) (pe_op op_catA (pv 3) (pe_tup (pa_cons (pv 7) pa_nil))))
          (pss_one (ps_set (i := 4) scWk.nd rfl (Or.inl rfl) (pe_ix ix_list (pv 6) (pv 7) (fun _ _ => rfl)))))) pss_nil))))
      (pss_one (ps_ret (pe_tup (pa_cons (pv 3) (pa_cons (pv 4) pa_nil))))))), ?_⟩
    refine ⟨Nat.zero_le _, fun a0 ha0 => ?_⟩
    have k0 : Keep [] H (upd H a0 (.tup [])) := Keep.new ha0
    have e0 : (upd H a0 (.tup [])) a0 = some (.tup (memV [])) := upd_same
    generalize (upd H a0 (.tup [])) = H0 at k0 e0 ⊢
    have pot0 := pot.keep k0 nin0
    have kH0 : Keep [p] H H0 := k0.more fun b z => absurd z nin0
    obtain ⟨x0, ep0⟩ := pot0.some
    refine ⟨_, rfl, ?_⟩
    refine ⟨_, rfl, p, n, 14, rfl, pot0, by omega, by decide, by decide, fun d H1 d0 d1 hk1 pot1 => ?_⟩
    obtain ⟨d, rfl⟩ : ∃ m : Nat, d = (m : Int) := ⟨d.toNat, by omega⟩
    have na0 : a0 ≠ p := fun z => by rw [z, ep0] at e0; cases e0
    refine ⟨_, rfl, by omega, by omega, ?_⟩
    rw [Int.toNat_natCast]
    refine for_range (lo := 0) (n := d) (fun i σ G => ∃ (a : Addr) (w : List Nat) (m : Nat) (v5 v6 v7 : Option V), σ = [some (.ref p), some (.ref E), some (.int (k : Int)), some (.ref a), some (.int (m : Int)), v5, v6, v7] ∧ G a = some (.tup (memV w)) ∧ w.length ≤ i ∧ (∀ x ∈ w, x < 6) ∧ m < es.length ∧ goes es k (plI w) = some m ∧ Keep [p] H G ∧ PotAt G p (n + 1 + i))
      ⟨a0, [], k, none, none, none, rfl, (keep_of_dig hk1).at e0 (nin1 na0), Nat.le_refl _, (fun x h => absurd h List.not_mem_nil), hk, rfl, kH0.trans (keep_of_dig hk1), pot1⟩ ?_ ?_
    · rintro i σ G hi ⟨a, w, m, v5, v6, v7, rfl, ea, hwl, hw6, hm, hg, kG, potG⟩
      have he := List.getElem?_eq_getElem hm
      generalize hee : es[m] = e at he
      have hem := List.mem_of_getElem? he
      have hRG := hR.keep (kG.more fun b hb => by rw [List.mem_singleton.mp hb]; exact pb)
      obtain ⟨r, hq, mm, nn, br, bm, bn, g4, g5, g6⟩ := hRG.at he
      refine ⟨_, rfl, _, rfl, E, _, _, V.ref r, rfl, rfl, SqL.of (kG.at hE (nin1 nEp)), atI_nat (by rw [List.getElem?_map, hq]; rfl), r, _, _, V.ref mm, rfl, rfl, SqL.of g4, rfl, ?_⟩
      refine ⟨_, rfl, Nat.zero_le _, fun e3 he3 => ?_⟩
      have k3 : Keep [] G (upd G e3 (.lst [])) := Keep.new he3
      have a3 : (upd G e3 (.lst [])) e3 = some (.lst []) := upd_same
      generalize (upd G e3 (.lst [])) = G3 at k3 a3 ⊢
      have g53 := k3.at g5 nin0
      have ea3 := k3.at ea nin0
      have pot3 := potG.keep k3 nin0
      have kG3 : Keep [p] H G3 := kG.trans (k3.more fun b z => absurd z nin0)
      refine ⟨intsD e.mem, intsD [], dp_intsD g53, dp_intsD (l := []) a3, ints_shaped _, ints_shaped _, _, rfl, ?_⟩
      rw [ints_nil]
      by_cases hne : e.mem = []
      · rw [hne]
        exact iteF ⟨a, w, m, _, _, _, rfl, ea3, Nat.le_succ_of_le hwl, hw6, hm, hg, kG3, pot3.le (by omega)⟩
      · have hie : e.mem.isEmpty = false := by
          cases q : e.mem with
          | nil => exact absurd q hne
          | cons _ _ => rfl
        have hpos : 0 < e.mem.length := List.length_pos_iff.mpr hne
        have h6 := six e hem
        rw [hie]
        refine iteT ?_
        refine ⟨_, rfl, _, rfl, mm, _, rfl, .inl (SqL.of g53), p, _, _, rfl, pot3, by omega, by rw [List.length_map]; omega, by rw [List.length_map]; omega, fun x G5 x0' x1' hk5 pot5 => ?_⟩
        rw [List.length_map] at x1'
        obtain ⟨j, rfl⟩ : ∃ m : Nat, x = (m : Int) := ⟨x.toNat, by omega⟩
        have hj : j < e.mem.length := by omega
        have hz := List.getElem?_eq_getElem hj
        generalize e.mem[j] = z at hz
        have kG5 : Keep [p] H G5 := kG3.trans (keep_of_dig hk5)
        obtain ⟨x3, ep3⟩ := pot3.some
        have ne3 : ∀ {b : Addr} {ys : List V}, G3 b = some (.tup ys) → b ≠ p := fun e z => by rw [z, ep3] at e; cases e
        have ea5 := (keep_of_dig hk5).at ea3 (nin1 (ne3 ea3))
        have g55 : G5 mm = some (.lst (memV e.mem)) := (keep_of_dig hk5).at g53 (nin1 fun z => bm (by rw [z]; exact pb))
        have hst : goes es k (plI (w ++ [j])) = some z := by
          unfold plI
          rw [List.map_append]
          refine (goes_app hg).trans ?_
          have hgd : es.getD m ⟨sF, sF, [], [], none, none⟩ = e := by rw [List.getD_eq_getElem?_getD, he]; rfl
          simp only [stp, hgd]
          rw [if_pos ⟨by omega, by omega⟩, Int.toNat_natCast, hz]
        have hzm := inn e hem z (List.mem_of_getElem? hz)
        have w6' : ∀ x ∈ w ++ [j], x < 6 := fun x hx => by
          rcases List.mem_append.mp hx with q | q
          · exact hw6 x q
          · rw [List.mem_singleton.mp q]; omega
        have wl' : (w ++ [j]).length ≤ i + 1 := by rw [List.length_append]; show w.length + 1 ≤ i + 1; omega
        have ix : atI (memV e.mem) ((j : Nat) : Int) = some (V.int (z : Int)) := atI_nat (by rw [List.getElem?_map, hz]; rfl)
        refine ⟨_, rfl, _, rfl, (by show 1 ≤ sizeLine; decide), fun b1 hb1 => ?_⟩
        have kb : Keep [] G5 (upd G5 b1 (.tup [.int (j : Int)])) := Keep.new hb1
        have eb : (upd G5 b1 (.tup [.int (j : Int)])) b1 = some (.tup [.int (j : Int)]) := upd_same
        generalize (upd G5 b1 (.tup [.int (j : Int)])) = Gb at kb eb ⊢
        have potb := pot5.keep kb nin0
        have kGb : Keep [p] H Gb := kG5.trans (kb.more fun b z => absurd z nin0)
        refine ⟨a, b1, _, _, rfl, rfl, SqT.of (kb.at ea5 nin0), SqT.of eb, ?_, fun hx0 => ?_, (fun _ h => by cases h), fun hx0 _ p' hp' => ?_⟩
        · rw [List.length_map]
          exact Nat.le_trans (by show w.length + 1 ≤ 1000; omega) (by decide)
        · have hx1 : w = [] := by
            cases h : w with
            | nil => rfl
            | cons y ys => rw [h] at hx0; cases hx0
          subst hx1
          exact ⟨_, rfl, _, rfl, mm, _, _, V.int (z : Int), rfl, rfl, SqL.of (kb.at g55 nin0), ix, b1, [j], z, _, _, _, rfl, eb, wl', w6', hzm, hst, kGb, potb.le (by omega)⟩
        · have kc : Keep [] Gb (upd Gb p' (.tup (memV w ++ [.int (j : Int)]))) := Keep.new hp'
          exact ⟨_, rfl, _, rfl, mm, _, _, V.int (z : Int), rfl, rfl, SqL.of ((kb.trans kc).at g55 nin0), ix, p', w ++ [j], z, _, _, _, rfl, by rw [upd_same]; show _ = some (HO.tup ((w ++ [j]).map fun k : Nat => V.int (k : Int))); rw [List.map_append]; rfl, wl', w6', hzm, hst, kGb.trans (kc.more fun b z => absurd z nin0), (potb.keep kc nin0).le (by omega)⟩
    · rintro σ G ⟨a, w, m, v5, v6, v7, rfl, ea, hwl, hw6, hm, hg, kG, potG⟩
      refine ⟨_, rfl, _, rfl, (by show 2 ≤ sizeLine; decide), fun t ht => ?_⟩
      obtain ⟨xg, epg⟩ := potG.some
      exact kk _ t a w m (kG.trans ((Keep.new ht).more fun b z => absurd z nin0)) (Keep.free kG ht (nin1 fun z => by rw [z, epg] at ht; cases ht)) upd_same ((Keep.new ht (ex := [])).at ea nin0) hg (by omega) hw6 hm ((potG.keep (Keep.new ht (ex := [])) nin0).le (by omega))
end
end Fs
/-! A place that is none. -/
namespace Fs
open PySem L2 TL
abbrev sOdd : Stmt := top 29
abbrev nOdd : List Str := ["_law_pot_here", "_law_entries_here", "_law_here", "_law_many", "_law_some"]
theorem scOdd : FnScope nOdd ["_law_pot_here", "_law_entries_here", "_law_here"] (defScope sOdd) := ⟨rfl, rfl, rfl, by decide +kernel, rfl, by decide +kernel, by decide +kernel⟩
def spOdd (K : PySem.W.Frag) : Sp := fun vs H Q _ => ∃ (p E : Addr) (k n : Nat) (bad rs : List Addr) (es : List Ent), vs = [.ref p, .ref E, .int (k : Int)] ∧ PotAt H p n ∧ n < 2 ^ 20 ∧ H E = some (.lst (rs.map V.ref)) ∧ RowsAt bad H rs es ∧ k < es.length ∧ (∀ e ∈ es, e.mem.length ≤ 6) ∧
  ∀ (H' : Hp) (v : V) (q : Pl), Keep [p] H H' → (∀ H2, Keep [p] H' H2 → plOk K H2 v q) → stp es k q = none → PotAt H' p (n + 1) → Q v H'
section
variable {P : Program} {w : World} {K : PySem.W.Frag} {mg : Str → Option Value} {base : Heap} {fDg : Addr}
theorem ok_odd {f : Addr} {fd dD : FuncData} (F : Fun K "_law_odd" "_law_odd" sOdd f fd) (FD : FnOk P w K mg base CX0 1 fDg dD ["_law_pot_here", "_law_many"] spDigit) (bD : Binds K dD ["_law_pot_here", "_law_many"] []) (gD : mg "_law_digit" = some (.ref fDg)) (kD : PySem.W.keepIn K (.ref fDg) = true) (mL : mg "len" = none) :
    FnOk P w K mg base CX0 2 f fd ["_law_pot_here", "_law_entries_here", "_law_here"] (spOdd K) := by
  refine F.ok scOdd (fun vs H Q E h => ?_) (fun cdv A0 outer s H vs Q Es hr h => ?_)
  · obtain ⟨p, E, k, n, bad, rs, es, rfl, _⟩ := h
    rfl
  · obtain ⟨p, E, k, n, bad, rs, es, rfl, pot, hn, hE, hR, hk, six, kk⟩ := h
    refine ⟨_, pss_cons (ps_set (i := 3) scOdd.nd rfl (Or.inl rfl) (pe_callB call_len_seq (by rfl) mL PySem.boot_len (pa_cons (pe_ix ix_list (pe_ix ix_list (pv 1) (pv 2) (fun _ _ => rfl)) pe_int (fun _ _ => rfl)) pa_nil)))
      (pss_cons (ps_set (i := 4) scOdd.nd rfl (Or.inl rfl) (pe_lst (pa_cons (pv 3) (pa_cons (pe_op op_add (pv 3) pe_int) (pa_cons (pe_un un_neg pe_int) (pa_cons pe_non (pa_cons pe_bl (pa_cons pe_str (pa_cons (pe_tup (pa_cons pe_int pa_nil)) (pa_cons pe_bl (pa_cons (pe_op op_pow pe_int pe_int) (pa_cons (pe_op op_sub (pe_un un_neg (pv 3)) pe_int) (pa_cons (pe_lst (pa_cons pe_int pa_nil)) pa_nil)))))))))))))
      (pss_one (ps_ret (pe_ix ix_list (pv 4) (pe_call FD hr rfl gD kD bD .nil pass0 (pa_cons (pv 0) (pa_cons (pe_callB call_len_seq (by rfl) mL PySem.boot_len (pa_cons (pv 4) pa_nil)) pa_nil))) (fun _ _ => rfl))))), ?_⟩
    have he := List.getElem?_eq_getElem hk
    generalize hee : es[k] = e at he
    have hem := List.mem_of_getElem? he
    have h6 := six e hem
    have hgd : es.getD k ⟨sF, sF, [], [], none, none⟩ = e := by rw [List.getD_eq_getElem?_getD, he]; rfl
    obtain ⟨r, hq, mm, nn, _, _, _, g4, g5, g6⟩ := hR.at he
    obtain ⟨x0, ep0⟩ := pot.some
    refine ⟨_, rfl, _, rfl, E, _, _, V.ref r, rfl, rfl, SqL.of hE, atI_nat (by rw [List.getElem?_map, hq]; rfl), r, _, _, V.ref mm, rfl, rfl, SqL.of g4, rfl, mm, _, rfl, .inl (SqL.of g5), ?_⟩
    rw [List.length_map]
    refine ⟨_, rfl, _, rfl, _, _, rfl, rfl, ?_⟩
    refine ⟨_, rfl, (by show 1 ≤ sizeLine; decide), fun t1 ht1 => ?_⟩
    have k1 : Keep [] H (upd H t1 (.tup [.int 0])) := Keep.new ht1
    have e1 : (upd H t1 (.tup [.int 0])) t1 = some (.tup [.int 0]) := upd_same
    generalize (upd H t1 (.tup [.int 0])) = H1 at k1 e1 ⊢
    refine ⟨_, _, rfl, rfl, ⟨by decide, by decide, by decide +kernel⟩, ?_⟩
    refine ⟨_, rfl, _, rfl, _, _, rfl, rfl, ?_⟩
    refine ⟨(by show 1 ≤ sizeLine; decide), fun l1 hl1 => ?_⟩
    have k2 : Keep [] H1 (upd H1 l1 (.lst [.int 0])) := Keep.new hl1
    have e2 : (upd H1 l1 (.lst [.int 0])) l1 = some (.lst [.int 0]) := upd_same
    generalize (upd H1 l1 (.lst [.int 0])) = H2 at k2 e2 ⊢
    refine ⟨(by show 11 ≤ sizeLine; decide), fun S hS => ?_⟩
    change gName 4 (V.ref S) _ (upd H2 S (.lst [.int (e.mem.length : Int), .int ((e.mem.length : Int) + 3), .int (-1), .non, .bl true, .str "0", .ref t1, .bl false, .int ((10 : Int) ^ (59 : Int).toNat), .int (-(e.mem.length : Int) - 1), .ref l1])) _
    have hNb : 6 < (10 : Int) ^ (59 : Int).toNat := by decide +kernel
    generalize (10 : Int) ^ (59 : Int).toNat = N at hNb ⊢
    have kS : Keep [] H2 (upd H2 S (.lst [.int (e.mem.length : Int), .int ((e.mem.length : Int) + 3), .int (-1), .non, .bl true, .str "0", .ref t1, .bl false, .int N, .int (-(e.mem.length : Int) - 1), .ref l1])) := Keep.new hS
    have eS : (upd H2 S (.lst [.int (e.mem.length : Int), .int ((e.mem.length : Int) + 3), .int (-1), .non, .bl true, .str "0", .ref t1, .bl false, .int N, .int (-(e.mem.length : Int) - 1), .ref l1])) S = some (.lst [.int (e.mem.length : Int), .int ((e.mem.length : Int) + 3), .int (-1), .non, .bl true, .str "0", .ref t1, .bl false, .int N, .int (-(e.mem.length : Int) - 1), .ref l1]) := upd_same
    generalize (upd H2 S (.lst [.int (e.mem.length : Int), .int ((e.mem.length : Int) + 3), .int (-1), .non, .bl true, .str "0", .ref t1, .bl false, .int N, .int (-(e.mem.length : Int) - 1), .ref l1])) = H3 at kS eS ⊢
    have k03 := (k1.trans k2).trans kS
    have pot3 := pot.keep k03 nin0
    obtain ⟨xp, epp⟩ := pot3.some
    refine ⟨_, rfl, _, rfl, _, rfl, S, _, rfl, .inl (SqL.of eS), p, n, _, rfl, pot3, by omega, by show (0 : Int) < 11; decide, by show (11 : Int) < 1073741824; decide, fun d H4 d0 d1 hk4 pot4 => ?_⟩
    have k4 := keep_of_dig hk4
    have k04 : Keep [p] H H4 := (k03.more fun b z => absurd z nin0).trans k4
    have nt : t1 ≠ p := fun z => by
      have := kS.at (k2.at e1 nin0) nin0
      rw [z, epp] at this; cases this
    have e14 : H4 t1 = some (.tup [.int 0]) := k4.at (kS.at (k2.at e1 nin0) nin0) (nin1 nt)
    have nS : S ≠ p := fun z => by
      obtain ⟨y, e⟩ := (pot.keep (k1.trans k2) nin0).some
      rw [z, e] at hS; cases hS
    have nl : l1 ≠ p := fun z => by
      obtain ⟨y, e⟩ := (pot.keep k1 nin0).some
      rw [z, e] at hl1; cases hl1
    have eS4 := k4.at eS (nin1 nS)
    have e24 : H4 l1 = some (.lst [.int 0]) := k4.at (kS.at e2 nin0) (nin1 nl)
    have big : ∀ i : Int, (i < 0 ∨ (e.mem.length : Int) ≤ i) → stp es k (.int i) = none := fun i h => by
      simp only [stp, hgd]
      rw [if_neg (by omega)]
    have d11 : d < 11 := d1
    suffices key : ∃ (v : V) (q : Pl), atI ([.int (e.mem.length : Int), .int ((e.mem.length : Int) + 3), .int (-1), .non, .bl true, .str "0", .ref t1, .bl false, .int N, .int (-(e.mem.length : Int) - 1), .ref l1] : List V) d = some v ∧ (∀ H2, Keep [p] H4 H2 → plOk K H2 v q) ∧ stp es k q = none by
      obtain ⟨v, q, h1, h2, h3⟩ := key
      exact ⟨S, _, d, v, rfl, rfl, SqL.of eS4, h1, kk H4 v q k04 h2 h3 pot4⟩
    rcases (show d = 0 ∨ d = 1 ∨ d = 2 ∨ d = 3 ∨ d = 4 ∨ d = 5 ∨ d = 6 ∨ d = 7 ∨ d = 8 ∨ d = 9 ∨ d = 10 by omega) with z | z | z | z | z | z | z | z | z | z | z
    · exact ⟨_, .int _, by rw [z]; rfl, fun _ _ => rfl, big _ (by omega)⟩
    · exact ⟨_, .int _, by rw [z]; rfl, fun _ _ => rfl, big _ (by omega)⟩
    · exact ⟨_, .int _, by rw [z]; rfl, fun _ _ => rfl, big _ (by omega)⟩
    · exact ⟨_, .odd, by rw [z]; rfl, fun _ _ => ⟨"NoneType", ⟨.base .non, by decide⟩, by decide⟩, rfl⟩
    · exact ⟨_, .odd, by rw [z]; rfl, fun _ _ => ⟨"bool", ⟨.base (.bl _), by decide⟩, by decide⟩, rfl⟩
    · exact ⟨_, .odd, by rw [z]; rfl, fun _ _ => ⟨"str", ⟨.base (.str _), by decide⟩, by decide⟩, rfl⟩
    · exact ⟨_, .odd, by rw [z]; rfl, fun _ kq => ⟨"tuple", ⟨.base (.tup (kq.at e14 (nin1 nt))), by decide⟩, by decide⟩, rfl⟩
    · exact ⟨_, .odd, by rw [z]; rfl, fun _ _ => ⟨"bool", ⟨.base (.bl _), by decide⟩, by decide⟩, rfl⟩
    · exact ⟨_, .int _, by rw [z]; rfl, fun _ _ => rfl, big _ (by omega)⟩
    · exact ⟨_, .int _, by rw [z]; rfl, fun _ _ => rfl, big _ (by omega)⟩
    · exact ⟨_, .odd, by rw [z]; rfl, fun _ kq => ⟨"list", ⟨.base (.lst (kq.at e24 (nin1 nl))), by decide⟩, by decide⟩, rfl⟩
end
end Fs
/-! tuple * a small number. -/
namespace Fs
open PySem PySem.Spec PyProof.Rows L2 TL
theorem tuple_mulOne (l : Addr) (items : Array Value) (n : Nat) (dd : Option Addr) (sl : Array (Option Value)) (x : Int) (u : Tok) (c0 : (decide (x < -(2 ^ 63)) || decide (x ≥ 2 ^ 63)) = false) (c1 : (items.isEmpty || x == 1) = true) :
    Meets (Builtin.«tuple.__mul__» ⟨[.ref l, .int x u], []⟩) (fun _ R s => s.heap.get? l = some { cls := .type "tuple", dict := dd, data := .seq items n, slots := sl } ∧ R (.ok (.ret (Value.ref l))) s) :=
  .of_wp fun prog w A R s h => by
    obtain ⟨hp, g, d, tk, os⟩ := s
    obtain ⟨hl, h⟩ := h
    have f1 := AutoSeq1.idx_int
    wp_walk using wpAny_loadPart' hl
    repeat (first
      | (refine wpAny_ite_false (decide_eq_false (by rw [c0]; exact Bool.false_ne_true)) ?_; wp_walk using wpAny_loadPart' hl)
      | (refine wpAny_ite_true (decide_eq_true (by rw [c1])) ?_; wp_walk using wpAny_loadPart' hl))
    exact ⟨_, rfl, h⟩
theorem tuple_mulNone (l : Addr) (items : Array Value) (n : Nat) (dd : Option Addr) (sl : Array (Option Value)) (x : Int) (u : Tok) (c0 : (decide (x < -(2 ^ 63)) || decide (x ≥ 2 ^ 63)) = false) (c1 : (items.isEmpty || x == 1) = false) (c2 : (decide (x ≤ 0) || items.isEmpty) = true) :
    Meets (Builtin.«tuple.__mul__» ⟨[.ref l, .int x u], []⟩) (fun _ R s => s.heap.get? l = some { cls := .type "tuple", dict := dd, data := .seq items n, slots := sl } ∧
      R (.ok (.ret (Value.ref s.heap.objs.size))) { s with heap := s.heap.push { cls := Value.type "tuple", data := Data.seq #[] }, toks := s.toks }) :=
  .of_wp fun prog w A R s h => by
    obtain ⟨hp, g, d, tk, os⟩ := s
    obtain ⟨hl, h⟩ := h
    have f1 := AutoSeq1.idx_int
    wp_walk using wpAny_loadPart' hl
    repeat (first
      | (refine wpAny_ite_false (decide_eq_false (by rw [c0]; exact Bool.false_ne_true)) ?_; wp_walk using wpAny_loadPart' hl)
      | (refine wpAny_ite_false (decide_eq_false (by rw [c1]; exact Bool.false_ne_true)) ?_; wp_walk using wpAny_loadPart' hl)
      | (refine wpAny_ite_true (decide_eq_true (by rw [c2])) ?_; wp_walk using wpAny_loadPart' hl))
    exact ⟨_, rfl, h⟩
def rRepS (K : PySem.W.Frag) : R2 := fun x y H Q => ∃ l k xs, x = .ref l ∧ y = .int k ∧ SqT K H l xs ∧ xs ≠ [] ∧ 0 ≤ k ∧ k ≤ 1000 ∧ xs.length ≤ 1000 ∧ (k = 1 → Q (.ref l) H) ∧ (k ≠ 1 → ∀ p, H p = none → Q (.ref p) (upd H p (.tup (List.replicate k.toNat xs).flatten)))
section
variable {X : Cx}
theorem op_repS : OpR X (binaryOp .Mult) (rRepS X.K) := by
  intro pins s σ H x y v u Q I rx ry h
  obtain ⟨l, k, xs, rfl, rfl, hT, hne, h1, h2, hz, q1, q⟩ := h
  by_cases k2 : 2 ≤ k
  · exact op_repT pins s σ H _ _ v u Q I rx ry ⟨l, k, xs, rfl, rfl, hT, hne, k2, h2, hz, q (by omega)⟩
  cases rx
  obtain ⟨t, rfl⟩ := ry
  obtain ⟨its, r, ⟨⟨cls, dd, data, sl⟩, ho, hc, n, hd⟩, hs⟩ := I.tuple hT
  simp only at hc hd
  subst hc hd
  have hle : its.length = xs.length := r.length.symm
  have hn : its ≠ [] := fun e => hne (by
    rw [e] at hle
    exact List.eq_nil_of_length_eq_zero hle.symm)
  have hi : its.toArray.isEmpty = false := by
    cases its with
    | nil => exact absurd rfl hn
    | cons a b => rfl
  have c0 : (decide (k < -(2 ^ 63)) || decide (k ≥ 2 ^ 63)) = false := by
    rw [decide_eq_false (by omega), decide_eq_false (by omega)] <;> rfl
  by_cases k1 : k = 1
  · subst k1
    exact wpAny_binaryOp_repeat_ref (T := "tuple") (U := "int") (by decide) ⟨_, ho, rfl⟩ (fun s' => typeIs_int s' 1 t) noFill_tuple_mul F.fills_int_mul F.slot_int_rmul repeat_tuple F.slot_int_index.lookup
      (call_meets F.slot_int_rmul (typeIs_int s 1 t) F.entry_int_rmul (F.args_int_rmul_2 _ _) (int_rmul_tuple 1 t l its.toArray n dd sl)
        ⟨ho, rfl, ⟨_, ho, rfl⟩, call_meets F.slot_tuple_mul ⟨_, ho, rfl⟩ F.entry_tuple_mul (F.args_tuple_mul_2 _ _) (tuple_mulOne l its.toArray n dd sl 1 t c0 (by rw [hi]; rfl)) ⟨ho, .ref l, H, I, rfl, q1 rfl⟩⟩)
  · have k0 : k = 0 := by omega
    subst k0
    refine wpAny_binaryOp_repeat_ref (T := "tuple") (U := "int") (by decide) ⟨_, ho, rfl⟩ (fun s' => typeIs_int s' 0 t) noFill_tuple_mul F.fills_int_mul F.slot_int_rmul repeat_tuple F.slot_int_index.lookup
      (call_meets F.slot_int_rmul (typeIs_int s 0 t) F.entry_int_rmul (F.args_int_rmul_2 _ _) (int_rmul_tuple 0 t l its.toArray n dd sl)
        ⟨ho, rfl, ⟨_, ho, rfl⟩, call_meets F.slot_tuple_mul ⟨_, ho, rfl⟩ F.entry_tuple_mul (F.args_tuple_mul_2 _ _) (tuple_mulNone l its.toArray n dd sl 0 t c0 (by rw [hi]; rfl) rfl) ⟨ho, ?_⟩⟩)
    have q' := q k1 s.heap.objs.size (I.hok.fresh (Nat.le_refl _))
    exact ⟨.ref s.heap.objs.size, _, I.laid (t' := s.toks) (o := .tup []) (fun b ob q => Heap.get?_push_of_some _ q) (Nat.le_refl _) ⟨Nat.zero_le _, [], .nil, IsTup.new _ _⟩, rfl, q'⟩
/-- one answer in all cases -/
theorem catA_one {K : PySem.W.Frag} {H : Hp} {a b : Addr} {xs ys : List V} {Q : VK} (ha : H a = some (.tup xs)) (hb : H b = some (.tup ys)) (hz : xs.length + ys.length ≤ sizeLine) (h : ∀ (c : Addr) (H' : Hp), Keep [] H H' → H' c = some (.tup (xs ++ ys)) → Q (.ref c) H') : rCatA K (.ref a) (.ref b) H Q :=
  ⟨a, b, xs, ys, rfl, rfl, SqT.of ha, SqT.of hb, hz, fun e => h b H (Keep.refl _ _) (by rw [hb, e]; rfl), fun _ e => h a H (Keep.refl _ _) (by rw [ha, e, List.append_nil]), fun _ _ p hp => h p _ (Keep.new hp) upd_same⟩
theorem repS_one {K : PySem.W.Frag} {H : Hp} {a : Addr} {xs : List V} {k : Int} {Q : VK} (ha : H a = some (.tup xs)) (hne : xs ≠ []) (k0 : 0 ≤ k) (k1 : k ≤ 1000) (hz : xs.length ≤ 1000) (h : ∀ (c : Addr) (H' : Hp), Keep [] H H' → H' c = some (.tup (List.replicate k.toNat xs).flatten) → Q (.ref c) H') : rRepS K (.ref a) (.int k) H Q :=
  ⟨a, k, xs, rfl, rfl, SqT.of ha, hne, k0, k1, hz, fun e => h a H (Keep.refl _ _) (by rw [ha, e]; simp), fun _ p hp => h p _ (Keep.new hp) upd_same⟩
theorem slA_one {K : PySem.W.Frag} {H : Hp} {a : Addr} {xs : List V} {lo hi : Option Int} {Q : VK} (ha : H a = some (.tup xs)) (h : ∀ (c : Addr) (H' : Hp), Keep [] H H' → H' c = some (.tup (cutV xs lo hi)) → Q (.ref c) H') : rSlA K (.ref a) lo hi H Q :=
  ⟨a, xs, rfl, SqT.of ha, fun e => h a H (Keep.refl _ _) (by rw [ha]; unfold cutV; rw [e.1, e.2, List.drop_zero, Nat.sub_zero, List.take_length]), fun _ p hp => h p _ (Keep.new hp) upd_same⟩
end
end Fs
/-! The law's second loop: a turn. -/
namespace Fs
open PySem L2 TL
abbrev sLaw : Stmt := top 31
abbrev nLaw : List Str := ["_law_script", "_law_pairs_here", "_law_pot_here", "_law_entries_here", "_law_ledger_here", "_law_held", "_law_k", "_law_due", "_law_told", "_law_fault", "_law_way", "_law_here", "_law_odd_here"]
theorem scLaw : FnScope nLaw ["_law_script"] (defScope sLaw) := ⟨rfl, rfl, rfl, by decide +kernel, rfl, by decide +kernel, by decide +kernel⟩
abbrev bTurn : List Stmt := inFor ((defBody sLaw).getD 7 (.Pass ⟨0, 0, 0, 0⟩))
structure ATxt (K : PySem.W.Frag) (mg : Str → Option Value) (C fPo fPa fEn fLe fLv fLp fDg fWk fOd fLd : Addr) : Prop where
  cl : Cls K C
  mL : Meth K C "leaves" fLp
  gPo : mg "_law_pot" = some (.ref fPo)
  kPo : PySem.W.keepIn K (.ref fPo) = true
  gPa : mg "_law_pairs" = some (.ref fPa)
  kPa : PySem.W.keepIn K (.ref fPa) = true
  gEn : mg "_law_entries" = some (.ref fEn)
  kEn : PySem.W.keepIn K (.ref fEn) = true
  gLe : mg "_law_ledger" = some (.ref fLe)
  kLe : PySem.W.keepIn K (.ref fLe) = true
  gLv : mg "_law_leaves" = some (.ref fLv)
  kLv : PySem.W.keepIn K (.ref fLv) = true
  gDg : mg "_law_digit" = some (.ref fDg)
  kDg : PySem.W.keepIn K (.ref fDg) = true
  gWk : mg "_law_walked" = some (.ref fWk)
  kWk : PySem.W.keepIn K (.ref fWk) = true
  gOd : mg "_law_odd" = some (.ref fOd)
  kOd : PySem.W.keepIn K (.ref fOd) = true
  gLd : mg "_law_led" = some (.ref fLd)
  kLd : PySem.W.keepIn K (.ref fLd) = true
  len : mg "len" = none
  max : mg "max" = none
  min : mg "min" = none
  range : mg "range" = none
  repr : mg "repr" = none
  all : mg "all" = none
  list : mg "list" = none
theorem Keep.over {ex : List Addr} {H H1 H2 : Hp} {p : Addr} (k : Keep ex H H1) (hp : H p = none) (k2 : Keep [p] H1 H2) : Keep ex H H2 := fun b o hb e => k2 b o (nin1 fun z => by rw [z, hp] at e; cases e) (k b o hb e)
theorem goes_none {es : List Ent} : ∀ {ps r : List Pl} {n m : Nat} {q : Pl}, goes es n ps = some m → stp es m q = none → goes es n (ps ++ q :: r) = none
  | [], r, n, m, q, h, hq => by
    have e : n = m := Option.some.inj h
    subst e
    show (match stp es n q with | some m => goes es m r | none => none) = none
    rw [hq]
  | p :: s, r, n, m, q, h, hq => by
    show (match stp es n p with | some m => goes es m (s ++ q :: r) | none => none) = none
    have h' : (match stp es n p with | some m => goes es m s | none => none) = some m := h
    cases e : stp es n p with
    | none => rfl
    | some x =>
      rw [e] at h'
      exact goes_none h' hq
theorem goes_init {es : List Ent} : ∀ {ps : List Pl} {n m : Nat} {q : Pl}, goes es n (ps ++ [q]) = some m → ∃ x, goes es n ps = some x
  | [], n, m, q, h => ⟨n, rfl⟩
  | p :: s, n, m, q, h => by
    have h' : (match stp es n p with | some m => goes es m (s ++ [q]) | none => none) = some m := h
    cases e : stp es n p with
    | none => rw [e] at h'; cases h'
    | some x =>
      rw [e] at h'
      obtain ⟨y, hy⟩ := goes_init h'
      refine ⟨y, ?_⟩
      show (match stp es n p with | some m => goes es m s | none => none) = some y
      rw [e]
      exact hy
theorem pls_plI {K : PySem.W.Frag} {H : Hp} : ∀ w : List Nat, PlsOk K H (memV w) (plI w)
  | [] => True.intro
  | k :: r => ⟨rfl, pls_plI r⟩
theorem PlsOk.app {K : PySem.W.Frag} {H : Hp} {vs' : List V} {ps' : List Pl} (g : PlsOk K H vs' ps') : ∀ {vs : List V} {ps : List Pl}, PlsOk K H vs ps → PlsOk K H (vs ++ vs') (ps ++ ps')
  | [], [], _ => g
  | _ :: _, _ :: _, h => ⟨h.1, PlsOk.app g h.2⟩
  | [], _ :: _, h => h.elim
  | _ :: _, [], h => h.elim
def refD : PyData := .tuple [.str "refused", .bool true]
theorem ref_shaped : SeqAt.shaped refD = true := by decide +kernel
theorem ref_eqv : PyData.eqv refD refD = true := by decide +kernel
theorem ref_dp {K : PySem.W.Frag} {H : Hp} {t : Addr} (h : H t = some (.tup [.str "refused", .bl true])) : Dp K H (.ref t) refD := .tup (SqT.of h) (.cons (.str _) (.cons (.bl _) .nil))
def ledD (n : Nat) : PyData := .tuple [.str "led", .int (n : Int)]
theorem led_dp {K : PySem.W.Frag} {H : Hp} {t : Addr} {n : Nat} (h : H t = some (.tup [.str "led", .int (n : Int)])) : Dp K H (.ref t) (ledD n) := .tup (SqT.of h) (.cons (.str _) (.cons (.int _) .nil))
theorem led_ok {n : Nat} (h : n < 100) : (ledD n).showable = true ∧ (ledD n).hasDict = false ∧ (ledD n).depth ≤ 60 ∧ (ledD n).shown.length ≤ sizeLine := by
  refine ⟨?_, ?_, ?_, ?_⟩
  · simp only [ledD, PyData.showable, PyData.showableAll, Bool.and_true, Bool.true_and, decide_eq_true_eq]
    exact log_small (by omega)
  · simp only [ledD, PyData.hasDict, PyData.hasDictAll, Bool.or_self]
  · simp only [ledD, PyData.depth, PyData.depthAll]
    omega
  · have a1 := int_short h
    have a2 : (PyData.str "led").shown.length ≤ 60 := by simp only [PyData.shown]; decide +kernel
    unfold ledD
    simp only [PyData.shown]
    have g := tupleText_len_le (PyData.shownAll [.str "led", .int (n : Int)])
    simp only [PyData.shownAll, List.map_cons, List.map_nil, List.sum_cons, List.sum_nil, List.length_cons, List.length_nil] at g ⊢
    exact Nat.le_trans (by omega : _ ≤ 1000) (by decide)
def lastN (w : List Nat) : List Nat := w.drop (w.length - 1)
theorem cut_last (w : List Nat) : cutV (memV w) (some (-1)) none = memV (lastN w) := by
  unfold cutV lastN
  rw [List.length_map]
  have e : HT.sIx w.length 0 (some (-1)) = w.length - 1 := by
    show (if (-1 : Int) < 0 then ((-1 : Int) + (w.length : Int)).toNat else min (-1 : Int).toNat w.length) = _
    rw [if_pos (by decide)]
    omega
  rw [e, HT.sIx_none, ← List.map_drop]
  exact List.take_of_length_le (by rw [List.length_map, List.length_drop]; omega)
theorem cut_init (w : List Nat) : cutV (memV w) none (some (-1)) = memV (w.take (w.length - 1)) := by
  unfold cutV
  rw [List.length_map]
  have e : HT.sIx w.length w.length (some (-1)) = w.length - 1 := by
    show (if (-1 : Int) < 0 then ((-1 : Int) + (w.length : Int)).toNat else min (-1 : Int).toNat w.length) = _
    rw [if_pos (by decide)]
    omega
  rw [e, HT.sIx_none, List.drop_zero, Nat.sub_zero, ← List.map_take]
def intsT (l : List Nat) : PyData := .tuple (l.map fun k : Nat => PyData.int (k : Int))
theorem dp_intsT {K : PySem.W.Frag} {H : Hp} {a : Addr} {l : List Nat} (h : H a = some (.tup (memV l))) : Dp K H (.ref a) (intsT l) := .tup (SqT.of h) (dp_ints l)
theorem intsT_shaped (l : List Nat) : SeqAt.shaped (intsT l) = true := by
  have h := ints_deep l
  have h1 : (intsT l).canLay0 = true := by
    unfold intsT
    simp only [PyData.canLay0]
    exact ints_lay l
  have h2 : (intsT l).depth ≤ 64 := by
    unfold intsT
    simp only [PyData.depth]
    omega
  unfold SeqAt.shaped
  rw [h1, decide_eq_true h2]
  rfl
theorem last_split {w : List Nat} (h : w ≠ []) : ∃ x, w = w.take (w.length - 1) ++ [x] ∧ lastN w = [x] := by
  have hl : 0 < w.length := List.length_pos_iff.mpr h
  have e : w.drop (w.length - 1) = [w[w.length - 1]] := by
    rw [List.drop_eq_getElem_cons (by omega), show w.length - 1 + 1 = w.length by omega, List.drop_length]
  exact ⟨w[w.length - 1], by rw [← e, List.take_append_drop], e⟩
end Fs
/-! The law's second loop: a turn. -/
namespace Fs
open PySem L2 TL
section
variable {P : Program} {w : World} {K : PySem.W.Frag} {mg : Str → Option Value} {base : Heap} {C fPo fPa fEn fLe fLv fLp fDg fWk fOd fLd : Addr}
theorem turn_5 {dDg dOd dLd : FuncData} {f : Addr} (T : ATxt K mg C fPo fPa fEn fLe fLv fLp fDg fWk fOd fLd)
    (FDg : FnOk P w K mg base CX0 1 fDg dDg ["_law_pot_here", "_law_many"] spDigit) (bDg : Binds K dDg ["_law_pot_here", "_law_many"] [])
    (FOd : FnOk P w K mg base CX0 2 fOd dOd ["_law_pot_here", "_law_entries_here", "_law_here"] (spOdd K)) (bOd : Binds K dOd ["_law_pot_here", "_law_entries_here", "_law_here"] [])
    (FLd : FnOk P w K mg base CX0 4 fLd dLd ["_law_ledger_here", "_law_k", "_law_way"] (spLdl K C)) (bLd : Binds K dLd ["_law_ledger_here", "_law_k", "_law_way"] [])
    (cdv : Value) (A0 : Around) (outer : List Env) (s : Shared) (Hs : Hp) (Es : XK) (hg : A0.guards = some []) (hr : Room 6 (A0.deeper (PyProof.Rows.envOfC "law" (defScope sLaw) s.heap.objs.size f cdv))) :
    ∃ t, PSs (cxOf CX0 P w K mg base nLaw "law" (defScope sLaw) f cdv A0 outer s Hs Es).nox (bTurn.drop 5) t ∧
      ∀ (p wa q E : Addr) (A : LA) (ms ns rs : List Addr) (es : List Ent) (d m n : Nat) (w : List Nat) (De : Ends) (G : Hp) (v0 v1 v5 v6 v7 v8 v12 : Option V), PotAt G p n → n < 2 ^ 19 → LedAt C G q A ms ns es → G E = some (.lst (rs.map V.ref)) → RowsAt [p] G rs es → E ≠ p → p ∉ A.ls ++ ns → d < es.length → m < es.length → es.length ≤ 30 →
        (∀ e ∈ es, e.mem.length ≤ 6) → (∀ e ∈ es, ∀ m ∈ e.mem, m < es.length) → G wa = some (.tup (memV w)) → goes es d (plI w) = some m → w.length ≤ 13 →
        (∀ (H' : Hp) (u12 : Option V), Keep [p] G H' → De.nx [v0, v1, some (.ref p), some (.ref E), some (.ref q), v5, v6, v7, v8, some (.int (d : Int)), some (.ref wa), some (.int (m : Int)), u12] H') → t De [v0, v1, some (.ref p), some (.ref E), some (.ref q), v5, v6, v7, v8, some (.int (d : Int)), some (.ref wa), some (.int (m : Int)), v12] G := by
  have hr1 : Room 1 _ := hr.mono (by decide)
  have hr2 : Room 2 _ := hr.mono (by decide)
  have hr4 : Room 4 _ := hr.mono (by decide)
  have hu := hr.units
  refine ⟨_, pss_cons (ps_set (i := 12) scLaw.nd rfl (Or.inl rfl) (pe_op op_catA (pe_op op_catA (pv 10) (pe_tup (pa_cons (pe_call FOd hr2 rfl T.gOd T.kOd bOd .nil pass0 (pa_cons (pv 2) (pa_cons (pv 3) (pa_cons (pv 11) pa_nil)))) pa_nil))) (pe_op op_repS (pe_tup (pa_cons pe_int pa_nil)) (pe_call FDg hr1 rfl T.gDg T.kDg bDg .nil pass0 (pa_cons (pv 2) (pa_cons pe_int pa_nil))))))
    (pss_one (ps_if (PW.pt (pw_or (pt_cmpR (op_neD hu) (pe_call FLd hr4 rfl T.gLd T.kLd bLd .nil pass0 (pa_cons (pv 4) (pa_cons (pv 9) (pa_cons (pv 12) pa_nil)))) (pe_tup (pa_cons pe_str (pa_cons pe_bl pa_nil))) (nomark _))
        (pw_or1 (pt_cmpR (op_neD hu) (pe_call FLd hr4 rfl T.gLd T.kLd bLd .nil pass0 (pa_cons (pv 4) (pa_cons (pv 9) (pa_cons (pe_callTy call_list_of (by rfl) T.list (by decide +kernel) (pa_cons (pv 10) pa_nil)) pa_nil)))) (pe_tup (pa_cons pe_str (pa_cons pe_bl pa_nil))) (nomark _)))))
      (pss_one (ps_ret pe_bl)) pss_nil)), ?_⟩
  intro p wa q E A ms ns rs es d m n w De G v0 v1 v5 v6 v7 v8 v12 pot hn hL hE hR nEp npA hd hm h30 six inn ea hg hwl kk
  obtain ⟨xp, ep⟩ := pot.some
  have nwa : wa ≠ p := fun z => by rw [z, ep] at ea; cases ea
  -- the odd place
  refine ⟨_, rfl, _, rfl, _, rfl, _, rfl, p, E, m, n, [p], rs, es, rfl, pot, by omega, hE, hR, hm, six, fun G1 v pl k1 hv hst pot1 => ?_⟩
  have ea1 := k1.at ea (nin1 nwa)
  refine ⟨(by show 1 ≤ sizeLine; decide), fun t1 ht1 => ?_⟩
  have k2 : Keep [] G1 (upd G1 t1 (.tup [v])) := Keep.new ht1
  have e2 : (upd G1 t1 (.tup [v])) t1 = some (.tup [v]) := upd_same
  generalize (upd G1 t1 (.tup [v])) = G2 at k2 e2 ⊢
  have odd_shape : ∀ r : List Pl, goes es d (plI w ++ pl :: r) = none := fun r => goes_none hg hst
  refine catA_one (k2.at ea1 nin0) e2 (by rw [List.length_map]; exact Nat.le_trans (by show w.length + 1 ≤ 1000; omega) (by decide)) (fun b G3 k3 eb => ?_)
  have pot3 := pot1.keep (k2.trans k3) nin0
  -- noughts
  refine ⟨(by show 1 ≤ sizeLine; decide), fun t3 ht3 => ?_⟩
  have k4 : Keep [] G3 (upd G3 t3 (.tup [.int 0])) := Keep.new ht3
  have e4 : (upd G3 t3 (.tup [.int 0])) t3 = some (.tup [.int 0]) := upd_same
  generalize (upd G3 t3 (.tup [.int 0])) = G4 at k4 e4 ⊢
  have pot4 := pot3.keep k4 nin0
  have nt3 : t3 ≠ p := fun z => by obtain ⟨_, e⟩ := pot3.some; rw [z, e] at ht3; cases ht3
  have nb : b ≠ p := fun z => by obtain ⟨_, e⟩ := pot3.some; rw [z, e] at eb; cases eb
  refine ⟨_, rfl, p, n + 1, _, rfl, pot4, by omega, by decide, by decide, fun z G5 z0 z1 hk5 pot5 => ?_⟩
  have k5 := keep_of_dig hk5
  have z3 : z < 3 := z1
  refine repS_one (k5.at e4 (nin1 nt3)) (fun h => by cases h) z0 (by omega) (by decide) (fun c G6 k6 ec => ?_)
  have eb6 := k6.at (k5.at (k4.at eb nin0) (nin1 nb)) nin0
  have lrep : (List.replicate z.toNat [V.int 0]).flatten.length ≤ 3 := by
    rw [PyProof.Rows.lm_len_rep_flat]
    show z.toNat * 1 ≤ 3
    omega
  refine catA_one eb6 ec (by rw [List.length_append, List.length_map]; exact Nat.le_trans (by show w.length + 1 + _ ≤ 1000; omega) (by decide)) (fun o G7 k7 eo => ?_)
  have k17 : Keep [p] G G7 := (((k1.trans (((k2.trans k3).trans k4).more fun b z => absurd z nin0)).trans k5).trans ((k6.trans k7).more fun b z => absurd z nin0))
  have zs : ∀ j : Nat, PlsOk K G7 (List.replicate j [V.int 0]).flatten ((List.range j).map fun _ => Pl.int 0) := fun j => by
    induction j with
    | zero => exact True.intro
    | succ j ih =>
      rw [List.range_succ, List.map_append, List.replicate_succ', List.flatten_append]
      exact PlsOk.app (show PlsOk K G7 [V.int 0] [Pl.int 0] from ⟨rfl, True.intro⟩) ih
  have pls : PlsOk K G7 (memV w ++ [v] ++ (List.replicate z.toNat [V.int 0]).flatten) (plI w ++ pl :: ((List.range z.toNat).map fun _ => Pl.int 0)) := by
    have h1 : PlsOk K G7 (memV w ++ [v]) (plI w ++ [pl]) := PlsOk.app (show PlsOk K G7 [v] [pl] from ⟨hv G7 (((((k2.trans k3).trans k4).more fun b z => absurd z nin0).trans k5).trans ((k6.trans k7).more fun b z => absurd z nin0)), True.intro⟩) (pls_plI w)
    have h2 := PlsOk.app (zs z.toNat) h1
    rw [List.append_assoc, List.append_assoc] at h2
    rw [List.append_assoc]
    exact h2
  have L7 := hL.keep k17 (fun b hb => by rw [List.mem_singleton.mp hb]; exact npA) (fun b hb => by rw [List.mem_singleton.mp hb]; exact ⟨_, ep⟩)
  refine ⟨_, rfl, _, rfl, _, rfl, q, A, ms, ns, es, d, .ref o, rfl, L7, hd, inn, six, none, .inl ⟨o, _, _, rfl, eo, pls, odd_shape _⟩, (fun _ _ _ h => by cases h), fun G8 t8 _ k8 ht8 et8 => ?_⟩
  refine ⟨(by show 2 ≤ sizeLine; decide), fun t9 ht9 => ?_⟩
  refine ⟨refD, refD, ref_dp ((Keep.new ht9 (ex := [])).at et8 nin0), ref_dp upd_same, ref_shaped, ref_shaped, _, rfl, ?_⟩
  rw [ref_eqv]
  refine iteF ?_
  have k9 : Keep [] G7 (upd G8 t9 (.tup [.str "refused", .bl true])) := k8.newTo ht9
  generalize (upd G8 t9 (.tup [.str "refused", .bl true])) = G9 at k9 ⊢
  have L9 := L7.keep k9 (fun b z => absurd z nin0) (fun b z => absurd z nin0)
  have k19 : Keep [p] G G9 := k17.trans (k9.more fun b z => absurd z nin0)
  refine ⟨_, rfl, _, rfl, _, rfl, wa, _, rfl, .inr (SqT.of (k19.at ea (nin1 nwa))), fun l hl => ?_⟩
  have k10 : Keep [] G9 (upd G9 l (.lst (memV w))) := Keep.new hl
  have e10 : (upd G9 l (.lst (memV w))) l = some (.lst (memV w)) := upd_same
  generalize (upd G9 l (.lst (memV w))) = G10 at k10 e10 ⊢
  have L10 := L9.keep k10 (fun b z => absurd z nin0) (fun b z => absurd z nin0)
  refine ⟨q, A, ms, ns, es, d, .ref l, rfl, L10, hd, inn, six, none, .inr ⟨"list", ⟨.base (.lst e10), by decide⟩, by decide, rfl⟩, (fun _ _ _ h => by cases h), fun G11 t11 _ k11 ht11 et11 => ?_⟩
  refine ⟨(by show 2 ≤ sizeLine; decide), fun t12 ht12 => ?_⟩
  refine ⟨refD, refD, ref_dp ((Keep.new ht12 (ex := [])).at et11 nin0), ref_dp upd_same, ref_shaped, ref_shaped, _, rfl, ?_⟩
  rw [ref_eqv]
  exact iteF (kk _ _ (k19.trans (((k10.trans k11).newTo ht12).more fun b z => absurd z nin0)))
end
end Fs
/-! The law's second loop: a turn. -/
namespace Fs
open PySem L2 TL
section
variable {P : Program} {w : World} {K : PySem.W.Frag} {mg : Str → Option Value} {base : Heap} {C fPo fPa fEn fLe fLv fLp fDg fWk fOd fLd : Addr}
theorem turn {dPo dDg dWk dOd dLd : FuncData} {f : Addr} (T : ATxt K mg C fPo fPa fEn fLe fLv fLp fDg fWk fOd fLd)
    (FPo : FnOk P w K mg base CX0 1 fPo dPo ["_law_script", "_law_k"] (spPot K)) (bPo : Binds K dPo ["_law_script", "_law_k"] []) (FDg : FnOk P w K mg base CX0 1 fDg dDg ["_law_pot_here", "_law_many"] spDigit) (bDg : Binds K dDg ["_law_pot_here", "_law_many"] [])
    (FWk : FnOk P w K mg base CX0 2 fWk dWk ["_law_pot_here", "_law_entries_here", "_law_k"] spWk) (bWk : Binds K dWk ["_law_pot_here", "_law_entries_here", "_law_k"] []) (FOd : FnOk P w K mg base CX0 2 fOd dOd ["_law_pot_here", "_law_entries_here", "_law_here"] (spOdd K)) (bOd : Binds K dOd ["_law_pot_here", "_law_entries_here", "_law_here"] [])
    (FLd : FnOk P w K mg base CX0 4 fLd dLd ["_law_ledger_here", "_law_k", "_law_way"] (spLdl K C)) (bLd : Binds K dLd ["_law_ledger_here", "_law_k", "_law_way"] [])
    (cdv : Value) (A0 : Around) (outer : List Env) (s : Shared) (Hs : Hp) (Es : XK) (hg : A0.guards = some []) (hr : Room 6 (A0.deeper (PyProof.Rows.envOfC "law" (defScope sLaw) s.heap.objs.size f cdv))) :
    ∃ t, PSs (cxOf CX0 P w K mg base nLaw "law" (defScope sLaw) f cdv A0 outer s Hs Es).nox bTurn t ∧
      ∀ (a q E : Addr) (A : LA) (ms ns rs : List Addr) (es : List Ent) (ns0 : List Int) (k : Nat) (kz : Int) (De : Ends) (G : Hp) (v1 v2 v5 v7 v8 v9 v10 v11 v12 : Option V), SqL K G a (ns0.map V.int) → kz = (k : Int) → k < 1000 → LedAt C G q A ms ns es → G E = some (.lst (rs.map V.ref)) → RowsAt [] G rs es → 1 ≤ es.length → es.length ≤ 30 →
        (∀ e ∈ es, e.mem.length ≤ 6) → (∀ e ∈ es, ∀ m ∈ e.mem, m < es.length) →
        (∀ (H' : Hp) (u2 u9 u10 u11 u12 : Option V), Keep [] G H' → De.nx [some (.ref a), v1, u2, some (.ref E), some (.ref q), v5, some (.int kz), v7, v8, u9, u10, u11, u12] H') → t De [some (.ref a), v1, v2, some (.ref E), some (.ref q), v5, some (.int kz), v7, v8, v9, v10, v11, v12] G := by
  obtain ⟨tl5, h5, r5⟩ := turn_5 (P := P) (w := w) (base := base) T FDg bDg FOd bOd FLd bLd cdv A0 outer s Hs Es hg hr
  have hr1 : Room 1 _ := hr.mono (by decide)
  have hr2 : Room 2 _ := hr.mono (by decide)
  have hr4 : Room 4 _ := hr.mono (by decide)
  have hu := hr.units
  have hu65 : (A0.deeper (PyProof.Rows.envOfC "law" (defScope sLaw) s.heap.objs.size f cdv)).units + 65 < cLine := by have := hr.un; omega
  have hgX : (cxOf CX0 P w K mg base nLaw "law" (defScope sLaw) f cdv A0 outer s Hs Es).nox.A.guards = some [] := hg
  refine ⟨_, pss_cons (ps_set (i := 2) scLaw.nd rfl (Or.inl rfl) (pe_call FPo hr1 rfl T.gPo T.kPo bPo .nil pass0 (pa_cons (pv 0) (pa_cons (pv 6) pa_nil))))
    (pss_cons (ps_set (i := 9) scLaw.nd rfl (Or.inl rfl) (pe_call FDg hr1 rfl T.gDg T.kDg bDg .nil pass0 (pa_cons (pv 2) (pa_cons (pe_callB call_len_seq (by rfl) T.len PySem.boot_len (pa_cons (pv 3) pa_nil)) pa_nil))))
    (pss_cons (ps_asg (pe_call FWk hr2 rfl T.gWk T.kWk bWk .nil pass0 (pa_cons (pv 2) (pa_cons (pv 3) (pa_cons (pv 9) pa_nil)))) (pg_tup rfl (pgs_cons (pg_name (i := 10) scLaw.nd rfl (Or.inl rfl)) (pgs_cons (pg_name (i := 11) scLaw.nd rfl (Or.inl rfl)) pgs_nil))))
    (pss_cons (ps_if (pt_cmpR op_ne (pe_callB (call_reprD hgX hu) (by rfl) T.repr (by decide +kernel) (pa_cons (pe_call FLd hr4 rfl T.gLd T.kLd bLd .nil pass0 (pa_cons (pv 4) (pa_cons (pv 9) (pa_cons (pv 10) pa_nil)))) pa_nil)) (pe_callB (call_reprD hgX hu) (by rfl) T.repr (by decide +kernel) (pa_cons (pe_tup (pa_cons pe_str (pa_cons (pv 11) pa_nil))) pa_nil)) (nomark _)) (pss_one (ps_ret pe_bl)) pss_nil)
    (pss_cons (ps_if (PW.pt (pw_and (pt_cmpR (op_inD hu65) (pe_slice sl_tupA (pv 10) (po_some (pe_un un_neg pe_int)) po_none) (pe_lst (pa_cons (pe_tup (pa_cons pe_int pa_nil)) (pa_cons (pe_tup (pa_cons pe_int pa_nil)) pa_nil))) (by rfl))
        (pw_and1 (pt_cmpR (op_neD hu) (pe_call FLd hr4 rfl T.gLd T.kLd bLd .nil pass0 (pa_cons (pv 4) (pa_cons (pv 9) (pa_cons (pe_op op_catA (pe_slice sl_tupA (pv 10) po_none (po_some (pe_un un_neg pe_int))) (pe_tup (pa_cons (pe_cmpR op_eq (pe_ix ix_tup (pv 10) (pe_un un_neg pe_int) (fun _ _ => rfl)) pe_int (nomark _)) pa_nil))) pa_nil)))) (pe_tup (pa_cons pe_str (pa_cons pe_bl pa_nil))) (nomark _)))))
      (pss_one (ps_ret pe_bl)) pss_nil) h5)))), ?_⟩
  intro a q E A ms ns rs es ns0 k kz De G v1 v2 v5 v7 v8 v9 v10 v11 v12 hS hz hk hL hE hR h1 h30 six inn kk
  subst hz
  have lr := hR.len
  -- the pot
  refine ⟨_, rfl, _, rfl, a, ns0, k, rfl, hS, hk, fun p G1 hp k1 pot1 => ?_⟩
  have nEp : E ≠ p := fun z => by rw [z, hp] at hE; cases hE
  have npA : p ∉ A.ls ++ ns := fun z => by
    rcases List.mem_append.mp z with z | z
    · obtain ⟨xs, e⟩ := hL.isl p z
      rw [e] at hp; cases hp
    · obtain ⟨xs, e⟩ := hL.notes.is p z
      rw [e] at hp; cases hp
  have hRp : RowsAt [p] G rs es := hR.more hp
  -- the fault
  refine ⟨_, rfl, _, rfl, E, _, rfl, .inl (SqL.of (k1.at hE nin0)), p, 0, _, rfl, pot1, by decide, by rw [List.length_map, lr]; omega, by rw [List.length_map, lr]; omega, fun d G2 d0 d1 hk2 pot2 => ?_⟩
  rw [List.length_map, lr] at d1
  obtain ⟨d, rfl⟩ : ∃ m : Nat, d = (m : Int) := ⟨d.toNat, by omega⟩
  have hd : d < es.length := by omega
  have k02 : Keep [] G G2 := k1.over hp (keep_of_dig hk2)
  -- the way
  refine ⟨_, rfl, _, rfl, _, rfl, p, E, d, 0 + 1, [p], rs, es, rfl, pot2, by decide, in1, nEp, k02.at hE nin0, hRp.keep (k02.more fun b z => absurd z nin0), hd, six, inn, fun G3 t wa w m k3 ht et ea hg hwl hw6 hm pot3 => ?_⟩
  have k03 : Keep [] G G3 := k02.over hp k3
  refine ⟨t, _, rfl, SqT.of et, rfl, _, _, rfl, _, _, rfl, rfl, ?_⟩
  -- led there
  have hL3 := hL.keep k03 (fun b z => absurd z nin0) (fun b z => absurd z nin0)
  refine ⟨_, rfl, _, rfl, _, rfl, q, A, ms, ns, es, d, .ref wa, rfl, hL3, hd, inn, six, some m, .inl ⟨wa, _, plI w, rfl, ea, pls_plI w, hg⟩, fun n G4 t4 hn hnl k4 ht4 et4 => ?_, fun _ _ h => by cases h⟩
  cases hn
  obtain ⟨o1, o2, o3, o4⟩ := led_ok (n := m) (by omega)
  refine ⟨t4, ledD m, rfl, led_dp et4, o1, o2, o3, o4, ?_⟩
  refine ⟨_, rfl, (by show 2 ≤ sizeLine; decide), fun t5 ht5 => ?_⟩
  refine ⟨t5, ledD m, rfl, led_dp upd_same, o1, o2, o3, o4, rfl, _, rfl, iteNS rfl ?_⟩
  have k5 : Keep [] G3 (upd G4 t5 (.tup [.str "led", .int (m : Int)])) := k4.newTo ht5
  generalize (upd G4 t5 (.tup [.str "led", .int (m : Int)])) = G5 at k5 ⊢
  have k05 := k03.trans k5
  have ea5 := k5.at ea nin0
  have pot5 := pot3.keep k5 nin0
  -- its last place
  refine ⟨_, rfl, _, rfl, _, rfl, ?_⟩
  dsimp only [tNoPart]
  refine slA_one ea5 fun sa G6 k6 es6 => ?_
  rw [cut_last] at es6
  refine ⟨(by show 1 ≤ sizeLine; decide), fun t7 ht7 => ?_⟩
  refine ⟨(by show 1 ≤ sizeLine; decide), fun t8 ht8 => ?_⟩
  refine ⟨(by show 2 ≤ sizeLine; decide), fun l9 hl9 => ?_⟩
  have k9 : Keep [] G6 (upd (upd (upd G6 t7 (.tup [.int 0])) t8 (.tup [.int 1])) l9 (.lst [.ref t7, .ref t8])) := ((Keep.new ht7).newTo ht8).newTo hl9
  have e97 : (upd (upd (upd G6 t7 (.tup [.int 0])) t8 (.tup [.int 1])) l9 (.lst [.ref t7, .ref t8])) t7 = some (.tup (memV [0])) := ((Keep.new ht8 (ex := [])).newTo hl9).at upd_same nin0
  have e98 : (upd (upd (upd G6 t7 (.tup [.int 0])) t8 (.tup [.int 1])) l9 (.lst [.ref t7, .ref t8])) t8 = some (.tup (memV [1])) := (Keep.new hl9 (ex := [])).at upd_same nin0
  have e99 : (upd (upd (upd G6 t7 (.tup [.int 0])) t8 (.tup [.int 1])) l9 (.lst [.ref t7, .ref t8])) l9 = some (.lst [.ref t7, .ref t8]) := upd_same
  generalize (upd (upd (upd G6 t7 (.tup [.int 0])) t8 (.tup [.int 1])) l9 (.lst [.ref t7, .ref t8])) = G9 at k9 e97 e98 e99 ⊢
  refine ⟨intsT (lastN w), [intsT [0], intsT [1]], dp_intsT (k9.at es6 nin0), .lst (SqL.of e99) (.cons (dp_intsT e97) (.cons (dp_intsT e98) .nil)), intsT_shaped _, by decide +kernel, _, rfl, ?_⟩
  have k59 := k6.trans k9
  have pot9 := pot5.keep k59 nin0
  have ea9 := k59.at ea5 nin0
  have k09 := k05.trans k59
  have L9 := hL.keep k09 (fun b z => absurd z nin0) (fun b z => absurd z nin0)
  -- the end of it
  have fin : ∀ H', Keep [] G9 H' → tl5 De [some (.ref a), v1, some (.ref p), some (.ref E), some (.ref q), v5, some (.int (k : Int)), v7, v8, some (.int (d : Int)), some (.ref wa), some (.int (m : Int)), v12] H' := fun H' k' => by
    have k0' := k09.trans k'
    refine r5 p wa q E A ms ns rs es d m (0 + 1 + 20) w De H' _ _ _ _ _ _ _ (pot9.keep k' nin0) (by decide) (L9.keep k' (fun b z => absurd z nin0) (fun b z => absurd z nin0)) (k0'.at hE nin0) (hRp.keep (k0'.more fun b z => absurd z nin0)) nEp npA hd hm h30 six inn (k'.at ea9 nin0) hg hwl fun H2 u12 k2 => ?_
    exact kk H2 _ _ _ _ _ (k0'.over hp k2)
  by_cases hw : w = []
  · have e0 : ([intsT [0], intsT [1]].any fun z => PyData.eqv z (intsT (lastN w))) = false := by rw [hw]; decide +kernel
    rw [e0]
    exact iteF (fin G9 (Keep.refl _ _))
  · obtain ⟨x, hx1, hx2⟩ := last_split hw
    generalize ([intsT [0], intsT [1]].any fun z => PyData.eqv z (intsT (lastN w))) = bb
    cases bb with
    | false => exact iteF (fin G9 (Keep.refl _ _))
    | true =>
      refine iteT ?_
      refine ⟨_, rfl, _, rfl, _, rfl, _, rfl, _, rfl, ?_⟩
      refine slA_one ea9 fun sb G10 k10 es10 => ?_
      rw [cut_init] at es10
      have ix : atI (memV w) (-1) = some (V.int (x : Int)) := by
        have := atI_last (memV (w.take (w.length - 1))) (V.int (x : Int))
        rw [hx1]
        show atI (((w.take (w.length - 1)) ++ [x]).map fun k : Nat => V.int (k : Int)) (-1) = _
        rw [List.map_append]
        exact this
      refine ⟨_, rfl, _, rfl, wa, _, _, V.int (x : Int), rfl, rfl, SqT.of (k10.at ea9 nin0), ix, rfl, (by show 1 ≤ sizeLine; decide), fun t11 ht11 => ?_⟩
      have k11 : Keep [] G10 (upd G10 t11 (.tup [.bl (decide (V.int (x : Int) = V.int 1))])) := Keep.new ht11
      have e11 : (upd G10 t11 (.tup [.bl (decide (V.int (x : Int) = V.int 1))])) t11 = some (.tup [.bl (decide (V.int (x : Int) = V.int 1))]) := upd_same
      generalize (upd G10 t11 (.tup [.bl (decide (V.int (x : Int) = V.int 1))])) = G11 at k11 e11 ⊢
      generalize decide (V.int (x : Int) = V.int 1) = bx at e11 ⊢
      refine catA_one (k11.at es10 nin0) e11 (by rw [List.length_map, List.length_take]; exact Nat.le_trans (by show min (w.length - 1) w.length + 1 ≤ 1000; omega) (by decide)) (fun c G12 k12 ec => ?_)
      obtain ⟨mi, hmi⟩ : ∃ y, goes es d (plI (w.take (w.length - 1))) = some y := by
        rw [hx1] at hg
        have e : plI (w.take (w.length - 1) ++ [x]) = plI (w.take (w.length - 1)) ++ [Pl.int (x : Int)] := by unfold plI; rw [List.map_append]; rfl
        rw [e] at hg
        exact goes_init hg
      have k912 := (k10.trans k11).trans k12
      refine ⟨q, A, ms, ns, es, d, .ref c, rfl, L9.keep k912 (fun b z => absurd z nin0) (fun b z => absurd z nin0), hd, inn, six, none, .inl ⟨c, _, _, rfl, ec, PlsOk.app (show PlsOk K G12 [V.bl bx] [Pl.odd] from ⟨⟨"bool", ⟨.base (.bl _), by decide⟩, by decide⟩, True.intro⟩) (pls_plI _), goes_none hmi rfl⟩, (fun _ _ _ h => by cases h), fun G13 t13 _ k13 ht13 et13 => ?_⟩
      refine ⟨(by show 2 ≤ sizeLine; decide), fun t14 ht14 => ?_⟩
      refine ⟨refD, refD, ref_dp ((Keep.new ht14 (ex := [])).at et13 nin0), ref_dp upd_same, ref_shaped, ref_shaped, _, rfl, ?_⟩
      rw [ref_eqv]
      exact iteF (fin _ ((k912.trans k13).newTo ht14))
end
end Fs
/-! The law's own body. -/
namespace Fs
open PySem L2 TL
def spLaw (K : PySem.W.Frag) (Pt : Addr) : Sp := fun vs H Q _ => ∃ (a : Addr) (ns : List Int), vs = [.ref a] ∧ SqL K H a (ns.map V.int) ∧ ns.length ≤ 63 ∧ H Pt = some (.tbl #[]) ∧ ∀ H', Q (.bl true) H'
theorem seq_keep {K : PySem.W.Frag} {H H' : Hp} {a Pt : Addr} {xs : List V} {tb : Array Value} (h : SqL K H a xs) (k : Keep [Pt] H H') (hT : H Pt = some (.tbl tb)) : SqL K H' a xs := by
  rcases h with (h | ⟨o, h⟩) | h
  · exact .inl (.inl (k.at h (nin1 (ne_of h hT (fun z => by cases z)))))
  · exact .inl (.inr ⟨o, k.at h (nin1 (ne_of h hT (fun z => by cases z)))⟩)
  · exact .inr h
abbrev rReprD (K : PySem.W.Frag) : List V → Hp → VK → Prop := fun xs H Q => ∃ (a : Addr) (d : PyData), xs = [V.ref a] ∧ Dp K H (.ref a) d ∧ d.showable = true ∧ d.hasDict = false ∧ d.depth ≤ 60 ∧ d.shown.length ≤ sizeLine ∧ Q (.str d.shown) H
/-- a pair that is held: both lists have the same ways -/
def HeldOne (L : Addr) (H : Hp) (t : Addr) : Prop := ∃ (F1 F2 : Addr) (ts1 ts2 : List Addr) (fs : List WH), H t = some (.tup [.ref F1, .ref F2]) ∧ F1 ≠ L ∧ F2 ≠ L ∧ H F1 = some (.lst (ts1.map V.ref)) ∧ H F2 = some (.lst (ts2.map V.ref)) ∧ WaysAt H ts1 fs ∧ WaysAt H ts2 fs ∧ (waysD fs).showable = true ∧ (waysD fs).hasDict = false ∧ (waysD fs).depth ≤ 60 ∧ (waysD fs).shown.length ≤ sizeLine
theorem HeldOne.keep {L : Addr} {H H' : Hp} {t : Addr} {xs : List V} (h : HeldOne L H t) (k : Keep [L] H H') (hL : H L = some (.lst xs)) : HeldOne L H' t := by
  obtain ⟨F1, F2, ts1, ts2, fs, h1, h2, h3, h4, h5, h6, h7, h8⟩ := h
  have tu : ∀ a ys, H a = some (.tup ys) → H' a = some (.tup ys) := fun a ys e => k.at e (nin1 (ne_of e hL (fun z => by cases z)))
  exact ⟨F1, F2, ts1, ts2, fs, tu _ _ h1, h2, h3, k.at h4 (nin1 h2), k.at h5 (nin1 h3), h6.map tu, h7.map tu, h8⟩
theorem wf_small {ps : List (Str × Str)} {es : List Ent} {e : Ent} (B : Built ps es) (he : e ∈ es) : e.mem.length ≤ 6 ∧ ∀ m ∈ e.mem, m < es.length := by
  obtain ⟨j, hj⟩ := List.mem_iff_getElem?.mp he
  have hjl := (List.getElem?_eq_some_iff.mp hj).1
  obtain ⟨f1, f2, f3, f4, f5, f6, f7⟩ := B j e hj
  exact ⟨f2, fun m hm => Nat.lt_trans (f3 m hm) hjl⟩
theorem fllv (A : LA) : (fldsL A).lookup ("leaves" : Str) = none := rfl
section
variable {P : Program} {w : World} {K : PySem.W.Frag} {mg : Str → Option Value} {base : Heap} {C fPo fPa fEn fLe fLv fLp fDg fWk fOd fLd : Addr}
variable {CK Pt : Addr}
theorem law_body {dPo dPa dEn dLe dLv dLp dDg dWk dOd dLd : FuncData} {f : Addr} (T : ATxt K mg C fPo fPa fEn fLe fLv fLp fDg fWk fOd fLd)
    (FPo : FnOk P w K mg base CX0 1 fPo dPo ["_law_script", "_law_k"] (spPot K)) (bPo : Binds K dPo ["_law_script", "_law_k"] []) (FPa : FnOk P w K mg base CX0 4 fPa dPa ["_law_pot_here"] spPairs) (bPa : Binds K dPa ["_law_pot_here"] [])
    (FEn : FnOk P w K mg base CX0 3 fEn dEn ["_law_pot_here", "_law_pairs_here", "_law_most"] spEnt) (bEn : Binds K dEn ["_law_pot_here", "_law_pairs_here", "_law_most"] []) (FLe : FnOk P w K mg base CX0 6 fLe dLe ["_law_pairs_here", "_law_entries_here"] (spLedg C CK Pt)) (bLe : Binds K dLe ["_law_pairs_here", "_law_entries_here"] [])
    (FLv : FnOk P w K mg base CX0 1 fLv dLv ["_law_entries_here", "_law_k"] spLvs) (bLv : Binds K dLv ["_law_entries_here", "_law_k"] []) (FLp : FnOk P w K mg base CX0 3 fLp dLp ["self", "k"] (spLvp C)) (bLp : Binds K dLp ["self", "k"] [])
    (FDg : FnOk P w K mg base CX0 1 fDg dDg ["_law_pot_here", "_law_many"] spDigit) (bDg : Binds K dDg ["_law_pot_here", "_law_many"] []) (FWk : FnOk P w K mg base CX0 2 fWk dWk ["_law_pot_here", "_law_entries_here", "_law_k"] spWk) (bWk : Binds K dWk ["_law_pot_here", "_law_entries_here", "_law_k"] [])
    (FOd : FnOk P w K mg base CX0 2 fOd dOd ["_law_pot_here", "_law_entries_here", "_law_here"] (spOdd K)) (bOd : Binds K dOd ["_law_pot_here", "_law_entries_here", "_law_here"] []) (FLd : FnOk P w K mg base CX0 4 fLd dLd ["_law_ledger_here", "_law_k", "_law_way"] (spLdl K C)) (bLd : Binds K dLd ["_law_ledger_here", "_law_k", "_law_way"] [])
    (cdv : Value) (A0 : Around) (outer : List Env) (s : Shared) (H : Hp) (vs : List V) (Q : VK) (Es : XK) (hg : A0.guards = some []) (hr : Room 6 (A0.deeper (PyProof.Rows.envOfC "law" (defScope sLaw) s.heap.objs.size f cdv))) (h : spLaw K Pt vs H Q Es) :
    ∃ t, PSs (cxOf CX0 P w K mg base nLaw "law" (defScope sLaw) f cdv A0 outer s H Es).nox (defBody sLaw) t ∧ t { nx := fun _ H' => Q .non H', rt := Q } (L2.start nLaw vs) H := by
  obtain ⟨a, ns0, rfl, hS, h63, hT, kk⟩ := h
  obtain ⟨tT, hTn, rT⟩ := turn (P := P) (w := w) (base := base) T FPo bPo FDg bDg FWk bWk FOd bOd FLd bLd cdv A0 outer s H Es hg hr
  have hr1 : Room 1 _ := hr.mono (by decide)
  have hr3 : Room 3 _ := hr.mono (by decide)
  have hr4 : Room 4 _ := hr.mono (by decide)
  have hu := hr.units
  have hgX : (cxOf CX0 P w K mg base nLaw "law" (defScope sLaw) f cdv A0 outer s H Es).nox.A.guards = some [] := hg
  refine ⟨_, pss_cons (ps_set (i := 1) scLaw.nd rfl (Or.inl rfl) (pe_call FPa hr4 rfl T.gPa T.kPa bPa .nil pass0 (pa_cons (pe_call FPo hr1 rfl T.gPo T.kPo bPo .nil pass0 (pa_cons (pv 0) (pa_cons pe_int pa_nil))) pa_nil)))
    (pss_cons (ps_set (i := 2) scLaw.nd rfl (Or.inl rfl) (pe_call FPo hr1 rfl T.gPo T.kPo bPo .nil pass0 (pa_cons (pv 0) (pa_cons pe_int pa_nil))))
    (pss_cons (ps_set (i := 3) scLaw.nd rfl (Or.inl rfl) (pe_call FEn hr3 rfl T.gEn T.kEn bEn .nil pass0 (pa_cons (pv 2) (pa_cons (pv 1) (pa_cons pe_int pa_nil)))))
    (pss_cons (ps_expr (pe_bm PySem.F.plainAttrs_list PySem.F.slot_list_append PySem.F.type_list_append mt_append (pv 3) (pa_cons (pe_lst (pa_cons pe_str (pa_cons pe_str (pa_cons (pe_lst pa_nil) (pa_cons (pe_lst pa_nil) (pa_cons pe_non (pa_cons pe_non pa_nil))))))) pa_nil)))
    (pss_cons (ps_set (i := 4) scLaw.nd rfl (Or.inl rfl) (pe_call FLe hr rfl T.gLe T.kLe bLe .nil pass0 (pa_cons (pv 1) (pa_cons (pv 3) pa_nil))))
    (pss_cons (ps_set (i := 5) scLaw.nd rfl (Or.inl rfl) (pe_lst pa_nil))
    (pss_cons (ps_for PassesOwn.never rfl (pi_range1 rfl T.range (pa_cons (pe_callB call_len_seq (by rfl) T.len PySem.boot_len (pa_cons (pv 3) pa_nil)) pa_nil)) (pg_name (i := 6) scLaw.nd rfl (Or.inl rfl))
      (pss_cons (ps_set (i := 7) scLaw.nd rfl (Or.inl rfl) (pe_call FLv hr1 rfl T.gLv T.kLv bLv .nil pass0 (pa_cons (pv 3) (pa_cons (pv 6) pa_nil))))
      (pss_cons (ps_expr (pe_bm PySem.F.plainAttrs_list PySem.F.slot_list_append PySem.F.type_list_append mt_append (pv 5) (pa_cons (pe_tup (pa_cons (pe_meth (pv 4) T.cl T.mL FLp hr3 bLp .nil pass0 (pa_cons (pv 6) pa_nil)) (pa_cons (pv 7) pa_nil))) pa_nil)))
      (pss_cons (ps_set (i := 8) scLaw.nd rfl (Or.inl rfl) (pe_meth (pv 4) T.cl T.mL FLp hr3 bLp .nil pass0 (pa_cons (pv 6) pa_nil)))
      (pss_cons (ps_if (pt_cmpR op_ne (pe_callB (call_reprD hgX hu) (by rfl) T.repr (by decide +kernel) (pa_cons (pv 8) pa_nil)) (pe_callB (call_reprD hgX hu) (by rfl) T.repr (by decide +kernel) (pa_cons (pv 7) pa_nil)) (nomark _)) (pss_one (ps_ret pe_bl)) pss_nil)
      (pss_cons (ps_expr (pe_bm0 PySem.F.plainAttrs_list PySem.F.slot_list_clear PySem.F.type_list_clear mt_clear (pv 8)))
      (pss_one (ps_if (pt_cmpR op_ne (pe_callB (call_reprD hgX hu) (by rfl) T.repr (by decide +kernel) (pa_cons (pe_meth (pv 4) T.cl T.mL FLp hr3 bLp .nil pass0 (pa_cons (pv 6) pa_nil)) pa_nil)) (pe_callB (call_reprD hgX hu) (by rfl) T.repr (by decide +kernel) (pa_cons (pv 7) pa_nil)) (nomark _)) (pss_one (ps_ret pe_bl)) pss_nil))))))))
    (pss_cons (ps_for PassesOwn.never rfl (pi_range2 rfl T.range (pa_cons pe_int (pa_cons (pe_callB (call_max2 rfl) (by rfl) T.max (by decide +kernel) (pa_cons pe_int (pa_cons (pe_callB (call_min2 rfl) (by rfl) T.min (by decide +kernel) (pa_cons pe_int (pa_cons (pe_callB call_len_seq (by rfl) T.len PySem.boot_len (pa_cons (pv 0) pa_nil)) pa_nil))) pa_nil))) pa_nil))) (pg_name (i := 6) scLaw.nd rfl (Or.inl rfl)) hTn)
    (pss_one (ps_ret (pe_callB (cr_all rfl) (by rfl) T.all (by decide +kernel) (pa_cons (pe_lc (own := [("_law_told", 8), ("_law_due", 7)]) (g := gTup K 2 (gCons (gName 8) (gCons (gName 7) gNil))) (tt := tYes) (te := tOp rEq (tCB (rReprD K) (tCons (tVar 8) tNil)) (tCB (rReprD K) (tCons (tVar 7) tNil))) rfl scLaw.nd (pi_list (pv 5))
      (blkOk_by (N := nLaw) (sc := defScope sLaw) (by decide +kernel)) (fun _ _ _ _ _ => pg_tup rfl (pgs_cons (pg_name (i := 8) scLaw.nd rfl (Or.inl rfl)) (pgs_cons (pg_name (i := 7) scLaw.nd rfl (Or.inl rfl)) pgs_nil))) (fun _ _ _ _ _ => pts_nil) (fun _ _ _ _ _ => by exact (pe_cmpR op_eq (pe_callB (call_reprD hgX hu) (by rfl) T.repr (by decide +kernel) (pa_cons (pv 8) pa_nil)) (pe_callB (call_reprD hgX hu) (by rfl) T.repr (by decide +kernel) (pa_cons (pv 7) pa_nil)) (nomark _)))) pa_nil))))))))))), ?_⟩
  -- the pairs
  refine ⟨_, rfl, a, ns0, 0, rfl, hS, by decide, fun p0 G1 hp0 k1 pot1 => ?_⟩
  refine ⟨p0, 0, rfl, pot1, by decide, fun l ps G2 hl hw hps hP k2 pot2 => ?_⟩
  have k02 : Keep [] H G2 := k1.over hp0 k2
  -- the entries
  refine ⟨_, rfl, a, ns0, 1, rfl, seq_keep hS (k02.more fun b z => absurd z nin0) hT, by decide, fun p G3 hp k3 pot3 => ?_⟩
  obtain ⟨xl, el⟩ := hP.some
  have nlp : l ≠ p := fun z => by rw [z, hp] at el; cases el
  have hP3 := hP.keep k3 nin0 (fun b z => absurd z nin0)
  refine ⟨_, rfl, _, rfl, p, l, 0, 20, ps, rfl, by decide, pot3, by decide, hP3, by omega, nlp, fun E rs es0 Lf0 Df0 Nf0 G4 tree0 hE3 hrs3 eE tri4 rnd B0 hl20 k4 pot4 => ?_⟩
  have hpH : H p = none := Keep.free k02 hp nin0
  have k24 : Keep [] G2 G4 := k3.over hp k4
  have hE2 : G2 E = none := Keep.free k3 hE3 nin0
  obtain ⟨mm, nn, t4, _, _⟩ := tri4
  have r4 : RowsAt [E] G4 rs es0 := t4.rows.less fun b hb => by rw [List.mem_singleton.mp hb]; simp
  have lr4 := t4.rows.len
  -- one more
  refine ⟨_, rfl, .inl ⟨rfl, _, SqL.of eE⟩, ?_⟩
  refine ⟨Nat.zero_le _, fun m5 hm5 => ?_⟩
  refine ⟨Nat.zero_le _, fun n5 hn5 => ?_⟩
  refine ⟨(by show 6 ≤ sizeLine; decide), fun r5 hr5 => ?_⟩
  have k5 : Keep [] G4 (upd (upd (upd G4 m5 (.lst [])) n5 (.lst [])) r5 (.lst [.str sF, .str "", .ref m5, .ref n5, .non, .non])) := ((Keep.new hm5).newTo hn5).newTo hr5
  have em5 : (upd (upd (upd G4 m5 (.lst [])) n5 (.lst [])) r5 (.lst [.str sF, .str "", .ref m5, .ref n5, .non, .non])) m5 = some (.lst []) := ((Keep.new hn5 (ex := [])).newTo hr5).at upd_same nin0
  have en5 : (upd (upd (upd G4 m5 (.lst [])) n5 (.lst [])) r5 (.lst [.str sF, .str "", .ref m5, .ref n5, .non, .non])) n5 = some (.lst []) := (Keep.new hr5 (ex := [])).at upd_same nin0
  have er5 : (upd (upd (upd G4 m5 (.lst [])) n5 (.lst [])) r5 (.lst [.str sF, .str "", .ref m5, .ref n5, .non, .non])) r5 = some (.lst [.str sF, .str "", .ref m5, .ref n5, .non, .non]) := upd_same
  have nm5 : m5 ≠ E := fun z => by rw [z, eE] at hm5; cases hm5
  have nn5 : n5 ≠ E := fun z => by rw [z, (Keep.new hm5 (ex := [])).at eE nin0] at hn5; cases hn5
  have nr5 : r5 ≠ E := fun z => by rw [z, ((Keep.new hm5 (ex := [])).newTo hn5).at eE nin0] at hr5; cases hr5
  generalize (upd (upd (upd G4 m5 (.lst [])) n5 (.lst [])) r5 (.lst [.str sF, .str "", .ref m5, .ref n5, .non, .non])) = G5 at k5 em5 en5 er5 ⊢
  refine ⟨E, _, _, rfl, rfl, k5.at eE nin0, Nat.lt_of_le_of_lt (by rw [List.length_map]; omega : (rs.map V.ref).length ≤ 1000) (by decide), ?_⟩
  let e0 : Ent := ⟨sF, "", [], [], none, none⟩
  have k26 : Keep [] G2 (upd G5 E (.lst (rs.map V.ref ++ [.ref r5]))) := (k24.trans k5).freshTo hE2
  have eE6 : (upd G5 E (.lst (rs.map V.ref ++ [.ref r5]))) E = some (.lst ((rs ++ [r5]).map V.ref)) := by rw [upd_same, List.map_append]; rfl
  have r6 : RowsAt [E] (upd G5 E (.lst (rs.map V.ref ++ [.ref r5]))) (rs ++ [r5]) (es0 ++ [e0]) := RowsAt.snoc (e := e0) ⟨m5, n5, nin1 nr5, nin1 nm5, nin1 nn5, by rw [upd_ne nr5]; exact er5, by rw [upd_ne nm5]; exact em5, by rw [upd_ne nn5]; exact en5⟩ (r4.keep ((k5.more fun b z => absurd z nin0).trans (Keep.own in1)))
  have tree := tree0.snoc (e := e0) (a := 1) (d := 0) (fun m h => absurd h List.not_mem_nil) rfl (by decide) (by decide) (fun _ => rfl) (fun m h => absurd h List.not_mem_nil) (fun h => absurd rfl h)
  have B : Built ps (es0 ++ [e0]) := B0.snoc ⟨⟨Nat.zero_le _, fun c h => by revert c h; decide +kernel⟩, Nat.zero_le _, (fun k h => absurd h List.not_mem_nil), rfl, rfl, rfl, fun _ => List.mem_cons_self, fun h => absurd rfl h⟩
  have hle : (es0 ++ [e0]).length ≤ 21 := by rw [List.length_append]; show es0.length + 1 ≤ 21; omega
  have hle1 : 1 ≤ (es0 ++ [e0]).length := by rw [List.length_append]; show 1 ≤ es0.length + 1; omega
  generalize (upd G5 E (.lst (rs.map V.ref ++ [.ref r5]))) = G6 at k26 eE6 r6 ⊢
  generalize (es0 ++ [e0]) = es at r6 tree B hle hle1 ⊢
  generalize (rs ++ [r5]) = rs' at eE6 r6 ⊢
  have k06 := k02.trans k26
  have six : ∀ e ∈ es, e.mem.length ≤ 6 := fun e he => (wf_small B he).1
  have inn : ∀ e ∈ es, ∀ m ∈ e.mem, m < es.length := fun e he => (wf_small B he).2
  -- the ledger
  have hT6 := k06.at hT nin0
  refine ⟨_, rfl, _, rfl, l, E, rs', es, ps, rfl, hP.keep k26 nin0 (fun b z => absurd z nin0), hw, by omega, eE6, r6.less (fun b z => absurd z nin0), B, by omega, ⟨#[], hT6, True.intro⟩, fun q A ms ns G7 k7 _ led7 _ tab7 _ => ?_⟩
  have nET : E ≠ Pt := fun z => by rw [z, hT6] at eE6; cases eE6
  have eE7 := k7.at eE6 (nin1 nET)
  have r7 : RowsAt [] G7 rs' es := ((r6.noTab hT6).less (bad' := [Pt]) (fun b hb => by rw [List.mem_singleton.mp hb]; simp) |>.keep k7).less (fun b z => absurd z nin0)
  have k07 : Keep [Pt] H G7 := (k06.more fun b z => absurd z nin0).trans k7
  have lr := r7.len
  -- what is held
  refine ⟨Nat.zero_le _, fun L hL0 => ?_⟩
  have k8 : Keep [] G7 (upd G7 L (.lst [])) := Keep.new hL0
  have eL8 : (upd G7 L (.lst [])) L = some (.lst []) := upd_same
  have nEL : E ≠ L := fun z => by rw [z, hL0] at eE7; cases eE7
  have nLA : L ∉ A.ls ++ ns := fun z => by
    rcases List.mem_append.mp z with z | z
    · obtain ⟨xs, e⟩ := led7.isl L z
      rw [e] at hL0; cases hL0
    · obtain ⟨xs, e⟩ := led7.notes.is L z
      rw [e] at hL0; cases hL0
  have r7L : RowsAt [L] G7 rs' es := r7.more hL0
  generalize (upd G7 L (.lst [])) = G8 at k8 eL8 ⊢
  refine ⟨_, rfl, E, _, rfl, .inl (SqL.of (k8.at eE7 nin0)), _, rfl, by rw [List.length_map]; omega, by rw [List.length_map, lr]; omega, ?_⟩
  rw [List.length_map, lr, Int.toNat_natCast]
  refine for_range (lo := 0) (n := es.length) (fun i σ G => ∃ (ts : List Addr) (v6 v7 v8 : Option V), σ = [some (.ref a), some (.ref l), some (.ref p), some (.ref E), some (.ref q), some (.ref L), v6, v7, v8, none, none, none, none] ∧ G L = some (.lst (ts.map V.ref)) ∧ ts.length = i ∧ (∀ t ∈ ts, HeldOne L G t) ∧ Keep [L] G8 G)
    ⟨[], none, none, none, rfl, eL8, rfl, (fun t h => absurd h List.not_mem_nil), Keep.refl _ _⟩ ?_ ?_
  · rintro i σ G hi ⟨ts, v6, v7, v8, rfl, eL, hts, held, kG⟩
    have z0 : (0 : Int) + (i : Int) = (i : Int) := Int.zero_add _
    have k7G : Keep [L] G7 G := (k8.more fun b z => absurd z nin0).trans kG
    have eEG := k7G.at eE7 (nin1 nEL)
    have rG : RowsAt [L] G rs' es := r7L.keep k7G
    have ledG := led7.keep k8 (fun b z => absurd z nin0) (fun b z => absurd z nin0) |>.keep kG (fun b hb => by rw [List.mem_singleton.mp hb]; exact nLA) (fun b hb => by rw [List.mem_singleton.mp hb]; exact ⟨_, eL8⟩)
    -- due
    refine ⟨_, rfl, _, rfl, E, i, [L], rs', es, _, _, _, by rw [z0]; rfl, eEG, rG, tree, hi, six, fun G1 D tsD fs k1 hD eD wD lenD _ hflD runD => ?_⟩
    have few := tree.few i _ (List.getElem?_eq_getElem hi)
    have good := runD.good six inn (fun y h => absurd h List.not_mem_nil) fun y hy => by
      rw [List.mem_singleton.mp hy]
      exact ⟨fun a h => absurd h List.not_mem_nil, hi⟩
    obtain ⟨o1, o2, o3, o4⟩ := ways_ok (n := es.length) (fs := fs) (by omega) good (fun y hy => Nat.le_trans (hflD y hy) few.2) (by rw [lenD]; exact few.1)
    have nDL : D ≠ L := fun z => by rw [z, eL] at hD; cases hD
    -- told once
    have led1 := ledG.keep k1 (fun b z => absurd z nin0) (fun b z => absurd z nin0)
    refine ⟨_, rfl, .inl ⟨rfl, _, SqL.of (k1.at eL nin0)⟩, ?_⟩
    refine ⟨_, rfl, q, A.dx, _, rfl, led1.ins, fllv A, _, rfl, q, A, ms, ns, es, i, _, _, _, by rw [z0]; rfl, led1, tree, hi, six, fun G2 F1 ts1 fs1 k2 hF1 eF1 w1 _ _ _ run1 => ?_⟩
    have e1 : fs1 = fs := run1.one runD
    subst e1
    refine ⟨_, rfl, (by show 2 ≤ sizeLine; decide), fun t ht => ?_⟩
    have k3 : Keep [] G1 (upd G2 t (.tup [.ref F1, .ref D])) := k2.newTo ht
    have k23 : Keep [] G2 (upd G2 t (.tup [.ref F1, .ref D])) := Keep.new ht
    have et : (upd G2 t (.tup [.ref F1, .ref D])) t = some (.tup [.ref F1, .ref D]) := upd_same
    generalize (upd G2 t (.tup [.ref F1, .ref D])) = G3 at k3 k23 et ⊢
    have nFL : F1 ≠ L := fun z => by rw [z, k1.at eL nin0] at hF1; cases hF1
    have kG3 := k1.trans k3
    have eL3 := kG3.at eL nin0
    refine ⟨L, _, _, rfl, rfl, eL3, Nat.lt_of_le_of_lt (by rw [List.length_map]; omega : (ts.map V.ref).length ≤ 1000) (by decide), ?_⟩
    have k4 : Keep [L] G3 (upd G3 L (.lst (ts.map V.ref ++ [.ref t]))) := Keep.own in1
    have eL4 : (upd G3 L (.lst (ts.map V.ref ++ [.ref t]))) L = some (.lst ((ts ++ [t]).map V.ref)) := by rw [upd_same, List.map_append]; rfl
    have held3 : ∀ x ∈ ts ++ [t], HeldOne L G3 x := fun x hx => by
      rcases List.mem_append.mp hx with z | z
      · exact (held x z).keep (kG3.more fun b z => absurd z nin0) eL
      · rw [List.mem_singleton.mp z]
        exact ⟨F1, D, ts1, tsD, fs1, et, nFL, nDL, k23.at eF1 nin0, k3.at eD nin0, w1.map fun a ys e => k23.at e nin0, wD.map fun a ys e => k3.at e nin0, o1, o2, o3, o4⟩
    have held4 : ∀ x ∈ ts ++ [t], HeldOne L (upd G3 L (.lst (ts.map V.ref ++ [.ref t]))) x := fun x hx => (held3 x hx).keep k4 eL3
    have kG4 : Keep [L] G (upd G3 L (.lst (ts.map V.ref ++ [.ref t]))) := (kG3.more fun b z => absurd z nin0).trans k4
    have eD4 : (upd G3 L (.lst (ts.map V.ref ++ [.ref t]))) D = some (.lst (tsD.map V.ref)) := k4.at (k3.at eD nin0) (nin1 nDL)
    have wD4 : WaysAt (upd G3 L (.lst (ts.map V.ref ++ [.ref t]))) tsD fs1 := wD.map fun a ys e => k4.at (k3.at e nin0) (nin1 (ne_of (k3.at e nin0) eL3 (fun z => by cases z)))
    have led4 := (led1.keep k3 (fun b z => absurd z nin0) (fun b z => absurd z nin0)).keep k4 (fun b hb => by rw [List.mem_singleton.mp hb]; exact nLA) (fun b hb => by rw [List.mem_singleton.mp hb]; exact ⟨_, eL3⟩)
    generalize (upd G3 L (.lst (ts.map V.ref ++ [.ref t]))) = G4 at k4 eL4 held4 kG4 eD4 wD4 led4 ⊢
    -- told again
    refine ⟨_, rfl, q, A.dx, _, rfl, led4.ins, fllv A, _, rfl, q, A, ms, ns, es, i, _, _, _, by rw [z0]; rfl, led4, tree, hi, six, fun G5 F2 ts2 fs2 k5 hF2 eF2 w2 _ _ _ run2 => ?_⟩
    have e2 : fs2 = fs1 := run2.one runD
    subst e2
    have eD5 := k5.at eD4 nin0
    have wD5 : WaysAt G5 tsD fs2 := wD4.map fun a ys e => k5.at e nin0
    refine ⟨_, rfl, F2, waysD fs2, rfl, .lst (SqL.of eF2) w2.dp, o1, o2, o3, o4, ?_⟩
    refine ⟨_, rfl, D, waysD fs2, rfl, .lst (SqL.of eD5) wD5.dp, o1, o2, o3, o4, rfl, _, rfl, iteNS rfl ?_⟩
    -- cleared
    refine ⟨_, rfl, .inl ⟨rfl, _, SqL.of eF2⟩, F2, _, rfl, rfl, eF2, ?_⟩
    have k6 : Keep [] G4 (upd G5 F2 (.lst [])) := k5.freshTo hF2
    generalize (upd G5 F2 (.lst [])) = G6' at k6 ⊢
    have led6 := led4.keep k6 (fun b z => absurd z nin0) (fun b z => absurd z nin0)
    refine ⟨_, rfl, q, A.dx, _, rfl, led6.ins, fllv A, _, rfl, q, A, ms, ns, es, i, _, _, _, by rw [z0]; rfl, led6, tree, hi, six, fun G9 F3 ts3 fs3 k9 hF3 eF3 w3 _ _ _ run3 => ?_⟩
    have e3 : fs3 = fs2 := run3.one runD
    subst e3
    have k49 := k6.trans k9
    refine ⟨F3, waysD fs3, rfl, .lst (SqL.of eF3) w3.dp, o1, o2, o3, o4, ?_⟩
    refine ⟨_, rfl, D, waysD fs3, rfl, .lst (SqL.of (k49.at eD4 nin0)) (wD4.map fun a ys e => k49.at e nin0).dp, o1, o2, o3, o4, rfl, _, rfl, iteNS rfl ?_⟩
    exact ⟨ts ++ [t], _, _, _, rfl, k49.at eL4 nin0, by rw [List.length_append, hts]; rfl, fun x hx => (held4 x hx).keep (k49.more fun b z => absurd z nin0) eL4, kG.trans (kG4.trans (k49.more fun b z => absurd z nin0))⟩
  · rintro σ G ⟨ts, v6, v7, v8, rfl, eL, hts, held, kG⟩
    have k7G : Keep [L] G7 G := (k8.more fun b z => absurd z nin0).trans kG
    have eEG := k7G.at eE7 (nin1 nEL)
    have rG : RowsAt [] G rs' es := (r7L.keep k7G).less (fun b z => absurd z nin0)
    have ledG := led7.keep k8 (fun b z => absurd z nin0) (fun b z => absurd z nin0) |>.keep kG (fun b hb => by rw [List.mem_singleton.mp hb]; exact nLA) (fun b hb => by rw [List.mem_singleton.mp hb]; exact ⟨_, eL8⟩)
    have hS7 := seq_keep hS k07 hT
    have hSG : SqL K G a (ns0.map V.int) := (Keep.over (Keep.refl [] G7) hL0 k7G).seq nin0 hS7
    refine ⟨_, rfl, a, _, rfl, .inl hSG, _, _, rfl, _, _, rfl, ?_⟩
    rw [List.length_map]
    obtain ⟨N, hN, hN4⟩ : ∃ N : Nat, (if (if (ns0.length : Int) < 10 then (ns0.length : Int) else 10) > 3 then (if (ns0.length : Int) < 10 then (ns0.length : Int) else 10) else 3) = (N : Int) ∧ N ≤ 10 := by
      refine ⟨(if (if (ns0.length : Int) < 10 then (ns0.length : Int) else 10) > 3 then (if (ns0.length : Int) < 10 then (ns0.length : Int) else 10) else 3).toNat, ?_, ?_⟩
      · split <;> split <;> omega
      · split <;> split <;> omega
    rw [hN]
    refine ⟨_, _, rfl, ⟨by omega, by omega, by omega, by omega⟩, ?_⟩
    refine for_range (lo := 2) (n := ((N : Int) - 2).toNat) (fun i σ G' => ∃ (v2 v6 v9 v10 v11 v12 : Option V), σ = [some (.ref a), some (.ref l), v2, some (.ref E), some (.ref q), some (.ref L), v6, v7, v8, v9, v10, v11, v12] ∧ Keep [] G G')
      ⟨_, _, _, _, _, _, rfl, Keep.refl _ _⟩ ?_ ?_
    · rintro i σ G' hi ⟨v2, v6', v9, v10, v11, v12, rfl, kG'⟩
      refine rT a q E A ms ns rs' es ns0 (2 + i) _ _ G' _ _ _ _ _ _ _ _ _ (kG'.seq nin0 hSG) (by omega) (by omega) (ledG.keep kG' (fun b z => absurd z nin0) (fun b z => absurd z nin0)) (kG'.at eEG nin0) (rG.keep kG') hle1 (by omega) six inn fun H' u2 u9 u10 u11 u12 k' => ?_
      exact ⟨_, _, _, _, _, _, rfl, kG'.trans k'⟩
    · rintro σ G' ⟨v2, v6', v9, v10, v11, v12, rfl, kG'⟩
      have eL' := kG'.at eL nin0
      have held' : ∀ t ∈ ts, HeldOne L G' t := fun t ht => (held t ht).keep (kG'.more fun b z => absurd z nin0) eL
      refine ⟨_, rfl, L, rfl, ⟨_, SqL.of eL'⟩, fun D hD => ?_⟩
      refine lc_list (K := K) (a := L) (xs := ts.map V.ref) (fun i H' => H' D = some (.lst (List.replicate i (V.bl true))) ∧ Keep [] G' H') ⟨upd_same, Keep.new hD⟩ (fun i H' _ hI => SqL.of (hI.2.at eL' nin0)) (fun i x H' hx hI => ?_) (fun H' hI => ?_)
      · obtain ⟨t, ht, rfl⟩ : ∃ t, ts[i]? = some t ∧ x = V.ref t := by
          rw [List.getElem?_map] at hx
          cases q : ts[i]? with
          | none => rw [q] at hx; cases hx
          | some t => rw [q] at hx; exact ⟨t, rfl, (Option.some.inj hx).symm⟩
        have hil := (List.getElem?_eq_some_iff.mp ht).1
        obtain ⟨F1, F2, ts1, ts2, fs, h1, h2, h3, h4, h5, h6, h7, o1, o2, o3, o4⟩ := held' t (List.mem_of_getElem? ht)
        refine ⟨t, _, rfl, SqT.of (hI.2.at h1 nin0), rfl, _, _, rfl, _, _, rfl, rfl, rfl, tyes ?_⟩
        refine ⟨_, rfl, F1, waysD fs, rfl, .lst (SqL.of (hI.2.at h4 nin0)) (h6.map fun a ys e => hI.2.at e nin0).dp, o1, o2, o3, o4, ?_⟩
        refine ⟨_, rfl, F2, waysD fs, rfl, .lst (SqL.of (hI.2.at h5 nin0)) (h7.map fun a ys e => hI.2.at e nin0).dp, o1, o2, o3, o4, rfl, _, hI.1, ?_, ?_, hI.2.freshTo hD⟩
        · rw [List.length_replicate]
          exact Nat.lt_of_le_of_lt (by omega : i ≤ 1000) (by decide)
        · rw [upd_same, List.replicate_succ', decide_eq_true rfl]
      · rw [List.length_map] at hI
        refine ⟨D, List.replicate ts.length true, rfl, SqL.of (by rw [hI.1, List.map_replicate]), ?_⟩
        have e : (List.replicate ts.length true).all id = true := by rw [List.all_eq_true]; intro b hb; exact (List.mem_replicate.mp hb).2
        rw [e]
        exact kk H'
end
end Fs
/-! The law's call at the one place where it is made: what is being shown there is known (nothing), which a def's promise for every place doesn't say. -/
namespace Fs
open PySem L2 TL
section
variable {P : Program} {w : World} {K : PySem.W.Frag} {mg : Str → Option Value} {base : Heap}
theorem here_run {k : Nat} {f : Addr} {st : Stmt} {x q : Str} {N : List Str} {dV kV doc pm cdv ct oc : Value} {an od : Option Addr} {osl : Array (Option Value)} {A : Around} {s : Shared} {H : Hp} {u : Value} {v : V} {Q : VK}
    (lk : K.lookup f = some ⟨oc, od, .func (PySem.W.fnOf x q (defArgs st) (defBody st) (defScope st) dV kV doc pm an cdv ct), osl⟩) (hcd : PySem.W.codeIn K cdv q = true) {y : Str} (S : FnScope N [y] (defScope st)) (room : Room (k + 1) A) (e0 : Env0 P w K mg base A [] s H) (rv : RelV v u)
    (bd : BindsTo s (PySem.W.fnOf x q (defArgs st) (defBody st) (defScope st) dV kV doc pm an cdv ct) ⟨[u], []⟩ [(y, u)])
    (body : Room k (A.deeper (PyProof.Rows.envOfC q (defScope st) s.heap.objs.size f cdv)) → ∃ t, PSs (cxOf CX0 P w K mg base N q (defScope st) f cdv A [] s H E0) (defBody st) t ∧ t { nx := fun _ H' => Q .non H', rt := Q } (L2.start N [v]) H) :
    codeAny (model P w) A (.call (.ref f) ⟨[u], []⟩) (fun r s' => ∃ (v' : V) (u' : Value) (H' : Hp), r = .ok (.ret u') ∧ s'.os = s.os ∧ PyProof.Rows.AllBare s'.gens ∧ Un [] [] H H' s.heap s'.heap ∧ HOk P w H' s'.heap ∧ RelV v' u' ∧ Q v' H') s := by
  have now : K.In s.heap := e0.mod.kin.keeps fun b o e => (e0.bs b o e).1
  have par := S.par y List.mem_cons_self
  have one : Vals [v] [u] := .cons rv .nil
  refine codeAny_call_function room.depth (now f _ lk) rfl S.co S.gen rfl (PySem.W.codeRec_of now hcd) (bd _ _ _ _ (wpAny_newFunctionEnv_cells S.kind (fun z hz => ?_) fun env he s1 entered => ?_))
  · rw [List.mem_singleton.mp hz]
    exact par.imp id fun c => ⟨c, PySem.W.cellsFrom_some _ _ _ (.inl c)⟩
  · cases he
    have free : s1.heap.NoLimit := (e0.mod.nolimit.keeps fun b o e => (e0.bs b o e).1).keeps entered.toInCall.keep
    obtain ⟨t, ht, hq⟩ := body (room.deeper _)
    have at1 := inv_start (CX := CX0) (E := E0) (ps := [y]) (us := [u]) (vs := [v]) S room.hd e0 rfl one entered
    refine ⟨free, codeAny_func (wpAny_mono (ht.run [] s1 _ H _ at1 hq) (fun fl s' end_ => ?_) fun e s' bad => ?_)⟩
    · cases fl with
      | ret u' =>
        obtain ⟨v', _, H', J, rv', q'⟩ := end_
        exact ⟨v', u', H', rfl, J.os, J.bare, J.base, J.hok, rv', q'⟩
      | next =>
        obtain ⟨_, H', J, q'⟩ := end_
        exact ⟨.non, .none, H', rfl, J.os, J.bare, J.base, J.hok, rfl, q'⟩
      | brk => obtain ⟨_, _, _, no⟩ := end_; exact no.elim
      | cont => obtain ⟨_, _, _, no⟩ := end_; exact no.elim
    · refine wpAny_mono bad (fun _ _ no => no.elim) fun _ _ no => no.elim
/-- what is tracked as the law begins: the table, and the script (where the written part doesn't have it) -/
def First (a Pt : Addr) (sc : Option HO) : Hp := fun b => if b = Pt then some (.tbl #[]) else if b = a then sc else none
theorem first_tab {a Pt : Addr} {sc : Option HO} : First a Pt sc Pt = some (.tbl #[]) := if_pos rfl
theorem first_scr {a Pt : Addr} {sc : Option HO} (n : a ≠ Pt) : First a Pt sc a = sc := by
  unfold First
  rw [if_neg n, if_pos rfl]
theorem first_other {a Pt b : Addr} {sc : Option HO} (n : b ≠ Pt) (m : b ≠ a) : First a Pt sc b = none := by
  unfold First
  rw [if_neg n, if_neg m]
theorem first_some {a Pt b : Addr} {sc : Option HO} {u : HO} (e : First a Pt sc b = some u) : (b = Pt ∧ u = .tbl #[]) ∨ (b = a ∧ sc = some u) := by
  by_cases h : b = Pt
  · rw [h, first_tab] at e
    exact .inl ⟨h, (Option.some.inj e).symm⟩
  · by_cases h2 : b = a
    · rw [h2] at e h
      rw [first_scr h] at e
      exact .inr ⟨h2, e⟩
    · rw [first_other h h2] at e
      cases e
/-- the law at its caller -/
theorem law_here {k : Nat} {fa a c Pt : Addr} {dV kV doc pm cdv ct oc : Value} {an od : Option Addr} {osl : Array (Option Value)} {s₁ : Shared} {mb : Str → Option Value} {vs : List Value} {ns : List Int}
    (lk : K.lookup fa = some ⟨oc, od, .func (PySem.W.fnOf "law" "law" (defArgs sLaw) (defBody sLaw) (defScope sLaw) dV kV doc pm an cdv ct), osl⟩) (hcd : PySem.W.codeIn K cdv "law" = true) (room : Room (k + 1) callerA)
    (bd : ∀ (s : Shared) (u : Value), BindsTo s (PySem.W.fnOf "law" "law" (defArgs sLaw) (defBody sLaw) (defScope sLaw) dV kV doc pm an cdv ct) ⟨[u], []⟩ [("_law_script", u)])
    (inK : K.In s₁.heap) (gl : s₁.heap.Ns mainGlobals mg) (bl : s₁.heap.Ns builtinsNs mb) (bb : ∀ x : Str, x ≠ "__name__" → mb x = bootBuiltins x) (lim : s₁.heap.NoLimit) (gen0 : s₁.gens = #[])
    (hT : s₁.heap.get? Pt = some { cls := .none, data := .fields #[] }) (nT : K.lookup Pt = none) (hh : PySem.W.codeHdIn K c Pt = true)
    (bm : ∃ (m : Addr) (ob : Obj), mg "__builtins__" = some (.ref m) ∧ m ≠ builtinsNs ∧ s₁.heap.get? m = some ob ∧ ob.cls = .type "module" ∧ ob.dict = some builtinsNs ∧ ob.data = .plain)
    (ha : s₁.heap.get? a = some { cls := .type "list", data := .seq vs.toArray }) (hi : PyProof.Rows.IntsAre vs ns) (h63 : ns.length ≤ 63)
    (body : ∀ (base : Heap), K.In base → GxR.TabB base mg c Pt → ∀ (A0 : Around) (outer : List Env) (s : Shared) (H : Hp) (vs : List V) (Q : VK) (Es : XK), A0.guards = some [] → Room k (A0.deeper (PyProof.Rows.envOfC "law" (defScope sLaw) s.heap.objs.size fa cdv)) → spLaw K Pt vs H Q Es →
      ∃ t, PSs (cxOf CX0 P w K mg base nLaw "law" (defScope sLaw) fa cdv A0 outer s H Es).nox (defBody sLaw) t ∧ t { nx := fun _ H' => Q .non H', rt := Q } (L2.start nLaw vs) H) :
    codeAny (model P w) callerA (.call (.ref fa) ⟨[.ref a], []⟩) (fun r s' => r = .ok (.ret (.bool true)) ∧ OldK s₁.heap s'.heap ∧ s'.os = s₁.os ∧ PyProof.Rows.AllBare s'.gens) s₁ := by
  have aT : a ≠ Pt := fun z => by
    rw [z, hT] at ha
    have := congrArg Obj.data (Option.some.inj ha)
    cases this
  have nlen := hi.length
  -- the script: known to the written part, or tracked
  obtain ⟨sc, hsc, hscK, hseq⟩ : ∃ sc : Option HO, (∀ u, sc = some u → ObjOk P w (First a Pt sc) s₁.heap a u ∧ ∃ o xs, u = .frz o (.lst xs)) ∧ (sc ≠ none → K.lookup a = none) ∧ SqL K (First a Pt sc) a (ns.map V.int) := by
    cases hk : K.lookup a with
    | none =>
      refine ⟨some (.frz { cls := .type "list", data := .seq vs.toArray } (.lst (ns.map V.int))), fun u e => ?_, fun _ => rfl, .inl (.inr ⟨_, first_scr aT⟩)⟩
      cases e
      refine ⟨⟨ha, ?_, vs, _, vals_ints hi, ha⟩, _, _, rfl⟩
      rw [List.length_map]
      exact Nat.le_trans h63 (by decide)
    | some o =>
      refine ⟨none, fun u e => (nomatch e), fun n => (n rfl).elim, .inr ⟨o, vs.toArray, 0, hk, ?_⟩⟩
      have q := inK a o hk
      rw [ha] at q
      cases q
      refine ⟨rfl, rfl, rfl, ?_, by simpa using vals_ints hi⟩
      rw [List.size_toArray, nlen]
      exact Nat.le_trans h63 (by decide)
  generalize hHd : First a Pt sc = H at hsc hseq
  have hTab : H Pt = some (.tbl #[]) := by rw [← hHd]; exact first_tab
  have known : ∀ b u, H b = some u → (b = Pt ∧ u = .tbl #[]) ∨ (b = a ∧ sc = some u) := fun b u e => first_some (by rw [hHd]; exact e)
  have hok : HOk P w H s₁.heap := fun b u e => by
    rcases known b u e with ⟨rfl, rfl⟩ | ⟨rfl, q⟩
    · exact hT
    · exact (hsc u q).1
  -- nothing else is tracked
  have clear : ∀ {b : Addr} {o : Obj}, s₁.heap.get? b = some o → (∀ l n, o.data ≠ .seq l n) → o.data ≠ .fields #[] → H b = none := fun {b o} e n1 n2 => by
    cases q : H b with
    | none => rfl
    | some u =>
      rcases known b u q with ⟨rfl, _⟩ | ⟨rfl, _⟩
      · rw [hT] at e
        cases e
        exact (n2 rfl).elim
      · rw [ha] at e
        cases e
        exact (n1 _ _ rfl).elim
  have nsB : ∀ {b : Addr} {m : Str → Option Value}, s₁.heap.Ns b m → (hidT s₁.heap H).Ns b m := fun {b m} ⟨o, es, ep, e, d, r⟩ =>
    ⟨o, es, ep, hidT_get e (clear e (fun l n z => by rw [d] at z; cases z) (fun z => by rw [d] at z; cases z)), d, r⟩
  have kB : K.In (hidT s₁.heap H) := fun b o e => hidT_get (inK b o e) (by
    cases q : H b with
    | none => rfl
    | some u =>
      rcases known b u q with ⟨rfl, _⟩ | ⟨rfl, q2⟩
      · rw [nT] at e; cases e
      · rw [hscK (by rw [q2]; simp)] at e; cases e)
  have modB : L2.Mod K mg (hidT s₁.heap H) := by
    obtain ⟨mc, l1, l2⟩ := lim
    exact ⟨kB, nsB gl, ⟨mb, nsB bl, bb⟩, mc, nsB l1, l2⟩
  have glob : mainGlobals ≠ Pt := fun z => by
    obtain ⟨o, es, ep, e, d, _⟩ := gl
    rw [z, hT] at e
    cases e
    cases d
  have tabB : GxR.TabB (hidT s₁.heap H) mg c Pt := by
    obtain ⟨m, ob, g1, g2, g3, g4, g5, g6⟩ := bm
    refine ⟨PySem.W.codeHd_of_K kB hh, ⟨m, ob, g1, g2, fun z => ?_, fun z => ?_, hidT_get g3 (clear g3 (fun l n z => by rw [g6] at z; cases z) (fun z => by rw [g6] at z; cases z)), g4, g5, g6⟩, glob⟩
    · obtain ⟨o, es, ep, e, d, _⟩ := gl
      rw [← z, g3] at e
      cases e
      rw [g6] at d
      cases d
    · rw [z, hT] at g3
      cases g3
      cases g6
  have e0 : Env0 P w K mg (hidT s₁.heap H) callerA [] s₁ H := ⟨rfl, modB, fun b o e => of_hidT e, Nat.le_of_eq (hidT_size _ _), trivial, fun b z => absurd z List.not_mem_nil, hok, .of_eq gen0⟩
  have run := here_run (Q := fun v _ => v = .bl true) (v := .ref a) (u := .ref a) lk hcd scLaw room e0 rfl (bd s₁ (.ref a)) fun hr => by
    obtain ⟨t, ht, hq⟩ := body _ kB tabB callerA [] s₁ H [.ref a] (fun v _ => v = .bl true) E0 rfl hr ⟨a, ns, rfl, hseq, h63, hTab, fun _ => rfl⟩
    exact ⟨t, ht.nox, hq⟩
  refine codeAny_mono run fun r s' ⟨v', u', H', er, os, bare, un, hok', rv', ev⟩ => ?_
  subst ev
  have eu : u' = Value.bool true := rv'
  subst eu
  have kept : ∀ b o, b ≠ Pt → s₁.heap.get? b = some o → s'.heap.get? b = some o := fun b o n e => by
    cases q : H b with
    | none => exact un.keep b o e q List.not_mem_nil List.not_mem_nil
    | some u =>
      rcases known b u q with ⟨z, _⟩ | ⟨rfl, q2⟩
      · exact (n z).elim
      · obtain ⟨_, ob, xs, rfl⟩ := hsc u q2
        have f1 := (hok b _ q).1
        have f2 := (hok' b _ (un.frzs b ob _ q)).1
        rw [e] at f1
        cases f1
        exact f2
  obtain ⟨more, hm⟩ := un.tbls Pt #[] hTab
  have grown : s'.heap.get? Pt = some { cls := .none, data := .fields (#[] ++ more) } := hok' Pt _ hm
  have isT := ((PySem.W.codeHd_of_K inK hh).tab hT).isCodeTable
  refine ⟨er, ⟨fun b o e => ?_, fun b o e => ?_⟩, os, bare⟩
  · by_cases hb : b = Pt
    · subst hb
      rw [hT] at e
      cases e
      exact .inr (.inl ⟨isT, rfl, #[], more, rfl, grown⟩)
    · exact .inl (kept b o hb e)
  · by_cases hb : b = Pt
    · subst hb
      exact ⟨_, grown⟩
    · exact ⟨o, kept b o hb e⟩
end
end Fs
/-! The head: what the top has written, by names; the end. -/
namespace Fs
open PySem L2 TL
def d_is_whole : He.DefD := ⟨("is_whole", none), "is_whole", "is_whole", defArgs sWhole, defBody sWhole, defScope sWhole, [], []⟩
def d_is_text : He.DefD := ⟨("is_text", none), "is_text", "is_text", defArgs sIsText, defBody sIsText, defScope sIsText, [], []⟩
def d_is_name : He.DefD := ⟨("is_name", none), "is_name", "is_name", defArgs sIsName, defBody sIsName, defScope sIsName, [], []⟩
def d__law_pot : He.DefD := ⟨("_law_pot", none), "_law_pot", "_law_pot", defArgs sPot, defBody sPot, defScope sPot, [], []⟩
def d__law_digit : He.DefD := ⟨("_law_digit", none), "_law_digit", "_law_digit", defArgs sDigit, defBody sDigit, defScope sDigit, [], []⟩
def d__law_text : He.DefD := ⟨("_law_text", none), "_law_text", "_law_text", defArgs sText, defBody sText, defScope sText, [], []⟩
def d__law_name : He.DefD := ⟨("_law_name", none), "_law_name", "_law_name", defArgs sName, defBody sName, defScope sName, [], []⟩
def d__law_fresh : He.DefD := ⟨("_law_fresh", none), "_law_fresh", "_law_fresh", defArgs sFresh, defBody sFresh, defScope sFresh, [], []⟩
def d__law_pairs : He.DefD := ⟨("_law_pairs", none), "_law_pairs", "_law_pairs", defArgs sPairs, defBody sPairs, defScope sPairs, [], []⟩
def d__law_kind : He.DefD := ⟨("_law_kind", none), "_law_kind", "_law_kind", defArgs sKindL, defBody sKindL, defScope sKindL, [], []⟩
def d__law_entries : He.DefD := ⟨("_law_entries", none), "_law_entries", "_law_entries", defArgs sEnt, defBody sEnt, defScope sEnt, [], []⟩
def d__law_ledger : He.DefD := ⟨("_law_ledger", none), "_law_ledger", "_law_ledger", defArgs sLedg, defBody sLedg, defScope sLedg, [], []⟩
def d__law_leaves : He.DefD := ⟨("_law_leaves", none), "_law_leaves", "_law_leaves", defArgs sLvs, defBody sLvs, defScope sLvs, [], []⟩
def d__law_walked : He.DefD := ⟨("_law_walked", none), "_law_walked", "_law_walked", defArgs sWk, defBody sWk, defScope sWk, [], []⟩
def d__law_odd : He.DefD := ⟨("_law_odd", none), "_law_odd", "_law_odd", defArgs sOdd, defBody sOdd, defScope sOdd, [], []⟩
def d__law_led : He.DefD := ⟨("_law_led", none), "_law_led", "_law_led", defArgs sLdl, defBody sLdl, defScope sLdl, [], []⟩
def d_law : He.DefD := ⟨("law", none), "law", "law", defArgs sLaw, defBody sLaw, defScope sLaw, [], []⟩
def dL_xinitx : He.DefD := ⟨("Ledger", some "__init__"), "__init__", "Ledger.__init__", defArgs sLInit, defBody sLInit, defScope sLInit, [], []⟩
def dL_plain : He.DefD := ⟨("Ledger", some "plain"), "plain", "Ledger.plain", defArgs sPlain, defBody sPlain, defScope sPlain, [], []⟩
def dL_sheaf : He.DefD := ⟨("Ledger", some "sheaf"), "sheaf", "Ledger.sheaf", defArgs sSheaf, defBody sSheaf, defScope sSheaf, [], []⟩
def dL_kind : He.DefD := ⟨("Ledger", some "kind"), "kind", "Ledger.kind", defArgs sKind, defBody sKind, defScope sKind, [], []⟩
def dL_text : He.DefD := ⟨("Ledger", some "text"), "text", "Ledger.text", defArgs sTextM, defBody sTextM, defScope sTextM, [], []⟩
def dL_members : He.DefD := ⟨("Ledger", some "members"), "members", "Ledger.members", defArgs sMembers, defBody sMembers, defScope sMembers, [], []⟩
def dL__add : He.DefD := ⟨("Ledger", some "_add"), "_add", "Ledger._add", defArgs sAdd, defBody sAdd, defScope sAdd, [], []⟩
def dL__check_fault : He.DefD := ⟨("Ledger", some "_check_fault"), "_check_fault", "Ledger._check_fault", defArgs sChkF, defBody sChkF, defScope sChkF, [], []⟩
def dL__check_text : He.DefD := ⟨("Ledger", some "_check_text"), "_check_text", "Ledger._check_text", defArgs sChkT, defBody sChkT, defScope sChkT, [], []⟩
def dL__check_members : He.DefD := ⟨("Ledger", some "_check_members"), "_check_members", "Ledger._check_members", defArgs sChkM, defBody sChkM, defScope sChkM, [], []⟩
def dL_leaves : He.DefD := ⟨("Ledger", some "leaves"), "leaves", "Ledger.leaves", defArgs sLvp, defBody sLvp, defScope sLvp, [], []⟩
def dL_led : He.DefD := ⟨("Ledger", some "led"), "led", "Ledger.led", defArgs sLed, defBody sLed, defScope sLed, [], []⟩
def dK_xinitx : He.DefD := ⟨("Kinds", some "__init__"), "__init__", "Kinds.__init__", defArgs sKInit, defBody sKInit, defScope sKInit, [], []⟩
def dK_is_kind : He.DefD := ⟨("Kinds", some "is_kind"), "is_kind", "Kinds.is_kind", defArgs sIsKind, defBody sIsKind, defScope sIsKind, [], []⟩
def dK__check_new : He.DefD := ⟨("Kinds", some "_check_new"), "_check_new", "Kinds._check_new", defArgs sChkNew, defBody sChkNew, defScope sChkNew, [], []⟩
def fn : List He.DefD := [d_is_whole, d_is_text, d_is_name, d__law_pot, d__law_digit, d__law_text, d__law_name, d__law_fresh, d__law_pairs, d__law_kind, d__law_entries, d__law_ledger, d__law_leaves, d__law_walked, d__law_odd, d__law_led, d_law, dL_xinitx, dL_plain, dL_sheaf, dL_kind, dL_text, dL_members, dL__add, dL__check_fault, dL__check_text, dL__check_members, dL_leaves, dL_led, dK_xinitx, dK_is_kind, dK__check_new]
def fa : List He.Fa := [.glo "is_whole", .glo "is_text", .glo "is_name", .glo "_law_pot", .glo "_law_digit", .glo "_law_text", .glo "_law_name", .glo "_law_fresh", .glo "_law_pairs", .glo "_law_kind", .glo "_law_entries", .glo "_law_ledger", .glo "_law_leaves", .glo "_law_walked", .glo "_law_odd", .glo "_law_led", .glo "law", .glo "Ledger", .glo "Kinds", .free "isinstance", .free "int", .free "bool", .free "str", .free "len", .free "all", .free "max", .free "min", .free "range", .free "sum", .free "tuple", .free "list", .free "repr", .free "reversed", .free "ValueError", .cls "Ledger", .cls "Kinds", .mkr "Ledger", .mkr "Kinds", .noat "Ledger" "_kinds", .noat "Ledger" "_kind_of", .noat "Ledger" "_text_of", .noat "Ledger" "_members_of", .noat "Ledger" "_notes_of", .noat "Ledger" "_cause_of", .noat "Ledger" "_at_work_of", .noat "Kinds" "_above", .meth "Ledger" "plain", .meth "Ledger" "sheaf", .meth "Ledger" "kind", .meth "Ledger" "text", .meth "Ledger" "members", .meth "Ledger" "_add", .meth "Ledger" "_check_fault", .meth "Ledger" "_check_text", .meth "Ledger" "_check_members", .meth "Ledger" "leaves", .meth "Ledger" "led", .meth "Kinds" "is_kind", .meth "Kinds" "_check_new", .glo "NoWay", .glo "FaultError", .glo "Empty", .glo "NoFault", .glo "NoKind", .glo "NoTest", .glo "NoText", .exc "NoWay", .exm "NoWay" "FaultError" true]
def exB (K : PySem.W.Frag) : Bool := decide (PySem.W.findIn K (.ref (He.ga K "NoWay")) "__getattribute__" = some (some (.builtin "BaseException.__getattribute__"))) && (decide (PySem.W.findIn K (.ref (He.ga K "NoWay")) "__getattr__" = some none) && (decide (PySem.W.subIn K (.ref (He.ga K "NoWay")) (.type "BaseException") = some true) && (PySem.W.hasDictIn K (He.ga K "NoWay") && (decide (PySem.W.findIn K (.ref (He.ga K "NoWay")) "__class__" = some (some (.builtin "object.__class__"))) && (decide (PySem.W.specialIn K (.builtin "object.__class__") "__get__" = some (some (.builtin "getset_descriptor.__get__"))) && (decide (PySem.W.takesIn K (.builtin "object.__class__") = some true) && (decide (PySem.W.mroIn K (He.ga K "NoWay") (.type "object") = some true) && (decide (PySem.W.kitAny K (.ref (He.ga K "NoWay")) [.ref (He.ga K "Empty"), .ref (He.ga K "NoFault"), .ref (He.ga K "NoKind"), .ref (He.ga K "NoTest"), .ref (He.ga K "NoText")] = some false) && (decide (PySem.W.kitOne K (.ref (He.ga K "NoWay")) (.ref (He.ga K "NoWay")) = some true) && decide (PySem.W.kitOne K (.ref (He.ga K "NoWay")) (.type "ValueError") = some true))))))))))
def tf : List He.Defn := [("is_name", none)]
abbrev R : PySem.W.OpenRow := PySem.W.OpenLaw.row PySem.Challenge.rw_faultsheaves_k13_leaves_and_ways
abbrev hk : PySem.W.Hook := He.hookX 6 fa fn [] tf exB
def ob (s : PySem.W.SharedT) : He.AlX := He.obsX 6 fa fn [] tf exB (HandSHeadRun.getT s)
theorem ob_eq (s : PySem.W.SharedT) : ob s = hk.obs s.abs := He.obsX_eq (HandSHeadRun.getT_eq s)
def loose : List Str := ["__name__", "_wall", "is_whole", "is_text", "is_name", "FaultError", "NoKind", "NoText", "NoFault", "Empty", "NoWay", "NoTest", "Ledger", "Kinds", "_law_pot", "_law_digit", "_law_text", "_law_name", "_law_fresh", "_law_pairs", "_law_kind", "_law_entries", "_law_ledger", "_law_leaves", "_law_walked", "_law_odd", "_law_led"]
theorem run (w : World) : HandSHeadRun.RunEq R (PySem.W.view R.prog [31]) hk ob 6000 loose w := by
  intro os
  kernel_rfl
end Fs
namespace Fs
open PySem L2 TL
theorem fun_of_D {K : PySem.W.Frag} {x q : Str} {st : Stmt} {f : Addr} {fd : FuncData} (F : FunD K x q (defArgs st) (defBody st) (defScope st) [] [] f fd) : Fun K x q st f fd := by
  obtain ⟨oc, od, dV, kV, doc, pm, an, cdv, ct, osl, e, lk, hcd, hd, _⟩ := F.ex
  have hdV : dV = .none := by
    rcases hd with h | h
    · exact h.2
    · exact (h.1 rfl).elim
  subst hdV
  exact ⟨⟨oc, od, kV, doc, pm, an, cdv, ct, osl, e, lk, hcd⟩, F.kp⟩
section
variable {P : Program} {w : World} {K : PySem.W.Frag} {mg : Str → Option Value} {h : Heap}
/-- everything together -/
theorem all (X : K.In h) (G : h.Ns mainGlobals mg) {fa0 : Addr} (hfa : mg ("law" : Str) = some (.ref fa0)) (c : He.SaysX fa fn [] tf exB w h K) :
    ∃ (co Pt : Addr) (dV kV doc pm cdv ct oc : Value) (an od : Option Addr) (osl : Array (Option Value)), K.lookup fa0 = some ⟨oc, od, .func (PySem.W.fnOf "law" "law" (defArgs sLaw) (defBody sLaw) (defScope sLaw) dV kV doc pm an cdv ct), osl⟩ ∧ PySem.W.codeIn K cdv "law" = true ∧
      (∀ (s : Shared) (u : Value), BindsTo s (PySem.W.fnOf "law" "law" (defArgs sLaw) (defBody sLaw) (defScope sLaw) dV kV doc pm an cdv ct) ⟨[u], []⟩ [("_law_script", u)]) ∧
      h.get? Pt = some { cls := .none, data := .fields #[] } ∧ K.lookup Pt = none ∧ PySem.W.codeHdIn K co Pt = true ∧
      ∀ (base : Heap), K.In base → GxR.TabB base mg co Pt → ∀ (A0 : Around) (outer : List Env) (s : Shared) (H : Hp) (vs : List V) (Q : VK) (Es : XK), A0.guards = some [] → Room 6 (A0.deeper (PyProof.Rows.envOfC "law" (defScope sLaw) s.heap.objs.size fa0 cdv)) → spLaw K Pt vs H Q Es →
        ∃ t, PSs (cxOf CX0 P w K mg base nLaw "law" (defScope sLaw) fa0 cdv A0 outer s H Es).nox (defBody sLaw) t ∧ t { nx := fun _ H' => Q .non H', rt := Q } (L2.start nLaw vs) H := by
  have d : He.SaysD fa fn K := c.t.d
  have fct : ∀ f : He.Fa, f ∈ fa → f.ok K = true := fun f hf => d.facts hf
  obtain ⟨x_d_is_whole, D_d_is_whole⟩ := d.def_ 0 (d := d_is_whole) rfl
  have F_d_is_whole : Fun K "is_whole" "is_whole" sWhole (He.ga K "is_whole") x_d_is_whole := fun_of_D D_d_is_whole
  have B_d_is_whole : Binds K x_d_is_whole ["thing"] [] := F_d_is_whole.binds fun _ _ _ _ _ _ us hl => match us, hl with | [_], _ => rfl
  obtain ⟨x_d_is_text, D_d_is_text⟩ := d.def_ 1 (d := d_is_text) rfl
  have F_d_is_text : Fun K "is_text" "is_text" sIsText (He.ga K "is_text") x_d_is_text := fun_of_D D_d_is_text
  have B_d_is_text : Binds K x_d_is_text ["thing"] [] := F_d_is_text.binds fun _ _ _ _ _ _ us hl => match us, hl with | [_], _ => rfl
  obtain ⟨x_d_is_name, D_d_is_name⟩ := d.def_ 2 (d := d_is_name) rfl
  have F_d_is_name : Fun K "is_name" "is_name" sIsName (He.ga K "is_name") x_d_is_name := fun_of_D D_d_is_name
  have B_d_is_name : Binds K x_d_is_name ["thing"] [] := F_d_is_name.binds fun _ _ _ _ _ _ us hl => match us, hl with | [_], _ => rfl
  obtain ⟨x_d__law_pot, D_d__law_pot⟩ := d.def_ 3 (d := d__law_pot) rfl
  have F_d__law_pot : Fun K "_law_pot" "_law_pot" sPot (He.ga K "_law_pot") x_d__law_pot := fun_of_D D_d__law_pot
  have B_d__law_pot : Binds K x_d__law_pot ["_law_script", "_law_k"] [] := F_d__law_pot.binds fun _ _ _ _ _ _ us hl => match us, hl with | [_, _], _ => rfl
  obtain ⟨x_d__law_digit, D_d__law_digit⟩ := d.def_ 4 (d := d__law_digit) rfl
  have F_d__law_digit : Fun K "_law_digit" "_law_digit" sDigit (He.ga K "_law_digit") x_d__law_digit := fun_of_D D_d__law_digit
  have B_d__law_digit : Binds K x_d__law_digit ["_law_pot_here", "_law_many"] [] := F_d__law_digit.binds fun _ _ _ _ _ _ us hl => match us, hl with | [_, _], _ => rfl
  obtain ⟨x_d__law_text, D_d__law_text⟩ := d.def_ 5 (d := d__law_text) rfl
  have F_d__law_text : Fun K "_law_text" "_law_text" sText (He.ga K "_law_text") x_d__law_text := fun_of_D D_d__law_text
  have B_d__law_text : Binds K x_d__law_text ["_law_pot_here"] [] := F_d__law_text.binds fun _ _ _ _ _ _ us hl => match us, hl with | [_], _ => rfl
  obtain ⟨x_d__law_name, D_d__law_name⟩ := d.def_ 6 (d := d__law_name) rfl
  have F_d__law_name : Fun K "_law_name" "_law_name" sName (He.ga K "_law_name") x_d__law_name := fun_of_D D_d__law_name
  have B_d__law_name : Binds K x_d__law_name ["_law_pot_here"] [] := F_d__law_name.binds fun _ _ _ _ _ _ us hl => match us, hl with | [_], _ => rfl
  obtain ⟨x_d__law_fresh, D_d__law_fresh⟩ := d.def_ 7 (d := d__law_fresh) rfl
  have F_d__law_fresh : Fun K "_law_fresh" "_law_fresh" sFresh (He.ga K "_law_fresh") x_d__law_fresh := fun_of_D D_d__law_fresh
  have B_d__law_fresh : Binds K x_d__law_fresh ["_law_pot_here", "_law_taken"] [] := F_d__law_fresh.binds fun _ _ _ _ _ _ us hl => match us, hl with | [_, _], _ => rfl
  obtain ⟨x_d__law_pairs, D_d__law_pairs⟩ := d.def_ 8 (d := d__law_pairs) rfl
  have F_d__law_pairs : Fun K "_law_pairs" "_law_pairs" sPairs (He.ga K "_law_pairs") x_d__law_pairs := fun_of_D D_d__law_pairs
  have B_d__law_pairs : Binds K x_d__law_pairs ["_law_pot_here"] [] := F_d__law_pairs.binds fun _ _ _ _ _ _ us hl => match us, hl with | [_], _ => rfl
  obtain ⟨x_d__law_kind, D_d__law_kind⟩ := d.def_ 9 (d := d__law_kind) rfl
  have F_d__law_kind : Fun K "_law_kind" "_law_kind" sKindL (He.ga K "_law_kind") x_d__law_kind := fun_of_D D_d__law_kind
  have B_d__law_kind : Binds K x_d__law_kind ["_law_pot_here", "_law_pairs_here"] [] := F_d__law_kind.binds fun _ _ _ _ _ _ us hl => match us, hl with | [_, _], _ => rfl
  obtain ⟨x_d__law_entries, D_d__law_entries⟩ := d.def_ 10 (d := d__law_entries) rfl
  have F_d__law_entries : Fun K "_law_entries" "_law_entries" sEnt (He.ga K "_law_entries") x_d__law_entries := fun_of_D D_d__law_entries
  have B_d__law_entries : Binds K x_d__law_entries ["_law_pot_here", "_law_pairs_here", "_law_most"] [] := F_d__law_entries.binds fun _ _ _ _ _ _ us hl => match us, hl with | [_, _, _], _ => rfl
  obtain ⟨x_d__law_ledger, D_d__law_ledger⟩ := d.def_ 11 (d := d__law_ledger) rfl
  have F_d__law_ledger : Fun K "_law_ledger" "_law_ledger" sLedg (He.ga K "_law_ledger") x_d__law_ledger := fun_of_D D_d__law_ledger
  have B_d__law_ledger : Binds K x_d__law_ledger ["_law_pairs_here", "_law_entries_here"] [] := F_d__law_ledger.binds fun _ _ _ _ _ _ us hl => match us, hl with | [_, _], _ => rfl
  obtain ⟨x_d__law_leaves, D_d__law_leaves⟩ := d.def_ 12 (d := d__law_leaves) rfl
  have F_d__law_leaves : Fun K "_law_leaves" "_law_leaves" sLvs (He.ga K "_law_leaves") x_d__law_leaves := fun_of_D D_d__law_leaves
  have B_d__law_leaves : Binds K x_d__law_leaves ["_law_entries_here", "_law_k"] [] := F_d__law_leaves.binds fun _ _ _ _ _ _ us hl => match us, hl with | [_, _], _ => rfl
  obtain ⟨x_d__law_walked, D_d__law_walked⟩ := d.def_ 13 (d := d__law_walked) rfl
  have F_d__law_walked : Fun K "_law_walked" "_law_walked" sWk (He.ga K "_law_walked") x_d__law_walked := fun_of_D D_d__law_walked
  have B_d__law_walked : Binds K x_d__law_walked ["_law_pot_here", "_law_entries_here", "_law_k"] [] := F_d__law_walked.binds fun _ _ _ _ _ _ us hl => match us, hl with | [_, _, _], _ => rfl
  obtain ⟨x_d__law_odd, D_d__law_odd⟩ := d.def_ 14 (d := d__law_odd) rfl
  have F_d__law_odd : Fun K "_law_odd" "_law_odd" sOdd (He.ga K "_law_odd") x_d__law_odd := fun_of_D D_d__law_odd
  have B_d__law_odd : Binds K x_d__law_odd ["_law_pot_here", "_law_entries_here", "_law_here"] [] := F_d__law_odd.binds fun _ _ _ _ _ _ us hl => match us, hl with | [_, _, _], _ => rfl
  obtain ⟨x_d__law_led, D_d__law_led⟩ := d.def_ 15 (d := d__law_led) rfl
  have F_d__law_led : Fun K "_law_led" "_law_led" sLdl (He.ga K "_law_led") x_d__law_led := fun_of_D D_d__law_led
  have B_d__law_led : Binds K x_d__law_led ["_law_ledger_here", "_law_k", "_law_way"] [] := F_d__law_led.binds fun _ _ _ _ _ _ us hl => match us, hl with | [_, _, _], _ => rfl
  obtain ⟨x_d_law, D_d_law⟩ := d.def_ 16 (d := d_law) rfl
  have F_d_law : Fun K "law" "law" sLaw (He.ga K "law") x_d_law := fun_of_D D_d_law
  have B_d_law : Binds K x_d_law ["_law_script"] [] := F_d_law.binds fun _ _ _ _ _ _ us hl => match us, hl with | [_], _ => rfl
  obtain ⟨x_dL_xinitx, D_dL_xinitx⟩ := d.def_ 17 (d := dL_xinitx) rfl
  have F_dL_xinitx : Fun K "__init__" "Ledger.__init__" sLInit (He.ma K (He.ga K "Ledger") "__init__") x_dL_xinitx := fun_of_D D_dL_xinitx
  have B_dL_xinitx : Binds K x_dL_xinitx ["self", "kinds"] [] := F_dL_xinitx.binds fun _ _ _ _ _ _ us hl => match us, hl with | [_, _], _ => rfl
  obtain ⟨x_dL_plain, D_dL_plain⟩ := d.def_ 18 (d := dL_plain) rfl
  have F_dL_plain : Fun K "plain" "Ledger.plain" sPlain (He.ma K (He.ga K "Ledger") "plain") x_dL_plain := fun_of_D D_dL_plain
  have B_dL_plain : Binds K x_dL_plain ["self", "kind", "text"] [] := F_dL_plain.binds fun _ _ _ _ _ _ us hl => match us, hl with | [_, _, _], _ => rfl
  obtain ⟨x_dL_sheaf, D_dL_sheaf⟩ := d.def_ 19 (d := dL_sheaf) rfl
  have F_dL_sheaf : Fun K "sheaf" "Ledger.sheaf" sSheaf (He.ma K (He.ga K "Ledger") "sheaf") x_dL_sheaf := fun_of_D D_dL_sheaf
  have B_dL_sheaf : Binds K x_dL_sheaf ["self", "text", "members"] [] := F_dL_sheaf.binds fun _ _ _ _ _ _ us hl => match us, hl with | [_, _, _], _ => rfl
  obtain ⟨x_dL_kind, D_dL_kind⟩ := d.def_ 20 (d := dL_kind) rfl
  have F_dL_kind : Fun K "kind" "Ledger.kind" sKind (He.ma K (He.ga K "Ledger") "kind") x_dL_kind := fun_of_D D_dL_kind
  have B_dL_kind : Binds K x_dL_kind ["self", "k"] [] := F_dL_kind.binds fun _ _ _ _ _ _ us hl => match us, hl with | [_, _], _ => rfl
  obtain ⟨x_dL_text, D_dL_text⟩ := d.def_ 21 (d := dL_text) rfl
  have F_dL_text : Fun K "text" "Ledger.text" sTextM (He.ma K (He.ga K "Ledger") "text") x_dL_text := fun_of_D D_dL_text
  have B_dL_text : Binds K x_dL_text ["self", "k"] [] := F_dL_text.binds fun _ _ _ _ _ _ us hl => match us, hl with | [_, _], _ => rfl
  obtain ⟨x_dL_members, D_dL_members⟩ := d.def_ 22 (d := dL_members) rfl
  have F_dL_members : Fun K "members" "Ledger.members" sMembers (He.ma K (He.ga K "Ledger") "members") x_dL_members := fun_of_D D_dL_members
  have B_dL_members : Binds K x_dL_members ["self", "k"] [] := F_dL_members.binds fun _ _ _ _ _ _ us hl => match us, hl with | [_, _], _ => rfl
  obtain ⟨x_dL__add, D_dL__add⟩ := d.def_ 23 (d := dL__add) rfl
  have F_dL__add : Fun K "_add" "Ledger._add" sAdd (He.ma K (He.ga K "Ledger") "_add") x_dL__add := fun_of_D D_dL__add
  have B_dL__add : Binds K x_dL__add ["self", "kind", "text", "members"] [] := F_dL__add.binds fun _ _ _ _ _ _ us hl => match us, hl with | [_, _, _, _], _ => rfl
  obtain ⟨x_dL__check_fault, D_dL__check_fault⟩ := d.def_ 24 (d := dL__check_fault) rfl
  have F_dL__check_fault : Fun K "_check_fault" "Ledger._check_fault" sChkF (He.ma K (He.ga K "Ledger") "_check_fault") x_dL__check_fault := fun_of_D D_dL__check_fault
  have B_dL__check_fault : Binds K x_dL__check_fault ["self", "k"] [] := F_dL__check_fault.binds fun _ _ _ _ _ _ us hl => match us, hl with | [_, _], _ => rfl
  obtain ⟨x_dL__check_text, D_dL__check_text⟩ := d.def_ 25 (d := dL__check_text) rfl
  have F_dL__check_text : Fun K "_check_text" "Ledger._check_text" sChkT (He.ma K (He.ga K "Ledger") "_check_text") x_dL__check_text := fun_of_D D_dL__check_text
  have B_dL__check_text : Binds K x_dL__check_text ["self", "text"] [] := F_dL__check_text.binds fun _ _ _ _ _ _ us hl => match us, hl with | [_, _], _ => rfl
  obtain ⟨x_dL__check_members, D_dL__check_members⟩ := d.def_ 26 (d := dL__check_members) rfl
  have F_dL__check_members : Fun K "_check_members" "Ledger._check_members" sChkM (He.ma K (He.ga K "Ledger") "_check_members") x_dL__check_members := fun_of_D D_dL__check_members
  have B_dL__check_members : Binds K x_dL__check_members ["self", "members"] [] := F_dL__check_members.binds fun _ _ _ _ _ _ us hl => match us, hl with | [_, _], _ => rfl
  obtain ⟨x_dL_leaves, D_dL_leaves⟩ := d.def_ 27 (d := dL_leaves) rfl
  have F_dL_leaves : Fun K "leaves" "Ledger.leaves" sLvp (He.ma K (He.ga K "Ledger") "leaves") x_dL_leaves := fun_of_D D_dL_leaves
  have B_dL_leaves : Binds K x_dL_leaves ["self", "k"] [] := F_dL_leaves.binds fun _ _ _ _ _ _ us hl => match us, hl with | [_, _], _ => rfl
  obtain ⟨x_dL_led, D_dL_led⟩ := d.def_ 28 (d := dL_led) rfl
  have F_dL_led : Fun K "led" "Ledger.led" sLed (He.ma K (He.ga K "Ledger") "led") x_dL_led := fun_of_D D_dL_led
  have B_dL_led : Binds K x_dL_led ["self", "k", "way"] [] := F_dL_led.binds fun _ _ _ _ _ _ us hl => match us, hl with | [_, _, _], _ => rfl
  obtain ⟨x_dK_xinitx, D_dK_xinitx⟩ := d.def_ 29 (d := dK_xinitx) rfl
  have F_dK_xinitx : Fun K "__init__" "Kinds.__init__" sKInit (He.ma K (He.ga K "Kinds") "__init__") x_dK_xinitx := fun_of_D D_dK_xinitx
  have B_dK_xinitx : Binds K x_dK_xinitx ["self", "pairs"] [] := F_dK_xinitx.binds fun _ _ _ _ _ _ us hl => match us, hl with | [_, _], _ => rfl
  obtain ⟨x_dK_is_kind, D_dK_is_kind⟩ := d.def_ 30 (d := dK_is_kind) rfl
  have F_dK_is_kind : Fun K "is_kind" "Kinds.is_kind" sIsKind (He.ma K (He.ga K "Kinds") "is_kind") x_dK_is_kind := fun_of_D D_dK_is_kind
  have B_dK_is_kind : Binds K x_dK_is_kind ["self", "thing"] [] := F_dK_is_kind.binds fun _ _ _ _ _ _ us hl => match us, hl with | [_, _], _ => rfl
  obtain ⟨x_dK__check_new, D_dK__check_new⟩ := d.def_ 31 (d := dK__check_new) rfl
  have F_dK__check_new : Fun K "_check_new" "Kinds._check_new" sChkNew (He.ma K (He.ga K "Kinds") "_check_new") x_dK__check_new := fun_of_D D_dK__check_new
  have B_dK__check_new : Binds K x_dK__check_new ["self", "name", "above"] [] := F_dK__check_new.binds fun _ _ _ _ _ _ us hl => match us, hl with | [_, _, _], _ => rfl
  have z_isinstance : mg "isinstance" = none := He.free_ok X G (fct (.free "isinstance") (by simp [fa]))
  have z_int : mg "int" = none := He.free_ok X G (fct (.free "int") (by simp [fa]))
  have z_bool : mg "bool" = none := He.free_ok X G (fct (.free "bool") (by simp [fa]))
  have z_str : mg "str" = none := He.free_ok X G (fct (.free "str") (by simp [fa]))
  have z_len : mg "len" = none := He.free_ok X G (fct (.free "len") (by simp [fa]))
  have z_all : mg "all" = none := He.free_ok X G (fct (.free "all") (by simp [fa]))
  have z_max : mg "max" = none := He.free_ok X G (fct (.free "max") (by simp [fa]))
  have z_min : mg "min" = none := He.free_ok X G (fct (.free "min") (by simp [fa]))
  have z_range : mg "range" = none := He.free_ok X G (fct (.free "range") (by simp [fa]))
  have z_sum : mg "sum" = none := He.free_ok X G (fct (.free "sum") (by simp [fa]))
  have z_tuple : mg "tuple" = none := He.free_ok X G (fct (.free "tuple") (by simp [fa]))
  have z_list : mg "list" = none := He.free_ok X G (fct (.free "list") (by simp [fa]))
  have z_repr : mg "repr" = none := He.free_ok X G (fct (.free "repr") (by simp [fa]))
  have z_reversed : mg "reversed" = none := He.free_ok X G (fct (.free "reversed") (by simp [fa]))
  have z_ValueError : mg "ValueError" = none := He.free_ok X G (fct (.free "ValueError") (by simp [fa]))
  have g_is_whole : mg "is_whole" = some (.ref (He.ga K "is_whole")) := He.glo_ok X G (fct (.glo "is_whole") (by simp [fa]))
  have g_is_text : mg "is_text" = some (.ref (He.ga K "is_text")) := He.glo_ok X G (fct (.glo "is_text") (by simp [fa]))
  have g_is_name : mg "is_name" = some (.ref (He.ga K "is_name")) := He.glo_ok X G (fct (.glo "is_name") (by simp [fa]))
  have g__law_pot : mg "_law_pot" = some (.ref (He.ga K "_law_pot")) := He.glo_ok X G (fct (.glo "_law_pot") (by simp [fa]))
  have g__law_digit : mg "_law_digit" = some (.ref (He.ga K "_law_digit")) := He.glo_ok X G (fct (.glo "_law_digit") (by simp [fa]))
  have g__law_text : mg "_law_text" = some (.ref (He.ga K "_law_text")) := He.glo_ok X G (fct (.glo "_law_text") (by simp [fa]))
  have g__law_name : mg "_law_name" = some (.ref (He.ga K "_law_name")) := He.glo_ok X G (fct (.glo "_law_name") (by simp [fa]))
  have g__law_fresh : mg "_law_fresh" = some (.ref (He.ga K "_law_fresh")) := He.glo_ok X G (fct (.glo "_law_fresh") (by simp [fa]))
  have g__law_pairs : mg "_law_pairs" = some (.ref (He.ga K "_law_pairs")) := He.glo_ok X G (fct (.glo "_law_pairs") (by simp [fa]))
  have g__law_kind : mg "_law_kind" = some (.ref (He.ga K "_law_kind")) := He.glo_ok X G (fct (.glo "_law_kind") (by simp [fa]))
  have g__law_entries : mg "_law_entries" = some (.ref (He.ga K "_law_entries")) := He.glo_ok X G (fct (.glo "_law_entries") (by simp [fa]))
  have g__law_ledger : mg "_law_ledger" = some (.ref (He.ga K "_law_ledger")) := He.glo_ok X G (fct (.glo "_law_ledger") (by simp [fa]))
  have g__law_leaves : mg "_law_leaves" = some (.ref (He.ga K "_law_leaves")) := He.glo_ok X G (fct (.glo "_law_leaves") (by simp [fa]))
  have g__law_walked : mg "_law_walked" = some (.ref (He.ga K "_law_walked")) := He.glo_ok X G (fct (.glo "_law_walked") (by simp [fa]))
  have g__law_odd : mg "_law_odd" = some (.ref (He.ga K "_law_odd")) := He.glo_ok X G (fct (.glo "_law_odd") (by simp [fa]))
  have g__law_led : mg "_law_led" = some (.ref (He.ga K "_law_led")) := He.glo_ok X G (fct (.glo "_law_led") (by simp [fa]))
  have g_law : mg "law" = some (.ref (He.ga K "law")) := He.glo_ok X G (fct (.glo "law") (by simp [fa]))
  have g_Ledger : mg "Ledger" = some (.ref (He.ga K "Ledger")) := He.glo_ok X G (fct (.glo "Ledger") (by simp [fa]))
  have cl_Ledger := He.cls_ok (fct (.cls "Ledger") (by simp [fa]))
  have mk_Ledger := He.mkr_ok (fct (.mkr "Ledger") (by simp [fa]))
  have g_Kinds : mg "Kinds" = some (.ref (He.ga K "Kinds")) := He.glo_ok X G (fct (.glo "Kinds") (by simp [fa]))
  have cl_Kinds := He.cls_ok (fct (.cls "Kinds") (by simp [fa]))
  have mk_Kinds := He.mkr_ok (fct (.mkr "Kinds") (by simp [fa]))
  have n0 := He.noat_ok (fct (.noat "Ledger" "_kinds") (by simp [fa]))
  have n1 := He.noat_ok (fct (.noat "Ledger" "_kind_of") (by simp [fa]))
  have n2 := He.noat_ok (fct (.noat "Ledger" "_text_of") (by simp [fa]))
  have n3 := He.noat_ok (fct (.noat "Ledger" "_members_of") (by simp [fa]))
  have n4 := He.noat_ok (fct (.noat "Ledger" "_notes_of") (by simp [fa]))
  have n5 := He.noat_ok (fct (.noat "Ledger" "_cause_of") (by simp [fa]))
  have n6 := He.noat_ok (fct (.noat "Ledger" "_at_work_of") (by simp [fa]))
  have nA := He.noat_ok (fct (.noat "Kinds" "_above") (by simp [fa]))
  have m_plain := He.meth_ok (fct (.meth "Ledger" "plain") (by simp [fa]))
  have m_sheaf := He.meth_ok (fct (.meth "Ledger" "sheaf") (by simp [fa]))
  have m_kind := He.meth_ok (fct (.meth "Ledger" "kind") (by simp [fa]))
  have m_text := He.meth_ok (fct (.meth "Ledger" "text") (by simp [fa]))
  have m_members := He.meth_ok (fct (.meth "Ledger" "members") (by simp [fa]))
  have m__add := He.meth_ok (fct (.meth "Ledger" "_add") (by simp [fa]))
  have m__check_fault := He.meth_ok (fct (.meth "Ledger" "_check_fault") (by simp [fa]))
  have m__check_text := He.meth_ok (fct (.meth "Ledger" "_check_text") (by simp [fa]))
  have m__check_members := He.meth_ok (fct (.meth "Ledger" "_check_members") (by simp [fa]))
  have m_leaves := He.meth_ok (fct (.meth "Ledger" "leaves") (by simp [fa]))
  have m_led := He.meth_ok (fct (.meth "Ledger" "led") (by simp [fa]))
  have k_is_kind := He.meth_ok (fct (.meth "Kinds" "is_kind") (by simp [fa]))
  have k__check_new := He.meth_ok (fct (.meth "Kinds" "_check_new") (by simp [fa]))
  have g_NoWay : mg "NoWay" = some (.ref (He.ga K "NoWay")) := He.glo_ok X G (fct (.glo "NoWay") (by simp [fa]))
  have g_FaultError : mg "FaultError" = some (.ref (He.ga K "FaultError")) := He.glo_ok X G (fct (.glo "FaultError") (by simp [fa]))
  have g_Empty : mg "Empty" = some (.ref (He.ga K "Empty")) := He.glo_ok X G (fct (.glo "Empty") (by simp [fa]))
  have g_NoFault : mg "NoFault" = some (.ref (He.ga K "NoFault")) := He.glo_ok X G (fct (.glo "NoFault") (by simp [fa]))
  have g_NoKind : mg "NoKind" = some (.ref (He.ga K "NoKind")) := He.glo_ok X G (fct (.glo "NoKind") (by simp [fa]))
  have g_NoTest : mg "NoTest" = some (.ref (He.ga K "NoTest")) := He.glo_ok X G (fct (.glo "NoTest") (by simp [fa]))
  have g_NoText : mg "NoText" = some (.ref (He.ga K "NoText")) := He.glo_ok X G (fct (.glo "NoText") (by simp [fa]))
  -- the law's own object, the code of is_name
  have efa : fa0 = He.ga K "law" := by
    have e := hfa.symm.trans g_law
    cases e
    rfl
  subst efa
  obtain ⟨oc, od, dV, kV, doc, pm, an, cdv, ct, osl, exl, lkl, hcl, hdl, _⟩ := D_d_law.ex
  obtain ⟨oc2, od2, dV2, kV2, doc2, pm2, an2, cdv2, ct2, osl2, exn, lkn, hcn, hdn, _⟩ := D_d_is_name.ex
  obtain ⟨co, eco⟩ := He.codeIn_ref hcn
  have eco2 : He.codeOf K ("is_name", none) = co := He.codeOf_eq (p := ("is_name", none)) lkn (by rw [exn]; exact eco)
  have hd1 := c.hd ("is_name", none) List.mem_cons_self
  have hd2 := c.out ("is_name", none) List.mem_cons_self
  have hd3 := c.empty ("is_name", none) List.mem_cons_self
  have ecT : (He.cT K ("is_name", none)).1 = co := eco2
  rw [ecT] at hd1
  subst exl exn eco
  refine ⟨co, (He.cT K ("is_name", none)).2, dV, kV, doc, pm, cdv, ct, oc, an, od, osl, lkl, hcl, fun s u => ?_, hd3, hd2, hd1, ?_⟩
  · have hdV : dV = .none := by
      rcases hdl with q | q
      · exact q.2
      · exact (q.1 rfl).elim
    subst hdV
    exact .of_eq rfl
  intro base kB TB A0 outer s H vs Q Es hg hr hsp
  have TK : KTxt K mg (He.ga K "Kinds") (He.ma K (He.ga K "Kinds") "__init__") (He.ma K (He.ga K "Kinds") "is_kind") (He.ma K (He.ga K "Kinds") "_check_new") := ⟨cl_Kinds, nA, k_is_kind, k__check_new⟩
  have TL' : LTxt K mg (He.ga K "Ledger") (He.ma K (He.ga K "Ledger") "_add") (He.ma K (He.ga K "Ledger") "_check_fault") (He.ma K (He.ga K "Ledger") "_check_text") (He.ma K (He.ga K "Ledger") "_check_members") :=
    ⟨cl_Ledger, n0, n1, n2, n3, n4, n5, n6, m__add, m__check_fault, m__check_text, m__check_members, z_len, z_tuple, z_list⟩
  have oPot := ok_pot (P := P) (w := w) (base := base) F_d__law_pot z_len z_max
  have oDig := ok_digit (P := P) (w := w) (mg := mg) (base := base) F_d__law_digit
  have oName := ok_name F_d__law_name oDig g__law_digit F_d__law_digit.kp B_d__law_digit z_range
  have oText := ok_text F_d__law_text oDig g__law_digit F_d__law_digit.kp B_d__law_digit z_range z_int
  have oFresh := ok_fresh F_d__law_fresh oName g__law_name F_d__law_name.kp B_d__law_name z_range
  have oPairs := ok_pairs F_d__law_pairs oDig g__law_digit F_d__law_digit.kp B_d__law_digit oFresh g__law_fresh F_d__law_fresh.kp B_d__law_fresh z_len z_range
  have oKindL := ok_kindL F_d__law_kind oDig g__law_digit F_d__law_digit.kp B_d__law_digit z_len
  have oWhole := ok_whole (P := P) (w := w) (base := base) F_d_is_whole z_isinstance z_int z_bool
  have oIsText := ok_isText (P := P) (w := w) (base := base) F_d_is_text z_isinstance z_str
  have oIsName := ok_isName lkn hcn TB oIsText g_is_text F_d_is_text.kp B_d_is_text z_len z_all
  have oIsKind := ok_isKind F_dK_is_kind TK oIsText g_is_text F_d_is_text.kp B_d_is_text
  have oChkNew := ok_chkNew F_dK__check_new TK oIsName g_is_name F_d_is_name.kp B_d_is_name oIsKind B_dK_is_kind
  have oKInit := ok_kInit F_dK_xinitx TK oChkNew B_dK__check_new
  have oChkF := ok_chkF F_dL__check_fault TL' oWhole g_is_whole F_d_is_whole.kp B_d_is_whole
  have oChkT := ok_chkT (C := He.ga K "Ledger") F_dL__check_text oIsText g_is_text F_d_is_text.kp B_d_is_text
  have oKind := ok_kind F_dL_kind TL' oChkF B_dL__check_fault
  have oTextM := ok_textM F_dL_text TL' oChkF B_dL__check_fault
  have oAdd := ok_add (P := P) (w := w) (base := base) F_dL__add TL'
  have oChkM := ok_chkM F_dL__check_members TL' oChkF B_dL__check_fault
  have oPlain := ok_plain F_dL_plain TL' TK oIsKind B_dK_is_kind oChkT B_dL__check_text oAdd B_dL__add
  have oSheaf := ok_sheaf F_dL_sheaf TL' oChkT B_dL__check_text oChkM B_dL__check_members oAdd B_dL__add
  have oLInit := ok_lInit (P := P) (w := w) (base := base) F_dL_xinitx TL'
  have TE' : ETxt K mg _ _ _ := ⟨g__law_kind, F_d__law_kind.kp, g__law_digit, F_d__law_digit.kp, g__law_text, F_d__law_text.kp, z_sum, z_max, z_range⟩
  have oEnt := ok_ent F_d__law_entries TE' oKindL B_d__law_kind oDig B_d__law_digit oText B_d__law_text
  have TX : GLx K mg (He.ga K "Ledger") (He.ga K "Kinds") _ _ _ _ := ⟨cl_Ledger, g_Ledger, g_Kinds, mk_Ledger, mk_Kinds, m_plain, m_sheaf, z_list⟩
  have oLedg := ok_ledg F_d__law_ledger TX oLInit B_dL_xinitx oKInit B_dK_xinitx oPlain B_dL_plain oSheaf B_dL_sheaf

  have oLvs := ok_lvs (P := P) (w := w) (base := base) F_d__law_leaves z_len z_range
  have oLvp := ok_lvp F_dL_leaves TL' oChkF B_dL__check_fault z_range z_reversed
  have oWhG := ok_wholeG (P := P) (w := w) (base := base) F_d_is_whole z_isinstance z_int z_bool
  have mo := c.more
  unfold exB at mo
  simp only [Bool.and_eq_true, decide_eq_true_eq] at mo
  obtain ⟨x1, x2, x3, x4, x5, x6, x7, x8, x9, x10, x11⟩ := mo
  obtain ⟨y1, y2, y3, y4⟩ := He.exc_ok (fct (.exc "NoWay") (by simp [fa]))
  have y5 := He.exm_ok (fct (.exm "NoWay" "FaultError" true) (by simp [fa]))
  have TN : NWx K mg (He.ga K "NoWay") := ⟨g_NoWay, y1, y2, y3, y4⟩
  have TE2 : EXx K mg (He.ga K "NoWay") (He.ga K "FaultError") (He.ga K "Empty") (He.ga K "NoFault") (He.ga K "NoKind") (He.ga K "NoTest") (He.ga K "NoText") := ⟨g_NoWay, g_FaultError, g_Empty, g_NoFault, g_NoKind, g_NoTest, g_NoText, y5, ⟨x1, x2, x3, x4, x5, x6, x7, x8⟩, x9, x10, x11⟩
  have oLed := ok_led F_dL_led TL' TN oChkF B_dL__check_fault oWhG g_is_whole F_d_is_whole.kp B_d_is_whole z_isinstance
  have oLdl := ok_ldl F_d__law_led cl_Ledger m_led TE2 oLed B_dL_led z_isinstance z_ValueError
  have oWk := ok_wk F_d__law_walked oDig B_d__law_digit g__law_digit F_d__law_digit.kp z_len z_range
  have oOd := ok_odd F_d__law_odd oDig B_d__law_digit g__law_digit F_d__law_digit.kp z_len
  have TA : ATxt K mg (He.ga K "Ledger") _ _ _ _ _ _ _ _ _ _ := ⟨cl_Ledger, m_leaves, g__law_pot, F_d__law_pot.kp, g__law_pairs, F_d__law_pairs.kp, g__law_entries, F_d__law_entries.kp, g__law_ledger, F_d__law_ledger.kp, g__law_leaves, F_d__law_leaves.kp, g__law_digit, F_d__law_digit.kp, g__law_walked, F_d__law_walked.kp, g__law_odd, F_d__law_odd.kp, g__law_led, F_d__law_led.kp, z_len, z_max, z_min, z_range, z_repr, z_all, z_list⟩
  exact law_body TA oPot B_d__law_pot oPairs B_d__law_pairs oEnt B_d__law_entries oLedg B_d__law_ledger oLvs B_d__law_leaves oLvp B_dL_leaves oDig B_d__law_digit oWk B_d__law_walked oOd B_d__law_odd oLdl B_d__law_led cdv A0 outer s H vs Q Es hg hr hsp
end
end Fs
open PySem PySem.W PySem.Calls PyProof.Rows
set_option maxHeartbeats 0 in
theorem PySem.Challenge.cw_faultsheaves_k13_leaves_and_ways_holds : PySem.Challenge.rw_faultsheaves_k13_leaves_and_ways.Holds := by
  w_on; o_law
  refine HandSHeadRun.head_any (r := OpenLaw.row PySem.Challenge.rw_faultsheaves_k13_leaves_and_ways) (q := view (OpenLaw.row PySem.Challenge.rw_faultsheaves_k13_leaves_and_ways).prog [31]) (H := Fs.hk) (ob := Fs.ob) (M := 6000) (loose := Fs.loose) (d := HandSHeadRun.topDef (OpenLaw.row PySem.Challenge.rw_faultsheaves_k13_leaves_and_ways).prog 31) (kwd := []) Fs.ob_eq
    (by kernel_rfl) (fun s => by kernel_rfl) Fs.run (by kernel_rfl) (by kernel_rfl) (by kernel_rfl) (by rfl) (by first | assumption | decide +kernel) (by decide +kernel) ⟨rfl, rfl, rfl, rfl, rfl, by decide +kernel⟩ ?hw ?hc
  case hw => w_witness2
  case hc =>
    refine Att.attach_callB (l := PySem.Challenge.rw_faultsheaves_k13_leaves_and_ways) (n := 63) rfl (by kernel_rfl) fun w s₀ s₁ mg mb fa o pm cd doc a vs ns G Y ho hd hcd hmg hobj hints hlen hbits hg => ?_
    obtain ⟨K, KX, c⟩ := Y
    have hmg' : mg ("law" : PySem.Str) = some (.ref fa) := by
      have e : (HandSHeadRun.topDef (OpenLaw.row PySem.Challenge.rw_faultsheaves_k13_leaves_and_ways).prog 31).name = ("law" : PySem.Str) := by kernel_rfl
      rw [← e]
      exact hmg
    obtain ⟨co, Pt, dV, kV, doc', pm', cdv, ct, oc, an, od, osl, lk, hc', bd, hT, nT, hh, body⟩ := Fs.all (P := (PySem.Challenge.rw_faultsheaves_k13_leaves_and_ways).prog) (w := w) KX G.T.g hmg' c
    exact Fs.law_here lk hc' ⟨rfl, by decide, by decide⟩ bd KX G.T.g G.T.b G.T.builtins G.T.nolimit hg hT nT hh G.T.bmain hobj hints hlen body
