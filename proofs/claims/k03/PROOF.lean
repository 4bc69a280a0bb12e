import PyProof.Rows.All
import Wide.All
import OpenK.AllK
import Wide.FinOn
import HandS.Base
import HandS.Call
import HandS.List
import HandS.Comp
import HandS.Ends
import HandS.Dict
import HandS.Words
import HandS.WordsList
import HandS.Wide
import HandS.Codes
import PyProof.Fits
import PyProof.NoPylong
import PySem.Challenge.RW_solidnames_k03_linear_formulas
import HandS.Exc
import HandS.ExcInit
import PyProof.ExcBaseAll.LookupError
import PyProof.Rows.FactsExc_KeyError
import HandS.ExcBuiltin
import PyProof.ExcBaseAll.ArithmeticError
import PyProof.Rows.FactsExc_ArithmeticError
import HandS.TryOnly
import HandS.ExcOwn
import HandS.ExcField
import HandS.ExcIs
import HandS.IsInst
import PyProof.ReprRoads
import KE.KOpsOwn
import PyProof.InstNe
import HandS.EndTab
import HandS.Head0
import HandS.Head1
import HandS.Head2
import HandS.HeadHook4
import HandS.HeadEnd
import HandS.WordsExc
import HandS.Style
import HandS.HeadHook3
import HandS.Property
import HandS.Defaults
import HandS.More
import KE.IntTextLaws
import HandS.Set
import HandS.Strs
import HandS.SetFor
import HandS.Text
import PyProof.StrLawsRepr
import PyProof.ReprLen
import HandS.RaiseMore
import PyProof.DictUpdate
import HandS.Star
import KE.KDictList
import PyProof.CollectIter
import HandS.Walk
import HandS.TupLe
section
set_option Elab.async false
set_option maxRecDepth 100000
namespace Toy
open PySem L2
def top (i : Nat) : Stmt := PySem.Challenge.pw_solidnames_k03_linear_formulas.main.body.getD i (.Pass ⟨0, 0, 0, 0⟩)
abbrev sDraw : Stmt := top 39
/-! the pen -/
abbrev kCells : Key := Sum.inr ("cells" : Str)
abbrev kBegun : Key := Sum.inr ("begun" : Str)
abbrev kRest : Key := Sum.inr ("rest" : Str)
theorem ks1 : ¬ (kCells = kBegun) := by decide +kernel
theorem ks2 : ¬ (kCells = kRest) := by decide +kernel
theorem ks3 : ¬ (kBegun = kRest) := by decide +kernel
theorem ks4 : ¬ (kRest = kBegun) := by decide +kernel
def penD (c : Addr) (n r : Int) : List (Key × V) := [(kCells, .ref c), (kBegun, .int n), (kRest, .int r)]
structure PenAt (H : Hp) (p c : Addr) (ns : List Int) (n r : Int) : Prop where
  d : H p = some (.dK (penD c n r))
  l : H c = some (.lst (ns.map V.int))
  n0 : 0 ≤ n
  nb : n ≤ 1000000
  r0 : 0 ≤ r
  len : ns.length ≤ 63
theorem pen_cells (c : Addr) (n r : Int) : valV (penD c n r) kCells = some (.ref c) := valV_pos rfl
theorem pen_begun (c : Addr) (n r : Int) : valV (penD c n r) kBegun = some (.int n) := by
  unfold penD
  rw [valV_neg ks1, valV_pos rfl]
theorem pen_rest (c : Addr) (n r : Int) : valV (penD c n r) kRest = some (.int r) := by
  unfold penD
  rw [valV_neg ks2, valV_neg ks3, valV_pos rfl]
theorem pen_put_rest (c : Addr) (n r r' : Int) : putK (penD c n r) kRest (.int r') = penD c n r' := by
  unfold putK penD
  rw [if_pos (by simp)]
  simp only [List.map_cons, List.map_nil, if_neg ks2, if_neg ks3, if_true]
theorem pen_put_begun (c : Addr) (n r n' : Int) : putK (penD c n r) kBegun (.int n') = penD c n' r := by
  unfold putK penD
  rw [if_pos (by simp)]
  simp only [List.map_cons, List.map_nil, if_neg ks1, if_neg ks4, if_true]
theorem PenAt.draw {H : Hp} {p c : Addr} {ns : List Int} {n r n' r' : Int} (P : PenAt H p c ns n r) (h0 : 0 ≤ n') (hb : n' ≤ 1000000) (h1 : 0 ≤ r') : PenAt (upd H p (.dK (penD c n' r'))) p c ns n' r' := by
  have npc : c ≠ p := ne_of P.l P.d (by intro z; cases z)
  exact ⟨upd_same, by rw [upd_ne npc]; exact P.l, h0, hb, h1, P.len⟩
/-- the levels: how great a range may be -/
def bnd : Nat → Int
  | 0 => 60000000
  | m + 1 => 60000000 * (bnd m - 1)
/-- all but the pen stands as it was -/
def Kept (p : Addr) (H H' : Hp) : Prop := ∀ b, b ≠ p → H' b = H b
def spD : Nat → Sp
  | 0 => fun _ _ _ _ => False
  | m + 1 => fun vs H Q _ => ∃ (p c : Addr) (ns : List Int) (n r many : Int), vs = [.ref p, .int many] ∧ PenAt H p c ns n r ∧ 1 ≤ many ∧ many ≤ bnd m ∧ n + m < 1000000 ∧
    ∀ (d n' r' : Int), 0 ≤ d → d < many → n ≤ n' → n' ≤ n + m + 1 → PenAt (upd H p (.dK (penD c n' r'))) p c ns n' r' → Q (.int d) (upd H p (.dK (penD c n' r')))
structure TxtD (K : PySem.W.Frag) (mg : Str → Option Value) : Prop where
  int : mg "int" = none
  len : mg "len" = none
  abs : mg "abs" = none
theorem pget_cells {H : Hp} {p c : Addr} {n r : Int} (h : H p = some (.dK (penD c n r))) : DGet H p (.str "cells") (some (.ref c)) := by
  have := DGet.k (k := kCells) h
  rwa [pen_cells] at this
theorem pget_begun {H : Hp} {p c : Addr} {n r : Int} (h : H p = some (.dK (penD c n r))) : DGet H p (.str "begun") (some (.int n)) := by
  have := DGet.k (k := kBegun) h
  rwa [pen_begun] at this
theorem pget_rest {H : Hp} {p c : Addr} {n r : Int} (h : H p = some (.dK (penD c n r))) : DGet H p (.str "rest") (some (.int r)) := by
  have := DGet.k (k := kRest) h
  rwa [pen_rest] at this
theorem pput_rest {H : Hp} {p c : Addr} {n r : Int} (h : H p = some (.dK (penD c n r))) (r' : Int) : DPut H p (.str "rest") (.int r') (upd H p (.dK (penD c n r'))) := by
  have := DPut.k (k := kRest) (v := .int r') h (by show 3 < sizeLine; decide)
  rwa [pen_put_rest] at this
theorem pput_begun {H : Hp} {p c : Addr} {n r : Int} (h : H p = some (.dK (penD c n r))) (n' : Int) : DPut H p (.str "begun") (.int n') (upd H p (.dK (penD c n' r))) := by
  have := DPut.k (k := kBegun) (v := .int n') h (by show 3 < sizeLine; decide)
  rwa [pen_put_begun] at this
theorem bnd_lt : ∀ m : Nat, m ≤ 6 → (bnd m).natAbs < 2 ^ 200 := by decide +kernel
section
variable {P : Program} {w : World} {K : PySem.W.Frag} {mg : Str → Option Value} {base : Heap}
theorem scD : FnScope ["_law_pen_here", "_law_many", "_law_digit", "_law_place", "_law_size", "_law_told_here", "_law_mixed"] ["_law_pen_here", "_law_many"] (defScope sDraw) := ⟨rfl, rfl, rfl, by decide +kernel, rfl, by decide +kernel, by decide +kernel⟩
theorem ok_draw {f : Addr} {fd : FuncData} (F : Fun K "_law_draw" "_law_draw" sDraw f fd) (T : TxtD K mg) (mgf : mg "_law_draw" = some (.ref f)) (b : Binds K fd ["_law_pen_here", "_law_many"] []) :
    ∀ m : Nat, m ≤ 6 → FnOk P w K mg base CX0 (m + 1) f fd ["_law_pen_here", "_law_many"] (spD m) := by
  intro m
  induction m with
  | zero => exact fun _ => F.ok scD (fun _ _ _ _ h => h.elim) (fun _ _ _ _ _ _ _ _ _ h => h.elim)
  | succ m ih =>
    intro hm
    have ih := ih (by omega)
    refine F.ok scD (fun vs H Q E h => ?_) (fun cdv A outer s H vs Q E hr h => ?_)
    · obtain ⟨p, c, ns, n, r, many, rfl, _⟩ := h
      rfl
    · obtain ⟨p, c, ns, n, r, many, rfl, S, h1, h2, h3, k⟩ := h
      have hu := hu_of hr
      have hwide : ∀ i : Int, CDivW i many := fun i => wide_div (b := 200) (by omega) (wide_le (by omega) h2 (bnd_lt m (by omega))) (by decide) (by decide)
      refine ⟨_, (pss_cons (ps_if (pt_cmpR op_gt (pe_dget hu (pv 0) pe_str (fun _ _ => rfl)) pe_int (nomark _))
 (pss_cons (ps_set (i := 2) scD.nd rfl (Or.inl rfl) (pe_op op_mod (pe_callTy call_int1 (by rfl) T.int (by decide +kernel) (pa_cons (pe_dget hu (pv 0) pe_str (fun _ _ => rfl)) pa_nil)) (pv 1)))
 (pss_cons (ps_dput hu (pv 0) pe_str (pe_op op_fdivW (pe_dget hu (pv 0) pe_str (fun _ _ => rfl)) (pv 1)) rfl)
 (pss_one (ps_ret (pv 2)))))
 pss_nil)
 (pss_cons (ps_par (i := 3) (j := 4) (by rfl) scD.nd rfl rfl (by decide) rfl rfl (pa_cons (pe_dget hu (pv 0) pe_str (fun _ _ => rfl)) (pa_cons (pe_callB call_len (by rfl) T.len PySem.boot_len (pa_cons (pe_dget hu (pv 0) pe_str (fun _ _ => rfl)) pa_nil)) pa_nil)) (by rfl))
 (pss_cons (ps_dput hu (pv 0) pe_str (pe_op op_add (pv 3) pe_int) rfl)
 (C8.pss_cut (ps_set (i := 5) scD.nd rfl (Or.inl rfl) (pe_ifExp (pt_cmpR op_gt (pv 4) pe_int (nomark _)) (pe_ix ix_list (pe_dget hu (pv 0) pe_str (fun _ _ => rfl)) (pe_op op_mod (pe_callTy call_int1 (by rfl) T.int (by decide +kernel) (pa_cons (pv 3) pa_nil)) (pv 4)) (fun _ _ => rfl)) (pe_op op_add (pe_op op_mul pe_int (pv 3)) pe_int)))
 (C8.pss_cut (ps_if (PW.pt (pw_and (pt_cmpR op_lt (pv 3) (pv 4) (nomark _)) (pw_and1 (pt_cmpR op_ge (pe_callB call_abs (by rfl) T.abs (by decide +kernel) (pa_cons (pv 5) pa_nil)) (pe_op op_pow pe_int pe_int) (nomark _)))))
 (pss_cons (ps_dput hu (pv 0) pe_str (pe_op op_fdivW (pe_op op_sub (pe_callB call_abs (by rfl) T.abs (by decide +kernel) (pa_cons (pv 5) pa_nil)) (pe_op op_pow pe_int pe_int)) (pv 1)) rfl)
 (pss_one (ps_ret (pe_op op_mod (pe_op op_sub (pe_callB call_abs (by rfl) T.abs (by decide +kernel) (pa_cons (pv 5) pa_nil)) (pe_op op_pow pe_int pe_int)) (pv 1)))))
 pss_nil)
 (C8.pss_cut (ps_set (i := 6) scD.nd rfl (Or.inl rfl) (pe_op op_mod (pe_callTy call_int1 (by rfl) T.int (by decide +kernel) (pa_cons (pe_op op_add (pe_op op_add (pe_op op_mul (pe_op op_mod (pe_callTy call_int1 (by rfl) T.int (by decide +kernel) (pa_cons (pv 5) pa_nil)) pe_int) pe_int) (pe_op op_mul (pe_op op_mul pe_int (pv 3)) (pv 3))) pe_int) pa_nil)) pe_int))
 (C8.pss_cut (ps_set (i := 6) scD.nd rfl (Or.inl rfl) (pe_op op_mod (pe_callTy call_int1 (by rfl) T.int (by decide +kernel) (pa_cons (pe_op op_add (pe_op op_add (pe_op op_add (pe_op op_mul (pv 6) (pv 6)) (pe_op op_mul pe_int (pv 6))) (pe_op op_mul pe_int (pv 3))) pe_int) pa_nil)) pe_int))
 (C8.pss_cut (ps_set (i := 6) scD.nd rfl (Or.inl rfl) (pe_op op_fdiv (pe_op op_mod (pe_callTy call_int1 (by rfl) T.int (by decide +kernel) (pa_cons (pe_op op_mul (pv 6) (pe_op op_add (pv 6) pe_int)) pa_nil)) pe_int) pe_int))
 (C8.pss_cut (ps_if (pt_cmpR op_gt (pv 1) pe_int (nomark _))
 (pss_one (ps_set (i := 6) scD.nd rfl (Or.inl rfl) (pe_op op_add (pe_op op_mod (pe_callTy call_int1 (by rfl) T.int (by decide +kernel) (pa_cons (pv 6) pa_nil)) pe_int) (pe_op op_mul pe_int (pe_call ih hr rfl mgf F.kp b .nil pass0 (pa_cons (pv 0) (pa_cons (pe_op op_add (pe_op op_fdiv (pv 1) pe_int) pe_int) pa_nil)))))))
 pss_nil)
 (pss_one (ps_ret (pe_op op_mod (pe_callTy call_int1 (by rfl) T.int (by decide +kernel) (pa_cons (pv 6) pa_nil)) (pv 1))))))))))))), ?_⟩
      refine ⟨_, rfl, p, _, rfl, pget_rest S.d, _, _, rfl, rfl, _, rfl, ?_⟩
      refine ite2 (fun c1 => ?_) (fun c1 => ?_)
      · -- a digit of a great cell
        refine ⟨_, rfl, p, _, rfl, pget_rest S.d, .inl ⟨_, rfl, _, rfl, _, _, rfl, rfl, (by show (0 : Int) < many; omega), ?_⟩⟩
        refine ⟨_, rfl, p, _, rfl, pget_rest S.d, _, rfl, _, _, rfl, rfl, hwide _, _, rfl, p, _, rfl, pput_rest S.d _, _, rfl, ?_⟩
        have q0 : 0 ≤ r / many := Int.ediv_nonneg S.r0 (by omega)
        exact k _ _ _ (Int.emod_nonneg _ (by omega)) (Int.emod_lt_of_pos _ (by omega)) (Int.le_refl _) (by omega) (S.draw S.n0 S.nb q0)
      · have er : r = 0 := by have := S.r0; have : ¬ (0 < r) := fun z => c1 (decide_eq_true z); omega
        subst er
        have lenN : ((ns.map V.int).length : Int) = (ns.length : Int) := by rw [List.length_map]
        -- place, size
        refine ⟨_, rfl, p, _, rfl, pget_begun S.d, _, rfl, p, _, rfl, pget_cells S.d, _, _, rfl, .inl ⟨_, SqL.of S.l, rfl⟩, _, _, rfl, ?_⟩
        -- begun
        refine ⟨_, rfl, _, _, rfl, rfl, _, rfl, p, _, rfl, pput_begun S.d _, ?_⟩
        have S1 : PenAt (upd H p (.dK (penD c (n + 1) 0))) p c ns (n + 1) 0 := S.draw (by have := S.n0; omega) (by omega) (Int.le_refl _)
        generalize hH1 : upd H p (.dK (penD c (n + 1) 0)) = H1 at S1 ⊢
        have up : ∀ o, upd H1 p o = upd H p o := fun o => by rw [← hH1, upd_upd]
        have nb := S.nb
        have n0 := S.n0
        -- told, of the cells
        refine ⟨fun σ' H' => ∃ told : Int, H1 = H' ∧ σ' = [some (.ref p), some (.int many), none, some (.int n), some (.int (ns.length : Int)), some (.int told), none], ?_, ?_⟩
        · refine ⟨_, rfl, _, _, rfl, rfl, _, rfl, ?_⟩
          refine ite2 (fun c2 => ?_) (fun c2 => ⟨_, rfl, _, _, rfl, rfl, .inl ⟨by decide, by decide⟩, _, _, rfl, rfl, _, rfl, by rw [lenN] <;> rfl⟩)
          have hl : 0 < ns.length := by have := of_decide_eq_true c2; omega
          have hx : n % (ns.length : Int) = ((n.toNat % ns.length : Nat) : Int) := by rw [Int.natCast_emod, Int.toNat_of_nonneg n0]
          obtain ⟨z, hz⟩ : ∃ z, ns[n.toNat % ns.length]? = some z := ⟨_, List.getElem?_eq_getElem (Nat.mod_lt _ hl)⟩
          obtain ⟨z, hz⟩ : ∃ z, ns[n.toNat % ns.length]? = some z := ⟨_, List.getElem?_eq_getElem (Nat.mod_lt _ hl)⟩
          obtain ⟨z, hz⟩ : ∃ z, ns[n.toNat % ns.length]? = some z := ⟨_, List.getElem?_eq_getElem (Nat.mod_lt _ hl)⟩
          obtain ⟨z, hz⟩ : ∃ z, ns[n.toNat % ns.length]? = some z := ⟨_, List.getElem?_eq_getElem (Nat.mod_lt _ hl)⟩
          obtain ⟨z, hz⟩ : ∃ z, ns[n.toNat % ns.length]? = some z := ⟨_, List.getElem?_eq_getElem (Nat.mod_lt _ hl)⟩
          have hi : (ns.map V.int)[n.toNat % ns.length]? = some (.int z) := by
            rw [List.getElem?_map, hz] <;> rfl
          refine ⟨_, rfl, p, _, rfl, pget_cells S1.d, _, rfl, .inl ⟨_, rfl, _, rfl, _, _, rfl, rfl, (by show (0 : Int) < ((ns.map V.int).length : Int); rw [lenN]; omega), c, _, _, .int z, rfl, rfl, SqL.of S1.l, ?_, ⟨_, rfl, by rw [lenN] <;> rfl⟩⟩⟩
          rw [lenN, hx]
          exact atI_nat hi
        rintro σ' H' ⟨told, eH, rfl⟩
        subst eH
        have fin : ∀ (d n' r' : Int), 0 ≤ d → d < many → n + 1 ≤ n' → n' ≤ n + ((m + 1 : Nat) : Int) → 0 ≤ r' → Q (.int d) (upd H p (.dK (penD c n' r'))) := fun d n' r' g1 g2 g3 g4 g5 =>
          k d n' r' g1 g2 (by omega) (by omega) (S.draw (by omega) (by omega) g5)
        -- a great cell
        refine ⟨fun σ' H' => H1 = H' ∧ σ' = [some (.ref p), some (.int many), none, some (.int n), some (.int (ns.length : Int)), some (.int told), none], ?_, ?_⟩
        · refine ⟨_, rfl, _, rfl, _, _, rfl, rfl, _, rfl, ?_⟩
          refine ite2 (fun c3 => ?_) (fun _ => iteF ⟨rfl, rfl⟩)
          refine ⟨_, rfl, _, rfl, _, _, rfl, rfl, ⟨by decide, by decide, by decide⟩, _, _, rfl, rfl, _, rfl, ?_⟩
          refine ite2 (fun c4 => ?_) (fun _ => ⟨rfl, rfl⟩)
          have h18 : (0 : Int) ≤ (if told < 0 then -told else told) - 10 ^ (18 : Int).toNat := by have := of_decide_eq_true c4; omega
          refine ⟨_, rfl, _, rfl, _, _, rfl, rfl, ⟨by decide, by decide, by decide⟩, _, _, rfl, rfl, _, rfl, _, _, rfl, rfl, hwide _, _, rfl, p, _, rfl, pput_rest S1.d _,
            _, rfl, _, rfl, _, _, rfl, rfl, ⟨by decide, by decide, by decide⟩, _, _, rfl, rfl, _, rfl, _, _, rfl, rfl, (show (0 : Int) < many by omega), ?_⟩
          rw [up]
          exact fin _ _ _ (Int.emod_nonneg _ (by omega)) (Int.emod_lt_of_pos _ (by omega)) (Int.le_refl _) (by omega) (Int.ediv_nonneg h18 (by omega))
        rintro σ' H' ⟨eH, rfl⟩
        subst eH
        -- mixed
        have nlt : -(2 ^ 64) < n ∧ n < 2 ^ 64 := ⟨by omega, by omega⟩
        refine ⟨fun σ' H' => ∃ x : Int, 0 ≤ x ∧ x < 4294967279 ∧ H1 = H' ∧ σ' = [some (.ref p), some (.int many), none, some (.int n), some (.int (ns.length : Int)), some (.int told), some (.int x)], ?_, ?_⟩
        · refine ⟨_, rfl, .inl ⟨_, rfl, _, _, rfl, rfl, (show (0 : Int) < 4294967231 by decide), _, _, rfl, rfl, .inr ⟨by decide, by decide⟩, _, rfl, _, _, rfl, rfl, .inl ⟨by decide, by decide⟩, _, rfl, _, _, rfl, rfl, .inr nlt, _, _, rfl, rfl, _, _, rfl, rfl,
            .inl ⟨_, rfl, _, _, rfl, rfl, (show (0 : Int) < 4294967279 by decide), ?_⟩⟩⟩
          exact ⟨_, Int.emod_nonneg _ (by decide), Int.emod_lt_of_pos _ (by decide), rfl, rfl⟩
        rintro σ' H' ⟨x, x0, x1, eH, rfl⟩
        subst eH
        have bx : ∀ y : Int, 0 ≤ y → y < 4294967291 → -(2 ^ 64) < y ∧ y < 2 ^ 64 := fun y _ _ => ⟨by omega, by omega⟩
        refine ⟨fun σ' H' => ∃ x : Int, 0 ≤ x ∧ x < 4294967291 ∧ H1 = H' ∧ σ' = [some (.ref p), some (.int many), none, some (.int n), some (.int (ns.length : Int)), some (.int told), some (.int x)], ?_, ?_⟩
        · refine ⟨_, rfl, _, rfl, _, _, rfl, rfl, .inr (bx x x0 (by omega)), _, rfl, _, _, rfl, rfl, .inl ⟨by decide, by decide⟩, _, _, rfl, rfl, _, rfl, _, _, rfl, rfl, .inl ⟨by decide, by decide⟩, _, _, rfl, rfl, _, _, rfl, rfl,
            .inl ⟨_, rfl, _, _, rfl, rfl, (show (0 : Int) < 4294967291 by decide), ?_⟩⟩
          exact ⟨_, Int.emod_nonneg _ (by decide), Int.emod_lt_of_pos _ (by decide), rfl, rfl⟩
        clear x0 x1 x
        rintro σ' H' ⟨x, x0, x1, eH, rfl⟩
        subst eH
        refine ⟨fun σ' H' => ∃ x : Int, 0 ≤ x ∧ H1 = H' ∧ σ' = [some (.ref p), some (.int many), none, some (.int n), some (.int (ns.length : Int)), some (.int told), some (.int x)], ?_, ?_⟩
        · refine ⟨_, rfl, _, rfl, _, _, rfl, rfl, _, _, rfl, rfl, .inl (bx x x0 x1), .inl ⟨_, rfl, _, _, rfl, rfl, (show (0 : Int) < 4294967197 by decide), _, _, rfl, rfl, ⟨by decide, by decide⟩, ?_⟩⟩
          exact ⟨_, Int.ediv_nonneg (Int.emod_nonneg _ (by decide)) (by decide), rfl, rfl⟩
        clear x0 x1 x
        rintro σ' H' ⟨x, x0, eH, rfl⟩
        subst eH
        refine ⟨fun σ' H' => ∃ x n' r' : Int, 0 ≤ x ∧ n + 1 ≤ n' ∧ n' ≤ n + ((m + 1 : Nat) : Int) ∧ 0 ≤ r' ∧ H' = upd H p (.dK (penD c n' r')) ∧
          σ' = [some (.ref p), some (.int many), none, some (.int n), some (.int (ns.length : Int)), some (.int told), some (.int x)], ?_, ?_⟩
        · refine ⟨_, rfl, _, _, rfl, rfl, _, rfl, ?_⟩
          refine ite2 (fun c5 => ?_) (fun _ => ⟨x, n + 1, 0, x0, Int.le_refl _, by omega, Int.le_refl _, hH1.symm, rfl⟩)
          have hm6 : (60000000 : Int) < many := of_decide_eq_true c5
          refine ⟨_, rfl, .inl ⟨_, rfl, _, _, rfl, rfl, (show (0 : Int) < 60000000 by decide), _, rfl, _, rfl, _, _, rfl, rfl, ⟨by decide, by decide⟩, _, _, rfl, rfl, ?_⟩⟩
          cases m with
          | zero => exact absurd h2 (by show ¬ many ≤ 60000000; omega)
          | succ m =>
            have h2' : many ≤ 60000000 * (bnd m - 1) := h2
            refine ⟨p, c, ns, n + 1, 0, many / 60000000 + 1, rfl, S1, by omega, by omega, by omega, fun d n' r' d0 d1 g1 g2 P' => ?_⟩
            refine ⟨_, _, rfl, rfl, .inl ⟨by decide, by decide⟩, _, _, rfl, rfl, ?_⟩
            exact ⟨x % 60000000 + 60000000 * d, n', r', by have := Int.emod_nonneg x (show (60000000 : Int) ≠ 0 by decide); omega, g1, by omega, P'.r0, up _, rfl⟩
        rintro σ' H' ⟨x, n', r', x0, g3, g4, g5, rfl, rfl⟩
        refine ⟨_, rfl, .inl ⟨_, rfl, _, rfl, _, _, rfl, rfl, (show (0 : Int) < many by omega), ?_⟩⟩
        exact fin _ _ _ (Int.emod_nonneg _ (by omega)) (Int.emod_lt_of_pos _ (by omega)) g3 g4 g5
end
end Toy
end

section
set_option Elab.async false
set_option linter.all false
set_option maxRecDepth 100000
set_option maxHeartbeats 1000000
/-! An own error over KeyError: how it is made, what its base's __init__ does. -/
namespace KeyE
open PySem PySem.HandSPX PySem.W Builtin Builtin.ObjectAttr
abbrev keTail : List Value := [.type "KeyError", .type "LookupError", .type "Exception", .type "BaseException", .type "object"]
def refsKE : List Value → Bool
  | .ref _ :: r => refsKE r
  | l => l == keTail
theorem ke_split : ∀ l : List Value, refsKE l = true → (∃ c r, l = .ref c :: r ∧ refsKE r = true) ∨ l = keTail := by
  intro l h
  unfold refsKE at h
  split at h
  · exact .inl ⟨_, _, rfl, h⟩
  · exact .inr (beq_iff_eq.mp h)
theorem ke_has (X : String) : ∀ l : List Value, refsKE l = true → l.contains (.type X) = keTail.contains (.type X) := by
  intro l
  induction l with
  | nil => intro h; exact absurd h (by decide)
  | cons a r ih =>
    intro h
    rcases ke_split _ h with ⟨c, r', q, g⟩ | q
    · cases q
      rw [List.contains_cons, ih g]
      rfl
    · rw [q]
theorem ke_ne {l : List Value} (h : refsKE l = true) : l.isEmpty = false := by
  cases l with
  | nil => exact absurd h (by decide)
  | cons _ _ => rfl
abbrev nw : String := "LookupError.__new__"
section
variable {prog : Program} {w : World} {M : Model} {A : Around} {E : Value → Shared → Prop} {R : Result → Shared → Prop} {h : Heap} {g : Array GenState} {d : Drawn} {t : Nat} {os : OsState}
variable {nm q : Str} {C N : Addr} {bs bm : List Value} {hdct : Bool} {sn : List Str} {sub : List Value} {ab : Bool} {col : Option Bool} {dd : Option Addr} {k0 k1 k2 k3 k5 : Option Value}
theorem has_L (hm : refsKE bm = true) : (Value.ref C :: bm).contains (.type "LookupError") = true := by
  rw [List.contains_cons, ke_has _ bm hm]
  rfl
theorem has_K (hm : refsKE bm = true) : (Value.ref C :: bm).contains (.type "KeyError") = true := by
  rw [List.contains_cons, ke_has _ bm hm]
  rfl
theorem no_A (hm : refsKE bm = true) : (Value.ref C :: bm).contains (.type "AttributeError") = false := by
  rw [List.contains_cons, ke_has _ bm hm]
  rfl
theorem no_N (hm : refsKE bm = true) : (Value.ref C :: bm).contains (.type "NameError") = false := by
  rw [List.contains_cons, ke_has _ bm hm]
  rfl
theorem ok_new (hm : refsKE bm = true) {rest : List Value} {Q : Unit → Shared → Prop} (hC : h.get? C = some (excClassObj nm q C N bs bm hdct sn sub ab col dd k0 k1 k2 k3 k5 nw))
    (hq : Q () ⟨h, g, d, t, os⟩) : wpAny M A (checkBuiltinCall nw ⟨.ref C :: rest, []⟩) Q E ⟨h, g, d, t, os⟩ := by
  have F := F.excBase_LookupError
  have b1 := has_L (C := C) hm
  have b2 := F.noStar
  simp only [checkBuiltinCall, F.newKind, F.newSplit, F.newRow]
  repeat (first | refine wpAny_loadPart_at hC ?_ | (refine wpAny_isSubtype_exc hC ?_; rw [b1]) | refine wpAny_staticBase_exc hC ?_ | refine wpAny_madeBy_exc hC ?_ | simp only [bne_self_eq_false, Bool.false_eq_true, if_false] | wp_step)
  exact hq
theorem new_k (hm : refsKE bm = true) {rest : List Value} (hC : h.get? C = some (excClassObj nm q C N bs bm hdct sn sub ab col dd k0 k1 k2 k3 k5 nw)) (hrest : rest.length ≤ sizeLine)
    (hq : R (.ok (.ret (.ref (h.objs.size + 1)))) ⟨(h.push { cls := .type "tuple", data := .seq rest.toArray }).push { cls := .ref C, data := .fields #[.ref h.objs.size, .none, .none, .none, .bool false, .none] }, g, d, t, os⟩) :
    codeAny (model prog w) A (.builtin nw ⟨.ref C :: rest, []⟩) R ⟨h, g, d, t, os⟩ := by
  have F := F.excBase_LookupError
  have hends := F.ends
  have b1 := has_L (C := C) hm
  have b2 := no_A (C := C) hm
  have b3 := no_N (C := C) hm
  refine codeAny_builtinAt F.entry ?_
  unfold Builtin.«BaseException.__new__»
  refine wpAt_bind ?_
  show wpAt _ _ _ (stack >>= _) _ _ _
  refine wpAt_bind (wpAt_stack fun p below => wpAt_of_wpAny ?_)
  wp_walk
  refine wpAt_of_wpAny ?_
  rw [F.owner]
  repeat (first | with_reducible refine wpAny_madeHere_exc F.canon hC ?_ | with_reducible refine wpAny_loadPart_at hC ?_ | (with_reducible refine wpAny_isSubtype_exc hC ?_; first | rw [b1] | rw [b2] | rw [b3]) | wp_step)
  show R _ _
  rw [Heap.size_push]
  exact hq
theorem type_call_k (hm : refsKE bm = true) {rest : List Value} {fI : Addr} {Q : Fin → Shared → Prop} (hC : h.get? C = some (excClassObj nm q C N bs bm hdct sn sub ab col dd k0 k1 k2 k3 k5 nw))
    (hi : W.Looks (model prog w) h (typeLookup (.ref C) "__init__") (some (.ref fI))) (hb : ∀ self, W.Looks (model prog w) h (bindSpecial (.ref fI) self) (.ref fI, [self])) (hrest : rest.length ≤ sizeLine)
    (hq : codeAny (model prog w) A (.call (.ref fI) ⟨.ref (h.objs.size + 1) :: rest, []⟩) (fun r s' => match r with
        | .ok (.ret v) => v = .none ∧ Q (.done (.ret (.ref (h.objs.size + 1)))) s'
        | .ok _ => False
        | .error e => E e s') ⟨(h.push (W.kdv_tup rest)).push (excO C h.objs.size), g, d, t, os⟩) :
    wpAny (model prog w) A (Builtin.«type.__call__» ⟨.ref C :: rest, []⟩) Q E ⟨h, g, d, t, os⟩ := by
  have F := F.excBase_LookupError
  repeat (first | with_reducible refine wpAny_loadPart_at hC ?_ | with_reducible refine wpAny_madeBy_exc hC ?_ | wp_step)
  refine codeAny_call_builtin_code (Code.quiet_builtin _ F.quiet) (ok_new hm hC ?_)
  refine new_k hm hC hrest ?_
  show wpAny _ _ _ _ _ _
  have kp : ∀ b o, h.get? b = some o → ((h.push (W.kdv_tup rest)).push (excO C h.objs.size)).get? b = some o := fun b o e => Heap.get?_push_of_some _ (Heap.get?_push_of_some _ e)
  have c1 := kp _ _ hC
  have c2 : ((h.push (W.kdv_tup rest)).push (excO C h.objs.size)).get? (h.objs.size + 1) = some (excO C h.objs.size) := by heap_get
  have c3 : (Value.ref C :: bm).contains (.ref C) = true := by simp
  have i1 := hi.keeps kp
  have i2 := (hb (.ref (h.objs.size + 1))).keeps kp
  unfold isInstance
  repeat (first | with_reducible refine wpAny_loadPart_at c2 ?_ | (with_reducible refine wpAny_isSubtype_exc c1 ?_; rw [c3]) | wp_step)
  show wpAny _ _ (typeLookup (.ref C) _) _ _ _
  refine i1.at ?_
  refine wpAny_holding (wpAny_bind (i2.at ?_))
  refine wpAny_bind (wpAny_call (codeAny_mono hq fun r s' z => ?_))
  rcases r with e | (v | _ | _ | _) <;> first | exact z | exact z.elim | skip
  obtain ⟨rfl, z⟩ := z
  first
    | exact wpAny_pure (wpAny_pure z)
    | (wp_walk; exact z)
theorem call_k (hm : refsKE bm = true) {rest : List Value} {fI : Addr} (hC : h.get? C = some (excClassObj nm q C N bs bm hdct sn sub ab col dd k0 k1 k2 k3 k5 nw))
    (hi : W.Looks (model prog w) h (typeLookup (.ref C) "__init__") (some (.ref fI))) (hb : ∀ self, W.Looks (model prog w) h (bindSpecial (.ref fI) self) (.ref fI, [self])) (hrest : rest.length ≤ sizeLine)
    (hq : codeAny (model prog w) (A.under (.builtin "type.__call__" ⟨.ref C :: rest, []⟩)) (.call (.ref fI) ⟨.ref (h.objs.size + 1) :: rest, []⟩) (W.InitBack (h.objs.size + 1) R) ⟨(h.push (W.kdv_tup rest)).push (excO C h.objs.size), g, d, t, os⟩) :
    codeAny (model prog w) A (.call (.ref C) ⟨rest, []⟩) R ⟨h, g, d, t, os⟩ := by
  have g1 := tc_lookup
  have g2 := tc_bind (.ref C)
  have hTy : (⟨h, g, d, t, os⟩ : Shared).TypeIs (.ref C) "type" := ⟨_, hC, rfl⟩
  refine codeAny_of_tree ?_
  show wpAny _ _ (callAny (.ref C) _) _ _ _
  repeat (any_goals (first | assumption | with_reducible refine wpAny_loadPart_at hC ?_ | wp_step))
  refine ⟨rfl, ?_⟩
  refine codeAny_call_builtin_at (Code.quiet_builtin _ (by decide +kernel)) entry_typeCall (wpAny_check_type_call_sub hC (type_call_k hm hC hi hb hrest ?_))
  refine codeAny_mono hq fun r s' z => ?_
  rcases r with e | (v | _ | _ | _) <;> exact z
/-- KeyError.__init__ of such an error -/
theorem ok_init (hm : refsKE bm = true) {e : Addr} {oe : Obj} {rest : List Value} {Q : Unit → Shared → Prop} (hC : h.get? C = some (excClassObj nm q C N bs bm hdct sn sub ab col dd k0 k1 k2 k3 k5 nw)) (he : h.get? e = some oe) (hcls : oe.cls = .ref C)
    (hq : Q () ⟨h, g, d, t, os⟩) : wpAny M A (checkBuiltinCall "KeyError.__init__" ⟨.ref e :: rest, []⟩) Q E ⟨h, g, d, t, os⟩ := by
  have F := PyProof.Rows.excClass_KeyError
  have b1 := has_K (C := C) hm
  simp only [checkBuiltinCall, F.initKind, F.initSplit, F.initSig]
  repeat (first | (with_reducible refine wpAny_loadPart_at he ?_; rw [hcls]) | with_reducible refine wpAny_loadPart_at hC ?_ | (with_reducible refine wpAny_isSubtype_exc hC ?_; rw [b1]) | wp_step)
  refine wpAny_onRaise ?_
  rw [show ∀ (a b : String) (n : Nat), Bind.check ⟨.positional, "*", "KeyError", .self, [⟨"args", .varPos, false⟩]⟩ a b n (List.map (fun x => x.fst) ({ pos := Value.ref e :: rest } : Args).kw) = pure () from
    fun a b n => check_star_args _ _ _ _ _ _]
  exact wpAny_pure hq
theorem init_k (hm : refsKE bm = true) {e t0 : Addr} {rest : List Value} (hC : h.get? C = some (excClassObj nm q C N bs bm hdct sn sub ab col dd k0 k1 k2 k3 k5 nw)) (he : h.get? e = some (excO C t0)) (hrest : rest.length ≤ sizeLine)
    (hq : ∀ h' t1, (∀ b o, b ≠ e → h.get? b = some o → h'.get? b = some o) → h'.get? e = some (excO C t1) → R (.ok (.ret .none)) ⟨h', g, d, t, os⟩) :
    codeAny (model prog w) A (.call (.builtin "KeyError.__init__") ⟨.ref e :: rest, []⟩) R ⟨h, g, d, t, os⟩ := by
  have F := PyProof.Rows.excClass_KeyError
  refine codeAny_call_builtin F.init.plain F.initEntry (ok_init hm hC he rfl ?_)
  wp_walk
  refine hq _ h.objs.size (fun b o hb ho => ?_) ?_
  · rw [Heap.get?_update_other _ _ (Ne.symm hb)]
    exact Heap.get?_push_of_some _ ho
  · rw [Heap.get?_update_self _ (Heap.get?_push_of_some _ he) rfl]
    rfl
end
end KeyE
end

section
set_option Elab.async false
set_option linter.all false
set_option maxRecDepth 100000
/-! Promises of defs that hold where no repr is under way around them. -/
namespace Gd
open PySem PySem.Spec PyProof.Rows L2
/-- no repr (or its like) runs around -/
def NoG (A : Around) : Prop := A.guards = some []
theorem NoG.deeper {A : Around} (h : NoG A) (env : Env) : NoG (A.deeper env) := by
  unfold NoG at h ⊢
  simpa [Around.deeper] using h
/-- FnOk under NoG -/
structure FnG (P : Program) (w : World) (K : PySem.W.Frag) (mg : Str → Option Value) (base : Heap)
    (CX : CXT) (k : Nat) (f : Addr) (fd : FuncData) (ps : List Str) (sp : Sp) : Prop where
  many : ∀ vs H Q E, sp vs H Q E → vs.length = ps.length
  go : ∀ (A : Around) (out : List Env) (s : Shared) (H : Hp) (args : Args) (us : List Value) (vs : List V) (Q : VK) (E : XK),
    NoG A → Room k A → Env0 P w K mg base A out s H → BindsTo s fd args (ps.zip us) → Vals vs us → sp vs H Q E →
      codeAny (model P w) A (.call (.ref f) args) (CR CX out P w H s Q E) s
section
variable {P : Program} {w : World} {K : PySem.W.Frag} {mg : Str → Option Value} {base : Heap} {CX : CXT} {k : Nat} {f : Addr} {fd : FuncData} {ps : List Str} {sp : Sp}
theorem ofOk (F : FnOk P w K mg base CX k f fd ps sp) : FnG P w K mg base CX k f fd ps sp :=
  ⟨F.len, fun A out s H args us vs Q E _ => F.run A out s H args us vs Q E⟩
theorem FnG.mono {j : Nat} (F : FnG P w K mg base CX j f fd ps sp) (h : j ≤ k) : FnG P w K mg base CX k f fd ps sp :=
  ⟨F.many, fun A out s H args us vs Q E g r => F.go A out s H args us vs Q E g (r.mono h)⟩
end
/-- the rule for a def, its body walked where no repr is under way -/
theorem fn_g {CX : CXT} {P : Program} {w : World} {K : PySem.W.Frag} {mg : Str → Option Value} {base : Heap} {k : Nat} {f : Addr} {name qual : Str} {pars : Arguments} {bod : List Stmt} {sc : Scope}
    {dV kV doc pm cdv ct oc : Value} {an od : Option Addr} {osl : Array (Option Value)} {N ps : List Str} {sp : Sp}
    (lk : K.lookup f = some ⟨oc, od, .func (PySem.W.fnOf name qual pars bod sc dV kV doc pm an cdv ct), osl⟩) (hcd : PySem.W.codeIn K cdv qual = true)
    (S : FnScope N ps sc) (many : ∀ vs H Q E, sp vs H Q E → vs.length = ps.length)
    (hb : ∀ (A : Around) (out : List Env) (s : Shared) (H : Hp) (vs : List V) (Q : VK) (E : XK),
      NoG (A.deeper (envOfC qual sc s.heap.objs.size f cdv)) → Room k (A.deeper (envOfC qual sc s.heap.objs.size f cdv)) → sp vs H Q E →
        ∃ t, PSs (cxOf CX P w K mg base N qual sc f cdv A out s H E) bod t ∧ t { nx := fun _ H' => Q .non H', rt := Q } (start N vs) H) :
    FnG P w K mg base CX (k + 1) f (PySem.W.fnOf name qual pars bod sc dV kV doc pm an cdv ct) ps sp := by
  refine ⟨many, ?_⟩
  intro A out s H args us vs Q E ng hr e0 bd rv hs
  have hlen := many vs H Q E hs
  have KX : K.In s.heap := e0.mod.kin.keeps fun b o z => (e0.bs b o z).1
  have lim : s.heap.NoLimit := e0.mod.nolimit.keeps fun b o z => (e0.bs b o z).1
  have kinds : ∀ y ∈ ps.zip us, sc.names.lookup y.1 = some .local ∨ (sc.names.lookup y.1 = some .cell ∧ ((cellsFrom (s.heap.objs.size + 1) sc.names []).lookup y.1).isSome = true) := by
    intro y hy
    obtain ⟨n, v⟩ := y
    cases S.par n (List.of_mem_zip hy).1 with
    | inl z => exact Or.inl z
    | inr z => exact Or.inr ⟨z, PySem.W.cellsFrom_some _ _ _ (Or.inl z)⟩
  refine codeAny_call_function hr.depth (KX _ _ lk) rfl S.co S.gen rfl (PySem.W.codeRec_of KX hcd) (bd _ _ _ _ ?_)
  refine wpAny_newFunctionEnv_cells S.kind kinds ?_
  intro env he s1 x
  subst he
  refine ⟨lim.keeps x.toInCall.keep, codeAny_func ?_⟩
  obtain ⟨t, ht, hq⟩ := hb A out s H vs Q E (ng.deeper _) (hr.deeper _) hs
  have I0 := inv_start (CX := CX) (w := w) (E := E) (cd := cdv) (f := f) (qual := qual) S hr.hd e0 hlen rv x
  have done : ∀ {σ' : L2.St} {H' : Hp} {s' : Shared} {v : V} {u : Value}, Inv (cxOf CX P w K mg base N qual sc f cdv A out s H E) [] σ' H' s' → RelV v u → Q v H' → CE out P w H s Q u s' := by
    intro σ' H' s' v u J r q
    exact ⟨v, H', J.os, J.bare, J.base, J.hok, r, q⟩
  refine wpAny_mono (ht.run [] s1 (start N vs) H _ I0 hq) ?_ (fun _ _ z => z)
  intro fl s' z
  cases fl with
  | next =>
    obtain ⟨σ', H', J, q⟩ := z
    exact done (v := V.non) (u := Value.none) J rfl q
  | ret u =>
    obtain ⟨v, σ', H', J, r, q⟩ := z
    exact done J r q
  | brk =>
    obtain ⟨_, _, _, q⟩ := z
    exact q.elim
  | cont =>
    obtain ⟨_, _, _, q⟩ := z
    exact q.elim
section
variable {P : Program} {w : World} {K : PySem.W.Frag} {mg : Str → Option Value} {base : Heap}
/-- a def of the text that lets nothing out -/
theorem okG {x qual : Str} {st : Stmt} {f : Addr} {fd : FuncData} {N ps : List Str} {k : Nat} {sp : Sp} (F : Fun K x qual st f fd) (S : FnScope N ps (defScope st))
    (many : ∀ vs H Q E, sp vs H Q E → vs.length = ps.length)
    (hb : ∀ (cdv : Value) (A : Around) (out : List Env) (s : Shared) (H : Hp) (vs : List V) (Q : VK) (E : XK),
      NoG (A.deeper (envOfC qual (defScope st) s.heap.objs.size f cdv)) → Room k (A.deeper (envOfC qual (defScope st) s.heap.objs.size f cdv)) → sp vs H Q E →
      ∃ t, PSs (cxOf CX0 P w K mg base N qual (defScope st) f cdv A out s H E).nox (defBody st) t ∧ t { nx := fun _ H' => Q .non H', rt := Q } (start N vs) H) :
    FnG P w K mg base CX0 (k + 1) f fd ps sp := by
  obtain ⟨oc, od, kV, doc, pm, an, cdv, ct, osl, rfl, lk, hcd⟩ := F.ex
  refine fn_g lk hcd S many ?_
  intro A out s H vs Q E ng hr hs
  obtain ⟨t, h, q⟩ := hb cdv A out s H vs Q E ng hr hs
  exact ⟨t, h.nox, q⟩
end
section
variable {X : Cx} {CX : CXT} {k : Nat} {f : Addr} {fd : FuncData} {ps : List Str} {sp : Sp} {dvs : List V} {ds : List Value} {E : XK} {x : Str} {p pos : Pos} {e : Expr} {es : List Expr} {t : TA}
theorem run_g {pins : List (Addr × Obj)} {σ : L2.St} {H : Hp} {s : Shared} {Q : VK} {us : List Value} {vs : List V} (F : FnG X.prog X.w X.K X.mg X.base CX k f fd ps sp)
    (ng : NoG X.A) (hr : Room k X.A) (hb : Binds X.K fd ps ds) (hd : Vals dvs ds) (hx : Passes CX X E) (I : Inv X pins σ H s) (r : Vals vs us) (h : sp (vs ++ dvs) H Q E) :
    wpAny (model X.prog X.w) X.A (call (.ref f) us) (EP X pins σ Q) X.xe s := by
  have rr := r.append hd
  have hl : (us ++ ds).length = ps.length := rr.length.symm.trans (F.many _ _ _ _ h)
  have body := F.go X.A X.stack s H ⟨us, []⟩ (us ++ ds) (vs ++ dvs) Q E ng hr I.env0 (hb s us I.kIn hl) rr h
  refine wpAny_call (codeAny_mono body ?_)
  intro res s' z
  match res, z with
  | .error er, z => exact hx pins σ H s er s' I z
  | .ok (.ret u), z => exact I.after z
theorem pe_callG (F : FnG X.prog X.w X.K X.mg X.base CX k f fd ps sp) (ng : NoG X.A) (hr : Room k X.A) (hg : Gl X x) (hm : X.mg x = some (.ref f)) (hk : PySem.W.keepIn X.K (.ref f) = true)
    (hb : Binds X.K fd ps ds) (hd : Vals dvs ds) (hx : Passes CX X E) (ha : PA X (e :: es) t) (hdb : (x == ("__debug__" : Str)) = false := by decide)
    (he : starEach (e :: es) X.env = (false, eval e X.env) :: starEach es X.env := by rfl) (hpl : (backTo pos (starEach es X.env)).any (·.1) = false := by rfl) :
    PE X (.Call (.Name x p) (e :: es) [] pos) (tCall sp dvs E t) := by
  constructor
  intro pins s σ H Q I h
  refine wpAny_Call_Name_kw (ld_glob I hg hm ?_ hdb)
  have args := ha.run pos pins s σ H _ I h
  refine PySem.W.callWith_K (h₀ := X.base) I.ok.mod.kin hk (thn args ?_) he hpl
  intro us s1 z
  obtain ⟨vs, H1, I1, r, q⟩ := z
  exact ⟨I1.kIn, run_g F ng hr hb hd hx I1 r q⟩
end
/-- the law's own call: what stands behind the top, the script the only thing that is tracked -/
theorem law_g {P : Program} {w : World} {K : PySem.W.Frag} {mg mb : Str → Option Value} {CX : CXT} {k : Nat} {fa a : Addr} {fd : FuncData} {x : Str} {sp : Sp} {s0 : Shared} {vs : List Value} {ns : List Int}
    (KX : K.In s0.heap) (hns : s0.heap.Ns mainGlobals mg) (hb : s0.heap.Ns builtinsNs mb) (hbb : ∀ x : Str, x ≠ "__name__" → mb x = bootBuiltins x) (hlim : s0.heap.NoLimit) (hg : s0.gens = #[])
    (ha : s0.heap.get? a = some { cls := .type "list", data := .seq vs.toArray }) (hi : IntsAre vs ns) (hl : ns.length ≤ sizeLine) (hr : Room k callerA)
    (F : ∀ base : Heap, K.In base → base.Ns mainGlobals mg → FnG P w K mg base CX k fa fd [x] sp)
    (hbind : ∀ (s : Shared) (u : Value), BindsTo s fd ⟨[u], []⟩ [(x, u)])
    (hsp : ∀ H : Hp, Only H → SqL K H a (ns.map V.int) → sp [.ref a] H (fun v _ => v = .bl true) fun _ _ _ => False)
    (hCX : ∀ H e s', CX [] H s0 (fun _ _ _ => False) e s' → False) :
    codeAny (model P w) callerA (.call (.ref fa) ⟨[.ref a], []⟩) (fun r s' => r = .ok (.ret (.bool true)) ∧ OldK s0.heap s'.heap ∧ s'.os = s0.os ∧ AllBare s'.gens) s0 := by
  have rv := vals_ints hi
  have vlen := hi.length
  have main : ∀ H : Hp, Only H → SqL K H a (ns.map V.int) → HOk P w H s0.heap → (∀ b u, H b = some u → b = a) → (∀ u, H a = some u → K.lookup a = none) →
      codeAny (model P w) callerA (.call (.ref fa) ⟨[.ref a], []⟩) (fun r s' => r = .ok (.ret (.bool true)) ∧ OldK s0.heap s'.heap ∧ s'.os = s0.os ∧ AllBare s'.gens) s0 := by
    intro H hO hS hok hA hK
    have notDict : ∀ {b : Addr} {o : Obj} {es : Array DictEntry} {ep : Nat}, s0.heap.get? b = some o → o.data = .dict es ep → H b = none := by
      intro b o es ep e d
      match q : H b with
      | none => rfl
      | some u =>
        have eb := hA b u q
        subst eb
        rw [ha] at e
        have eo := Option.some.inj e
        subst eo
        exact absurd (show Data.seq vs.toArray _ = Data.dict es ep from d) (by intro z; cases z)
    have toB : ∀ {b : Addr} {m : Str → Option Value}, s0.heap.Ns b m → (hidT s0.heap H).Ns b m := by
      intro b m z
      obtain ⟨o, es, ep, e, d, r⟩ := z
      exact ⟨o, es, ep, hidT_get e (notDict e d), d, r⟩
    have KB : K.In (hidT s0.heap H) := by
      intro b o e
      refine hidT_get (KX b o e) ?_
      match q : H b with
      | none => rfl
      | some u =>
        have eb := hA b u q
        subst eb
        rw [hK u q] at e
        cases e
    obtain ⟨mc, l1, l2⟩ := hlim
    have M : Mod K mg (hidT s0.heap H) := ⟨KB, toB hns, ⟨mb, toB hb, hbb⟩, ⟨mc, toB l1, l2⟩⟩
    have E0' : Env0 P w K mg (hidT s0.heap H) callerA [] s0 H := by
      refine ⟨rfl, M, fun b o e => of_hidT e, Nat.le_of_eq (hidT_size _ _), trivial, fun b z => ?_, hok, .of_eq hg⟩
      exact absurd (show b ∈ ([] : List Addr) from z) (by simp)
    have run := (F _ KB (toB hns)).go callerA [] s0 H ⟨[.ref a], []⟩ [.ref a] [.ref a] _ _ rfl hr E0' (hbind s0 (.ref a)) (.cons rfl .nil) (hsp H hO hS)
    refine codeAny_mono run ?_
    intro r s' h
    match r, h with
    | .error e, h => exact (hCX H e s' h).elim
    | .ok (.ret u), h =>
      obtain ⟨v, H', os, bare, un, hok', r', q⟩ := h
      have ev : v = .bl true := q
      subst ev
      have eu : u = Value.bool true := r'
      subst eu
      refine ⟨rfl, OldK.of_keep ?_, os, bare⟩
      intro b o e
      match q : H b with
      | none => exact un.keep b o e q (by intro z; exact absurd (show b ∈ ([] : List Addr) from z) (by simp)) (by simp)
      | some u =>
        rcases hO b with z | ⟨ob, xs, z⟩
        · rw [q] at z
          cases z
        · have e1 := (hok b _ z).1
          have e2 := (hok' b _ (un.frzs b ob _ z)).1
          rw [e] at e1
          have eo := Option.some.inj e1
          subst eo
          exact e2
  match hk : K.lookup a with
  | some o =>
    have e := KX a o hk
    rw [ha] at e
    have eo := Option.some.inj e
    subst eo
    refine main (fun _ => none) (fun _ => .inl rfl) ?_ (fun b u z => absurd (show (none : Option HO) = some u from z) (by simp)) (fun b u z => absurd (show (none : Option HO) = some u from z) (by simp)) (fun u z => absurd (show (none : Option HO) = some u from z) (by simp))
    exact .inr ⟨_, vs.toArray, _, hk, rfl, rfl, rfl, by rw [List.size_toArray, vlen]; exact hl, by simpa using rv⟩
  | none =>
    let Hs : Hp := fun b => if b = a then some (.frz { cls := .type "list", data := .seq vs.toArray } (.lst (ns.map V.int))) else none
    have at_a : Hs a = some (.frz { cls := .type "list", data := .seq vs.toArray } (.lst (ns.map V.int))) := if_pos rfl
    have off : ∀ b, b ≠ a → Hs b = none := fun b n => if_neg n
    have on : ∀ b u, Hs b = some u → b = a := by
      intro b u z
      by_cases e : b = a
      · exact e
      · rw [off b e] at z
        cases z
    refine main Hs (fun b => ?_) (.inl (.inr ⟨_, at_a⟩)) (fun b u z => ?_) on (fun _ _ => hk)
    · by_cases e : b = a
      · subst e
        exact .inr ⟨_, _, at_a⟩
      · exact .inl (off b e)
    · have e := on b u z
      subst e
      rw [at_a] at z
      have eu := Option.some.inj z
      subst eu
      exact ⟨ha, by rw [List.length_map]; exact hl, vs, _, rv, ha⟩
theorem walk_g {l : PySem.W.OpenLaw} {n k : Nat} {q : Program} {loose : List Str} {XP : (Str → Option Value) → Heap → Prop} {YP : World → Heap → Prop} {d : DefRec} {K : Params → PySem.W.Frag} {CX : World → CXT} {sp : World → Sp} {x : Str}
    (hn : l.most = some n) (hn2 : n ≤ sizeLine) (hdf : d.params.defaults = []) (hr : Room k callerA) (hY : ∀ (w : World) (h : Heap), YP w h → (K w.params).In h)
    (F : ∀ (w : World) (mg : Str → Option Value) (fa : Addr) (h : Heap), (K w.params).In h → h.Ns mainGlobals mg → mg d.name = some (.ref fa) →
      ∃ fd : FuncData, (∀ (s : Shared) (u : Value), BindsTo s fd ⟨[u], []⟩ [(x, u)]) ∧
        ∀ base : Heap, (K w.params).In base → base.Ns mainGlobals mg → FnG l.prog w (K w.params) mg base (CX w) k fa fd [x] (sp w))
    (hsp : ∀ (w : World) (H : Hp) (a : Addr) (ns : List Int), ns.length ≤ n → Only H → SqL (K w.params) H a (ns.map V.int) → sp w [.ref a] H (fun v _ => v = .bl true) fun _ _ _ => False)
    (hCX : ∀ (w : World) (H : Hp) (s : Shared) (e : Value) (s' : Shared), CX w [] H s (fun _ _ _ => False) e s' → False) :
    PySem.W.WalkO q loose XP YP l.row.toRowW d [] (fun f vs => PySem.call f vs) := by
  refine Att.attach_call hn hdf ?_
  intro w sA sB mg mb fa o pm cd doc a vs ns G Y ho hd hcd hmg hobj hints hlen hg
  obtain ⟨fd, hb, hF⟩ := F w mg fa _ (hY w _ Y) G.T.g hmg
  exact law_g (hY w _ Y) G.T.g G.T.b G.T.builtins G.T.nolimit hg hobj hints (Nat.le_trans hlen hn2) hr hF hb (fun H hO hS => hsp w H a ns hlen hO hS) (fun H e s' => hCX w H sB e s')
end Gd
end

section
set_option Elab.async false
set_option linter.all false
set_option maxRecDepth 100000
set_option maxHeartbeats 1000000
namespace KeyE
open PySem PySem.HandSPX PySem.W Builtin Builtin.ObjectAttr
theorem ke_pass (self : Value) : ∀ l : List Value, refsKE l = true → refuseLoop self "__setattr__" l = pure () := by
  intro l
  induction l with
  | nil => intro h; exact absurd h (by decide)
  | cons a r ih =>
    intro h
    rcases ke_split _ h with ⟨c, r', q, g⟩ | q
    · cases q
      rw [refuseLoop_ref]
      exact ih g
    · rw [q]
      kernel_rfl
section
variable {prog : Program} {w : World} {A : Around} {R : Result → Shared → Prop} {hp : Heap} {g : Array GenState} {d : Drawn} {t : Nat} {os : OsState}
theorem osa_k {K : W.Frag} {name : Str} {tk : Tok} {v : Value} {x C : Addr} {fv : Array Value} {cd : ClassData} (X : K.In hp) (hx : hp.get? x = some { cls := .ref C, data := .fields fv }) (hcd : W.clsIn K C = some cd)
    (hm : refsKE cd.mro = true) (hh : cd.hasDict = true) (ha : W.findIn K (.ref C) name = some none)
    (hq : ∀ h' tk' dx, (∀ b o, b ≠ x → hp.get? b = some o → h'.get? b = some o) → hp.objs.size ≤ dx → dx ≠ x → h'.get? x = some { cls := .ref C, dict := some dx, data := .fields fv } →
      h'.Ns1 dx (fun y => if y = name then some v else none) → R (.ok (.ret .none)) ⟨h', g, d, tk', os⟩) :
    codeAny (model prog w) A (.call (.builtin "object.__setattr__") ⟨[.ref x, .str name tk, v], []⟩) R ⟨hp, g, d, t, os⟩ := by
  have I : W.InstAt hp x { cls := .ref C, data := .fields fv } C none := ⟨hx, rfl, rfl, trivial⟩
  have S := F.store_object
  have ne := ke_ne hm
  have ob : cd.mro.contains (.type "object") = true := (ke_has "object" _ hm).trans (by decide +kernel)
  have xs : x ≠ hp.objs.size := Nat.ne_of_lt (Heap.lt_size hx)
  have sub : W.Looks (model prog w) hp (isInstance (.ref x) (.type "object")) true := I.type.andThen (W.looks_mroIn X (by unfold W.mroIn; rw [hcd, Option.bind_some, if_neg (by rw [ne]; decide), ob]))
  refine codeAny_call_builtin S.slot.plain S.entry (@W.check_slot (model prog w) _ _ ⟨hp, g, d, t, os⟩ "object.__setattr__" "object" "__setattr__" (.ref x) [.str name tk, v] [] _ S.kind S.split sub (S.args (.ref x) (.str name tk) v) ?_)
  have l1 : W.Looks (model prog w) hp (mroOf (.ref C)) cd.mro := (W.looks_clsIn X hcd).andThen .now
  have l2 : W.Looks (model prog w) hp (storeTaker? none) none := .now
  have l3 : W.Looks (model prog w) hp (classData C) cd := W.looks_clsIn X hcd
  rw [W.osa_eq, refuse_eq]
  refine wpAny_bind (wpAny_bind (I.type.at (wpAny_bind (l1.at ?_))))
  rw [ke_pass _ _ hm]
  refine wpAny_pure (wpAny_bind (I.type.at (wpAny_bind ((W.looks_findIn X ha).at (wpAny_bind (l2.at ?_))))))
  show wpAny _ _ (storeInOwnDict (.ref x) (.ref C) (.str name tk) name v false) _ _ _
  obtain ⟨nm, bs, mro, ns, qn, hd, sn, sb, ab, col, del⟩ := cd
  dsimp only at hh
  subst hh
  unfold storeInOwnDict ownDictForStores
  repeat (first | with_reducible refine store_in_new ?_ ?_ | with_reducible refine wpAny_loadPart_at hx ?_ | with_reducible refine l3.at ?_ | wp_step)
  · exact ⟨_, #[], _, (Heap.get?_update_ne _ _ _ _ xs.symm).trans (Heap.get?_push_at rfl rfl), rfl, fun e he => absurd he (by simp), fun _ => rfl⟩
  · intro h' tk' hn' hs
    have hx1 : (hp.push { cls := .type "dict", data := .dict #[] }).get? x = some { cls := .ref C, data := .fields fv } := Heap.get?_push_of_some _ hx
    refine hq h' tk' hp.objs.size (fun b o hb ho => ?_) (Nat.le_refl _) xs.symm ?_ hn'
    · exact (hs.2 b (Nat.ne_of_lt (Heap.lt_size ho))).trans ((Heap.get?_update_ne _ _ _ _ hb).trans (Heap.get?_push_of_some _ ho))
    · exact (hs.2 x xs).trans (Heap.get?_update_self _ hx1 rfl)
end
end KeyE
namespace Gd
open PySem PySem.Spec PyProof.Rows L2 KeyE
/-- an own class over KeyError -/
structure OexK (K : PySem.W.Frag) (C : Addr) : Prop where
  cls : ∃ nm q N bs bm sn sub ab col dd k0 k1 k2 k3 k5, K.lookup C = some (excClassObj nm q C N bs bm true sn sub ab col dd k0 k1 k2 k3 k5 nw) ∧ refsKE bm = true
  sa : PySem.W.findIn K (.ref C) "__setattr__" = some (some (.builtin "object.__setattr__"))
  exC : PySem.W.subIn K (.ref C) (.type "BaseException") = some true
  tyC : PySem.W.typeIn K (.ref C) = some (.type "type")
  kC : PySem.W.keepIn K (.ref C) = true
section
variable {X : Cx} {pins : List (Addr × Obj)} {σ : L2.St} {H : Hp} {s : Shared} {a C dx : Addr} {f : Str} {y : V} {u : Value} {E : Value → Shared → Prop} {A : Around}
theorem osk_new {Q : Unit → Shared → Prop} (T : OexK X.K C) (I : Inv X pins σ H s) (e : H a = some (exo a C none)) (hno : PySem.W.findIn X.K (.ref C) f = some none) (ry : RelV y u)
    (h : ∀ dx s', H dx = none → dx ≠ a → Inv X pins σ (upd (upd H dx (exd dx [(f, y)])) a (exo a C (some dx))) s' → Q () s') : wpAny (model X.prog X.w) A (setAttr (.ref a) f u) Q E s := by
  obtain ⟨nm, q, N, bs, bm, sn, sub, ab, col, dd, k0, k1, k2, k3, k5, hC, hbm⟩ := T.cls
  have hcl : PySem.W.clsIn X.K C = some { name := nm, bases := bs, mro := .ref C :: bm, ns := N, qualname := q, hasDict := true, slotNames := sn, subclasses := sub, abstract := ab, collection := col, hasDel := false } := by
    unfold PySem.W.clsIn
    rw [hC] <;> rfl
  obtain ⟨t1, ho⟩ := exo_at I.hok e
  obtain ⟨hp, g, d, t, os⟩ := s
  refine PySem.W.set_plain I.kIn (ox := { cls := .ref C, dict := none, data := .fields #[.ref t1, .none, .none, .none, .bool false, .none] }) (od := none) ⟨ho, rfl, rfl, trivial⟩ T.sa ?_
  refine osa_k I.kIn ho hcl (show refsKE (.ref C :: bm) = true from hbm) rfl hno (fun h' tk' dx kp dn dne hx hn => ?_)
  have hnd : H dx = none := I.hok.fresh dn
  have nd : ∀ {b : Addr} {o : Obj}, hp.get? b = some o → b ≠ dx := fun {b o} z => Nat.ne_of_lt (Nat.lt_of_lt_of_le (Heap.lt_size z) dn)
  have na : ∀ {b : Addr}, H b = none → b ≠ a := fun {b} n z => by
    rw [z, e] at n
    cases n
  have U : Un X.fs [] H (upd (upd H dx (exd dx [(f, y)])) a (exo a C (some dx))) hp h' := {
    keep := fun b o z n _ _ => kp b o (na n) z
    slot := fun b o z n _ _ => ⟨o.slots, kp b o (na n) z⟩
    free := fun b o z n _ => by rw [upd_ne (na n), upd_ne (nd z)]; exact n
    there := fun b o z _ => by
      by_cases hb : b = a
      · exact ⟨_, by rw [hb]; exact hx⟩
      · exact ⟨o, kp b o hb z⟩
    tups := fun b xs z => by rw [upd_ne (at_ne e z exo_tup), upd_ne (ne_of_none z hnd)]; exact z
    frzs := fun b o v z => by rw [upd_ne (at_ne e z exo_frz), upd_ne (ne_of_none z hnd)]; exact z
    tbls := fun b ps z => ⟨#[], by rw [upd_ne (at_ne e z exo_tbl), upd_ne (ne_of_none z hnd), z]; simp⟩ }
  refine h dx _ hnd dne (I.un (t' := tk') U fun b o z => ?_)
  by_cases hb : b = a
  · subst hb
    rw [upd_same] at z
    cases z
    exact exo_ok hx
  · rw [upd_ne hb] at z
    by_cases hd : b = dx
    · subst hd
      rw [upd_same] at z
      cases z
      exact exd_ok hn (relO_put (fs := []) ry fun g => True.intro)
    · rw [upd_ne hd] at z
      refine (I.hok b o z).stay (fun c v hc j => kp c v ?_ j) (fun c hc => ?_) (fun c xs hc => ?_)
      · rcases hc with hc | hc
        · rw [hc]
          exact hb
        · exact at_ne e hc exo_own
      · rw [upd_ne (at_ne e hc exo_own), upd_ne (ne_of_none hc hnd)]
        exact hc
      · rw [upd_ne (at_ne e hc exo_tup), upd_ne (ne_of_none hc hnd)]
        exact hc
theorem oink {us : List Value} {Q : Value → Shared → Prop} (T : OexK X.K C) (I : Inv X pins σ H s) (e : H a = some (exo a C none)) (hl : us.length ≤ sizeLine) (h : ∀ s', Inv X pins σ H s' → Q .none s') :
    wpAny (model X.prog X.w) A (call (.builtin "KeyError.__init__") (.ref a :: us)) Q E s := by
  obtain ⟨nm, q, N, bs, bm, sn, sub, ab, col, dd, k0, k1, k2, k3, k5, hC, hbm⟩ := T.cls
  obtain ⟨t1, ho⟩ := exo_at I.hok e
  obtain ⟨hp, g, d, t, os⟩ := s
  refine wpAny_call (init_k hbm (I.kIn _ _ hC) ho hl fun h' t2 kp hx => ?_)
  have J := I.write (t' := t) (x := a) (e := a) (o := exo a C none) (by rw [e]; exact True.intro) (.inl rfl) kp ⟨_, hx⟩ (exo_ok hx)
  have eu : upd H a (exo a C none) = H := by
    funext b
    by_cases hb : b = a
    · rw [hb, upd_same, e]
    · rw [upd_ne hb]
  rw [eu] at J
  exact h _ J
end
end Gd
end

section
set_option Elab.async false
set_option linter.all false
set_option maxRecDepth 100000
set_option maxHeartbeats 1000000
/-! The rules for an own error over KeyError. -/
namespace Gd
open PySem PySem.Spec PyProof.Rows L2 KeyE
/-- KeyError.__init__(self, ..) -/
def tKeI (K : PySem.W.Frag) (ta : TA) : TE := fun σ H Q => ta σ H fun vs H1 => ∃ (a C : Addr) (ws : List V), vs = .ref a :: ws ∧ ws.length ≤ 1000 ∧ OexK K C ∧ H1 a = some (exo a C none) ∧ Q .non H1
/-- self.f = e, the one field -/
def tOsk (K : PySem.W.Frag) (f : Str) (to te : TE) : TS := fun D σ H => te σ H fun y H1 => to σ H1 fun x H2 => ∃ a C : Addr, x = .ref a ∧ OexK K C ∧ PySem.W.findIn K (.ref C) f = some none ∧
  H2 a = some (exo a C none) ∧ ∀ dx, H2 dx = none → dx ≠ a → D.nx σ (upd (upd H2 dx (exd dx [(f, y)])) a (exo a C (some dx)))
section
variable {X : Cx} {o e : Expr} {es : List Expr} {to te : TE} {ta : TA} {f : Str} {p p' p1 p2 pos : Pos}
theorem pe_keinit {pl : Sem Bool} (hg : Gl X "KeyError") (hm : X.mg "KeyError" = none) (vV : PySem.W.findCls X.K (.type "KeyError") (.type "type") "__init__" = some (.val (.builtin "KeyError.__init__"))) (ha : PA X (e :: es) ta)
    (hc : eval (.Call (.Attribute (.Name "KeyError" p1) "__init__" p2) (e :: es) [] pos) X.env = (do
      let cv ← eval (.Name "KeyError" p1) X.env
      standAt p2.atName
      let (m, first) ← holding [cv] (getMethod cv "__init__" pl)
      callWith pos m first (backTo pos (starEach (e :: es) X.env)) (backToKw pos (keywordEach [] X.env))) := by rfl)
    (he : starEach (e :: es) X.env = (false, eval e X.env) :: starEach es X.env := by rfl) (hpl : (backTo pos (starEach es X.env)).any (·.1) = false := by rfl) :
    PE X (.Call (.Attribute (.Name "KeyError" p1) "__init__" p2) (e :: es) [] pos) (tKeI X.K ta) := by
  refine ⟨fun pins s σ H Q I h => ?_⟩
  refine PySem.W.methodCall_KW (ld_blt I hg hm boot_KeyError ?_ (by decide) (by decide)) hc
  obtain ⟨m, fr⟩ := I.fr
  refine PySem.W.method_type fr I.ok.mod.kin ty_KeyError (by decide +kernel) vV (by decide +kernel) ?_
  show wpAny _ _ (callWith pos (Value.builtin "KeyError.__init__") [] (backTo pos (starEach (e :: es) X.env)) []) _ _ _
  refine PyProof.Rows.callWith_method1 (thn (ha.run pos pins _ σ H _ (I.tok _) h) fun us s1 ⟨vs, H1, I1, r1, a, C, ws, ev, hl, T, ea, q⟩ => ?_) he hpl
  subst ev
  cases r1 with
  | @cons _ u0 _ ur ra rr =>
    obtain rfl : u0 = Value.ref a := ra
    have hlen : ur.length ≤ sizeLine := by
      rw [← Paired.length rr, sizeLine_eq]
      omega
    exact oink T I1 ea hlen fun s' J => ⟨.non, H1, J, rfl, q⟩
theorem ps_osk (ho : PE X o to) (he : PE X e te) (hs : swapsWith e (some (.Attribute o f p')) pos.line X.env = pure false := by rfl) : PS X (.Assign [.Attribute o f p'] e pos) (tOsk X.K f to te) := by
  refine ⟨fun pins s σ H D I h => ?_⟩
  refine plainObj_wpAny_Assign_Attribute (thn (he.run pins s σ H _ I h) fun v s1 ⟨y, H1, I1, r1, q1⟩ => thn (ho.run pins s1 σ H1 _ I1 q1) fun u s2 ⟨x, H2, I2, r2, a, C, ex, T, hno, ea, q⟩ => ?_) hs
  subst ex
  obtain rfl : u = Value.ref a := r2
  exact osk_new T I2 ea hno r1 fun dx s' n ne J => ⟨σ, _, J, q dx n ne⟩
theorem pmk_oek {CX : CXT} {x : Str} {C fI : Addr} {k : Nat} {fd : FuncData} {ps : List Str} {sp : Sp} {ds : List Value} {dvs : List V} (T : OexK X.K C) (iC : PySem.W.findIn X.K (.ref C) "__init__" = some (some (.ref fI))) (tI : PySem.W.typeIn X.K (.ref fI) = some (.type "function"))
    (F1 : FnOk X.prog X.w X.K X.mg X.base CX k fI fd ps sp) (hr : Room (k + 1) X.A) (hb : Binds X.K fd ps ds) (hd : Vals dvs ds) (hx : Passes CX X (fun _ _ _ => False)) (hg : Gl X x) (hm : X.mg x = some (.ref C)) (ha : PA X (e :: es) ta)
    (hdb : (x == ("__debug__" : Str)) = false := by decide) (he : starEach (e :: es) X.env = (false, eval e X.env) :: starEach es X.env := by rfl) (hpl : (backTo pos (starEach es X.env)).any (·.1) = false := by rfl) :
    PMk X (.Call (.Name x p) (e :: es) [] pos) (tMkO C sp dvs ta) := by
  intro pins s σ H Q I h
  obtain ⟨nm, q, N, bs, bm, sn, sub, ab, col, dd, k0, k1, k2, k3, k5, hC, hbm⟩ := T.cls
  refine wpAny_Call_Name_kw (ld_glob I hg hm ?_ hdb)
  refine PySem.W.callWith_K (h₀ := X.base) I.ok.mod.kin T.kC (thn (ha.run pos pins s σ H _ I h) fun us s1 ⟨vs, H1, I1, r1, hz, q1⟩ => ⟨I1.kIn, ?_⟩) he hpl
  show wpAny _ _ (call (.ref C) us) _ _ _
  obtain ⟨hp, g, dr, tk, os⟩ := s1
  have z1 : hp.objs.size ≤ hp.objs.size + 1 := Nat.le_succ _
  have hq := q1 (hp.objs.size + 1) (I1.hok.fresh z1)
  have kk : ∀ b o, hp.get? b = some o → ((hp.push (PySem.W.kdv_tup us)).push (PySem.HandSPX.excO C hp.objs.size)).get? b = some o := fun b o e => Heap.get?_push_of_some _ (Heap.get?_push_of_some _ e)
  have hget : ((hp.push (PySem.W.kdv_tup us)).push (PySem.HandSPX.excO C hp.objs.size)).get? (hp.objs.size + 1) = some (PySem.HandSPX.excO C hp.objs.size) := by heap_get
  have I2 : Inv X pins σ (upd H1 (hp.objs.size + 1) (exo (hp.objs.size + 1) C none)) ⟨(hp.push (PySem.W.kdv_tup us)).push (PySem.HandSPX.excO C hp.objs.size), g, dr, tk, os⟩ :=
    I1.laid (t' := tk) (a := hp.objs.size + 1) (o := exo (hp.objs.size + 1) C none) (h' := (hp.push (PySem.W.kdv_tup us)).push (PySem.HandSPX.excO C hp.objs.size)) kk z1 (exo_ok hget)
  have r2 : Vals (V.ref (hp.objs.size + 1) :: (vs ++ dvs)) (Value.ref (hp.objs.size + 1) :: (us ++ ds)) := .cons rfl (r1.append hd)
  have hl : (Value.ref (hp.objs.size + 1) :: us ++ ds).length = ps.length := by
    have e := r2.length
    rw [F1.len _ _ _ _ hq] at e
    exact e.symm
  have hus : us.length ≤ sizeLine := by
    rw [← Paired.length r1, sizeLine_eq]
    omega
  refine wpAny_call (call_k hbm (I1.kIn _ _ hC) (PySem.W.looks_findIn I1.kIn iC) (fun self => PySem.W.bind_fn I1.kIn self tI) hus (codeAny_mono (F1.run _ X.stack _ _ ⟨Value.ref (hp.objs.size + 1) :: us, []⟩ (Value.ref (hp.objs.size + 1) :: (us ++ ds)) _ _ (fun _ _ _ => False)
    (hr.make C us []) (I2.env0.make C us []) (hb _ (Value.ref (hp.objs.size + 1) :: us) I2.kIn hl) r2 hq) fun r s' hq' => ?_))
  cases r with
  | error er => exact hx pins σ _ _ er s' I2 hq'
  | ok fl =>
    cases fl with
    | ret u =>
      obtain ⟨v, H2, os2, bare2, un2, hok2, rv, ev, d, fs, ea, ed, hd1, q2⟩ := hq'
      subst ev
      obtain ⟨h2, g2, d2, t2, os'⟩ := s'
      exact ⟨rv, mk_end (raises_own T.exC T.tyC) I1 z1 kk un2 hok2 os2 bare2 ea ed hd1 q2⟩
    | next => exact False.elim hq'
    | brk => exact False.elim hq'
    | cont => exact False.elim hq'
end
end Gd
end

section
set_option Elab.async false
set_option linter.all false
set_option maxRecDepth 100000
set_option maxHeartbeats 1000000
/-! An own error over ArithmeticError: how it is made, what its base's __init__ does. -/
namespace AriE
open PySem PySem.HandSPX PySem.W Builtin Builtin.ObjectAttr
abbrev keTail : List Value := [.type "ArithmeticError", .type "Exception", .type "BaseException", .type "object"]
def refsAE : List Value → Bool
  | .ref _ :: r => refsAE r
  | l => l == keTail
theorem ke_split : ∀ l : List Value, refsAE l = true → (∃ c r, l = .ref c :: r ∧ refsAE r = true) ∨ l = keTail := by
  intro l h
  unfold refsAE at h
  split at h
  · exact .inl ⟨_, _, rfl, h⟩
  · exact .inr (beq_iff_eq.mp h)
theorem ke_has (X : String) : ∀ l : List Value, refsAE l = true → l.contains (.type X) = keTail.contains (.type X) := by
  intro l
  induction l with
  | nil => intro h; exact absurd h (by decide)
  | cons a r ih =>
    intro h
    rcases ke_split _ h with ⟨c, r', q, g⟩ | q
    · cases q
      rw [List.contains_cons, ih g]
      rfl
    · rw [q]
theorem ke_ne {l : List Value} (h : refsAE l = true) : l.isEmpty = false := by
  cases l with
  | nil => exact absurd h (by decide)
  | cons _ _ => rfl
abbrev nw : String := "ArithmeticError.__new__"
section
variable {prog : Program} {w : World} {M : Model} {A : Around} {E : Value → Shared → Prop} {R : Result → Shared → Prop} {h : Heap} {g : Array GenState} {d : Drawn} {t : Nat} {os : OsState}
variable {nm q : Str} {C N : Addr} {bs bm : List Value} {hdct : Bool} {sn : List Str} {sub : List Value} {ab : Bool} {col : Option Bool} {dd : Option Addr} {k0 k1 k2 k3 k5 : Option Value}
theorem has_L (hm : refsAE bm = true) : (Value.ref C :: bm).contains (.type "ArithmeticError") = true := by
  rw [List.contains_cons, ke_has _ bm hm]
  rfl
theorem has_K (hm : refsAE bm = true) : (Value.ref C :: bm).contains (.type "ArithmeticError") = true := by
  rw [List.contains_cons, ke_has _ bm hm]
  rfl
theorem no_A (hm : refsAE bm = true) : (Value.ref C :: bm).contains (.type "AttributeError") = false := by
  rw [List.contains_cons, ke_has _ bm hm]
  rfl
theorem no_N (hm : refsAE bm = true) : (Value.ref C :: bm).contains (.type "NameError") = false := by
  rw [List.contains_cons, ke_has _ bm hm]
  rfl
theorem ok_new (hm : refsAE bm = true) {rest : List Value} {Q : Unit → Shared → Prop} (hC : h.get? C = some (excClassObj nm q C N bs bm hdct sn sub ab col dd k0 k1 k2 k3 k5 nw))
    (hq : Q () ⟨h, g, d, t, os⟩) : wpAny M A (checkBuiltinCall nw ⟨.ref C :: rest, []⟩) Q E ⟨h, g, d, t, os⟩ := by
  have F := F.excBase_ArithmeticError
  have b1 := has_L (C := C) hm
  have b2 := F.noStar
  simp only [checkBuiltinCall, F.newKind, F.newSplit, F.newRow]
  repeat (first | refine wpAny_loadPart_at hC ?_ | (refine wpAny_isSubtype_exc hC ?_; rw [b1]) | refine wpAny_staticBase_exc hC ?_ | refine wpAny_madeBy_exc hC ?_ | simp only [bne_self_eq_false, Bool.false_eq_true, if_false] | wp_step)
  exact hq
theorem new_k (hm : refsAE bm = true) {rest : List Value} (hC : h.get? C = some (excClassObj nm q C N bs bm hdct sn sub ab col dd k0 k1 k2 k3 k5 nw)) (hrest : rest.length ≤ sizeLine)
    (hq : R (.ok (.ret (.ref (h.objs.size + 1)))) ⟨(h.push { cls := .type "tuple", data := .seq rest.toArray }).push { cls := .ref C, data := .fields #[.ref h.objs.size, .none, .none, .none, .bool false, .none] }, g, d, t, os⟩) :
    codeAny (model prog w) A (.builtin nw ⟨.ref C :: rest, []⟩) R ⟨h, g, d, t, os⟩ := by
  have F := F.excBase_ArithmeticError
  have hends := F.ends
  have b1 := has_L (C := C) hm
  have b2 := no_A (C := C) hm
  have b3 := no_N (C := C) hm
  refine codeAny_builtinAt F.entry ?_
  unfold Builtin.«BaseException.__new__»
  refine wpAt_bind ?_
  show wpAt _ _ _ (stack >>= _) _ _ _
  refine wpAt_bind (wpAt_stack fun p below => wpAt_of_wpAny ?_)
  wp_walk
  refine wpAt_of_wpAny ?_
  rw [F.owner]
  repeat (first | with_reducible refine wpAny_madeHere_exc F.canon hC ?_ | with_reducible refine wpAny_loadPart_at hC ?_ | (with_reducible refine wpAny_isSubtype_exc hC ?_; first | rw [b1] | rw [b2] | rw [b3]) | wp_step)
  show R _ _
  rw [Heap.size_push]
  exact hq
theorem type_call_k (hm : refsAE bm = true) {rest : List Value} {fI : Addr} {Q : Fin → Shared → Prop} (hC : h.get? C = some (excClassObj nm q C N bs bm hdct sn sub ab col dd k0 k1 k2 k3 k5 nw))
    (hi : W.Looks (model prog w) h (typeLookup (.ref C) "__init__") (some (.ref fI))) (hb : ∀ self, W.Looks (model prog w) h (bindSpecial (.ref fI) self) (.ref fI, [self])) (hrest : rest.length ≤ sizeLine)
    (hq : codeAny (model prog w) A (.call (.ref fI) ⟨.ref (h.objs.size + 1) :: rest, []⟩) (fun r s' => match r with
        | .ok (.ret v) => v = .none ∧ Q (.done (.ret (.ref (h.objs.size + 1)))) s'
        | .ok _ => False
        | .error e => E e s') ⟨(h.push (W.kdv_tup rest)).push (excO C h.objs.size), g, d, t, os⟩) :
    wpAny (model prog w) A (Builtin.«type.__call__» ⟨.ref C :: rest, []⟩) Q E ⟨h, g, d, t, os⟩ := by
  have F := F.excBase_ArithmeticError
  repeat (first | with_reducible refine wpAny_loadPart_at hC ?_ | with_reducible refine wpAny_madeBy_exc hC ?_ | wp_step)
  refine codeAny_call_builtin_code (Code.quiet_builtin _ F.quiet) (ok_new hm hC ?_)
  refine new_k hm hC hrest ?_
  show wpAny _ _ _ _ _ _
  have kp : ∀ b o, h.get? b = some o → ((h.push (W.kdv_tup rest)).push (excO C h.objs.size)).get? b = some o := fun b o e => Heap.get?_push_of_some _ (Heap.get?_push_of_some _ e)
  have c1 := kp _ _ hC
  have c2 : ((h.push (W.kdv_tup rest)).push (excO C h.objs.size)).get? (h.objs.size + 1) = some (excO C h.objs.size) := by heap_get
  have c3 : (Value.ref C :: bm).contains (.ref C) = true := by simp
  have i1 := hi.keeps kp
  have i2 := (hb (.ref (h.objs.size + 1))).keeps kp
  unfold isInstance
  repeat (first | with_reducible refine wpAny_loadPart_at c2 ?_ | (with_reducible refine wpAny_isSubtype_exc c1 ?_; rw [c3]) | wp_step)
  show wpAny _ _ (typeLookup (.ref C) _) _ _ _
  refine i1.at ?_
  refine wpAny_holding (wpAny_bind (i2.at ?_))
  refine wpAny_bind (wpAny_call (codeAny_mono hq fun r s' z => ?_))
  rcases r with e | (v | _ | _ | _) <;> first | exact z | exact z.elim | skip
  obtain ⟨rfl, z⟩ := z
  first
    | exact wpAny_pure (wpAny_pure z)
    | (wp_walk; exact z)
theorem call_k (hm : refsAE bm = true) {rest : List Value} {fI : Addr} (hC : h.get? C = some (excClassObj nm q C N bs bm hdct sn sub ab col dd k0 k1 k2 k3 k5 nw))
    (hi : W.Looks (model prog w) h (typeLookup (.ref C) "__init__") (some (.ref fI))) (hb : ∀ self, W.Looks (model prog w) h (bindSpecial (.ref fI) self) (.ref fI, [self])) (hrest : rest.length ≤ sizeLine)
    (hq : codeAny (model prog w) (A.under (.builtin "type.__call__" ⟨.ref C :: rest, []⟩)) (.call (.ref fI) ⟨.ref (h.objs.size + 1) :: rest, []⟩) (W.InitBack (h.objs.size + 1) R) ⟨(h.push (W.kdv_tup rest)).push (excO C h.objs.size), g, d, t, os⟩) :
    codeAny (model prog w) A (.call (.ref C) ⟨rest, []⟩) R ⟨h, g, d, t, os⟩ := by
  have g1 := tc_lookup
  have g2 := tc_bind (.ref C)
  have hTy : (⟨h, g, d, t, os⟩ : Shared).TypeIs (.ref C) "type" := ⟨_, hC, rfl⟩
  refine codeAny_of_tree ?_
  show wpAny _ _ (callAny (.ref C) _) _ _ _
  repeat (any_goals (first | assumption | with_reducible refine wpAny_loadPart_at hC ?_ | wp_step))
  refine ⟨rfl, ?_⟩
  refine codeAny_call_builtin_at (Code.quiet_builtin _ (by decide +kernel)) entry_typeCall (wpAny_check_type_call_sub hC (type_call_k hm hC hi hb hrest ?_))
  refine codeAny_mono hq fun r s' z => ?_
  rcases r with e | (v | _ | _ | _) <;> exact z
/-- ArithmeticError.__init__ of such an error -/
theorem ok_init (hm : refsAE bm = true) {e : Addr} {oe : Obj} {rest : List Value} {Q : Unit → Shared → Prop} (hC : h.get? C = some (excClassObj nm q C N bs bm hdct sn sub ab col dd k0 k1 k2 k3 k5 nw)) (he : h.get? e = some oe) (hcls : oe.cls = .ref C)
    (hq : Q () ⟨h, g, d, t, os⟩) : wpAny M A (checkBuiltinCall "ArithmeticError.__init__" ⟨.ref e :: rest, []⟩) Q E ⟨h, g, d, t, os⟩ := by
  have F := PyProof.Rows.excClass_ArithmeticError
  have b1 := has_K (C := C) hm
  simp only [checkBuiltinCall, F.initKind, F.initSplit, F.initSig]
  repeat (first | (with_reducible refine wpAny_loadPart_at he ?_; rw [hcls]) | with_reducible refine wpAny_loadPart_at hC ?_ | (with_reducible refine wpAny_isSubtype_exc hC ?_; rw [b1]) | wp_step)
  refine wpAny_onRaise ?_
  rw [show ∀ (a b : String) (n : Nat), Bind.check ⟨.positional, "*", "ArithmeticError", .self, [⟨"args", .varPos, false⟩]⟩ a b n (List.map (fun x => x.fst) ({ pos := Value.ref e :: rest } : Args).kw) = pure () from
    fun a b n => check_star_args _ _ _ _ _ _]
  exact wpAny_pure hq
theorem init_k (hm : refsAE bm = true) {e t0 : Addr} {rest : List Value} (hC : h.get? C = some (excClassObj nm q C N bs bm hdct sn sub ab col dd k0 k1 k2 k3 k5 nw)) (he : h.get? e = some (excO C t0)) (hrest : rest.length ≤ sizeLine)
    (hq : ∀ h' t1, (∀ b o, b ≠ e → h.get? b = some o → h'.get? b = some o) → h'.get? e = some (excO C t1) → R (.ok (.ret .none)) ⟨h', g, d, t, os⟩) :
    codeAny (model prog w) A (.call (.builtin "ArithmeticError.__init__") ⟨.ref e :: rest, []⟩) R ⟨h, g, d, t, os⟩ := by
  have F := PyProof.Rows.excClass_ArithmeticError
  refine codeAny_call_builtin F.init.plain F.initEntry (ok_init hm hC he rfl ?_)
  wp_walk
  refine hq _ h.objs.size (fun b o hb ho => ?_) ?_
  · rw [Heap.get?_update_other _ _ (Ne.symm hb)]
    exact Heap.get?_push_of_some _ ho
  · rw [Heap.get?_update_self _ (Heap.get?_push_of_some _ he) rfl]
    rfl
end
end AriE
end

section
set_option Elab.async false
set_option linter.all false
set_option maxRecDepth 100000
set_option maxHeartbeats 1000000
namespace AriE
open PySem PySem.HandSPX PySem.W Builtin Builtin.ObjectAttr
theorem ke_pass (self : Value) : ∀ l : List Value, refsAE l = true → refuseLoop self "__setattr__" l = pure () := by
  intro l
  induction l with
  | nil => intro h; exact absurd h (by decide)
  | cons a r ih =>
    intro h
    rcases ke_split _ h with ⟨c, r', q, g⟩ | q
    · cases q
      rw [refuseLoop_ref]
      exact ih g
    · rw [q]
      kernel_rfl
section
variable {prog : Program} {w : World} {A : Around} {R : Result → Shared → Prop} {hp : Heap} {g : Array GenState} {d : Drawn} {t : Nat} {os : OsState}
theorem osa_k {K : W.Frag} {name : Str} {tk : Tok} {v : Value} {x C : Addr} {fv : Array Value} {cd : ClassData} (X : K.In hp) (hx : hp.get? x = some { cls := .ref C, data := .fields fv }) (hcd : W.clsIn K C = some cd)
    (hm : refsAE cd.mro = true) (hh : cd.hasDict = true) (ha : W.findIn K (.ref C) name = some none)
    (hq : ∀ h' tk' dx, (∀ b o, b ≠ x → hp.get? b = some o → h'.get? b = some o) → hp.objs.size ≤ dx → dx ≠ x → h'.get? x = some { cls := .ref C, dict := some dx, data := .fields fv } →
      h'.Ns1 dx (fun y => if y = name then some v else none) → R (.ok (.ret .none)) ⟨h', g, d, tk', os⟩) :
    codeAny (model prog w) A (.call (.builtin "object.__setattr__") ⟨[.ref x, .str name tk, v], []⟩) R ⟨hp, g, d, t, os⟩ := by
  have I : W.InstAt hp x { cls := .ref C, data := .fields fv } C none := ⟨hx, rfl, rfl, trivial⟩
  have S := F.store_object
  have ne := ke_ne hm
  have ob : cd.mro.contains (.type "object") = true := (ke_has "object" _ hm).trans (by decide +kernel)
  have xs : x ≠ hp.objs.size := Nat.ne_of_lt (Heap.lt_size hx)
  have sub : W.Looks (model prog w) hp (isInstance (.ref x) (.type "object")) true := I.type.andThen (W.looks_mroIn X (by unfold W.mroIn; rw [hcd, Option.bind_some, if_neg (by rw [ne]; decide), ob]))
  refine codeAny_call_builtin S.slot.plain S.entry (@W.check_slot (model prog w) _ _ ⟨hp, g, d, t, os⟩ "object.__setattr__" "object" "__setattr__" (.ref x) [.str name tk, v] [] _ S.kind S.split sub (S.args (.ref x) (.str name tk) v) ?_)
  have l1 : W.Looks (model prog w) hp (mroOf (.ref C)) cd.mro := (W.looks_clsIn X hcd).andThen .now
  have l2 : W.Looks (model prog w) hp (storeTaker? none) none := .now
  have l3 : W.Looks (model prog w) hp (classData C) cd := W.looks_clsIn X hcd
  rw [W.osa_eq, refuse_eq]
  refine wpAny_bind (wpAny_bind (I.type.at (wpAny_bind (l1.at ?_))))
  rw [ke_pass _ _ hm]
  refine wpAny_pure (wpAny_bind (I.type.at (wpAny_bind ((W.looks_findIn X ha).at (wpAny_bind (l2.at ?_))))))
  show wpAny _ _ (storeInOwnDict (.ref x) (.ref C) (.str name tk) name v false) _ _ _
  obtain ⟨nm, bs, mro, ns, qn, hd, sn, sb, ab, col, del⟩ := cd
  dsimp only at hh
  subst hh
  unfold storeInOwnDict ownDictForStores
  repeat (first | with_reducible refine store_in_new ?_ ?_ | with_reducible refine wpAny_loadPart_at hx ?_ | with_reducible refine l3.at ?_ | wp_step)
  · exact ⟨_, #[], _, (Heap.get?_update_ne _ _ _ _ xs.symm).trans (Heap.get?_push_at rfl rfl), rfl, fun e he => absurd he (by simp), fun _ => rfl⟩
  · intro h' tk' hn' hs
    have hx1 : (hp.push { cls := .type "dict", data := .dict #[] }).get? x = some { cls := .ref C, data := .fields fv } := Heap.get?_push_of_some _ hx
    refine hq h' tk' hp.objs.size (fun b o hb ho => ?_) (Nat.le_refl _) xs.symm ?_ hn'
    · exact (hs.2 b (Nat.ne_of_lt (Heap.lt_size ho))).trans ((Heap.get?_update_ne _ _ _ _ hb).trans (Heap.get?_push_of_some _ ho))
    · exact (hs.2 x xs).trans (Heap.get?_update_self _ hx1 rfl)
end
end AriE
namespace Gd
open PySem PySem.Spec PyProof.Rows L2 AriE
/-- an own class over ArithmeticError -/
structure OexA (K : PySem.W.Frag) (C : Addr) : Prop where
  cls : ∃ nm q N bs bm sn sub ab col dd k0 k1 k2 k3 k5, K.lookup C = some (excClassObj nm q C N bs bm true sn sub ab col dd k0 k1 k2 k3 k5 nw) ∧ refsAE bm = true
  sa : PySem.W.findIn K (.ref C) "__setattr__" = some (some (.builtin "object.__setattr__"))
  exC : PySem.W.subIn K (.ref C) (.type "BaseException") = some true
  tyC : PySem.W.typeIn K (.ref C) = some (.type "type")
  kC : PySem.W.keepIn K (.ref C) = true
section
variable {X : Cx} {pins : List (Addr × Obj)} {σ : L2.St} {H : Hp} {s : Shared} {a C dx : Addr} {f : Str} {y : V} {u : Value} {E : Value → Shared → Prop} {A : Around}
theorem osa_new {Q : Unit → Shared → Prop} (T : OexA X.K C) (I : Inv X pins σ H s) (e : H a = some (exo a C none)) (hno : PySem.W.findIn X.K (.ref C) f = some none) (ry : RelV y u)
    (h : ∀ dx s', H dx = none → dx ≠ a → Inv X pins σ (upd (upd H dx (exd dx [(f, y)])) a (exo a C (some dx))) s' → Q () s') : wpAny (model X.prog X.w) A (setAttr (.ref a) f u) Q E s := by
  obtain ⟨nm, q, N, bs, bm, sn, sub, ab, col, dd, k0, k1, k2, k3, k5, hC, hbm⟩ := T.cls
  have hcl : PySem.W.clsIn X.K C = some { name := nm, bases := bs, mro := .ref C :: bm, ns := N, qualname := q, hasDict := true, slotNames := sn, subclasses := sub, abstract := ab, collection := col, hasDel := false } := by
    unfold PySem.W.clsIn
    rw [hC] <;> rfl
  obtain ⟨t1, ho⟩ := exo_at I.hok e
  obtain ⟨hp, g, d, t, os⟩ := s
  refine PySem.W.set_plain I.kIn (ox := { cls := .ref C, dict := none, data := .fields #[.ref t1, .none, .none, .none, .bool false, .none] }) (od := none) ⟨ho, rfl, rfl, trivial⟩ T.sa ?_
  refine osa_k I.kIn ho hcl (show refsAE (.ref C :: bm) = true from hbm) rfl hno (fun h' tk' dx kp dn dne hx hn => ?_)
  have hnd : H dx = none := I.hok.fresh dn
  have nd : ∀ {b : Addr} {o : Obj}, hp.get? b = some o → b ≠ dx := fun {b o} z => Nat.ne_of_lt (Nat.lt_of_lt_of_le (Heap.lt_size z) dn)
  have na : ∀ {b : Addr}, H b = none → b ≠ a := fun {b} n z => by
    rw [z, e] at n
    cases n
  have U : Un X.fs [] H (upd (upd H dx (exd dx [(f, y)])) a (exo a C (some dx))) hp h' := {
    keep := fun b o z n _ _ => kp b o (na n) z
    slot := fun b o z n _ _ => ⟨o.slots, kp b o (na n) z⟩
    free := fun b o z n _ => by rw [upd_ne (na n), upd_ne (nd z)]; exact n
    there := fun b o z _ => by
      by_cases hb : b = a
      · exact ⟨_, by rw [hb]; exact hx⟩
      · exact ⟨o, kp b o hb z⟩
    tups := fun b xs z => by rw [upd_ne (at_ne e z exo_tup), upd_ne (ne_of_none z hnd)]; exact z
    frzs := fun b o v z => by rw [upd_ne (at_ne e z exo_frz), upd_ne (ne_of_none z hnd)]; exact z
    tbls := fun b ps z => ⟨#[], by rw [upd_ne (at_ne e z exo_tbl), upd_ne (ne_of_none z hnd), z]; simp⟩ }
  refine h dx _ hnd dne (I.un (t' := tk') U fun b o z => ?_)
  by_cases hb : b = a
  · subst hb
    rw [upd_same] at z
    cases z
    exact exo_ok hx
  · rw [upd_ne hb] at z
    by_cases hd : b = dx
    · subst hd
      rw [upd_same] at z
      cases z
      exact exd_ok hn (relO_put (fs := []) ry fun g => True.intro)
    · rw [upd_ne hd] at z
      refine (I.hok b o z).stay (fun c v hc j => kp c v ?_ j) (fun c hc => ?_) (fun c xs hc => ?_)
      · rcases hc with hc | hc
        · rw [hc]
          exact hb
        · exact at_ne e hc exo_own
      · rw [upd_ne (at_ne e hc exo_own), upd_ne (ne_of_none hc hnd)]
        exact hc
      · rw [upd_ne (at_ne e hc exo_tup), upd_ne (ne_of_none hc hnd)]
        exact hc
theorem oinA {us : List Value} {Q : Value → Shared → Prop} (T : OexA X.K C) (I : Inv X pins σ H s) (e : H a = some (exo a C none)) (hl : us.length ≤ sizeLine) (h : ∀ s', Inv X pins σ H s' → Q .none s') :
    wpAny (model X.prog X.w) A (call (.builtin "ArithmeticError.__init__") (.ref a :: us)) Q E s := by
  obtain ⟨nm, q, N, bs, bm, sn, sub, ab, col, dd, k0, k1, k2, k3, k5, hC, hbm⟩ := T.cls
  obtain ⟨t1, ho⟩ := exo_at I.hok e
  obtain ⟨hp, g, d, t, os⟩ := s
  refine wpAny_call (init_k hbm (I.kIn _ _ hC) ho hl fun h' t2 kp hx => ?_)
  have J := I.write (t' := t) (x := a) (e := a) (o := exo a C none) (by rw [e]; exact True.intro) (.inl rfl) kp ⟨_, hx⟩ (exo_ok hx)
  have eu : upd H a (exo a C none) = H := by
    funext b
    by_cases hb : b = a
    · rw [hb, upd_same, e]
    · rw [upd_ne hb]
  rw [eu] at J
  exact h _ J
end
end Gd
end

section
set_option Elab.async false
set_option linter.all false
set_option maxRecDepth 100000
set_option maxHeartbeats 1000000
/-! The rules for an own error over ArithmeticError. -/
namespace Gd
open PySem PySem.Spec PyProof.Rows L2 AriE
theorem ty_ArithmeticError : typeOf (.type "ArithmeticError") = pure (.type "type") := by kernel_rfl
theorem boot_ArithmeticError : bootBuiltins "ArithmeticError" = some (.type "ArithmeticError") := by decide +kernel
/-- ArithmeticError.__init__(self, ..) -/
def tAeI (K : PySem.W.Frag) (ta : TA) : TE := fun σ H Q => ta σ H fun vs H1 => ∃ (a C : Addr) (ws : List V), vs = .ref a :: ws ∧ ws.length ≤ 1000 ∧ OexA K C ∧ H1 a = some (exo a C none) ∧ Q .non H1
/-- self.f = e, the one field -/
def tOsa (K : PySem.W.Frag) (f : Str) (to te : TE) : TS := fun D σ H => te σ H fun y H1 => to σ H1 fun x H2 => ∃ a C : Addr, x = .ref a ∧ OexA K C ∧ PySem.W.findIn K (.ref C) f = some none ∧
  H2 a = some (exo a C none) ∧ ∀ dx, H2 dx = none → dx ≠ a → D.nx σ (upd (upd H2 dx (exd dx [(f, y)])) a (exo a C (some dx)))
section
variable {X : Cx} {o e : Expr} {es : List Expr} {to te : TE} {ta : TA} {f : Str} {p p' p1 p2 pos : Pos}
theorem pe_aeinit {pl : Sem Bool} (hg : Gl X "ArithmeticError") (hm : X.mg "ArithmeticError" = none) (vV : PySem.W.findCls X.K (.type "ArithmeticError") (.type "type") "__init__" = some (.val (.builtin "ArithmeticError.__init__"))) (ha : PA X (e :: es) ta)
    (hc : eval (.Call (.Attribute (.Name "ArithmeticError" p1) "__init__" p2) (e :: es) [] pos) X.env = (do
      let cv ← eval (.Name "ArithmeticError" p1) X.env
      standAt p2.atName
      let (m, first) ← holding [cv] (getMethod cv "__init__" pl)
      callWith pos m first (backTo pos (starEach (e :: es) X.env)) (backToKw pos (keywordEach [] X.env))) := by rfl)
    (he : starEach (e :: es) X.env = (false, eval e X.env) :: starEach es X.env := by rfl) (hpl : (backTo pos (starEach es X.env)).any (·.1) = false := by rfl) :
    PE X (.Call (.Attribute (.Name "ArithmeticError" p1) "__init__" p2) (e :: es) [] pos) (tAeI X.K ta) := by
  refine ⟨fun pins s σ H Q I h => ?_⟩
  refine PySem.W.methodCall_KW (ld_blt I hg hm boot_ArithmeticError ?_ (by decide) (by decide)) hc
  obtain ⟨m, fr⟩ := I.fr
  refine PySem.W.method_type fr I.ok.mod.kin ty_ArithmeticError (by decide +kernel) vV (by decide +kernel) ?_
  show wpAny _ _ (callWith pos (Value.builtin "ArithmeticError.__init__") [] (backTo pos (starEach (e :: es) X.env)) []) _ _ _
  refine PyProof.Rows.callWith_method1 (thn (ha.run pos pins _ σ H _ (I.tok _) h) fun us s1 ⟨vs, H1, I1, r1, a, C, ws, ev, hl, T, ea, q⟩ => ?_) he hpl
  subst ev
  cases r1 with
  | @cons _ u0 _ ur ra rr =>
    obtain rfl : u0 = Value.ref a := ra
    have hlen : ur.length ≤ sizeLine := by
      rw [← Paired.length rr, sizeLine_eq]
      omega
    exact oinA T I1 ea hlen fun s' J => ⟨.non, H1, J, rfl, q⟩
theorem ps_osa (ho : PE X o to) (he : PE X e te) (hs : swapsWith e (some (.Attribute o f p')) pos.line X.env = pure false := by rfl) : PS X (.Assign [.Attribute o f p'] e pos) (tOsa X.K f to te) := by
  refine ⟨fun pins s σ H D I h => ?_⟩
  refine plainObj_wpAny_Assign_Attribute (thn (he.run pins s σ H _ I h) fun v s1 ⟨y, H1, I1, r1, q1⟩ => thn (ho.run pins s1 σ H1 _ I1 q1) fun u s2 ⟨x, H2, I2, r2, a, C, ex, T, hno, ea, q⟩ => ?_) hs
  subst ex
  obtain rfl : u = Value.ref a := r2
  exact osa_new T I2 ea hno r1 fun dx s' n ne J => ⟨σ, _, J, q dx n ne⟩
theorem pmk_oea {CX : CXT} {x : Str} {C fI : Addr} {k : Nat} {fd : FuncData} {ps : List Str} {sp : Sp} {ds : List Value} {dvs : List V} (T : OexA X.K C) (iC : PySem.W.findIn X.K (.ref C) "__init__" = some (some (.ref fI))) (tI : PySem.W.typeIn X.K (.ref fI) = some (.type "function"))
    (F1 : FnOk X.prog X.w X.K X.mg X.base CX k fI fd ps sp) (hr : Room (k + 1) X.A) (hb : Binds X.K fd ps ds) (hd : Vals dvs ds) (hx : Passes CX X (fun _ _ _ => False)) (hg : Gl X x) (hm : X.mg x = some (.ref C)) (ha : PA X (e :: es) ta)
    (hdb : (x == ("__debug__" : Str)) = false := by decide) (he : starEach (e :: es) X.env = (false, eval e X.env) :: starEach es X.env := by rfl) (hpl : (backTo pos (starEach es X.env)).any (·.1) = false := by rfl) :
    PMk X (.Call (.Name x p) (e :: es) [] pos) (tMkO C sp dvs ta) := by
  intro pins s σ H Q I h
  obtain ⟨nm, q, N, bs, bm, sn, sub, ab, col, dd, k0, k1, k2, k3, k5, hC, hbm⟩ := T.cls
  refine wpAny_Call_Name_kw (ld_glob I hg hm ?_ hdb)
  refine PySem.W.callWith_K (h₀ := X.base) I.ok.mod.kin T.kC (thn (ha.run pos pins s σ H _ I h) fun us s1 ⟨vs, H1, I1, r1, hz, q1⟩ => ⟨I1.kIn, ?_⟩) he hpl
  show wpAny _ _ (call (.ref C) us) _ _ _
  obtain ⟨hp, g, dr, tk, os⟩ := s1
  have z1 : hp.objs.size ≤ hp.objs.size + 1 := Nat.le_succ _
  have hq := q1 (hp.objs.size + 1) (I1.hok.fresh z1)
  have kk : ∀ b o, hp.get? b = some o → ((hp.push (PySem.W.kdv_tup us)).push (PySem.HandSPX.excO C hp.objs.size)).get? b = some o := fun b o e => Heap.get?_push_of_some _ (Heap.get?_push_of_some _ e)
  have hget : ((hp.push (PySem.W.kdv_tup us)).push (PySem.HandSPX.excO C hp.objs.size)).get? (hp.objs.size + 1) = some (PySem.HandSPX.excO C hp.objs.size) := by heap_get
  have I2 : Inv X pins σ (upd H1 (hp.objs.size + 1) (exo (hp.objs.size + 1) C none)) ⟨(hp.push (PySem.W.kdv_tup us)).push (PySem.HandSPX.excO C hp.objs.size), g, dr, tk, os⟩ :=
    I1.laid (t' := tk) (a := hp.objs.size + 1) (o := exo (hp.objs.size + 1) C none) (h' := (hp.push (PySem.W.kdv_tup us)).push (PySem.HandSPX.excO C hp.objs.size)) kk z1 (exo_ok hget)
  have r2 : Vals (V.ref (hp.objs.size + 1) :: (vs ++ dvs)) (Value.ref (hp.objs.size + 1) :: (us ++ ds)) := .cons rfl (r1.append hd)
  have hl : (Value.ref (hp.objs.size + 1) :: us ++ ds).length = ps.length := by
    have e := r2.length
    rw [F1.len _ _ _ _ hq] at e
    exact e.symm
  have hus : us.length ≤ sizeLine := by
    rw [← Paired.length r1, sizeLine_eq]
    omega
  refine wpAny_call (call_k hbm (I1.kIn _ _ hC) (PySem.W.looks_findIn I1.kIn iC) (fun self => PySem.W.bind_fn I1.kIn self tI) hus (codeAny_mono (F1.run _ X.stack _ _ ⟨Value.ref (hp.objs.size + 1) :: us, []⟩ (Value.ref (hp.objs.size + 1) :: (us ++ ds)) _ _ (fun _ _ _ => False)
    (hr.make C us []) (I2.env0.make C us []) (hb _ (Value.ref (hp.objs.size + 1) :: us) I2.kIn hl) r2 hq) fun r s' hq' => ?_))
  cases r with
  | error er => exact hx pins σ _ _ er s' I2 hq'
  | ok fl =>
    cases fl with
    | ret u =>
      obtain ⟨v, H2, os2, bare2, un2, hok2, rv, ev, d, fs, ea, ed, hd1, q2⟩ := hq'
      subst ev
      obtain ⟨h2, g2, d2, t2, os'⟩ := s'
      exact ⟨rv, mk_end (raises_own T.exC T.tyC) I1 z1 kk un2 hok2 os2 bare2 ea ed hd1 q2⟩
    | next => exact False.elim hq'
    | brk => exact False.elim hq'
    | cont => exact False.elim hq'
end
end Gd
end

section
set_option Elab.async false
set_option linter.all false
set_option maxRecDepth 100000
set_option maxHeartbeats 1000000
/-! try with several clauses, each with a name. -/
namespace Gd
open PySem PySem.Spec PyProof.Rows L2
abbrev Suite := Addr → Value → Option Addr → TS
/-- behind a suite its name is gone -/
def Dun (D : Ends) (i : Nat) : Ends := ⟨fun τ G => D.nx (τ.set i none) G, D.rt, fun τ G => D.bk (τ.set i none) G, fun τ G => D.ct (τ.set i none) G⟩
def wEach (K : PySem.W.Frag) (Wout : WX) (D : Ends) : List (Value × Nat × Suite) → WX
  | [] => Wout
  | (c, i, ts) :: more => fun kls d τ G => ∃ b, PySem.W.exmOne K kls c = some b ∧
      (b = true → ∀ a, G a = none → ts a kls d (Dun D i) (τ.set i (some (.ref a))) G) ∧ (b = false → wEach K Wout D more kls d τ G)
inductive Clauses (X : Cx) : List ExceptHandler → List (Value × Nat × Suite) → Prop
  | nil : Clauses X [] []
  | cons {x n : Str} {c : Value} {i : Nat} {ts : Suite} {st : Stmt} {sts : List Stmt} {np hp : Pos} {hs : List ExceptHandler} {l : List (Value × Nat × Suite)}
      (nm : Names X x c) (hi : X.N[i]? = some n) (hk : X.env.kindOf n = some .local)
      (su : ∀ (a : Addr) (oe : Obj) (kls : Value) (d : Option Addr) (pn : List (Addr × Obj)), Zc kls d oe → (∃ fv, oe.data = .fields fv) → PSs (X.suite a ((a, oe) :: pn)) (st :: sts) (ts a kls d))
      (more : Clauses X hs l) : Clauses X (.ExceptHandler (some (.Name x np)) (some n) (st :: sts) hp :: hs) ((c, i, ts) :: l)
section
variable {X : Cx} {body : List Stmt} {hd : ExceptHandler} {hs : List ExceptHandler} {l : List (Value × Nat × Suite)} {pos : Pos} {tb : WX → TS} {Wout : WX}
theorem ps_try_each (stk : X.stack = X.env :: X.outer) (frm : X.env.frame = some X.env.locals) (ndN : X.N.Nodup) (tk : Takes X Wout)
    (hb : ∀ (W : WX) (pn : List (Addr × Obj)) (xe : Value → Shared → Prop), Takes (X.tr pn xe) W → PassesOwn (model X.prog X.w) X.A X.env xe → PSs (X.tr pn xe) body (tb W))
    (cl : Clauses X (hd :: hs) l) : PS X (.Try body (hd :: hs) [] [] pos) (fun D τ G => tb (wEach X.K Wout D l) D τ G) := by
  constructor
  intro pins s τ G D I h
  have ok := I.ok
  have afr : X.A.frames = some (X.env :: X.outer) := ok.frames.trans (congrArg some stk)
  let xe' : Value → Shared → Prop := fun e sA => wpAny (model X.prog X.w) X.A (noteFrame e X.env) (fun _ sB => wpAny (model X.prog X.w) X.A (setFlight e none)
    (fun _ sC => wpAny (model X.prog X.w) X.A (handleBy e X.env (hd :: hs)) (SP X pins D) X.xe sC) X.xe sB) X.xe sA
  have caught : Takes (X.tr (X.pn ++ pins) xe') (wEach X.K Wout D l) := by
    intro u sE xx
    obtain ⟨a, B, sI, pn2, τ2, G2, kls, d, eu, J0, nb, up, sky, na, os, ag, wish⟩ := xx
    subst eu
    have J : Inv X pins τ2 G2 sI := J0.ofTry ok
    have sk : Sky B (X.env :: X.outer) a (Zc kls d) X.env.locals sE.heap := stk ▸ sky
    show wpAny (model X.prog X.w) X.A (noteFrame (.ref a) X.env) _ _ _
    refine Sky.land Zc.steady afr frm sk ?_
    intro h3 fl up3
    have J3 : Inv X pins τ2 G2 { sE with heap := h3 } := J.landed nb fl.1 (up.trans up3) os ag
    obtain ⟨ob, fv, at3, z3, dd3⟩ := fl.there
    have notIn : a ∉ frs (X.env :: X.outer) := by
      intro hm
      obtain ⟨_, o', e', nf⟩ := fl.2.2.1.mem hm
      rw [at3] at e'
      have eo := Option.some.inj e'
      subst eo
      exact nf _ dd3
    have nL : a ≠ X.env.locals := by
      intro z
      exact notIn (List.mem_filterMap.mpr ⟨X.env, List.mem_cons_self, frm.trans (congrArg some z.symm)⟩)
    have nF : a ∉ X.fs := by
      intro hm
      obtain ⟨e, he, q⟩ := List.mem_filterMap.mp hm
      exact notIn (List.mem_filterMap.mpr ⟨e, List.mem_cons_of_mem _ he, q⟩)
    have S3 := J3.suite at3 dd3 na nL nF
    have look : PySem.W.Looks (model X.prog X.w) h3 (typeOf (.ref a)) kls := by
      intro A Q E s k q
      exact wpAny_typeOf_ref (k _ _ at3) (z3.1.symm ▸ q)
    have go : ∀ {hs' : List ExceptHandler} {l' : List (Value × Nat × Suite)}, Clauses X hs' l' → wEach X.K Wout D l' kls d τ2 G2 →
        wpAny (model X.prog X.w) X.A (handleBy (.ref a) X.env hs') (SP X pins D) X.xe { sE with heap := h3 } := by
      intro hs' l' c
      induction c with
      | nil =>
        intro wsh
        refine wpAny_handleBy_nil ?_
        obtain ⟨_, _, _, oe, vs, t1, _, _, e1, _, e2, e3, _⟩ := id fl
        unfold PySem.passOn
        refine wpAny_bind (wpAny_field e1 e2 e3 ?_)
        have nn : ¬ ((Value.ref t1 == Value.none) = true) := by simp
        rw [if_neg nn]
        have last : wpAny (model X.prog X.w) X.A (setFlight (.ref a) X.env.frame) (fun _ sD => wpAny (model X.prog X.w) X.A (throw (.ref a) : Sem Flow) (SP X pins D) X.xe sD) X.xe { sE with heap := h3 } := by
          rw [frm]
          refine HandSPX.setFlight_upZ fl ?_
          intro h4 hh4 up4
          refine wpAny_throw (tk _ _ ?_)
          exact ⟨a, B, sI, pins, τ2, G2, kls, d, rfl, J, nb, (up.trans up3).trans up4, .inr (.inr (stk.symm ▸ hh4)), na, os, ag, wsh⟩
        first
          | exact wpAny_bind (wpAny_pure (wpAny_bind last))
          | exact wpAny_bind last
      | @cons x n c i ts st sts np hp hs2 l2 nm hi hk su more ih =>
        intro wsh
        obtain ⟨b, hit, yes, no⟩ := wsh
        refine wpAny_handleBy_cons (codeAny_handlers_test ?_) (by intro q; cases q)
        have one := PySem.W.exm_one (M := model X.prog X.w) J3.kIn look hit
        have named : ∀ {Q : Value → Shared → Prop} {E : Value → Shared → Prop}, Q c { sE with heap := h3 } →
            wpAny (model X.prog X.w) (X.A.mark (some (.ref a))) (eval (.Name x np) X.env) Q E { sE with heap := h3 } := by
          intro Q E q
          obtain ⟨gl, nd, mm⟩ := nm
          cases mm with
          | inl mm => exact ld_glob (X := X.suite a ((a, ob) :: (X.pn ++ pins))) S3 gl mm q nd
          | inr mm => exact ld_blt (X := X.suite a ((a, ob) :: (X.pn ++ pins))) S3 gl mm.1 mm.2.1 q mm.2.2 nd
        refine named (one.here ?_)
        cases b with
        | false =>
          show wpAny _ X.A (handleBy (.ref a) X.env hs2) _ _ _
          exact ih (no rfl)
        | true =>
          refine codeAny_handlers_suite_as ?_
          refine HandSPX.lands_againZ fl ?_
          intro h4 fl4 up4
          have J4 : Inv X pins τ2 G2 { sE with heap := h4 } := J.landed nb fl4.1 ((up.trans up3).trans up4) os ag
          obtain ⟨ob4, fv4, at4, z4, dd4⟩ := fl4.there
          have S4 := J4.suite at4 dd4 na nL nF
          refine store_ok (X := X.suite a ((a, ob4) :: (X.pn ++ pins))) (v := .ref a) S4 ndN hi (.inl hk) rfl ?_ (.inr hk)
          intro s5 S5
          have run := (su a ob4 kls d (X.pn ++ pins) z4 ⟨_, dd4⟩).run [] s5 _ G2 _ S5 (yes rfl a na)
          refine wpAny_mono run ?_ (fun _ _ z => False.elim z)
          intro fo s6 hsp
          have fin : ∀ {τ6 : L2.St} {G6 : Hp} {R : Shared → Prop}, Inv (X.suite a ((a, ob4) :: (X.pn ++ pins))) [] τ6 G6 s6 → (∀ s7, Inv X pins (τ6.set i none) G6 s7 → R s7) →
              wpAny (model X.prog X.w) X.A (do bindName X.env n .none; unbindBehindTheSuite X.env n hp) (fun _ s7 => R s7) X.xe s6 := by
            intro τ6 G6 R S6 hq
            exact gone_ok (S6.unsuite ok) ndN hi hk hq
          match fo, hsp with
          | .next, ⟨τ6, G6, S6, q6⟩ => exact fin S6 fun s7 J7 => ⟨_, _, J7, q6⟩
          | .brk, ⟨τ6, G6, S6, q6⟩ => exact fin S6 fun s7 J7 => ⟨_, _, J7, q6⟩
          | .cont, ⟨τ6, G6, S6, q6⟩ => exact fin S6 fun s7 J7 => ⟨_, _, J7, q6⟩
          | .ret u, ⟨v6, τ6, G6, S6, r6, q6⟩ => exact fin S6 fun s7 J7 => ⟨_, _, _, J7, r6, q6⟩
    exact go cl wish
  refine wpAny_Try_except ?_
  have tried := (hb (wEach X.K Wout D l) (X.pn ++ pins) xe' caught PassesOwn.looking).run [] s τ G D (I.toTry _) h
  refine wpAny_mono tried ?_ (fun _ _ z => z)
  intro fo s1 hsp
  match fo, hsp with
  | .next, ⟨τ', G', J', q⟩ => exact wpAny_execs_nil ⟨τ', G', J'.ofTry ok, q⟩
  | .brk, ⟨τ', G', J', q⟩ => exact ⟨τ', G', J'.ofTry ok, q⟩
  | .cont, ⟨τ', G', J', q⟩ => exact ⟨τ', G', J'.ofTry ok, q⟩
  | .ret u, ⟨v, τ', G', J', r, q⟩ => exact ⟨v, τ', G', J'.ofTry ok, r, q⟩
end
end Gd
end

section
set_option Elab.async false
set_option linter.all false
set_option maxRecDepth 100000
set_option maxHeartbeats 4000000
/-! isinstance of a caught error that has its own dict. -/
namespace Gd
open PySem PySem.Spec PySem.W PySem.Calls PyProof.Rows
section
variable {prog : Program} {w : World} {A : Around} {E : Value → Shared → Prop} {s : Shared} {K : Frag} {x D : Addr} {ob : Obj} {od : Option Obj}
theorem find_data {C : Addr} {name : Str} {a g : Value} (hc : (clsIn K C).isSome = true) (ha : findIn K (.ref C) name = some (some a)) (hg : specialIn K a "__get__" = some (some g))
    (ht : takesIn K a = some true) : findObj K C od name = some (.bind g a) := by
  obtain ⟨cd, hcd⟩ := Option.isSome_iff_exists.mp hc
  simp [findObj, hcd, ha, hg, ht]
theorem exc_class {Q : Option Value → Shared → Prop} (c : L2.ExcC K D) (X : K.In s.heap) (J : InstAt s.heap x ob D od) (h : Q (some (.ref D)) { s with toks := s.toks + 1 }) :
    wpAny (model prog w) A (getAttr? (.ref x) "__class__") Q E s := by
  have some1 : (clsIn K D).isSome = true := by
    obtain ⟨cd, hc, _⟩ := any_some c.hd
    rw [hc] <;> rfl
  have fnd : findObj K D od "__class__" = some (.bind (.builtin "getset_descriptor.__get__") (.builtin "object.__class__")) := find_data some1 c.ha c.hn c.ht
  obtain ⟨hp, g, d, t, os⟩ := s
  have T0 := J.type (M := model prog w)
  have T1 := looks_findIn (M := model prog w) X c.hg
  have T2 := looks_findIn (M := model prog w) X c.hk
  have T3 := looks_find (M := model prog w) X J fnd
  have isB : Looks (model prog w) hp (isInstance (.ref x) (.type "BaseException")) true := T0.andThen (looks_subIn X c.hs)
  have n0 : (false && onTheHeap (Value.builtin "BaseException.__getattribute__")) = false := rfl
  have n2 : (Value.builtin "BaseException.__getattribute__" == Value.builtin "object.__getattribute__") = false := by decide +kernel
  have n1 : (onTheHeap (Value.ref D) && Value.builtin "BaseException.__getattribute__" == Value.builtin "object.__getattribute__") = false := by
    rw [n2] <;> rfl
  unfold getAttr? getAttrBy? getAttrBy
  refine wpAny_bind (wpAny_mkText (wpAny_bind (wpAny_attempt (wpAny_holding ?_))))
  refine wpAny_bind (T0.at (wpAny_bind (T1.at ?_)))
  show wpAny _ _ (if (onTheHeap (Value.ref D) && Value.builtin "BaseException.__getattribute__" == Value.builtin "object.__getattribute__") = true then _ else _) _ _ _
  rw [n1, if_neg Bool.false_ne_true]
  unfold getAttrByItsOwn hookBefore
  refine wpAny_bind ?_
  rw [if_pos (show onTheHeap (Value.ref D) = true from rfl)]
  refine T2.at ?_
  refine wpAny_bind (wpAny_attempt (wpAny_holding ?_))
  unfold callGetattribute
  rw [n0, if_neg Bool.false_ne_true]
  unfold boundAndCalled
  rw [PySem.F.excAttr_ValueError.ga.bind (.ref x)]
  refine wpAny_bind (wpAny_pure ?_)
  show wpAny _ _ (call (.builtin "BaseException.__getattribute__") [.ref x, .str "__class__" t]) _ _ _
  refine wpAny_call (codeAny_call_builtin PySem.F.excAttr_ValueError.ga.plain PySem.F.entry_bexc_ga ?_)
  refine @check_slot (model prog w) _ _ ⟨hp, g, d, t + 1, os⟩ "BaseException.__getattribute__" "BaseException" "__getattribute__" (.ref x) [.str "__class__" t] [] _
    (by decide +kernel) (by decide +kernel) isB (PySem.F.args_bexc_ga (.ref x) (.str "__class__" t)) ?_
  unfold Builtin.«object.__getattribute__»
  refine wpAny_bind (wpAny_of_eq (a := ((Value.ref x : Value), [Value.str "__class__" t])) (by first | rfl | (simp only [slotArgs]; rfl)) ?_)
  refine wpAny_bind (wpAny_pure ?_)
  refine wpAny_bind (T0.at (wpAny_bind (T3.at ?_)))
  show wpAny _ _ (holding [Value.builtin "object.__class__"] (call (.builtin "getset_descriptor.__get__") [.builtin "object.__class__", .ref x, .ref D]) >>= ret) _ _ _
  refine wpAny_bind (wpAny_holding (wpAny_call (class_get (s := ⟨hp, g, d, t + 1, os⟩) (ox := ob) (od := od) X J c.hm ?_)))
  refine wpAny_pure ?_
  show wpAny _ _ (handedOut (.ref D)) _ _ _
  rw [handedOut_of (v := .ref D) rfl]
  first
    | exact wpAny_pure (wpAny_pure h)
    | exact wpAny_pure h
    | exact wpAny_pure (wpAny_bind (wpAny_pure (wpAny_pure h)))
theorem kit_exc (c : L2.ExcC K D) : KitX K (.ref x) (.ref D) (fun h => ∃ od, InstAt h x ob D od) where
  ty := fun _ _ _ ⟨_, J⟩ => J.type
  it := fun _ _ X _ => by
    obtain ⟨cd, hc, _⟩ := any_some c.hd
    unfold clsIn at hc
    split at hc
    · rename_i e
      intro A2 Q2 E2 s2 k q
      unfold isType loadHead
      exact wpAny_bind (wpAny_loadPart (k _ _ (X _ _ e)) (wpAny_pure q))
    · cases hc
  ne := fun h tp dd its n sl X htp => by
    obtain ⟨cd, hc, _⟩ := any_some c.hd
    refine Bool.eq_false_iff.mpr ?_
    intro q
    have e : D = tp := Value.ref.inj (beq_iff_eq.mp q)
    subst e
    unfold clsIn at hc
    split at hc
    · rename_i e2
      have z := (X _ _ e2).symm.trans htp
      cases z
    · cases hc
  ca := fun X ⟨_, J⟩ k => exc_class c X J k
end
end Gd
namespace Gd
open PySem PySem.Spec PyProof.Rows L2
/-- isinstance(e, c) in a suite, whether the error has a dict or none -/
theorem call_isX {X : Cx} {a D : Addr} {kls : Value} {d : Option Addr} {oe : Obj} {pn : List (Addr × Obj)} (C : ExcC X.K D) (hz : Zc kls d oe) (hf : ∃ vs, oe.data = .fields vs) :
    CallR (X.suite a ((a, oe) :: pn)) (.builtin "isinstance") (fun xs H Q => kls = .ref D ∧ (∀ dd, d = some dd → ∃ fs, H dd = some (.xd fs)) ∧ rIsE X.K D a xs H Q) := by
  intro pins s σ H xs us Q I r h
  obtain ⟨ek, hdd, c, cv, b, rfl, hcv, e, q⟩ := h
  subst ek
  match r with
  | .cons rx (.cons rt .nil) =>
    cases rx
    have ec := hcv _ rt
    subst ec
    obtain ⟨hget, _⟩ := I.pin (a, oe) (List.mem_append_left _ List.mem_cons_self)
    obtain ⟨vs, hv⟩ := hf
    have J : ∃ od, PySem.W.InstAt s.heap a oe D od := by
      match d, hz, hdd with
      | none, hz, _ =>
        obtain ⟨oc, od, oda, osl⟩ := oe
        obtain ⟨h1, h2⟩ := hz
        dsimp only at h1 h2 hv
        subst h1 h2 hv
        exact ⟨none, hget, rfl, rfl, trivial⟩
      | some dd, hz, hdd =>
        obtain ⟨fs, hx⟩ := hdd dd rfl
        obtain ⟨mA, hns, _⟩ := (show ObjOk X.prog X.w H s.heap dd (.xd fs) from I.hok dd _ hx)
        obtain ⟨od, ho, _⟩ := lookIn_ns hns
        refine ⟨some od, hget, hz.1, ?_, ?_⟩
        · unfold PySem.W.notCls
          rw [hv] <;> rfl
        · rw [hz.2]
          exact ho
    exact PySem.W.kia_one (kit_exc C) I.kIn J e (fun z => nomatch z) fun tk => ⟨.bl b, H, I.kept (t' := tk) fun _ _ z => z, rfl, q⟩
end Gd
end

section
set_option Elab.async false
set_option linter.all false
set_option maxRecDepth 100000
/-! repr of any drawn value, where no repr is under way. -/
namespace Gd
open PySem PySem.Spec PyProof.Rows L2
def kData : Key → PyData
  | .inl i => .int i
  | .inr x => .str x
/-- a value and its data: with no dict in it, or a dict of ints -/
inductive Th (K : PySem.W.Frag) (H : Hp) : V → PyData → Prop where
  | dp {v : V} {d : PyData} (h : Dp K H v d) (nd : d.hasDict = false) : Th K H v d
  | dk {a : Addr} {kvs : List (Key × Int)} (e : H a = some (.dK (kvs.map fun kv => (kv.1, V.int kv.2)))) : Th K H (.ref a) (.dict (kvs.map fun kv => (kData kv.1, .int kv.2)))
theorem pairs_read {h : Heap} {P : Program} {w : World} : ∀ {es : List DictEntry} {vs : List (Key × Value)} {kvs : List (Key × Int)}, Pairs (mixKind P w) es vs → KV (kvs.map fun kv => (kv.1, V.int kv.2)) vs →
    ReadsAll h (es.map (·.key)) (kvs.map fun kv => kData kv.1) [] ∧ ReadsAll h (es.map (·.val)) (kvs.map fun kv => .int kv.2) [] := by
  intro es vs kvs p
  induction p generalizing kvs with
  | nil =>
    intro r
    match kvs, r with
    | [], _ => exact ⟨.nil, .nil⟩
  | @cons e kv es' vs' hk hv rest ih =>
    intro r
    match kvs, r with
    | (k, n) :: kvs', .cons ⟨e1, r1⟩ more =>
      obtain ⟨g1, g2⟩ := ih more
      have e1' : k = kv.1 := e1
      obtain ⟨t, e2⟩ := (show ∃ t, kv.2 = Value.int n t from r1)
      have kr : Reads h e.key (kData k) [] := by
        have hk' : keyIs kv.1 e.key = true := hk
        rw [← e1'] at hk'
        rcases keyIs_shape hk' with ⟨i, t, a, b⟩ | ⟨x, t, a, b⟩
        · rw [a, b]
          exact .int i t
        · rw [a, b]
          exact .str x t
      have vr : Reads h e.val (.int n) [] := by
        rw [hv, e2]
        exact .int n t
      exact ⟨ReadsAll.cons kr g1, ReadsAll.cons vr g2⟩
section
variable {X : Cx} {pins : List (Addr × Obj)} {σ : L2.St} {H : Hp} {s : Shared}
theorem Th.reads (I : Inv X pins σ H s) {v : V} {d : PyData} {u : Value} (t : Th X.K H v d) (r : L2.RelV v u) : ∃ as, Reads s.heap u d as ∧ (d.hasDict = true → sysModules ∉ as) := by
  cases t with
  | dp h nd =>
    obtain ⟨as, q⟩ := Dp.reads I d v u h r
    exact ⟨as, q, PyData.noDict_hsm nd⟩
  | @dk a kvs e =>
    cases (show u = Value.ref a from r)
    obtain ⟨_, hs, vs, kv, o, es, ep, h1, h2, h3, _, h5, _⟩ := dk_of I.hok e
    obtain ⟨g1, g2⟩ := pairs_read (h := s.heap) h5 kv
    have m1 : (kvs.map fun kv => (kData kv.1, PyData.int kv.2)).map (·.1) = kvs.map fun kv => kData kv.1 := by
      rw [List.map_map] <;> rfl
    have m2 : (kvs.map fun kv => (kData kv.1, PyData.int kv.2)).map (·.2) = kvs.map fun kv => PyData.int kv.2 := by
      rw [List.map_map] <;> rfl
    refine ⟨a :: [] ++ [], Reads.dict h1 h2.1 h3 (by rw [m1]; exact g1) (by rw [m2]; exact g2), fun _ z => ?_⟩
    have z' : sysModules = a := by simpa using z
    rw [← z'] at hs
    simp at hs
/-- repr(v) -/
theorem call_reprD (ng : NoG X.A) (hu : X.A.units + 64 < cLine) : CallR X (.builtin "repr") (fun xs H Q => ∃ v d, xs = [v] ∧ Th X.K H v d ∧ d.showable = true ∧ d.depth ≤ 60 ∧ (d.shown.length ≤ sizeLine ∨ ∃ i, d = .int i) ∧ Q (.str d.shown) H) := by
  intro pins s σ H xs us Q I r h
  obtain ⟨v, d, rfl, t, sh, dep, sz, q⟩ := h
  obtain ⟨u, rfl, rx⟩ := vals1 r
  obtain ⟨as, rd, ns⟩ := t.reads I rx
  match u, d, rd with
  | .none, .none, _ => exact PySem.P.repr_of_none ⟨.str _, H, I.tok _, ⟨_, rfl⟩, q⟩
  | .bool b, .bool _, .bool _ => exact PySem.P.repr_of_bool ⟨.str _, H, I.tok _, ⟨_, rfl⟩, by cases b <;> exact q⟩
  | .int i _, .int _, .int _ _ => exact PySem.P.repr_of_int (of_decide_eq_true sh) ⟨.str _, H, I.tok _, ⟨_, rfl⟩, q⟩
  | .str x _, .str _, .str _ _ => exact PySem.P.repr_of_str ⟨.str _, H, I.tok _, ⟨_, rfl⟩, q⟩ (sz.elim id fun ⟨_, z⟩ => nomatch z)
  | .ref a, d, rd =>
    have sz : d.shown.length ≤ sizeLine := by
      rcases sz with z | ⟨i, z⟩
      · exact z
      · subst z
        cases rd
    refine repr_of_reads' rd sh ns ng (by omega) (fun _ _ z => z) (fun h' u tk k => ?_) sz
    exact ⟨.str _, H, I.kept (t' := tk) k, ⟨_, rfl⟩, q⟩
end
end Gd
end

section
set_option Elab.async false
set_option linter.all false
set_option maxRecDepth 100000
set_option maxHeartbeats 1000000
/-! -o, o + n, o == x, o != x of own instances, by their own methods. -/
namespace Gd
open PySem PySem.Spec PyProof.Rows L2
section
variable {X : Cx} {CX : CXT} {k : Nat} {C f : Addr} {fd : FuncData} {ps : List Str} {sp : Sp} {E : XK}
/-- the method at f is called with these -/
theorem own_run {pins : List (Addr × Obj)} {σ : L2.St} {H : Hp} {s : Shared} {Q : VK} {vs : List V} {us : List Value} (F : FnOk X.prog X.w X.K X.mg X.base CX k f fd ps sp) (hr : Room k X.A) (hb : Binds X.K fd ps [])
    (hx : Passes CX X E) (I : Inv X pins σ H s) (r : Vals vs us) (h : sp vs H Q E) : wpAny (model X.prog X.w) X.A (call (.ref f) us) (EP X pins σ Q) X.xe s :=
  run_fn (dvs := []) (ds := []) F hr hb .nil hx I r (by rw [List.append_nil]; exact h)
theorem un_own (F : FnOk X.prog X.w X.K X.mg X.base CX k f fd ps sp) (hr : Room k X.A) (hb : Binds X.K fd ps []) (hx : Passes CX X E)
    (hs : PySem.W.findIn X.K (.ref C) "__neg__" = some (some (.ref f))) (hf : PySem.W.isFn X.K (.ref f) = true) :
    UnR X (unaryOp .USub) (fun x H Q => ∃ a dx fs, x = .ref a ∧ H a = some (.ins C dx fs) ∧ sp [.ref a] H Q E) := by
  intro pins s σ H x u Q I rx h
  obtain ⟨a, dx, fs, rfl, ha, q⟩ := h
  cases rx
  obtain ⟨mA, J, _⟩ := ins_get I.hok ha
  obtain ⟨od, J, _⟩ := J.look
  obtain ⟨m, hF⟩ := I.fr
  exact PySem.W.ksp_neg hF I.ok.mod.kin J hs hf (own_run F hr hb hx I (.cons (show L2.RelV (.ref a) (.ref a) from rfl) .nil) q)
theorem relV_back {Q : Value → Shared → Prop} {v : V} {u : Value} {s : Shared} (r : L2.RelV v u) (q : Q u s) : PySem.W.CmpBack Q u s := by
  match v, u, r with
  | .non, .none, _ => exact q
  | .bl _, .bool _, _ => exact q
  | .int _, .int _ _, _ => exact q
  | .str _, .str _ _, _ => exact q
  | .byt _, .bytes _ _, _ => exact q
  | .flt _, .float _ _, _ => exact q
  | .ref _, .ref _, _ => exact q
  | .ty _, .type _, _ => exact q
/-- o == x, whatever x is -/
theorem op_own_eq (F : FnOk X.prog X.w X.K X.mg X.base CX k f fd ps sp) (hr : Room k X.A) (hb : Binds X.K fd ps []) (hx : Passes CX X E)
    (hs : PySem.W.findIn X.K (.ref C) "__eq__" = some (some (.ref f))) (hf : PySem.W.isFn X.K (.ref f) = true) :
    OpR X (compareOp .Eq) (fun x y H Q => ∃ a dx fs t, x = .ref a ∧ H a = some (.ins C dx fs) ∧ TyX X.K H y t ∧ PySem.W.notFirst X.K C t = true ∧ sp [.ref a, y] H Q E) := by
  intro pins s σ H x y v u Q I rx ry h
  obtain ⟨a, dx, fs, t, rfl, ha, ty, nf, q⟩ := h
  cases rx
  obtain ⟨mA, J, _⟩ := ins_get I.hok ha
  obtain ⟨od, J, _⟩ := J.look
  obtain ⟨m, hF⟩ := I.fr
  obtain ⟨Pk, Z, pz, _⟩ := kit_of I ry ty
  show wpAny (model X.prog X.w) X.A (richCompare .Eq (.ref a) u) (EP X pins σ Q) X.xe s
  refine PySem.W.cmp_K (op := .Eq) hr.units0 hF I.ok.mod.kin J (Z.ty _ _ I.kIn pz) nf hs hf ?_
  refine thn (own_run F hr hb hx I (.cons (show L2.RelV (.ref a) (.ref a) from rfl) (.cons ry .nil)) q) ?_
  intro r s' z
  obtain ⟨w, H', I', rw', q'⟩ := z
  exact relV_back rw' ⟨w, H', I', rw', q'⟩
end
/-! ### o + n -/
section
open PySem.W
variable {prog : Program} {w : World} {A : Around} {E : Value → Shared → Prop} {s : Shared} {K : Frag} {x C L f : Addr} {h0 : Heap} {m : Str → Option Value} {ox : Obj} {od : Option Obj} {T : String}
theorem bin_own {op : Operator} {b : Value} {fo ro rc : Option Value} {Q : Value → Shared → Prop} (F : Fr h0 L s.heap m) (X0 : K.In h0) (J : InstAt s.heap x ox C od)
    (hb : Looks (model prog w) s.heap (typeOf b) (.type T)) (first : selfFirst K C = true)
    (hs : findIn K (.ref C) (PySem.dunder op.info.2) = some (some (.ref f))) (hf : isFn K (.ref f) = true)
    (hr : findIn K (.ref C) (dunderR op.info.2) = some rc) (hp : rc = none ∨ ∃ g : Addr, rc = some (.ref g))
    (t1 : findIn K (.type T) (PySem.dunder op.info.2) = some fo) (t2 : findIn K (.type T) (dunderR op.info.2) = some ro) (sub : subIn K (.type T) (.ref C) = some false)
    (h : wpAny (model prog w) A (call (.ref f) [.ref x, b]) (PySem.W.CmpBack Q) E s) : wpAny (model prog w) A (binaryOp op (.ref x) b) Q E s := by
  have XK := X0.keeps F.keep
  obtain ⟨cd, rest, hcd, hm⟩ := ksp_first first
  have run := ksp_try XK J hs hf h
  rcases inf : op.info with ⟨sym, nm⟩
  rw [inf] at hs hr t1 t2 run
  dsimp only at hs hr t1 t2 run
  obtain ⟨hh, g, d, tt, os⟩ := s
  have A1 : Looks (model prog w) hh (typeOf (.ref x)) (.ref C) := J.type
  have A2 : Looks (model prog w) hh (typeOf b) (.type T) := hb
  have A3 : Looks (model prog w) hh (fillsNumberSlot (.ref C) nm) true := fills_K XK hcd hm hs
  have A4 := ksp_fillsT (M := model prog w) (h := hh) XK t1 t2
  have A5 : Looks (model prog w) hh (isSubtype (.type T) (.ref C)) false := looks_subIn XK sub
  have A6 : Looks (model prog w) hh (numberSlotInPython (.ref C) nm) true := ksp_inPy XK hs hr hp
  have A7 : Looks (model prog w) hh (numberSlotInPython (.type T) nm) false := Looks.of_pure rfl
  have A8 : Looks (model prog w) hh (typeLookup (.type T) (dunderR nm)) ro := looks_findIn XK t2
  generalize ((fo.isSome && !isSeqSlot fo) || (ro.isSome && !isSeqSlot ro)) = right at A4
  have apart : (Value.ref C == Value.type T) = false := by
    refine Bool.eq_false_iff.mpr ?_
    intro z
    cases beq_iff_eq.mp z
  simp only [binaryOp, inf]
  refine wpAny_holding (wpAny_bind ?_)
  unfold binaryOp1
  refine wpAny_bind (A1.at ?_)
  refine wpAny_bind (A2.at ?_)
  refine wpAny_bind (A3.at ?_)
  simp only [apart, Bool.false_eq_true, if_false]
  cases right with
  | false =>
    ksp_lk
    refine wpAny_mono run ?_ (fun _ _ z => z)
    intro r s' z
    obtain ⟨v, rfl, q⟩ := z
    ksp_lk
    exact q
  | true =>
    ksp_lk
    refine wpAny_mono run ?_ (fun _ _ z => z)
    intro r s' z
    obtain ⟨v, rfl, q⟩ := z
    ksp_lk
    exact q
end
section
variable {X : Cx} {CX : CXT} {k : Nat} {C f : Addr} {fd : FuncData} {ps : List Str} {sp : Sp} {E : XK}
/-- what the written part says of + between the class and a built-in one -/
structure PlusT (K : PySem.W.Frag) (C : Addr) (T : String) : Prop where
  fo : ∃ z, PySem.W.findIn K (.type T) "__add__" = some z
  ro : ∃ z, PySem.W.findIn K (.type T) "__radd__" = some z
  sub : PySem.W.subIn K (.type T) (.ref C) = some false
theorem op_own_add (F : FnOk X.prog X.w X.K X.mg X.base CX k f fd ps sp) (hr : Room k X.A) (hb : Binds X.K fd ps []) (hx : Passes CX X E) (first : PySem.W.selfFirst X.K C = true)
    (hs : PySem.W.findIn X.K (.ref C) "__add__" = some (some (.ref f))) (hf : PySem.W.isFn X.K (.ref f) = true) (hn : PySem.W.findIn X.K (.ref C) "__radd__" = some none) :
    OpR X (binaryOp .Add) (fun x y H Q => ∃ a dx fs T, x = .ref a ∧ H a = some (.ins C dx fs) ∧ TyX X.K H y (.type T) ∧ PlusT X.K C T ∧ sp [.ref a, y] H Q E) := by
  intro pins s σ H x y v u Q I rx ry h
  obtain ⟨a, dx, fs, T, rfl, ha, ty, ⟨⟨fo, t1⟩, ⟨ro, t2⟩, sub⟩, q⟩ := h
  cases rx
  obtain ⟨mA, J, _⟩ := ins_get I.hok ha
  obtain ⟨od, J, _⟩ := J.look
  obtain ⟨m, hF⟩ := I.fr
  obtain ⟨Pk, Z, pz, _⟩ := kit_of I ry ty
  refine bin_own (op := .Add) hF I.ok.mod.kin J (Z.ty _ _ I.kIn pz) first hs hf hn (.inl rfl) t1 t2 sub ?_
  refine thn (own_run F hr hb hx I (.cons (show L2.RelV (.ref a) (.ref a) from rfl) (.cons ry .nil)) q) ?_
  intro r s' z
  obtain ⟨w, H', I', rw', q'⟩ := z
  exact relV_back rw' ⟨w, H', I', rw', q'⟩
end
section
open PySem.W
variable {prog : Program} {w : World} {A : Around} {E : Value → Shared → Prop} {s : Shared} {K : Frag} {x C L f : Addr} {h0 : Heap} {m : Str → Option Value} {ox : Obj} {od : Option Obj} {tb b : Value}
theorem ne_own {Q : Value → Shared → Prop} (hu : A.units + 1 < cLine) (F : Fr h0 L s.heap m) (X0 : K.In h0) (J : InstAt s.heap x ox C od) (hb : Looks (model prog w) s.heap (typeOf b) tb) (nf : notFirst K C tb = true)
    (hn : findIn K (.ref C) "__ne__" = some (some (.builtin "object.__ne__"))) (hs : findIn K (.ref C) "__eq__" = some (some (.ref f))) (hf : isFn K (.ref f) = true) (hm : mroIn K C (.type "object") = some true)
    (h : wpAny (model prog w) A.in1 (call (.ref f) [.ref x, b]) (fun v s' => ∃ k, v = .bool k ∧ Q (.bool (!k)) s') E s) : wpAny (model prog w) A (richCompare .NotEq (.ref x) b) Q E s := by
  have XK := X0.keeps F.keep
  have FB := PySem.F.cmp_object
  have isO : Looks (model prog w) s.heap (isInstance (.ref x) (.type "object")) true := J.type.andThen (looks_mroIn XK hm)
  have inner : ∀ {R : Fin → Shared → Prop}, (∀ k s', Q (.bool (!k)) s' → R (.done (.ret (.bool (!k)))) s') → wpAny (model prog w) A.in1 (Builtin.«object.__ne__» ⟨[.ref x, b], []⟩) R E s := by
    intro R back
    unfold Builtin.«object.__ne__»
    refine wpAny_bind (wpAny_of_eq (a := ((Value.ref x : Value), [b])) (by first | rfl | (simp only [slotArgs]; rfl)) ?_)
    dsimp only
    refine wpAny_bind (wpAny_cRoomFor (show A.in1.units < cLine from hu) ?_)
    refine wpAny_bind (ifBound_K XK J hs hf (wpAny_mono h ?_ (fun _ _ z => z)))
    intro v s' z
    obtain ⟨k, rfl, q⟩ := z
    dsimp only
    refine wpAny_bind (wpAny_truthy_bool ?_)
    exact wpAny_pure (back k s' q)
  have one : wpAny (model prog w) A (tryCompare (.ref x) "__ne__" b) (fun r s' => ∃ v, r = some v ∧ Q v s') E s := by
    unfold tryCompare
    simp only [callSpecialIfBound?, bindSpecialIfBound?]
    refine wpAny_bind (wpAny_holding (wpAny_bind (wpAny_bind (wpAny_bind (J.type.here ((looks_findIn XK hn).here ?_))))))
    simp only [FB.ne.bind]
    refine wpAny_bind (wpAny_askSetting (wpAny_ite ?_))
    have fin : wpAny (model prog w) A (call (.builtin "object.__ne__") ([.ref x] ++ [b]) >>= fun v => pure (some v)) (fun r => wpAny (model prog w) A
        (match r with | some .notImplemented => pure none | none => pure none | some v => pure (some v)) (fun r s' => ∃ v, r = some v ∧ Q v s') E) E s := by
      refine wpAny_bind (wpAny_call (codeAny_call_builtin FB.ne.plain PySem.F.cmpEntry_ne ?_))
      refine check_slot PySem.F.cmpKind_ne PySem.F.cmpSplit_ne isO (PySem.F.cmpArgs_ne _ _) ?_
      refine inner ?_
      intro k s' q
      exact wpAny_pure (wpAny_pure ⟨_, rfl, q⟩)
    split
    · exact wpAny_bind (wpAny_pure (wpAny_pure fin))
    · exact wpAny_tryCatch (wpAny_bind (wpAny_pure (wpAny_pure fin)))
  unfold richCompare
  simp only [oneThing_ref]
  refine wpAny_holding (wpAny_bind (wpAny_cRoomFor (Nat.lt_of_succ_lt hu) ?_))
  refine wpAny_bind (J.type.here (wpAny_bind (hb.here ?_)))
  have last : ∀ {r : Option Value} {s' : Shared}, (∃ v, r = some v ∧ Q v s') → ∀ {k : Unit → Sem Value}, wpAny (model prog w) A (match r with | some v => pure v | none => k ()) Q E s' := by
    intro r s' z k
    obtain ⟨v, rfl, q⟩ := z
    exact wpAny_pure q
  by_cases same : tb = .ref C
  · subst same
    have e0 : (Value.ref C != Value.ref C) = false := by simp
    rw [e0]
    simp only [Bool.false_eq_true, if_false]
    refine wpAny_bind (wpAny_pure ?_)
    simp only [Bool.false_eq_true, if_false]
    refine wpAny_bind (wpAny_mono one ?_ (fun _ _ z => z))
    intro r s' z
    obtain ⟨v, rfl, q⟩ := z
    exact wpAny_pure q
  · have e0 : (Value.ref C != tb) = true := by
      rw [bne_iff_ne]
      exact fun z => same z.symm
    have e1 : subIn K tb (.ref C) = some false := by
      rcases Bool.or_eq_true_iff.mp nf with z | z
      · exact absurd (beq_iff_eq.mp z) same
      · exact beq_iff_eq.mp z
    have e0' : (tb != Value.ref C) = true := by
      rw [bne_iff_ne]
      exact same
    first | rw [e0] | rw [e0']
    simp only [if_true]
    refine wpAny_bind ((looks_subIn XK e1).here ?_)
    simp only [Bool.false_eq_true, if_false]
    refine wpAny_bind (wpAny_mono one ?_ (fun _ _ z => z))
    intro r s' z
    obtain ⟨v, rfl, q⟩ := z
    exact wpAny_pure q
end
section
variable {X : Cx} {CX : CXT} {k : Nat} {C f : Addr} {fd : FuncData} {ps : List Str} {sp : Sp} {E : XK}
/-- o != x, by the own ==, which answers True or False -/
theorem op_own_ne (F : FnOk X.prog X.w X.K X.mg X.base CX0 k f fd ps sp) (hr : Room (k + 1) X.A) (hb : Binds X.K fd ps [])
    (hn : PySem.W.findIn X.K (.ref C) "__ne__" = some (some (.builtin "object.__ne__")))
    (hs : PySem.W.findIn X.K (.ref C) "__eq__" = some (some (.ref f))) (hf : PySem.W.isFn X.K (.ref f) = true) (hm : PySem.W.mroIn X.K C (.type "object") = some true) :
    OpR X (compareOp .NotEq) (fun x y H Q => ∃ a dx fs t, x = .ref a ∧ H a = some (.ins C dx fs) ∧ TyX X.K H y t ∧ PySem.W.notFirst X.K C t = true ∧ sp [.ref a, y] H (fun v H' => ∃ b, v = .bl b ∧ Q (.bl (!b)) H') E0) := by
  intro pins s σ H x y v u Q I rx ry h
  obtain ⟨a, dx, fs, t, rfl, ha, ty, nf, q⟩ := h
  cases rx
  obtain ⟨mA, J, _⟩ := ins_get I.hok ha
  obtain ⟨od, J, _⟩ := J.look
  obtain ⟨m, hF⟩ := I.fr
  obtain ⟨Pk, Z, pz, _⟩ := kit_of I ry ty
  show wpAny (model X.prog X.w) X.A (richCompare .NotEq (.ref a) u) (EP X pins σ Q) X.xe s
  refine ne_own (have := hr.units0; by have := hr.units; omega) hF I.ok.mod.kin J (Z.ty _ _ I.kIn pz) nf hn hs hf hm ?_
  have r2 : L2.Vals [V.ref a, y] [Value.ref a, u] := .cons (show L2.RelV (.ref a) (.ref a) from rfl) (.cons ry .nil)
  have hl : ([Value.ref a, u] ++ ([] : List Value)).length = ps.length := by
    rw [List.append_nil]
    exact r2.length.symm.trans (F.len _ _ _ _ q)
  have bd := hb s [.ref a, u] I.kIn hl
  rw [List.append_nil] at bd
  have body := F.run X.A.in1 X.stack s H ⟨[.ref a, u], []⟩ [.ref a, u] [.ref a, y] _ E0 hr.in1 I.env0.in1 bd r2 q
  refine wpAny_call (codeAny_mono body ?_)
  intro res s' z
  match res, z with
  | .error er, z => exact z.elim
  | .ok (.ret w), z =>
    obtain ⟨v, H', J', rv, b, rfl, q'⟩ := I.after z
    cases (show w = Value.bool b from rv)
    exact ⟨b, rfl, .bl (!b), H', J', rfl, q'⟩
end
end Gd
end

section
set_option Elab.async false
set_option linter.all false
set_option maxRecDepth 100000
set_option maxHeartbeats 4000000
/-! An own error whose __init__(self) stores nothing: C(). -/
namespace Gd
open PySem PySem.Spec PyProof.Rows L2
def tMk0 (C : Addr) (sp : Sp) : L2.St → Hp → XK → Prop := fun σ H Q => ∀ a, H a = none →
  sp [.ref a] (upd H a (exo a C none)) (fun v H2 => v = .non ∧ H2 a = some (exo a C none) ∧ Q (.ref C) none (del H2 a)) E0
section
variable {X : Cx}
/-- the error is let go: it isn't tracked any more -/
theorem let_go {pins : List (Addr × Obj)} {σ : L2.St} {H H2 : Hp} {Q : XK} {hp hp2 h2 : Heap} {g1 g2 : Array GenState} {d1 d2 : Drawn} {t1 t2 : Nat} {os1 os2 : OsState} {a C : Addr} (T : Raises X (.ref C))
    (I : Inv X pins σ H ⟨hp, g1, d1, t1, os1⟩) (ha : hp.objs.size ≤ a) (k : ∀ b o, hp.get? b = some o → hp2.get? b = some o) (un : Un (frs X.stack) [] (upd H a (exo a C none)) H2 hp2 h2) (hok : HOk X.prog X.w H2 h2)
    (ho : os2 = os1) (hb : AllBare g2) (ea : H2 a = some (exo a C none)) (q : Q (.ref C) none (del H2 a)) : MkP X pins σ Q (.ref a) ⟨h2, g2, d2, t2, os2⟩ := by
  obtain ⟨t0, at2⟩ := exo_at hok ea
  have n1 : H a = none := I.hok.fresh ha
  obtain ⟨G, ga, gb⟩ := restrict h2 fun b => decide (b ≠ a)
  have same : ∀ b, b ≠ a → G.get? b = h2.get? b := fun b z => ga b (decide_eq_true z)
  have gone : G.get? a = none := gb a (by simp)
  have off : ∀ {b : Addr} {o : Obj}, hp.get? b = some o → b ≠ a := fun {b o} z => Nat.ne_of_lt (Nat.lt_of_lt_of_le (Heap.lt_size z) ha)
  have nn : ∀ {b : Addr}, b ≠ a → H b = none → upd H a (exo a C none) b = none := fun {b} z n => by
    rw [upd_ne z]
    exact n
  have U : Un (frs X.stack) [] H (del H2 a) hp G := by
    refine ⟨?_, ?_, ?_, ?_, ?_, ?_, ?_⟩
    · intro b o z n hf hx
      rw [same b (off z)]
      exact un.keep b o (k b o z) (nn (off z) n) hf hx
    · intro b o z n hf hx
      rw [same b (off z)]
      exact un.slot b o (k b o z) (nn (off z) n) hf hx
    · intro b o z n hx
      rw [del_ne (off z)]
      exact un.free b o (k b o z) (nn (off z) n) hx
    · intro b o z hx
      rw [same b (off z)]
      exact un.there b o (k b o z) hx
    · intro b xs z
      have nb := ne_of_none z n1
      rw [del_ne nb]
      exact un.tups b xs (by rw [upd_ne nb]; exact z)
    · intro b o v z
      have nb := ne_of_none z n1
      rw [del_ne nb]
      exact un.frzs b o v (by rw [upd_ne nb]; exact z)
    · intro b ps z
      have nb := ne_of_none z n1
      rw [del_ne nb]
      exact un.tbls b ps (by rw [upd_ne nb]; exact z)
  have hok3 : HOk X.prog X.w (del H2 a) G := by
    intro b o z
    have nb : b ≠ a := by
      intro e
      rw [e, del_same] at z
      cases z
    rw [del_ne nb] at z
    have noa : ∀ {c : Addr}, H2 c = some (.own b) → c ≠ a := fun {c} hc => at_ne ea hc exo_own
    refine (hok b o z).stay ?_ ?_ ?_
    · intro c v hc y
      have nc : c ≠ a := by
        rcases hc with e | e
        · rw [e]
          exact nb
        · exact noa e
      rw [same c nc]
      exact y
    · intro c hc
      rw [del_ne (noa hc)]
      exact hc
    · intro c xs hc
      rw [del_ne (at_ne ea hc exo_tup)]
      exact hc
  have J : Inv X pins σ (del H2 a) ⟨G, g2, d2, t2, os2⟩ := I.call' (ch := []) ho U hok3 hb (fun b z => absurd z (by simp))
  refine ⟨a, _, _, ⟨G, g2, d2, t2, os2⟩, _, .ref C, none, rfl, J, ?_, gone, at2, ⟨rfl, rfl⟩, rfl, rfl, del_same, rfl, hb, T, q⟩
  intro b o z
  by_cases nb : b = a
  · rw [nb, gone] at z
    cases z
  · exact (same b nb).symm.trans z
theorem pmk_oex0 {x : Str} {C fI : Addr} {k : Nat} {fd : FuncData} {ps : List Str} {sp : Sp} {p pos : Pos} (T : OexC X.K C) (iC : PySem.W.findIn X.K (.ref C) "__init__" = some (some (.ref fI)))
    (tI : PySem.W.typeIn X.K (.ref fI) = some (.type "function")) (F1 : FnOk X.prog X.w X.K X.mg X.base CX0 k fI fd ps sp) (hr : Room (k + 1) X.A) (hb : Binds X.K fd ps []) (hg : Gl X x) (hm : X.mg x = some (.ref C))
    (hdb : (x == ("__debug__" : Str)) = false := by decide) : PMk X (.Call (.Name x p) [] [] pos) (tMk0 C sp) := by
  intro pins s σ H Q I h
  obtain ⟨nm, q, N, bs, bm, sn, sub, ab, col, dd, k0, k1, k2, k3, k5, hC, hbm⟩ := T.cls
  refine wpAny_Call_Name_kw (ld_glob I hg hm ?_ hdb)
  refine PySem.W.callWith_K0 I.kIn T.kC ?_
  show wpAny _ _ (call (.ref C) []) _ _ _
  obtain ⟨hp, g, dr, tk, os⟩ := s
  have up1 : hp.objs.size ≤ hp.objs.size + 1 := Nat.le_succ _
  have hq := h (hp.objs.size + 1) (I.hok.fresh up1)
  have kk : ∀ b o, hp.get? b = some o → ((hp.push (PySem.W.kdv_tup [])).push (PySem.HandSPX.excO C hp.objs.size)).get? b = some o := fun b o e => Heap.get?_push_of_some _ (Heap.get?_push_of_some _ e)
  have hget : ((hp.push (PySem.W.kdv_tup [])).push (PySem.HandSPX.excO C hp.objs.size)).get? (hp.objs.size + 1) = some (PySem.HandSPX.excO C hp.objs.size) := by heap_get
  have I2 : Inv X pins σ (upd H (hp.objs.size + 1) (exo (hp.objs.size + 1) C none)) ⟨(hp.push (PySem.W.kdv_tup [])).push (PySem.HandSPX.excO C hp.objs.size), g, dr, tk, os⟩ :=
    I.laid (t' := tk) (a := hp.objs.size + 1) (o := exo (hp.objs.size + 1) C none) kk up1 (exo_ok hget)
  have r2 : L2.Vals [V.ref (hp.objs.size + 1)] [Value.ref (hp.objs.size + 1)] := .cons (show L2.RelV (.ref _) (.ref _) from rfl) .nil
  have hl : ([Value.ref (hp.objs.size + 1)] ++ ([] : List Value)).length = ps.length := F1.len _ _ _ _ hq
  have bd := hb ⟨(hp.push (PySem.W.kdv_tup [])).push (PySem.HandSPX.excO C hp.objs.size), g, dr, tk, os⟩ [Value.ref (hp.objs.size + 1)] I2.kIn hl
  rw [List.append_nil] at bd
  have run := F1.run _ X.stack _ _ ⟨[Value.ref (hp.objs.size + 1)], []⟩ [Value.ref (hp.objs.size + 1)] [V.ref (hp.objs.size + 1)] _ E0 (hr.make C [] []) (I2.env0.make C [] []) bd r2 hq
  refine wpAny_call (PySem.HandSPX.call_own PySem.F.excBase_ValueError (fun Y => PySem.HandSPX.refsVE_contains Y bm hbm) (I.kIn _ _ hC) (PySem.W.looks_findIn I.kIn iC) (fun self => PySem.W.bind_fn I.kIn self tI) (by rw [sizeLine_eq]; decide)
    (codeAny_mono run ?_))
  intro r s' hq'
  match r, hq' with
  | .error er, z => exact z.elim
  | .ok (.ret u), z =>
    obtain ⟨v, H2, os2, bare2, un2, hok2, rv, ev, ea, q2⟩ := z
    subst ev
    obtain ⟨h2, g2, d2, t2, os'⟩ := s'
    exact ⟨rv, let_go (raises_own T.exC T.tyC) I up1 kk un2 hok2 os2 bare2 ea q2⟩
end
end Gd
end

section
set_option Elab.async false
set_option linter.all false
set_option maxRecDepth 100000
set_option maxHeartbeats 4000000
/-! The end of a law row with tables of code objects, for promises that hold where no repr is under way. -/
namespace Gd
open PySem PySem.Spec PyProof.Rows L2 LamX
theorem law_gT {P : Program} {w : World} {K : PySem.W.Frag} {mg mb : Str → Option Value} {CX : CXT} {k : Nat} {fa a : Addr} {cs : List (Addr × Addr)} {fd : FuncData} {x : Str} {sp : Sp} {s0 : Shared} {vs : List Value} {ns : List Int}
    (KX : K.In s0.heap) (hns : s0.heap.Ns mainGlobals mg) (hb : s0.heap.Ns builtinsNs mb) (hbb : ∀ x : Str, x ≠ "__name__" → mb x = bootBuiltins x) (hlim : s0.heap.NoLimit) (hg : s0.gens = #[])
    (hT : ∀ p ∈ cs, s0.heap.get? p.2 = some { cls := .none, data := .fields #[] }) (nT : ∀ p ∈ cs, K.lookup p.2 = none) (C : ∀ p ∈ cs, PySem.W.CodeHd s0.heap p.1 p.2)
    (hbm : ∃ (bm : Addr) (ob : Obj), mg "__builtins__" = some (.ref bm) ∧ bm ≠ builtinsNs ∧ s0.heap.get? bm = some ob ∧ ob.cls = .type "module" ∧ ob.dict = some builtinsNs ∧ ob.data = .plain)
    (ha : s0.heap.get? a = some { cls := .type "list", data := .seq vs.toArray }) (hi : IntsAre vs ns) (hl : ns.length ≤ sizeLine) (hr : Room k callerA)
    (F : ∀ base : Heap, K.In base → base.Ns mainGlobals mg → (∀ p ∈ cs, TabB base mg p.1 p.2) → FnG P w K mg base CX k fa fd [x] sp)
    (hbind : ∀ (s : Shared) (u : Value), BindsTo s fd ⟨[u], []⟩ [(x, u)])
    (hsp : ∀ H : Hp, (∀ p ∈ cs, H p.2 = some (.tbl #[])) → SqL K H a (ns.map V.int) → sp [.ref a] H (fun v _ => v = .bl true) fun _ _ _ => False)
    (hCX : ∀ H e s', CX [] H s0 (fun _ _ _ => False) e s' → False) :
    codeAny (model P w) callerA (.call (.ref fa) ⟨[.ref a], []⟩) (fun r s' => r = .ok (.ret (.bool true)) ∧ OldK s0.heap s'.heap ∧ s'.os = s0.os ∧ AllBare s'.gens) s0 := by
  have rv := vals_ints hi
  have vlen := hi.length
  let TT : List Addr := cs.map (·.2)
  have inT : ∀ p ∈ cs, p.2 ∈ TT := fun p hp => List.mem_map.mpr ⟨p, hp, rfl⟩
  have ofT : ∀ b, b ∈ TT → ∃ p ∈ cs, p.2 = b := fun b z => List.mem_map.mp z
  have tabAt : ∀ b, b ∈ TT → s0.heap.get? b = some { cls := .none, data := .fields #[] } := by
    intro b z
    obtain ⟨p, hp, e⟩ := ofT b z
    exact e ▸ hT p hp
  have aNot : a ∉ TT := by
    intro z
    have q := tabAt a z
    rw [ha] at q
    have d : Data.seq vs.toArray _ = Data.fields #[] := congrArg Obj.data (Option.some.inj q)
    cases d
  -- H tracks the tables, and the script if the written part has it not
  have main : ∀ H : Hp, (∀ b, b ∈ TT → H b = some (.tbl #[])) → (∀ b u, H b = some u → b ∈ TT ∨ (b = a ∧ u = .frz { cls := .type "list", data := .seq vs.toArray } (.lst (ns.map V.int)) ∧ K.lookup a = none)) →
      SqL K H a (ns.map V.int) →
      codeAny (model P w) callerA (.call (.ref fa) ⟨[.ref a], []⟩) (fun r s' => r = .ok (.ret (.bool true)) ∧ OldK s0.heap s'.heap ∧ s'.os = s0.os ∧ AllBare s'.gens) s0 := by
    intro H hH hO hS
    have hok : HOk P w H s0.heap := by
      intro b u z
      rcases hO b u z with t | ⟨e1, e2, _⟩
      · have e := (hH b t).symm.trans z
        cases Option.some.inj e
        exact tabAt b t
      · subst e1 e2
        exact ⟨ha, by rw [List.length_map]; exact hl, vs, _, rv, ha⟩
    have other : ∀ {b : Addr} {o : Obj}, s0.heap.get? b = some o → (∀ us n, o.data ≠ .seq us n) → o.data ≠ .fields #[] → H b = none := by
      intro b o e h1 h2
      match q : H b with
      | none => rfl
      | some u =>
        rcases hO b u q with t | ⟨e1, _, _⟩
        · rw [tabAt b t] at e
          cases Option.some.inj e
          exact (h2 rfl).elim
        · rw [e1, ha] at e
          cases Option.some.inj e
          exact (h1 _ _ rfl).elim
    have nsB : ∀ {b : Addr} {m : Str → Option Value}, s0.heap.Ns b m → (hidT s0.heap H).Ns b m := by
      intro b m z
      obtain ⟨o, es, ep, e, d, r⟩ := z
      refine ⟨o, es, ep, hidT_get e (other e ?_ ?_), d, r⟩
      · intro us n z
        rw [d] at z
        cases z
      · intro z
        rw [d] at z
        cases z
    have KB : K.In (hidT s0.heap H) := by
      intro b o e
      refine hidT_get (KX b o e) ?_
      match q : H b with
      | none => rfl
      | some u =>
        rcases hO b u q with t | ⟨e1, _, e3⟩
        · obtain ⟨p, hp, ep⟩ := ofT b t
          rw [← ep, nT p hp] at e
          cases e
        · rw [e1, e3] at e
          cases e
    obtain ⟨mc, l1, l2⟩ := hlim
    have M : L2.Mod K mg (hidT s0.heap H) := ⟨KB, nsB hns, ⟨mb, nsB hb, hbb⟩, ⟨mc, nsB l1, l2⟩⟩
    have TB : ∀ p ∈ cs, TabB (hidT s0.heap H) mg p.1 p.2 := by
      intro p hp
      have tp := hT p hp
      refine ⟨?_, ?_, ?_⟩
      · obtain ⟨o, us, file, tf, flags, tg, inF, text, tt, e1, r1, r2, r3, r4, r5, r6, r7, r8, nz⟩ := C p hp
        refine ⟨o, us, file, tf, flags, tg, inF, text, tt, hidT_get e1 (other e1 ?_ ?_), r1, r2, r3, r4, r5, r6, r7, r8, nz⟩
        · intro us n z
          rw [r2] at z
          cases z
        · intro z
          rw [r2] at z
          cases z
          simp at r3
      · obtain ⟨bm, ob, b1, b2, b3, b4, b5, b6⟩ := hbm
        have nG : bm ≠ mainGlobals := by
          intro q
          obtain ⟨o, es, ep, e, d, _⟩ := hns
          rw [q, e] at b3
          cases Option.some.inj b3
          rw [d] at b6
          cases b6
        have nP : bm ≠ p.2 := by
          intro q
          rw [q, tp] at b3
          cases Option.some.inj b3
          cases b6
        refine ⟨bm, ob, b1, b2, nG, nP, hidT_get b3 (other b3 ?_ ?_), b4, b5, b6⟩
        · intro us n z
          rw [b6] at z
          cases z
        · intro z
          rw [b6] at z
          cases z
      · intro z
        obtain ⟨o, es, ep, e, d, _⟩ := hns
        rw [z, tp] at e
        cases Option.some.inj e
        cases d
    have E0' : Env0 P w K mg (hidT s0.heap H) callerA [] s0 H := by
      refine ⟨rfl, M, fun b o e => of_hidT e, Nat.le_of_eq (hidT_size _ _), trivial, fun b z => ?_, hok, .of_eq hg⟩
      exact absurd (show b ∈ ([] : List Addr) from z) (by simp)
    have run := (F _ KB (nsB hns) TB).go callerA [] s0 H ⟨[.ref a], []⟩ [.ref a] [.ref a] _ _ rfl hr E0' (hbind s0 (.ref a)) (.cons rfl .nil) (hsp H (fun p hp => hH _ (inT p hp)) hS)
    refine codeAny_mono run ?_
    intro r s' h
    match r, h with
    | .error e, h => exact (hCX H e s' h).elim
    | .ok (.ret u), h =>
      obtain ⟨v, H', os, bare, un, hok', r', q⟩ := h
      have ev : v = .bl true := q
      subst ev
      have eu : u = Value.bool true := r'
      subst eu
      have stays : ∀ b o, b ∉ TT → s0.heap.get? b = some o → s'.heap.get? b = some o := by
        intro b o nb e
        match q : H b with
        | none => exact un.keep b o e q (by intro z; exact absurd (show b ∈ ([] : List Addr) from z) (by simp)) (by simp)
        | some u =>
          rcases hO b u q with t | ⟨_, e2, _⟩
          · exact absurd t nb
          · subst e2
            have e1 := (hok b _ q).1
            have e2 := (hok' b _ (un.frzs b _ _ q)).1
            rw [e] at e1
            cases Option.some.inj e1
            exact e2
      have grown : ∀ p ∈ cs, ∃ more : Array Value, s'.heap.get? p.2 = some { cls := .none, data := .fields more } := by
        intro p hp
        obtain ⟨more, z⟩ := un.tbls p.2 #[] (hH _ (inT p hp))
        exact ⟨_, hok' p.2 _ z⟩
      refine ⟨rfl, ⟨fun b o e => ?_, fun b o e => ?_⟩, os, bare⟩
      · by_cases t : b ∈ TT
        · obtain ⟨p, hp, ep⟩ := ofT b t
          obtain ⟨more, hm⟩ := grown p hp
          rw [← ep] at e ⊢
          rw [hT p hp] at e
          cases Option.some.inj e
          exact .inr (.inl ⟨((C p hp).tab (hT p hp)).isCodeTable, rfl, #[], more, rfl, by rw [Array.empty_append]; exact hm⟩)
        · exact .inl (stays b o t e)
      · by_cases t : b ∈ TT
        · obtain ⟨p, hp, ep⟩ := ofT b t
          obtain ⟨more, hm⟩ := grown p hp
          exact ⟨_, ep ▸ hm⟩
        · exact ⟨o, stays b o t e⟩
  match hk : K.lookup a with
  | some o =>
    have e := KX a o hk
    rw [ha] at e
    cases Option.some.inj e
    let Hs : Hp := fun b => if b ∈ TT then some (.tbl #[]) else none
    refine main Hs (fun b t => if_pos t) (fun b u z => ?_) (.inr ⟨_, vs.toArray, _, hk, rfl, rfl, rfl, by rw [List.size_toArray, vlen]; exact hl, by simpa using rv⟩)
    by_cases t : b ∈ TT
    · exact .inl t
    · exact absurd ((if_neg t : Hs b = none).symm.trans z) (by simp)
  | none =>
    let Hs : Hp := fun b => if b ∈ TT then some (.tbl #[]) else if b = a then some (.frz { cls := .type "list", data := .seq vs.toArray } (.lst (ns.map V.int))) else none
    have atA : Hs a = some (.frz { cls := .type "list", data := .seq vs.toArray } (.lst (ns.map V.int))) := (if_neg aNot : Hs a = _).trans (if_pos rfl)
    refine main Hs (fun b t => if_pos t) (fun b u z => ?_) (.inl (.inr ⟨_, atA⟩))
    by_cases t : b ∈ TT
    · exact .inl t
    · have z1 := (if_neg t : Hs b = _).symm.trans z
      by_cases e : b = a
      · subst e
        have z2 := (if_pos rfl).symm.trans z1
        exact .inr ⟨rfl, (Option.some.inj z2).symm, hk⟩
      · exact absurd ((if_neg e).symm.trans z1) (by simp)
/-- what is known of the law's promise behind the head, at h -/
def LawG (l : PySem.W.OpenLaw) (w : World) (K : PySem.W.Frag) (CX : CXT) (k n : Nat) (x : Str) (mg : Str → Option Value) (fa : Addr) (h : Heap) : Prop :=
  ∃ (fd : FuncData) (cs : List (Addr × Addr)) (sp : Sp), (∀ p ∈ cs, h.get? p.2 = some { cls := .none, data := .fields #[] }) ∧ (∀ p ∈ cs, K.lookup p.2 = none) ∧
    (∀ p ∈ cs, PySem.W.CodeHd h p.1 p.2) ∧ (∀ (s : Shared) (u : Value), BindsTo s fd ⟨[u], []⟩ [(x, u)]) ∧
    (∀ (H : Hp) (a : Addr) (ns : List Int), ns.length ≤ n → (∀ z ∈ ns, Builtin.Int.intBits z ≤ 1048576) → (∀ p ∈ cs, H p.2 = some (.tbl #[])) → SqL K H a (ns.map V.int) →
      sp [.ref a] H (fun v _ => v = .bl true) fun _ _ _ => False) ∧
    ∀ base : Heap, K.In base → base.Ns mainGlobals mg → (∀ p ∈ cs, TabB base mg p.1 p.2) → FnG l.prog w K mg base CX k fa fd [x] sp
theorem walk_gT {l : PySem.W.OpenLaw} {n k : Nat} {q : Program} {loose : List Str} {XP : (Str → Option Value) → Heap → Prop} {YP : World → Heap → Prop} {d : DefRec} {K : Params → PySem.W.Frag} {CX : World → CXT} {x : Str}
    (hn : l.most = some n) (hn2 : n ≤ sizeLine) (hdf : d.params.defaults = []) (hr : Room k callerA) (hY : ∀ (w : World) (h : Heap), YP w h → (K w.params).In h)
    (F : ∀ (w : World) (mg : Str → Option Value) (fa : Addr) (h : Heap), YP w h → (K w.params).In h → h.Ns mainGlobals mg → mg d.name = some (.ref fa) → LawG l w (K w.params) (CX w) k n x mg fa h)
    (hCX : ∀ (w : World) (H : Hp) (s : Shared) (e : Value) (s' : Shared), CX w [] H s (fun _ _ _ => False) e s' → False) : PySem.W.WalkO q loose XP YP l.row.toRowW d [] (fun f vs => PySem.call f vs) := by
  refine Att.attach_callB hn hdf ?_
  intro w sA sB mg mb fa o pm cd doc a vs ns G Y ho hd hcd hmg hobj hints hlen hbits hg
  have KX := hY w _ Y
  obtain ⟨fd, cs, sp, hT, nT, C, hb, hsp, hF⟩ := F w mg fa _ Y KX G.T.g hmg
  exact law_gT KX G.T.g G.T.b G.T.builtins G.T.nolimit hg hT nT C G.T.bmain hobj hints (Nat.le_trans hlen hn2) hr hF hb (fun H hH hS => hsp H a ns hlen hbits hH hS) (fun H e s' => hCX w H sB e s')
end Gd
end

section
set_option Elab.async false
set_option linter.all false
set_option maxRecDepth 100000
set_option maxHeartbeats 0
namespace Kt
end Kt
namespace Toy
open PySem PySem.Spec PyProof.Rows L2 Gd LamX Kt KeyE

/-! ### the head: facts by names -/
/-- a def at an address -/
structure Df where
  at_ : PySem.W.Frag → Addr
  name : Str
  qual : Str
  st : Stmt
def fnA (K : PySem.W.Frag) (a : Addr) : He.FnW := match K.lookup a with
  | some ⟨_, _, .func fd, _⟩ => some (fd.name, fd.qualname, fd.params, fd.body, fd.scope, fd.globals, fd.closure, fd.builtins)
  | _ => none
def Df.val (d : Df) : He.FnW := some (d.name, d.qual, defArgs d.st, .stmts (defBody d.st), defScope d.st, mainGlobals, [], builtinsNs)
def Df.ok (K : PySem.W.Frag) (d : Df) : Bool := PySem.W.keepIn K (.ref (d.at_ K)) && (match K.lookup (d.at_ K) with
  | some ⟨_, _, .func fd, _⟩ => PySem.W.codeIn K fd.code d.qual && decide (fd.defaults = .none)
  | _ => false)
theorem Df.fun_ {K : PySem.W.Frag} {d : Df} (e : fnA K (d.at_ K) = d.val) (c : d.ok K = true) : ∃ fd, Fun K d.name d.qual d.st (d.at_ K) fd := by
  have kp := (He.ba c).1
  have cq := (He.ba c).2
  unfold fnA Df.val at e
  match hz : K.lookup (d.at_ K) with
  | none =>
    rw [hz] at cq
    cases cq
  | some ⟨oc, od, dt, osl⟩ =>
    rw [hz] at cq e
    match dt, hz, cq, e with
    | .func fd, hz, cq, e =>
      have k1 := (He.ba cq).1
      have k2 : fd.defaults = .none := of_decide_eq_true (He.ba cq).2
      injection e with e
      injection e with a1 e
      injection e with a2 e
      injection e with a3 e
      injection e with a4 e
      injection e with a5 e
      injection e with a6 e
      injection e with a7 a8
      refine ⟨fd, ⟨oc, od, fd.kwdefaults, fd.doc, fd.pyModule, fd.annotations, fd.code, fd.closureTuple, osl, ?_, hz, k1⟩, kp⟩
      cases fd
      dsimp only at a1 a2 a3 a4 a5 a6 a7 a8 k2
      subst a1 a2 a3 a4 a5 a6 a7 a8 k2
      rfl
theorem funOf {K : PySem.W.Frag} {x qual : Str} {st : Stmt} {f : Addr} {fd : FuncData} {kws : List (Str × V)} (F : FunD K x qual (defArgs st) (defBody st) (defScope st) [] kws f fd) : Fun K x qual st f fd := by
  obtain ⟨oc, od, dV, kV, doc, pm, an, cdv, ct, osl, rfl, lk, hcd, hD, hK⟩ := F.ex
  rcases hD with ⟨_, rfl⟩ | ⟨e, _⟩
  · exact ⟨⟨oc, od, kV, doc, pm, an, cdv, ct, osl, rfl, lk, hcd⟩, F.kp⟩
  · exact absurd rfl e

/-- an error class -/
def excQ (K : PySem.W.Frag) (C : Addr) : Bool := match K.lookup C with
  | some ⟨.type "type", _, .cls ⟨_, _, .ref C' :: bm, _, _, true, _, _, _, _, false⟩, ⟨[_, _, _, _, some (.builtin n), _]⟩⟩ => decide (C' = C) && (decide (n = "ValueError.__new__") && PySem.HandSPX.refsVE bm)
  | _ => false
theorem excQ_ok {K : PySem.W.Frag} {C : Addr} (q : excQ K C = true) : ∃ nm qn N bs bm sn sub ab col dd k0 k1 k2 k3 k5, K.lookup C = some (excClassObj nm qn C N bs bm true sn sub ab col dd k0 k1 k2 k3 k5 "ValueError.__new__") ∧ PySem.HandSPX.refsVE bm = true := by
  unfold excQ at q
  split at q
  · rename_i look
    obtain ⟨a, q⟩ := He.ba q
    obtain ⟨b, r⟩ := He.ba q
    have a' := of_decide_eq_true a
    have b' := of_decide_eq_true b
    subst a' b'
    exact ⟨_, _, _, _, _, _, _, _, _, _, _, _, _, _, _, look, r⟩
  · cases q
def errB (K : PySem.W.Frag) (x : Str) : Bool := excQ K (He.ga K x) && (decide (PySem.W.findIn K (.ref (He.ga K x)) "__setattr__" = some (some (.builtin "object.__setattr__"))) && (decide (PySem.W.subIn K (.ref (He.ga K x)) (.type "BaseException") = some true) &&
  (decide (PySem.W.typeIn K (.ref (He.ga K x)) = some (.type "type")) && (decide (PySem.W.findIn K (.ref (He.ga K x)) "__getattribute__" = some (some (.builtin "BaseException.__getattribute__"))) && (decide (PySem.W.findIn K (.ref (He.ga K x)) "__getattr__" = some none) &&
  (PySem.W.hasDictIn K (He.ga K x) && (decide (PySem.W.findIn K (.ref (He.ga K x)) "__class__" = some (some (.builtin "object.__class__"))) && (decide (PySem.W.mroIn K (He.ga K x) (.type "object") = some true) &&
  (decide (PySem.W.kitOne K (.ref (He.ga K x)) (.type "ValueError") = some true) && (decide (PySem.W.findIn K (.ref (He.ga K x)) "__init__" = some (some (.ref (He.ma K (He.ga K x) "__init__")))) && decide (PySem.W.typeIn K (.ref (He.ma K (He.ga K x) "__init__")) = some (.type "function")))))))))))) 
structure ErrF (K : PySem.W.Frag) (x : Str) : Prop where
  q : ∃ nm qn N bs bm sn sub ab col dd k0 k1 k2 k3 k5, K.lookup (He.ga K x) = some (excClassObj nm qn (He.ga K x) N bs bm true sn sub ab col dd k0 k1 k2 k3 k5 "ValueError.__new__") ∧ PySem.HandSPX.refsVE bm = true
  sa : PySem.W.findIn K (.ref (He.ga K x)) "__setattr__" = some (some (.builtin "object.__setattr__"))
  exC : PySem.W.subIn K (.ref (He.ga K x)) (.type "BaseException") = some true
  tyC : PySem.W.typeIn K (.ref (He.ga K x)) = some (.type "type")
  gb : PySem.W.findIn K (.ref (He.ga K x)) "__getattribute__" = some (some (.builtin "BaseException.__getattribute__"))
  gg : PySem.W.findIn K (.ref (He.ga K x)) "__getattr__" = some none
  hd : PySem.W.hasDictIn K (He.ga K x) = true
  cl : PySem.W.findIn K (.ref (He.ga K x)) "__class__" = some (some (.builtin "object.__class__"))
  hm : PySem.W.mroIn K (He.ga K x) (.type "object") = some true
  kv : PySem.W.kitOne K (.ref (He.ga K x)) (.type "ValueError") = some true
  iC : PySem.W.findIn K (.ref (He.ga K x)) "__init__" = some (some (.ref (He.ma K (He.ga K x) "__init__")))
  tI : PySem.W.typeIn K (.ref (He.ma K (He.ga K x) "__init__")) = some (.type "function")
theorem errB_ok {K : PySem.W.Frag} {x : Str} (h : errB K x = true) : ErrF K x := by
  obtain ⟨h1, h⟩ := He.ba h
  obtain ⟨h2, h⟩ := He.ba h
  obtain ⟨h3, h⟩ := He.ba h
  obtain ⟨h4, h⟩ := He.ba h
  obtain ⟨h5, h⟩ := He.ba h
  obtain ⟨h6, h⟩ := He.ba h
  obtain ⟨h7, h⟩ := He.ba h
  obtain ⟨h8, h⟩ := He.ba h
  obtain ⟨h9, h⟩ := He.ba h
  obtain ⟨h10, h⟩ := He.ba h
  obtain ⟨h11, h12⟩ := He.ba h
  exact ⟨excQ_ok h1, of_decide_eq_true h2, of_decide_eq_true h3, of_decide_eq_true h4, of_decide_eq_true h5, of_decide_eq_true h6, h7, of_decide_eq_true h8, of_decide_eq_true h9, of_decide_eq_true h10, of_decide_eq_true h11, of_decide_eq_true h12⟩

/-- an error class over KeyError -/
def excU (K : PySem.W.Frag) (C : Addr) : Bool := match K.lookup C with
  | some ⟨.type "type", _, .cls ⟨_, _, .ref C' :: bm, _, _, true, _, _, _, _, false⟩, ⟨[_, _, _, _, some (.builtin n), _]⟩⟩ => decide (C' = C) && (decide (n = KeyE.nw) && KeyE.refsKE bm)
  | _ => false
theorem excU_ok {K : PySem.W.Frag} {C : Addr} (q : excU K C = true) : ∃ nm qn N bs bm sn sub ab col dd k0 k1 k2 k3 k5, K.lookup C = some (excClassObj nm qn C N bs bm true sn sub ab col dd k0 k1 k2 k3 k5 KeyE.nw) ∧ KeyE.refsKE bm = true := by
  unfold excU at q
  split at q
  · rename_i look
    obtain ⟨a, q⟩ := He.ba q
    obtain ⟨b, r⟩ := He.ba q
    have a' := of_decide_eq_true a
    have b' := of_decide_eq_true b
    subst a' b'
    exact ⟨_, _, _, _, _, _, _, _, _, _, _, _, _, _, _, look, r⟩
  · cases q
def errK (K : PySem.W.Frag) (x : Str) : Bool := excU K (He.ga K x) && (decide (PySem.W.findIn K (.ref (He.ga K x)) "__setattr__" = some (some (.builtin "object.__setattr__"))) && (decide (PySem.W.subIn K (.ref (He.ga K x)) (.type "BaseException") = some true) &&
  (decide (PySem.W.typeIn K (.ref (He.ga K x)) = some (.type "type")) && (decide (PySem.W.findIn K (.ref (He.ga K x)) "__getattribute__" = some (some (.builtin "BaseException.__getattribute__"))) && (decide (PySem.W.findIn K (.ref (He.ga K x)) "__getattr__" = some none) &&
  (PySem.W.hasDictIn K (He.ga K x) && (decide (PySem.W.findIn K (.ref (He.ga K x)) "__class__" = some (some (.builtin "object.__class__"))) && (decide (PySem.W.mroIn K (He.ga K x) (.type "object") = some true) &&
  (decide (PySem.W.kitOne K (.ref (He.ga K x)) (.type "KeyError") = some true) && (decide (PySem.W.findIn K (.ref (He.ga K x)) "__init__" = some (some (.ref (He.ma K (He.ga K x) "__init__")))) && decide (PySem.W.typeIn K (.ref (He.ma K (He.ga K x) "__init__")) = some (.type "function")))))))))))) 
structure ErrU (K : PySem.W.Frag) (x : Str) : Prop where
  q : ∃ nm qn N bs bm sn sub ab col dd k0 k1 k2 k3 k5, K.lookup (He.ga K x) = some (excClassObj nm qn (He.ga K x) N bs bm true sn sub ab col dd k0 k1 k2 k3 k5 KeyE.nw) ∧ KeyE.refsKE bm = true
  sa : PySem.W.findIn K (.ref (He.ga K x)) "__setattr__" = some (some (.builtin "object.__setattr__"))
  exC : PySem.W.subIn K (.ref (He.ga K x)) (.type "BaseException") = some true
  tyC : PySem.W.typeIn K (.ref (He.ga K x)) = some (.type "type")
  gb : PySem.W.findIn K (.ref (He.ga K x)) "__getattribute__" = some (some (.builtin "BaseException.__getattribute__"))
  gg : PySem.W.findIn K (.ref (He.ga K x)) "__getattr__" = some none
  hd : PySem.W.hasDictIn K (He.ga K x) = true
  cl : PySem.W.findIn K (.ref (He.ga K x)) "__class__" = some (some (.builtin "object.__class__"))
  hm : PySem.W.mroIn K (He.ga K x) (.type "object") = some true
  kv : PySem.W.kitOne K (.ref (He.ga K x)) (.type "KeyError") = some true
  iC : PySem.W.findIn K (.ref (He.ga K x)) "__init__" = some (some (.ref (He.ma K (He.ga K x) "__init__")))
  tI : PySem.W.typeIn K (.ref (He.ma K (He.ga K x) "__init__")) = some (.type "function")
theorem errK_ok {K : PySem.W.Frag} {x : Str} (h : errK K x = true) : ErrU K x := by
  obtain ⟨h1, h⟩ := He.ba h
  obtain ⟨h2, h⟩ := He.ba h
  obtain ⟨h3, h⟩ := He.ba h
  obtain ⟨h4, h⟩ := He.ba h
  obtain ⟨h5, h⟩ := He.ba h
  obtain ⟨h6, h⟩ := He.ba h
  obtain ⟨h7, h⟩ := He.ba h
  obtain ⟨h8, h⟩ := He.ba h
  obtain ⟨h9, h⟩ := He.ba h
  obtain ⟨h10, h⟩ := He.ba h
  obtain ⟨h11, h12⟩ := He.ba h
  exact ⟨excU_ok h1, of_decide_eq_true h2, of_decide_eq_true h3, of_decide_eq_true h4, of_decide_eq_true h5, of_decide_eq_true h6, h7, of_decide_eq_true h8, of_decide_eq_true h9, of_decide_eq_true h10, of_decide_eq_true h11, of_decide_eq_true h12⟩

/-- an error class over ArithmeticError -/
def excV (K : PySem.W.Frag) (C : Addr) : Bool := match K.lookup C with
  | some ⟨.type "type", _, .cls ⟨_, _, .ref C' :: bm, _, _, true, _, _, _, _, false⟩, ⟨[_, _, _, _, some (.builtin n), _]⟩⟩ => decide (C' = C) && (decide (n = AriE.nw) && AriE.refsAE bm)
  | _ => false
theorem excV_ok {K : PySem.W.Frag} {C : Addr} (q : excV K C = true) : ∃ nm qn N bs bm sn sub ab col dd k0 k1 k2 k3 k5, K.lookup C = some (excClassObj nm qn C N bs bm true sn sub ab col dd k0 k1 k2 k3 k5 AriE.nw) ∧ AriE.refsAE bm = true := by
  unfold excV at q
  split at q
  · rename_i look
    obtain ⟨a, q⟩ := He.ba q
    obtain ⟨b, r⟩ := He.ba q
    have a' := of_decide_eq_true a
    have b' := of_decide_eq_true b
    subst a' b'
    exact ⟨_, _, _, _, _, _, _, _, _, _, _, _, _, _, _, look, r⟩
  · cases q
def errA (K : PySem.W.Frag) (x : Str) : Bool := excV K (He.ga K x) && (decide (PySem.W.findIn K (.ref (He.ga K x)) "__setattr__" = some (some (.builtin "object.__setattr__"))) && (decide (PySem.W.subIn K (.ref (He.ga K x)) (.type "BaseException") = some true) &&
  (decide (PySem.W.typeIn K (.ref (He.ga K x)) = some (.type "type")) && (decide (PySem.W.findIn K (.ref (He.ga K x)) "__getattribute__" = some (some (.builtin "BaseException.__getattribute__"))) && (decide (PySem.W.findIn K (.ref (He.ga K x)) "__getattr__" = some none) &&
  (PySem.W.hasDictIn K (He.ga K x) && (decide (PySem.W.findIn K (.ref (He.ga K x)) "__class__" = some (some (.builtin "object.__class__"))) && (decide (PySem.W.mroIn K (He.ga K x) (.type "object") = some true) &&
  (decide (PySem.W.kitOne K (.ref (He.ga K x)) (.type "ArithmeticError") = some true) && (decide (PySem.W.findIn K (.ref (He.ga K x)) "__init__" = some (some (.ref (He.ma K (He.ga K x) "__init__")))) && decide (PySem.W.typeIn K (.ref (He.ma K (He.ga K x) "__init__")) = some (.type "function")))))))))))) 
structure ErrA (K : PySem.W.Frag) (x : Str) : Prop where
  q : ∃ nm qn N bs bm sn sub ab col dd k0 k1 k2 k3 k5, K.lookup (He.ga K x) = some (excClassObj nm qn (He.ga K x) N bs bm true sn sub ab col dd k0 k1 k2 k3 k5 AriE.nw) ∧ AriE.refsAE bm = true
  sa : PySem.W.findIn K (.ref (He.ga K x)) "__setattr__" = some (some (.builtin "object.__setattr__"))
  exC : PySem.W.subIn K (.ref (He.ga K x)) (.type "BaseException") = some true
  tyC : PySem.W.typeIn K (.ref (He.ga K x)) = some (.type "type")
  gb : PySem.W.findIn K (.ref (He.ga K x)) "__getattribute__" = some (some (.builtin "BaseException.__getattribute__"))
  gg : PySem.W.findIn K (.ref (He.ga K x)) "__getattr__" = some none
  hd : PySem.W.hasDictIn K (He.ga K x) = true
  cl : PySem.W.findIn K (.ref (He.ga K x)) "__class__" = some (some (.builtin "object.__class__"))
  hm : PySem.W.mroIn K (He.ga K x) (.type "object") = some true
  kv : PySem.W.kitOne K (.ref (He.ga K x)) (.type "ArithmeticError") = some true
  iC : PySem.W.findIn K (.ref (He.ga K x)) "__init__" = some (some (.ref (He.ma K (He.ga K x) "__init__")))
  tI : PySem.W.typeIn K (.ref (He.ma K (He.ga K x) "__init__")) = some (.type "function")
theorem errA_ok {K : PySem.W.Frag} {x : Str} (h : errA K x = true) : ErrA K x := by
  obtain ⟨h1, h⟩ := He.ba h
  obtain ⟨h2, h⟩ := He.ba h
  obtain ⟨h3, h⟩ := He.ba h
  obtain ⟨h4, h⟩ := He.ba h
  obtain ⟨h5, h⟩ := He.ba h
  obtain ⟨h6, h⟩ := He.ba h
  obtain ⟨h7, h⟩ := He.ba h
  obtain ⟨h8, h⟩ := He.ba h
  obtain ⟨h9, h⟩ := He.ba h
  obtain ⟨h10, h⟩ := He.ba h
  obtain ⟨h11, h12⟩ := He.ba h
  exact ⟨excV_ok h1, of_decide_eq_true h2, of_decide_eq_true h3, of_decide_eq_true h4, of_decide_eq_true h5, of_decide_eq_true h6, h7, of_decide_eq_true h8, of_decide_eq_true h9, of_decide_eq_true h10, of_decide_eq_true h11, of_decide_eq_true h12⟩

def levD : List (Str × He.Dv) := [("+", He.Dv.int 1), ("-", He.Dv.int 1), ("*", He.Dv.int 2), ("//", He.Dv.int 2), ("minus", He.Dv.int 3)]
def iniB (K : PySem.W.Frag) (T : String) (n : String) : Bool := match PySem.W.findCls K (.type T) (.type "type") "__init__" with
    | some (.val v) => decide (v = .builtin n)
    | _ => false
theorem iniB_ok {K : PySem.W.Frag} {T n : String} (h : iniB K T n = true) : PySem.W.findCls K (.type T) (.type "type") "__init__" = some (.val (.builtin n)) := by
  unfold iniB at h
  split at h
  · rename_i v e
    rw [e, of_decide_eq_true h]
  · cases h
def miB (K : PySem.W.Frag) : Bool := decide (PySem.W.specialIn K (.builtin "object.__class__") "__get__" = some (some (.builtin "getset_descriptor.__get__"))) && (decide (PySem.W.takesIn K (.builtin "object.__class__") = some true) && (iniB K "ValueError" "ValueError.__init__" && (iniB K "KeyError" "KeyError.__init__" && (iniB K "ArithmeticError" "ArithmeticError.__init__" &&
  (He.tupB K "RESERVED" [.str "min", .str "max", .str "self"] && He.valsB K (He.ga K "LEVELS") levD)))))
structure MiF (K : PySem.W.Frag) : Prop where
  hn : PySem.W.specialIn K (.builtin "object.__class__") "__get__" = some (some (.builtin "getset_descriptor.__get__"))
  ht : PySem.W.takesIn K (.builtin "object.__class__") = some true
  vV : PySem.W.findCls K (.type "ValueError") (.type "type") "__init__" = some (.val (.builtin "ValueError.__init__"))
  vK : PySem.W.findCls K (.type "KeyError") (.type "type") "__init__" = some (.val (.builtin "KeyError.__init__"))
  vA : PySem.W.findCls K (.type "ArithmeticError") (.type "type") "__init__" = some (.val (.builtin "ArithmeticError.__init__"))
  rs : ∀ H : Hp, SqT K H (He.ga K "RESERVED") [.str "min", .str "max", .str "self"]
  lv : He.valsB K (He.ga K "LEVELS") levD = true
theorem miB_ok {K : PySem.W.Frag} (h : miB K = true) : MiF K := by
  obtain ⟨h1, h⟩ := He.ba h
  obtain ⟨h2, h⟩ := He.ba h
  obtain ⟨h3, h⟩ := He.ba h
  obtain ⟨h4, h⟩ := He.ba h
  obtain ⟨h7, h⟩ := He.ba h
  obtain ⟨h5, h6⟩ := He.ba h
  exact ⟨of_decide_eq_true h1, of_decide_eq_true h2, iniB_ok h3, iniB_ok h4, iniB_ok h7, He.tupB_ok h5, h6⟩
def tsL : List He.Tab := [(fun K => He.ga K "LEVELS", ["+", "-", "*", "//", "minus"])]
def hookY (n : Nat) (fa : List He.Fa) (fn : List He.DefD) (tf : List He.Defn) (ex : PySem.W.Frag → Bool) (ps : List Df) : PySem.W.Hook where
  α := He.AlX × List He.FnW
  obs := fun s => (He.obsX n fa fn tsL tf ex s.heap.get?, ps.map fun d => fnA (He.frT s.heap.get? (He.asD s.heap.get? n)) (d.at_ (He.frT s.heap.get? (He.asD s.heap.get? n))))
  val := fun w => (He.valX fn tsL w, ps.map Df.val)
  says := fun w h => ∃ K : PySem.W.Frag, K.In h ∧ He.SaysX fa fn tsL tf ex w h K ∧ ps.map (fun d => fnA K (d.at_ K)) = ps.map Df.val
  of := fun _ _ e => ⟨_, He.frT_in, He.saysX_of (Prod.mk.inj e).1, (Prod.mk.inj e).2⟩
  keeps := fun _ _ _ ⟨K, hK, c, m⟩ k => ⟨K, PySem.W.Frag.In.keeps hK k, ⟨c.t, c.more, c.hd, c.out, fun p hp => k _ _ (c.empty p hp)⟩, m⟩
theorem walk_gE {l : PySem.W.OpenLaw} {n k : Nat} {q : Program} {loose : List Str} {XP : (Str → Option Value) → Heap → Prop} {YP : World → Heap → Prop} {d : DefRec} {CX : CXT} {x : Str}
    (hn : l.most = some n) (hn2 : n ≤ sizeLine) (hdf : d.params.defaults = []) (hr : Room k callerA)
    (F : ∀ (w : World) (mg : Str → Option Value) (fa : Addr) (h : Heap), YP w h → h.Ns mainGlobals mg → mg d.name = some (.ref fa) → ∃ K : PySem.W.Frag, K.In h ∧ LawG l w K CX k n x mg fa h)
    (hCX : ∀ (H : Hp) (s : Shared) (e : Value) (s' : Shared), CX [] H s (fun _ _ _ => False) e s' → False) : PySem.W.WalkO q loose XP YP l.row.toRowW d [] (fun f vs => PySem.call f vs) := by
  refine Att.attach_callB hn hdf ?_
  intro w sA sB mg mb fa o pm cd doc a vs ns G Y ho hd hcd hmg hobj hints hlen hbits hg
  obtain ⟨K, KX, fd, cs, sp, hT, nT, C, hb, hsp, hF⟩ := F w mg fa _ Y G.T.g hmg
  exact law_gT KX G.T.g G.T.b G.T.builtins G.T.nolimit hg hT nT C G.T.bmain hobj hints (Nat.le_trans hlen hn2) hr hF hb (fun H hH hS => hsp H a ns hlen hbits hH hS) (fun H e s' => hCX H sB e s')


def faL : List He.Fa := [.glo "ParseError", .glo "NotLinear", .glo "Failed", .glo "UnknownName", .glo "Reader", .glo "Formula", .glo "LEVELS", .glo "RESERVED", .glo "is_within", .glo "result_of", .glo "combined", .glo "total_of", .glo "dependence_of", .glo "dependence_of_both", .glo "slope_and_rest", .glo "free_part", .glo "combined_parts", .glo "_law_pen", .glo "_law_draw", .glo "_law_pick", .glo "_law_around", .glo "_law_great", .glo "_law_names", .glo "_law_tree", .glo "_law_gap", .glo "_law_text_of", .glo "_law_formula", .glo "_law_reads", .glo "_law_exact", .glo "_law_worth", .glo "_law_results", .glo "_law_is_line", .glo "_law_failures", .glo "_law_told", .glo "_law_values", .glo "law", .free "ValueError", .free "KeyError", .free "ArithmeticError", .free "isinstance", .free "int", .free "str", .free "len", .free "abs", .free "max", .free "min", .free "list", .free "tuple", .free "range", .free "sorted", .free "set", .free "dict", .int "MOST_DIGITS" 31, .int "MOST_LETTERS" 8, .int "LOOSEST" 1, .int "MOST_CHARACTERS" 100, .int "LIMIT" 1000000000000000000000000000000, .str "OPERAND" "operand", .str "OPERATOR" "operator", .str "BRACKET" "bracket", .str "DIGITS" "0123456789", .str "LETTERS" "abcdefghijklmnopqrstuvwxyz", .str "FREE" "free", .str "LINEAR" "linear", .str "OTHER" "other", .cls "Reader", .mkr "Reader", .cls "Formula", .mkr "Formula", .noat "Reader" "text", .noat "Reader" "place", .noat "Reader" "code", .noat "Reader" "waiting", .noat "Formula" "text", .noat "Formula" "_code", .noat "Formula" "_reads", .noat "Formula" "names", .meth "Reader" "read", .meth "Reader" "skip_spaces", .meth "Reader" "run_of", .meth "Reader" "read_operand", .meth "Reader" "read_word", .meth "Reader" "read_bracket", .meth "Reader" "read_operator", .meth "Reader" "read_comma", .meth "Reader" "read_end", .meth "Reader" "finish", .meth "Formula" "first_missing", .meth "Formula" "linear", .meth "Formula" "dependence", .noat "ParseError" "index", .noat "UnknownName" "name", .noat "NotLinear" "name", .noat "Failed" "word", .exm "NotLinear" "NotLinear" true, .exm "Failed" "NotLinear" false, .exm "Failed" "Failed" true, .exm "UnknownName" "NotLinear" false, .exm "UnknownName" "Failed" false, .exm "UnknownName" "UnknownName" true, .keep "ParseError", .keep "UnknownName", .keep "NotLinear", .keep "Failed"]
abbrev dN0 : He.DefD := ⟨("ParseError", some "__init__"), "__init__", "ParseError.__init__", defArgs (inClass (top 2) 0), defBody (inClass (top 2) 0), defScope (inClass (top 2) 0), [], []⟩
abbrev dN1 : He.DefD := ⟨("NotLinear", some "__init__"), "__init__", "NotLinear.__init__", defArgs (inClass (top 3) 0), defBody (inClass (top 3) 0), defScope (inClass (top 3) 0), [], []⟩
abbrev dN2 : He.DefD := ⟨("Failed", some "__init__"), "__init__", "Failed.__init__", defArgs (inClass (top 4) 0), defBody (inClass (top 4) 0), defScope (inClass (top 4) 0), [], []⟩
abbrev dN3 : He.DefD := ⟨("UnknownName", some "__init__"), "__init__", "UnknownName.__init__", defArgs (inClass (top 5) 0), defBody (inClass (top 5) 0), defScope (inClass (top 5) 0), [], []⟩
abbrev dN4 : He.DefD := ⟨("Reader", some "__init__"), "__init__", "Reader.__init__", defArgs (inClass (top 20) 0), defBody (inClass (top 20) 0), defScope (inClass (top 20) 0), [], []⟩
abbrev dN5 : He.DefD := ⟨("Reader", some "read"), "read", "Reader.read", defArgs (inClass (top 20) 1), defBody (inClass (top 20) 1), defScope (inClass (top 20) 1), [], []⟩
abbrev dN6 : He.DefD := ⟨("Reader", some "skip_spaces"), "skip_spaces", "Reader.skip_spaces", defArgs (inClass (top 20) 2), defBody (inClass (top 20) 2), defScope (inClass (top 20) 2), [], []⟩
abbrev dN7 : He.DefD := ⟨("Reader", some "run_of"), "run_of", "Reader.run_of", defArgs (inClass (top 20) 3), defBody (inClass (top 20) 3), defScope (inClass (top 20) 3), [], []⟩
abbrev dN8 : He.DefD := ⟨("Reader", some "read_operand"), "read_operand", "Reader.read_operand", defArgs (inClass (top 20) 4), defBody (inClass (top 20) 4), defScope (inClass (top 20) 4), [], []⟩
abbrev dN9 : He.DefD := ⟨("Reader", some "read_word"), "read_word", "Reader.read_word", defArgs (inClass (top 20) 5), defBody (inClass (top 20) 5), defScope (inClass (top 20) 5), [], []⟩
abbrev dN10 : He.DefD := ⟨("Reader", some "read_bracket"), "read_bracket", "Reader.read_bracket", defArgs (inClass (top 20) 6), defBody (inClass (top 20) 6), defScope (inClass (top 20) 6), [], []⟩
abbrev dN11 : He.DefD := ⟨("Reader", some "read_operator"), "read_operator", "Reader.read_operator", defArgs (inClass (top 20) 7), defBody (inClass (top 20) 7), defScope (inClass (top 20) 7), [], []⟩
abbrev dN12 : He.DefD := ⟨("Reader", some "read_comma"), "read_comma", "Reader.read_comma", defArgs (inClass (top 20) 8), defBody (inClass (top 20) 8), defScope (inClass (top 20) 8), [], []⟩
abbrev dN13 : He.DefD := ⟨("Reader", some "read_end"), "read_end", "Reader.read_end", defArgs (inClass (top 20) 9), defBody (inClass (top 20) 9), defScope (inClass (top 20) 9), [], []⟩
abbrev dN14 : He.DefD := ⟨("Reader", some "finish"), "finish", "Reader.finish", defArgs (inClass (top 20) 10), defBody (inClass (top 20) 10), defScope (inClass (top 20) 10), [], []⟩
abbrev dN15 : He.DefD := ⟨("Formula", some "__init__"), "__init__", "Formula.__init__", defArgs (inClass (top 36) 0), defBody (inClass (top 36) 0), defScope (inClass (top 36) 0), [], []⟩
abbrev dN16 : He.DefD := ⟨("Formula", some "first_missing"), "first_missing", "Formula.first_missing", defArgs (inClass (top 36) 2), defBody (inClass (top 36) 2), defScope (inClass (top 36) 2), [], []⟩
abbrev dN17 : He.DefD := ⟨("Formula", some "linear"), "linear", "Formula.linear", defArgs (inClass (top 36) 4), defBody (inClass (top 36) 4), defScope (inClass (top 36) 4), [], []⟩
abbrev dN18 : He.DefD := ⟨("Formula", some "dependence"), "dependence", "Formula.dependence", defArgs (inClass (top 36) 5), defBody (inClass (top 36) 5), defScope (inClass (top 36) 5), [], []⟩
abbrev dN19 : He.DefD := ⟨("is_within", none), "is_within", "is_within", defArgs (top 12), defBody (top 12), defScope (top 12), [], []⟩
abbrev dN20 : He.DefD := ⟨("result_of", none), "result_of", "result_of", defArgs (top 22), defBody (top 22), defScope (top 22), [], []⟩
abbrev dN21 : He.DefD := ⟨("combined", none), "combined", "combined", defArgs (top 23), defBody (top 23), defScope (top 23), [], []⟩
abbrev dN22 : He.DefD := ⟨("total_of", none), "total_of", "total_of", defArgs (top 24), defBody (top 24), defScope (top 24), [], []⟩
abbrev dN23 : He.DefD := ⟨("dependence_of", none), "dependence_of", "dependence_of", defArgs (top 29), defBody (top 29), defScope (top 29), [], []⟩
abbrev dN24 : He.DefD := ⟨("dependence_of_both", none), "dependence_of_both", "dependence_of_both", defArgs (top 30), defBody (top 30), defScope (top 30), [], []⟩
abbrev dN25 : He.DefD := ⟨("slope_and_rest", none), "slope_and_rest", "slope_and_rest", defArgs (top 31), defBody (top 31), defScope (top 31), [], []⟩
abbrev dN26 : He.DefD := ⟨("free_part", none), "free_part", "free_part", defArgs (top 32), defBody (top 32), defScope (top 32), [], []⟩
abbrev dN27 : He.DefD := ⟨("combined_parts", none), "combined_parts", "combined_parts", defArgs (top 33), defBody (top 33), defScope (top 33), [], []⟩
abbrev dN28 : He.DefD := ⟨("_law_pen", none), "_law_pen", "_law_pen", defArgs (top 38), defBody (top 38), defScope (top 38), [], []⟩
abbrev dN29 : He.DefD := ⟨("_law_draw", none), "_law_draw", "_law_draw", defArgs (top 39), defBody (top 39), defScope (top 39), [], []⟩
abbrev dN30 : He.DefD := ⟨("_law_pick", none), "_law_pick", "_law_pick", defArgs (top 40), defBody (top 40), defScope (top 40), [], []⟩
abbrev dN31 : He.DefD := ⟨("_law_around", none), "_law_around", "_law_around", defArgs (top 41), defBody (top 41), defScope (top 41), [], []⟩
abbrev dN32 : He.DefD := ⟨("_law_great", none), "_law_great", "_law_great", defArgs (top 42), defBody (top 42), defScope (top 42), [], []⟩
abbrev dN33 : He.DefD := ⟨("_law_names", none), "_law_names", "_law_names", defArgs (top 43), defBody (top 43), defScope (top 43), [], []⟩
abbrev dN34 : He.DefD := ⟨("_law_tree", none), "_law_tree", "_law_tree", defArgs (top 44), defBody (top 44), defScope (top 44), [], []⟩
abbrev dN35 : He.DefD := ⟨("_law_gap", none), "_law_gap", "_law_gap", defArgs (top 45), defBody (top 45), defScope (top 45), [], []⟩
abbrev dN36 : He.DefD := ⟨("_law_text_of", none), "_law_text_of", "_law_text_of", defArgs (top 46), defBody (top 46), defScope (top 46), [], []⟩
abbrev dN37 : He.DefD := ⟨("_law_formula", none), "_law_formula", "_law_formula", defArgs (top 47), defBody (top 47), defScope (top 47), [], []⟩
abbrev dN38 : He.DefD := ⟨("_law_reads", none), "_law_reads", "_law_reads", defArgs (top 48), defBody (top 48), defScope (top 48), [], []⟩
abbrev dN39 : He.DefD := ⟨("_law_exact", none), "_law_exact", "_law_exact", defArgs (top 49), defBody (top 49), defScope (top 49), [], []⟩
abbrev dN40 : He.DefD := ⟨("_law_worth", none), "_law_worth", "_law_worth", defArgs (top 50), defBody (top 50), defScope (top 50), [], []⟩
abbrev dN41 : He.DefD := ⟨("_law_results", none), "_law_results", "_law_results", defArgs (top 51), defBody (top 51), defScope (top 51), [], []⟩
abbrev dN42 : He.DefD := ⟨("_law_is_line", none), "_law_is_line", "_law_is_line", defArgs (top 52), defBody (top 52), defScope (top 52), [], []⟩
abbrev dN43 : He.DefD := ⟨("_law_failures", none), "_law_failures", "_law_failures", defArgs (top 53), defBody (top 53), defScope (top 53), [], []⟩
abbrev dN44 : He.DefD := ⟨("_law_told", none), "_law_told", "_law_told", defArgs (top 54), defBody (top 54), defScope (top 54), [], []⟩
abbrev dN45 : He.DefD := ⟨("_law_values", none), "_law_values", "_law_values", defArgs (top 55), defBody (top 55), defScope (top 55), [], []⟩
abbrev dN46 : He.DefD := ⟨("law", none), "law", "law", defArgs (top 56), defBody (top 56), defScope (top 56), [], []⟩
def fnL : List He.DefD := [dN0, dN1, dN2, dN3, dN4, dN5, dN6, dN7, dN8, dN9, dN10, dN11, dN12, dN13, dN14, dN15, dN16, dN17, dN18, dN19, dN20, dN21, dN22, dN23, dN24, dN25, dN26, dN27, dN28, dN29, dN30, dN31, dN32, dN33, dN34, dN35, dN36, dN37, dN38, dN39, dN40, dN41, dN42, dN43, dN44, dN45, dN46]
def tfL : List He.Defn := []
def psL : List Df := []
def exBh (K : PySem.W.Frag) : Bool := errB K "ParseError" && (errB K "NotLinear" && (errA K "Failed" && (errK K "UnknownName" && miB K)))
end Toy
end

section
set_option Elab.async false
set_option linter.all false
set_option maxRecDepth 100000
set_option maxHeartbeats 0
namespace Toy
open PySem PySem.Spec PyProof.Rows L2 Gd LamX Kt
abbrev RR : PySem.W.OpenRow := PySem.W.OpenLaw.row PySem.Challenge.rw_solidnames_k03_linear_formulas
abbrev hk : PySem.W.Hook := hookY 8 faL fnL tfL exBh psL
def ob (s : PySem.W.SharedT) : hk.α := (He.obsX 8 faL fnL tsL tfL exBh (HandSHeadRun.getT s), psL.map fun d => fnA (He.frT (HandSHeadRun.getT s) (He.asD (HandSHeadRun.getT s) 8)) (d.at_ (He.frT (HandSHeadRun.getT s) (He.asD (HandSHeadRun.getT s) 8))))
theorem ob_eq (s : PySem.W.SharedT) : ob s = hk.obs s.abs := by
  have e : HandSHeadRun.getT s = s.abs.heap.get? := funext (HandSHeadRun.getT_eq s)
  unfold ob
  rw [e] <;> rfl
def loose : List Str := [("_wall" : Str), ("ParseError" : Str), ("NotLinear" : Str), ("Failed" : Str), ("UnknownName" : Str), ("Reader" : Str), ("Formula" : Str), ("LEVELS" : Str), ("RESERVED" : Str), ("is_within" : Str), ("result_of" : Str), ("combined" : Str), ("total_of" : Str), ("dependence_of" : Str), ("dependence_of_both" : Str), ("slope_and_rest" : Str), ("free_part" : Str), ("combined_parts" : Str), ("_law_pen" : Str), ("_law_draw" : Str), ("_law_pick" : Str), ("_law_around" : Str), ("_law_great" : Str), ("_law_names" : Str), ("_law_tree" : Str), ("_law_gap" : Str), ("_law_text_of" : Str), ("_law_formula" : Str), ("_law_reads" : Str), ("_law_exact" : Str), ("_law_worth" : Str), ("_law_results" : Str), ("_law_is_line" : Str), ("_law_failures" : Str), ("_law_told" : Str), ("_law_values" : Str), ("MOST_DIGITS" : Str), ("MOST_LETTERS" : Str), ("LOOSEST" : Str), ("MOST_CHARACTERS" : Str), ("LIMIT" : Str), ("OPERAND" : Str), ("OPERATOR" : Str), ("BRACKET" : Str), ("DIGITS" : Str), ("LETTERS" : Str), ("FREE" : Str), ("LINEAR" : Str), ("OTHER" : Str)]
theorem run (w : World) : HandSHeadRun.RunEq RR (PySem.W.view RR.prog [56]) hk ob 9000 loose w :=
  PySem.W.byRow2 "special-get-raises" (P := fun w => HandSHeadRun.RunEq RR (PySem.W.view RR.prog [56]) hk ob 9000 loose w)
    (fun w => by
      intro os
      kernel_rfl)
    (fun w => by
      intro os
      kernel_rfl) w
end Toy
end

section
set_option Elab.async false
set_option linter.all false
set_option maxRecDepth 100000
namespace Toy
open PySem L2
structure Dn (K : PySem.W.Frag) (mg : Str → Option Value) (x : Str) (f : Addr) (fd : FuncData) (ps : List Str) : Prop where
  m : mg x = some (.ref f)
  k : PySem.W.keepIn K (.ref f) = true
  b : Binds K fd ps []
/-- all tracked objects but that at p stand as they were -/
def Ext (p : Addr) (H H' : Hp) : Prop := ∀ b o, b ≠ p → H b = some o → H' b = some o
theorem Ext.refl (p : Addr) (H : Hp) : Ext p H H := fun _ _ _ h => h
theorem Ext.trans {p : Addr} {H H1 H2 : Hp} (a : Ext p H H1) (b : Ext p H1 H2) : Ext p H H2 := fun c o n h => b c o n (a c o n h)
theorem Ext.upd (p : Addr) (H : Hp) (o : HO) : Ext p H (L2.upd H p o) := fun b u n h => by rw [upd_ne n]; exact h
theorem Ext.new {p l : Addr} {H : Hp} {o : HO} (h : H l = none) : Ext p H (L2.upd H l o) := fun b u _ e => by rw [upd_ne (ne_of_none e h)]; exact e
theorem PenAt.grow {H H' : Hp} {p c : Addr} {ns : List Int} {n r : Int} (P : PenAt H p c ns n r) (e : Same H H') : PenAt H' p c ns n r := ⟨e _ _ P.d, e _ _ P.l, P.n0, P.nb, P.r0, P.len⟩
theorem same_new {l : Addr} {H : Hp} {o : HO} (h : H l = none) : Same H (L2.upd H l o) := fun b u e => by rw [upd_ne (ne_of_none e h)]; exact e
theorem PenAt.ne {H : Hp} {p c l : Addr} {ns : List Int} {n r : Int} (P : PenAt H p c ns n r) {xs : List V} (h : H l = some (.lst xs)) : l ≠ p := ne_of h P.d (by intro z; cases z)
def spDr (B u : Int) : Sp := fun vs H Q _ => ∃ (p c : Addr) (ns : List Int) (n r many : Int), vs = [.ref p, .int many] ∧ PenAt H p c ns n r ∧ 1 ≤ many ∧ many ≤ B ∧ n + u < 1000000 ∧
    ∀ (d n' r' : Int), 0 ≤ d → d < many → n ≤ n' → n' ≤ n + u + 1 → PenAt (upd H p (.dK (penD c n' r'))) p c ns n' r' → Q (.int d) (upd H p (.dK (penD c n' r')))
abbrev spLo : Sp := spDr 60000000 0
abbrev spHi : Sp := spDr 10000000000000000000000000000000 3
theorem bnd3 : (10000000000000000000000000000000 : Int) ≤ bnd 3 := by decide +kernel
theorem draw_lo {P : Program} {w : World} {K : PySem.W.Frag} {mg : Str → Option Value} {base : Heap} {f : Addr} {fd : FuncData} {ps : List Str} (G : FnOk P w K mg base CX0 2 f fd ps (spD 1)) : FnOk P w K mg base CX0 2 f fd ps spLo :=
  G.imp fun vs H Q E ⟨p, c, ns, n, r, many, e, S, h1, h2, h3, k⟩ => ⟨p, c, ns, n, r, many, e, S, h1, h2, h3, fun d n' r' g1 g2 g3 g4 => k d n' r' g1 g2 g3 g4⟩
theorem draw_hi {P : Program} {w : World} {K : PySem.W.Frag} {mg : Str → Option Value} {base : Heap} {f : Addr} {fd : FuncData} {ps : List Str} (G : FnOk P w K mg base CX0 5 f fd ps (spD 4)) : FnOk P w K mg base CX0 5 f fd ps spHi :=
  G.imp fun vs H Q E ⟨p, c, ns, n, r, many, e, S, h1, h2, h3, k⟩ => ⟨p, c, ns, n, r, many, e, S, h1, Int.le_trans h2 bnd3, h3, fun d n' r' g1 g2 g3 g4 => k d n' r' g1 g2 g3 g4⟩
abbrev sPen : Stmt := top 38
abbrev sPick : Stmt := top 40
abbrev sAround : Stmt := top 41
abbrev sGreat : Stmt := top 42
def spPick : Sp := fun vs H Q _ => ∃ (p c : Addr) (ns : List Int) (n r : Int) (l : Addr) (xs : List V), vs = [.ref p, .ref l] ∧ PenAt H p c ns n r ∧ n < 900000 ∧ H l = some (.lst xs) ∧ 0 < xs.length ∧ xs.length ≤ 60000000 ∧
  ∀ (v : V) (n' r' : Int), v ∈ xs → n ≤ n' → n' ≤ n + 1 → PenAt (upd H p (.dK (penD c n' r'))) p c ns n' r' → Q v (upd H p (.dK (penD c n' r')))
def spAround : Sp := fun vs H Q _ => ∃ (p c : Addr) (ns : List Int) (n r most : Int), vs = [.ref p, .int most] ∧ PenAt H p c ns n r ∧ n < 900000 ∧ 0 ≤ most ∧ 2 * most + 1 ≤ 10000000000000000000000000000000 ∧
  ∀ (k n' r' : Int), -most ≤ k → k ≤ most → n ≤ n' → n' ≤ n + 4 → PenAt (upd H p (.dK (penD c n' r'))) p c ns n' r' → Q (.int k) (upd H p (.dK (penD c n' r')))
def spGreat : Sp := fun vs H Q _ => ∃ (p c : Addr) (ns : List Int) (n r most : Int), vs = [.ref p, .int most] ∧ PenAt H p c ns n r ∧ n < 900000 - 20 ∧ 0 ≤ most ∧ 2 * most + 1 ≤ 10000000000000000000000000000000 ∧
  ∀ (k n' r' : Int) (H' : Hp), -most ≤ k → k ≤ most → n ≤ n' → n' ≤ n + 11 → Ext p H H' → PenAt H' p c ns n' r' → Q (.int k) H'
structure TxtB (K : PySem.W.Frag) (mg : Str → Option Value) : Prop extends TxtD K mg where
  max : mg "max" = none
  min : mg "min" = none
  list : mg "list" = none
section
variable {P : Program} {w : World} {K : PySem.W.Frag} {mg : Str → Option Value} {base : Heap}
theorem scPick : FnScope ["_law_pen_here", "_law_options"] ["_law_pen_here", "_law_options"] (defScope sPick) := ⟨rfl, rfl, rfl, by decide +kernel, rfl, by decide +kernel, by decide +kernel⟩
theorem ok_pick {f : Addr} {fd : FuncData} (F : Fun K "_law_pick" "_law_pick" sPick f fd) (T : TxtB K mg) {fdraw : Addr} {fddraw : FuncData} (Ddraw : Dn K mg "_law_draw" fdraw fddraw ["_law_pen_here", "_law_many"]) (Gdraw : FnOk P w K mg base CX0 2 fdraw fddraw ["_law_pen_here", "_law_many"] spLo) :
    FnOk P w K mg base CX0 3 f fd ["_law_pen_here", "_law_options"] spPick := by
  refine F.ok scPick (fun vs H Q E h => ?_) (fun cdv A outer s H vs Q E hr h => ?_)
  · obtain ⟨p, c, ns, n, r, l, xs, rfl, _⟩ := h
    rfl
  · obtain ⟨p, c, ns, n, r, l, xs, rfl, S, hn, hl, h0, h1, k⟩ := h
    have hu := hu_of hr
    refine ⟨_, (pss_one (ps_ret (pe_ix ix_list (pv 1) (pe_call Gdraw hr rfl Ddraw.m Ddraw.k Ddraw.b .nil pass0 (pa_cons (pv 0) (pa_cons (pe_callB call_len (by rfl) T.len PySem.boot_len (pa_cons (pv 1) pa_nil)) pa_nil))) (fun _ _ => rfl)))), ?_⟩
    refine ⟨_, rfl, _, rfl, _, rfl, _, _, rfl, .inl ⟨_, SqL.of hl, rfl⟩, ?_⟩
    refine ⟨p, c, ns, n, r, xs.length, rfl, S, by omega, by omega, by omega, fun d n' r' d0 d1 g1 g2 P' => ?_⟩
    have hx : d.toNat < xs.length := by omega
    refine ⟨l, xs, d, xs[d.toNat], rfl, rfl, SqL.of (by rw [upd_ne (S.ne hl)]; exact hl), ?_, ?_⟩
    · have := atI_nat (List.getElem?_eq_getElem hx)
      rwa [Int.toNat_of_nonneg d0] at this
    · exact k _ n' r' (List.getElem_mem hx) g1 (by omega) P'
theorem scAr : FnScope ["_law_pen_here", "_law_most"] ["_law_pen_here", "_law_most"] (defScope sAround) := ⟨rfl, rfl, rfl, by decide +kernel, rfl, by decide +kernel, by decide +kernel⟩
theorem ok_around {f : Addr} {fd : FuncData} (F : Fun K "_law_around" "_law_around" sAround f fd) (T : TxtB K mg) {fdraw : Addr} {fddraw : FuncData} (Ddraw : Dn K mg "_law_draw" fdraw fddraw ["_law_pen_here", "_law_many"]) (Gdraw : FnOk P w K mg base CX0 5 fdraw fddraw ["_law_pen_here", "_law_many"] spHi) :
    FnOk P w K mg base CX0 6 f fd ["_law_pen_here", "_law_most"] spAround := by
  refine F.ok scAr (fun vs H Q E h => ?_) (fun cdv A outer s H vs Q E hr h => ?_)
  · obtain ⟨p, c, ns, n, r, most, rfl, _⟩ := h
    rfl
  · obtain ⟨p, c, ns, n, r, most, rfl, S, hn, h0, hb, k⟩ := h
    have hu := hu_of hr
    refine ⟨_, (pss_one (ps_ret (pe_op op_sub (pe_call Gdraw hr rfl Ddraw.m Ddraw.k Ddraw.b .nil pass0 (pa_cons (pv 0) (pa_cons (pe_op op_add (pe_op op_mul pe_int (pv 1)) pe_int) pa_nil))) (pv 1)))), ?_⟩
    refine ⟨_, rfl, _, rfl, _, _, rfl, rfl, .inl ⟨by decide, by decide⟩, _, _, rfl, rfl, ?_⟩
    refine ⟨p, c, ns, n, r, 2 * most + 1, rfl, S, by omega, hb, by omega, fun d n' r' d0 d1 g1 g2 P' => ?_⟩
    refine ⟨_, rfl, _, _, rfl, rfl, ?_⟩
    exact k _ n' r' (by omega) (by omega) g1 (by omega) P'
theorem scGr : FnScope ["_law_pen_here", "_law_most", "_law_some"] ["_law_pen_here", "_law_most"] (defScope sGreat) := ⟨rfl, rfl, rfl, by decide +kernel, rfl, by decide +kernel, by decide +kernel⟩
theorem ok_great {f : Addr} {fd : FuncData} (F : Fun K "_law_great" "_law_great" sGreat f fd) (T : TxtB K mg) {fdraw : Addr} {fddraw : FuncData} (Ddraw : Dn K mg "_law_draw" fdraw fddraw ["_law_pen_here", "_law_many"]) (Gdraw : FnOk P w K mg base CX0 2 fdraw fddraw ["_law_pen_here", "_law_many"] spLo) {faround : Addr} {fdaround : FuncData} (Daround : Dn K mg "_law_around" faround fdaround ["_law_pen_here", "_law_most"]) (Garound : FnOk P w K mg base CX0 6 faround fdaround ["_law_pen_here", "_law_most"] spAround) {fpick : Addr} {fdpick : FuncData} (Dpick : Dn K mg "_law_pick" fpick fdpick ["_law_pen_here", "_law_options"]) (Gpick : FnOk P w K mg base CX0 3 fpick fdpick ["_law_pen_here", "_law_options"] spPick) :
    FnOk P w K mg base CX0 7 f fd ["_law_pen_here", "_law_most"] spGreat := by
  refine F.ok scGr (fun vs H Q E h => ?_) (fun cdv A outer s H vs Q E hr h => ?_)
  · obtain ⟨p, c, ns, n, r, most, rfl, _⟩ := h
    rfl
  · obtain ⟨p, c, ns, n, r, most, rfl, S, hn, h0, hb, k⟩ := h
    have hu := hu_of hr
    refine ⟨_, (pss_cons (ps_set (i := 2) scGr.nd rfl (Or.inl rfl) (pe_lst (pa_cons (pe_call Garound hr rfl Daround.m Daround.k Daround.b .nil pass0 (pa_cons (pv 0) (pa_cons pe_int pa_nil))) (pa_cons (pe_call Garound hr rfl Daround.m Daround.k Daround.b .nil pass0 (pa_cons (pv 0) (pa_cons (pv 1) pa_nil))) (pa_cons (pe_op op_sub (pv 1) (pe_call Gdraw (hr.mono (by decide)) rfl Ddraw.m Ddraw.k Ddraw.b .nil pass0 (pa_cons (pv 0) (pa_cons pe_int pa_nil)))) (pa_cons (pe_op op_sub (pe_call Gdraw (hr.mono (by decide)) rfl Ddraw.m Ddraw.k Ddraw.b .nil pass0 (pa_cons (pv 0) (pa_cons pe_int pa_nil))) (pv 1)) pa_nil))))))
 (pss_one (ps_ret (pe_callB (call_max2 rfl) (by rfl) T.max (by decide +kernel) (pa_cons (pe_op op_sub pe_int (pv 1)) (pa_cons (pe_callB (call_min2 rfl) (by rfl) T.min (by decide +kernel) (pa_cons (pv 1) (pa_cons (pe_call Gpick (hr.mono (by decide)) rfl Dpick.m Dpick.k Dpick.b .nil pass0 (pa_cons (pv 0) (pa_cons (pv 2) pa_nil))) pa_nil))) pa_nil)))))), ?_⟩
    refine ⟨_, rfl, p, c, ns, n, r, 9, rfl, S, by omega, by decide, by decide, fun k1 n1 r1 a1 a2 a3 a4 P1 => ?_⟩
    refine ⟨_, rfl, _, rfl, p, c, ns, n1, r1, most, rfl, P1, by omega, h0, hb, fun k2 n2 r2 b1 b2 b3 b4 P2 => ?_⟩
    rw [upd_upd] at P2 ⊢
    refine ⟨_, rfl, _, rfl, p, c, ns, n2, r2, 4, rfl, P2, by decide, by decide, by omega, fun k3 n3 r3 c1 c2 c3 c4 P3 => ?_⟩
    rw [upd_upd] at P3 ⊢
    refine ⟨_, _, rfl, rfl, _, rfl, p, c, ns, n3, r3, 4, rfl, P3, by decide, by decide, by omega, fun k4 n4 r4 d1 d2 d3 d4 P4 => ?_⟩
    rw [upd_upd] at P4 ⊢
    refine ⟨_, rfl, _, _, rfl, rfl, by show 4 ≤ sizeLine; decide, fun l hl => ?_⟩
    have P5 := P4.grow (same_new (o := .lst [.int k1, .int k2, .int (most - k3), .int (k4 - most)]) hl)
    refine ⟨_, rfl, _, _, rfl, rfl, _, rfl, _, rfl, _, rfl, p, c, ns, n4, r4, l, _, rfl, P5, by omega, upd_same, (by show 0 < 4; decide), (by show 4 ≤ 60000000; decide), fun v n6 r6 hv e1 e2 P6 => ?_⟩
    obtain ⟨z, rfl⟩ : ∃ z : Int, v = .int z := by
      simp only [List.mem_cons, List.not_mem_nil, or_false] at hv
      rcases hv with rfl | rfl | rfl | rfl <;> exact ⟨_, rfl⟩
    refine ⟨_, _, rfl, _, _, rfl, ?_⟩
    refine k _ n6 r6 _ ?_ ?_ (by omega) (by omega) (((Ext.upd _ _ _).trans (Ext.new hl)).trans (Ext.upd _ _ _)) P6
    · split <;> split <;> omega
    · split <;> split <;> omega
end
end Toy
end

section
set_option Elab.async false
set_option linter.all false
set_option maxRecDepth 100000
namespace Toy
open PySem L2 Gd
theorem same_tup {K : PySem.W.Frag} {H H' : Hp} {a : Addr} {xs : List V} (e : Same H H') (h : SqT K H a xs) : SqT K H' a xs := by
  rcases h with (h | ⟨o, h⟩) | h
  · exact .inl (.inl (e _ _ h))
  · exact .inl (.inr ⟨o, e _ _ h⟩)
  · exact .inr h
mutual
theorem dp_grow {K : PySem.W.Frag} {H H' : Hp} (e : Same H H') {v : V} {d : PyData} (h : Dp K H v d) : Dp K H' v d :=
  match h with
  | .non => .non
  | .bl b => .bl b
  | .int i => .int i
  | .str x => .str x
  | .lst h1 h2 => .lst (e.seq h1) (dps_grow e h2)
  | .tup h1 h2 => .tup (same_tup e h1) (dps_grow e h2)
theorem dps_grow {K : PySem.W.Frag} {H H' : Hp} (e : Same H H') {vs : List V} {ds : List PyData} (h : DpAll K H vs ds) : DpAll K H' vs ds :=
  match h with
  | .nil => .nil
  | .cons h1 h2 => .cons (dp_grow e h1) (dps_grow e h2)
end
theorem Th.grow {K : PySem.W.Frag} {H H' : Hp} (e : Same H H') {v : V} {d : PyData} (t : Th K H v d) : Th K H' v d := by
  cases t with
  | dp h nd => exact .dp (dp_grow e h) nd
  | dk h => exact .dk (e _ _ h)
/-- what can be shown -/
structure Shw (d : PyData) : Prop where
  sh : d.showable = true
  dep : d.depth ≤ 60
  sz : d.shown.length ≤ sizeLine ∨ ∃ i, d = .int i
def spPen (K : PySem.W.Frag) : Sp := fun vs H Q _ => ∃ (a : Addr) (ns : List Int), vs = [.ref a] ∧ SqL K H a (ns.map V.int) ∧ ns.length ≤ 63 ∧ ∀ p c ns' H', H p = none → Same H H' → PenAt H' p c ns' 0 0 → Q (.ref p) H'
theorem pen_merge (l : Addr) : mergeK [] [(kCells, V.ref l), (kBegun, V.int 0), (kRest, V.int 0)] = penD l 0 0 := by
  unfold mergeK penD
  simp only [List.foldl]
  rw [putK_new (kvs := []) (k := kCells) _ rfl, putK_new (k := kBegun) _ (by rw [List.nil_append, valV_neg ks1] <;> rfl), putK_new (k := kRest) _ (by rw [List.nil_append]; show valV [(kCells, V.ref l), (kBegun, V.int 0)] kRest = none; rw [valV_neg ks2, valV_neg ks3] <;> rfl)]
  rfl
section
variable {P : Program} {w : World} {K : PySem.W.Frag} {mg : Str → Option Value} {base : Heap} {f C CA CN CF CB : Addr} {fd : FuncData}
theorem scPen : FnScope ["_law_script"] ["_law_script"] (defScope sPen) := ⟨rfl, rfl, rfl, by decide +kernel, rfl, by decide +kernel, by decide +kernel⟩
theorem ok_pen (F : Fun K "_law_pen" "_law_pen" sPen f fd) (T : TxtB K mg) : FnOk P w K mg base CX0 1 f fd ["_law_script"] (spPen K) := by
  refine F.ok scPen (fun vs H Q E h => ?_) (fun cdv A outer s H vs Q E hr h => ?_)
  · obtain ⟨a, ns, rfl, _⟩ := h
    rfl
  · obtain ⟨a, ns, rfl, hS, hl, k⟩ := h
    refine ⟨_, pss_one (ps_ret (pe_disp (pps_cons pe_str (pe_callTy call_list_of (by rfl) T.list (by decide +kernel) (pa_cons (pe_slice sl_list (pv 0) po_none (po_some pe_int)) pa_nil))
      (pps_cons pe_str pe_int (pps_cons pe_str pe_int pps_nil))) (by rfl) (by rfl) (fun z => by cases z) (by decide))), ?_⟩
    intro p hp
    have s1 : Same H (upd H p (.dK [])) := same_new hp
    obtain ⟨ns', e1, e2⟩ : ∃ ns' : List Int, cutV (ns.map V.int) none (some 63) = ns'.map V.int ∧ ns'.length ≤ 63 := by
      unfold cutV
      rw [← List.map_drop, ← List.map_take]
      refine ⟨_, rfl, ?_⟩
      rw [List.length_take, List.length_drop]
      omega
    refine ⟨_, rfl, _, rfl, a, _, rfl, s1.seq hS, fun q hq => ?_⟩
    have npq : p ≠ q := ne_of_none upd_same hq
    refine ⟨q, _, rfl, .inl (SqL.of upd_same), fun l hl' => ?_⟩
    have npl : p ≠ l := fun z => by
      rw [← z, upd_ne npq, upd_same] at hl'
      cases hl'
    refine ⟨by rw [upd_ne npl, upd_ne npq, upd_same], [(kCells, .ref l), (kBegun, .int 0), (kRest, .int 0)], rfl, (by show 3 ≤ 15; decide), ?_⟩
    rw [pen_merge]
    have nlp : l ≠ p := Ne.symm npl
    refine k p l ns' _ hp (fun b o e => ?_) ⟨upd_same, ?_, Int.le_refl _, by decide, Int.le_refl _, e2⟩
    · have n1 := ne_of_none e hp
      have e3 := s1 b o e
      have n2 := ne_of_none e3 hq
      have n3 : b ≠ l := fun z => by
        rw [← z, upd_ne n2, e3] at hl'
        cases hl'
      rw [upd_ne n1, upd_ne n3, upd_ne n2]
      exact e3
    · rw [upd_ne nlp, upd_same, e1]
end
end Toy
end

section
set_option Elab.async false
set_option linter.all false
set_option maxRecDepth 100000
namespace Toy
open PySem L2 Gd
/-! ### a run of signs -/
def runLen : List Nat → List Nat → Nat → Nat
  | _, _, 0 => 0
  | [], _, _ + 1 => 0
  | c :: l, sg, k + 1 => if c ∈ sg then runLen l sg k + 1 else 0
theorem runLen_le : ∀ (l sg : List Nat) (k : Nat), runLen l sg k ≤ l.length ∧ runLen l sg k ≤ k
  | l, _, 0 => by cases l <;> exact ⟨Nat.zero_le _, Nat.le_refl _⟩
  | [], _, _ + 1 => ⟨Nat.le_refl _, Nat.zero_le _⟩
  | c :: l, sg, k + 1 => by
    have ih := runLen_le l sg k
    unfold runLen
    split
    · exact ⟨Nat.succ_le_succ ih.1, Nat.succ_le_succ ih.2⟩
    · exact ⟨Nat.zero_le _, Nat.zero_le _⟩
theorem run_stop {l sg : List Nat} {k e : Nat} (h : e = k ∨ l.length ≤ e ∨ ∃ c, l[e]? = some c ∧ ¬ c ∈ sg) : runLen (l.drop e) sg (k - e) = 0 := by
  rcases h with h | h | ⟨c, h, n⟩
  · rw [h, Nat.sub_self]
    cases l.drop k <;> rfl
  · rw [List.drop_eq_nil_of_le h]
    cases k - e <;> rfl
  · obtain ⟨lt, ec⟩ := List.getElem?_eq_some_iff.mp h
    rw [List.drop_eq_getElem_cons lt, ec]
    cases k - e with
    | zero => rfl
    | succ j => exact if_neg n
theorem run_more {l sg : List Nat} {k e c : Nat} (hk : e < k) (h : l[e]? = some c) (hc : c ∈ sg) : runLen (l.drop e) sg (k - e) = runLen (l.drop (e + 1)) sg (k - (e + 1)) + 1 := by
  obtain ⟨lt, ec⟩ := List.getElem?_eq_some_iff.mp h
  rw [List.drop_eq_getElem_cons lt, ec, show k - e = (k - (e + 1)) + 1 by omega]
  exact if_pos hc
section
variable {P : Program} {w : World} {K : PySem.W.Frag} {mg : Str → Option Value} {base : Heap}
end
end Toy
end

section
set_option Elab.async false
set_option linter.all false
set_option maxRecDepth 100000
namespace Toy
open PySem L2 Gd
/-! ### behind an operand -/
inductive Br where
  | one | pair | last
  deriving DecidableEq
def Br.t : Br → Str
  | .one => "one"
  | .pair => "pair"
  | .last => "last"
inductive Wd where
  | operand | sign | wrong
  deriving DecidableEq
def Wd.t : Wd → Str
  | .operand => "operand"
  | .sign => "sign"
  | .wrong => "wrong"
/-- c: the sign, two: whether the next one is a slash -/
def behind (c : Nat) (two : Bool) (a : Nat) (bs : List Br) : Wd × Nat × List Br :=
  if c = 43 ∨ c = 45 ∨ c = 42 then (.operand, a + 1, bs)
  else if c = 47 then (if two = true then (.operand, a + 2, bs) else (.wrong, a + 1, bs))
  else if c = 44 ∧ bs.getLast? = some .pair then (.operand, a + 1, bs.dropLast ++ [.last])
  else if c = 41 ∧ (bs.getLast? = some .one ∨ bs.getLast? = some .last) then (.sign, a + 1, bs.dropLast)
  else (.wrong, a, bs)
def brV (bs : List Br) : List V := bs.map fun b => V.str b.t
theorem one_str {c : Nat} {z : Str} {k : Nat} (hz : z.cps.toList = [k]) : decide (V.str ⟨#[c]⟩ = V.str z) = decide (c = k) := by
  by_cases h : c = k
  · subst h
    rw [decide_eq_true rfl]
    refine decide_eq_true ?_
    have e : z = ⟨#[c]⟩ := by
      cases z with
      | mk a =>
        have h1 : a.toList = [c] := hz
        have h2 : a = #[c] := by rw [← Array.toArray_toList (xs := a), h1]
        rw [h2]
    rw [e]
  · rw [decide_eq_false h]
    refine decide_eq_false fun e => h ?_
    have e1 : (⟨#[c]⟩ : Str) = z := by cases e; rfl
    have e2 : ([c] : List Nat) = [k] := by rw [← hz, ← e1]
    exact (List.cons.inj e2).1
theorem cut_one {x : Str} {a : Nat} (ha : a < x.length) : cutS x (some ((a : Int) + 1)) (some ((a : Int) + 2)) = ⟨((x.cps.toList.drop (a + 1)).take 1).toArray⟩ := by
  have len1 : x.cps.toList.length = x.length := by simp [Str.length]
  have e1 : HT.sIx x.length 0 (some ((a : Int) + 1)) = a + 1 := by
    rw [show ((a : Int) + 1) = ((a + 1 : Nat) : Int) by omega, HT.sIx_nat]
    omega
  have e2 : HT.sIx x.length x.length (some ((a : Int) + 2)) = min (a + 2) x.length := by
    rw [show ((a : Int) + 2) = ((a + 2 : Nat) : Int) by omega, HT.sIx_nat]
  unfold cutS
  rw [e1, e2]
  by_cases h : a + 1 < x.length
  · rw [show min (a + 2) x.length - (a + 1) = 1 by omega]
  · rw [List.drop_eq_nil_of_le (by omega), List.take_nil, List.take_nil]
theorem cut_two {x : Str} {a : Nat} {z : Str} {k : Nat} (hz : z.cps.toList = [k]) (ha : a < x.length) : decide (V.str (cutS x (some ((a : Int) + 1)) (some ((a : Int) + 2))) = V.str z) = decide (x.cps.toList[a + 1]? = some k) := by
  rw [cut_one ha]
  cases h : x.cps.toList[a + 1]? with
  | none =>
    rw [List.drop_eq_nil_of_le (List.getElem?_eq_none_iff.mp h), List.take_nil]
    rw [decide_eq_false (by simp : ¬ (none : Option Nat) = some k)]
    refine decide_eq_false fun e => ?_
    have e1 : (⟨#[]⟩ : Str) = z := by cases e; rfl
    rw [← e1] at hz
    cases hz
  | some d =>
    obtain ⟨lt, ed⟩ := List.getElem?_eq_some_iff.mp h
    rw [List.drop_eq_getElem_cons lt, ed]
    show decide (V.str ⟨#[d]⟩ = V.str z) = _
    rw [one_str hz]
    by_cases q : d = k
    · subst q
      simp
    · rw [decide_eq_false q, decide_eq_false (fun e => q (Option.some.inj e))]
def inner (bs : List Br) : Str := match bs.getLast? with
  | some b => b.t
  | none => ""
theorem br_dp {K : PySem.W.Frag} {H : Hp} : ∀ bs : List Br, DpAll K H (brV bs) (bs.map fun b => PyData.str b.t)
  | [] => .nil
  | b :: bs => .cons (.str _) (br_dp bs)
theorem br_ok : ∀ b : Br, PyData.strOk b.t = true
  | .one => by decide +kernel
  | .pair => by decide +kernel
  | .last => by decide +kernel
theorem br_lay : ∀ bs : List Br, PyData.canLayAll0 (bs.map fun b => PyData.str b.t) = true ∧ PyData.depthAll (bs.map fun b => PyData.str b.t) = 0
  | [] => ⟨by simp [PyData.canLayAll0], by simp [PyData.depthAll]⟩
  | b :: bs => by
    obtain ⟨h1, h2⟩ := br_lay bs
    refine ⟨?_, ?_⟩
    · simp [PyData.canLayAll0, PyData.canLay0, br_ok b, h1]
    · simp [PyData.depthAll, PyData.depth, h2]
theorem br_shaped (bs : List Br) : SeqAt.shaped (.list (bs.map fun b => PyData.str b.t)) = true := by
  obtain ⟨h1, h2⟩ := br_lay bs
  simp [SeqAt.shaped, PyData.canLay0, PyData.depth, h1, h2]
theorem br_eqv (bs : List Br) : (!PyData.eqv (.list (bs.map fun b => PyData.str b.t)) (.list [])) = !bs.isEmpty := by
  cases bs with
  | nil => simp [PyData.eqv, PyData.eqvAll]
  | cons b bs => simp [PyData.eqv, PyData.eqvAll]
theorem br_len (bs : List Br) : (brV bs).length = bs.length := List.length_map ..
theorem br_last {bs : List Br} (h : bs ≠ []) : atI (brV bs) (-1) = some (.str (inner bs)) := by
  have hp : 0 < bs.length := List.length_pos_iff.mpr h
  have e : ixN (brV bs).length (-1) = some (bs.length - 1) := by
    unfold ixN
    rw [br_len, if_neg (by decide), if_pos (by omega)]
    congr 1
    omega
  unfold atI
  rw [e]
  show (brV bs)[bs.length - 1]? = _
  unfold brV inner
  rw [List.getElem?_map, ← List.getLast?_eq_getElem?]
  cases q : bs.getLast? with
  | none => exact absurd (List.getLast?_eq_none_iff.mp q) h
  | some b => rfl
theorem str_dec2 (a b : Str) : decide (V.str a = V.str b) = decide (a = b) := by
  by_cases h : a = b
  · subst h
    simp
  · rw [decide_eq_false h]
    exact decide_eq_false fun z => h (by cases z; rfl)
theorem inner_is (bs : List Br) (b : Br) : decide (V.str (inner bs) = V.str b.t) = decide (bs.getLast? = some b) := by
  rw [str_dec2]
  unfold inner
  cases h : bs.getLast? with
  | none => cases b <;> decide +kernel
  | some d => cases d <;> cases b <;> decide +kernel
theorem set_last {bs : List Br} {b d : Br} (h : bs.getLast? = some d) : (brV bs).set (bs.length - 1) (V.str b.t) = brV (bs.dropLast ++ [b]) := by
  rcases List.eq_nil_or_concat bs with rfl | ⟨l, e, rfl⟩
  · cases h
  · unfold brV
    simp
theorem drop_last (bs : List Br) : (brV bs).dropLast = brV bs.dropLast := by
  unfold brV
  exact (List.map_dropLast).symm
theorem in_two (bs : List Br) : inV (.str (inner bs)) [V.str Br.one.t, V.str Br.last.t] = decide (bs.getLast? = some .one ∨ bs.getLast? = some .last) := by
  unfold inner
  cases h : bs.getLast? with
  | none => decide +kernel
  | some d => cases d <;> decide +kernel
section
variable {P : Program} {w : World} {K : PySem.W.Frag} {mg : Str → Option Value} {base : Heap}
end
end Toy
end

section
set_option Elab.async false
set_option linter.all false
set_option maxRecDepth 100000
namespace Toy
open PySem L2 Gd
/-! ### an operand -/
def fig : Str := "0123456789"
def lets : Str := "abcdefghijklmnopqrstuvwxyz"
def memAt (x : Str) (e : Nat) (sg : Str) : Bool := match x.cps.toList[e]? with
  | some c => decide (c ∈ sg.cps.toList)
  | none => false
def opdD (x : Str) (a c : Nat) : Nat := if c = 48 then a + 1 else a + runLen (x.cps.toList.drop a) fig.cps.toList 31
def opdW (x : Str) (a : Nat) : Nat := a + runLen (x.cps.toList.drop a) lets.cps.toList 8
def word (x : Str) (a : Nat) : Str := cutS x (some (a : Int)) (some (opdW x a : Int))
def opdE (x : Str) (a : Nat) : Nat := opdW x a + runLen (x.cps.toList.drop (opdW x a)) (" " : Str).cps.toList 100
def opd (x : Str) (a c : Nat) (bs : List Br) (rds : List Str) : Wd × Nat × List Br × List Str :=
  if c ∈ fig.cps.toList then ((if memAt x (opdD x a c) fig = true then .wrong else .sign), opdD x a c, bs, rds)
  else if memAt x (opdW x a) lets = true ∨ word x a = "self" then (.wrong, opdW x a, bs, rds)
  else if ¬ (word x a = "min" ∨ word x a = "max") then (.sign, opdW x a, bs, rds ++ [word x a])
  else if x.cps.toList[opdE x a]? = some 40 then (.operand, opdE x a + 1, bs ++ [.pair], rds)
  else (.wrong, opdE x a, bs, rds)
theorem in_mm (z : Str) : inV (.str z) [V.str "min", V.str "max"] = decide (z = "min" ∨ z = "max") := by
  by_cases h1 : z = "min"
  · subst h1
    decide +kernel
  · by_cases h2 : z = "max"
    · subst h2
      decide +kernel
    · simp [inV, eqV, h1, h2, Ne.symm h1, Ne.symm h2]
theorem cut_at1 {x : Str} {e : Nat} (he : e ≤ x.length) : cutS x (some (e : Int)) (some ((e : Int) + 1)) = ⟨((x.cps.toList.drop e).take 1).toArray⟩ := by
  have len1 : x.cps.toList.length = x.length := by simp [Str.length]
  have e1 : HT.sIx x.length 0 (some (e : Int)) = e := by
    rw [HT.sIx_nat]
    omega
  have e2 : HT.sIx x.length x.length (some ((e : Int) + 1)) = min (e + 1) x.length := by
    rw [show ((e : Int) + 1) = ((e + 1 : Nat) : Int) by omega, HT.sIx_nat]
  unfold cutS
  rw [e1, e2]
  by_cases h : e < x.length
  · rw [show min (e + 1) x.length - e = 1 by omega]
  · rw [List.drop_eq_nil_of_le (by omega), List.take_nil, List.take_nil]
theorem cut_at {x : Str} {e : Nat} {z : Str} {k : Nat} (hz : z.cps.toList = [k]) (he : e ≤ x.length) : decide (V.str (cutS x (some (e : Int)) (some ((e : Int) + 1))) = V.str z) = decide (x.cps.toList[e]? = some k) := by
  rw [cut_at1 he]
  cases h : x.cps.toList[e]? with
  | none =>
    rw [List.drop_eq_nil_of_le (List.getElem?_eq_none_iff.mp h), List.take_nil]
    rw [decide_eq_false (by simp : ¬ (none : Option Nat) = some k)]
    refine decide_eq_false fun q => ?_
    have e1 : (⟨#[]⟩ : Str) = z := by cases q; rfl
    rw [← e1] at hz
    cases hz
  | some d =>
    obtain ⟨lt, ed⟩ := List.getElem?_eq_some_iff.mp h
    rw [List.drop_eq_getElem_cons lt, ed]
    show decide (V.str ⟨#[d]⟩ = V.str z) = _
    rw [one_str hz]
    by_cases q : d = k
    · subst q
      simp
    · rw [decide_eq_false q, decide_eq_false (fun r => q (Option.some.inj r))]
section
variable {P : Program} {w : World} {K : PySem.W.Frag} {mg : Str → Option Value} {base : Heap}
/-- e < len(text) and text[e] in signs, as a test -/
theorem rd_mem {σ : L2.St} {H : Hp} {Q : Bool → Hp → Prop} {x sg : Str} {e : Nat} {te ts : TE} (sl : x.length ≤ sizeLine) (h0 : σ[0]? = some (some (.str x))) (hte : ∀ H Q, Q (.int e) H → te σ H Q) (hts : ∀ H Q, Q (.str sg) H → ts σ H Q) (k : Q (memAt x e sg) H)
    : tAnd (tTest (tOp (rI0 fun i j => V.bl (decide (i < j))) te (tCB (fun xs H Q => ∃ x n, xs = [x] ∧ LenV K x H n ∧ Q (.int n) H) (tCons (tVar 0) tNil))))
      (tTest (tOp (fun x y H Q => ∃ c z, x = V.str { cps := #[c] } ∧ y = V.str z ∧ Q (V.bl (decide (c ∈ z.cps.toList))) H) (tOp rIxS (tVar 0) te) ts)) σ H Q := by
  have len1 : x.cps.toList.length = x.length := by simp [Str.length]
  refine hte _ _ ⟨_, h0, _, _, rfl, ⟨sl, rfl⟩, _, _, rfl, rfl, _, rfl, ?_⟩
  by_cases c1 : ((e : Int) < (x.length : Int))
  · rw [decide_eq_true c1]
    have lt : e < x.cps.toList.length := by omega
    have at_ := List.getElem?_eq_getElem lt
    refine iteT ⟨_, h0, hte _ _ ⟨x, _, x.cps.toList[e], rfl, rfl, sl, atI_nat at_, hts _ _ ⟨_, sg, rfl, rfl, _, rfl, ?_⟩⟩⟩
    unfold memAt at k
    rw [at_] at k
    exact k
  · rw [decide_eq_false c1]
    have n : x.cps.toList[e]? = none := List.getElem?_eq_none_iff.mpr (by omega)
    unfold memAt at k
    rw [n] at k
    exact iteF k
end
end Toy
end

section
set_option Elab.async false
set_option linter.all false
set_option maxRecDepth 100000
namespace Toy
open PySem L2 Gd
/-! ### a text read through -/
def alnum : Str := "0123456789abcdefghijklmnopqrstuvwxyz"
def skip (x : Str) (a : Nat) : Nat := a + runLen (x.cps.toList.drop a) (" " : Str).cps.toList 100
def two (x : Str) (a : Nat) : Bool := decide (x.cps.toList[a + 1]? = some 47)
/-- the first argument: how many turns at most -/
def scan (x : Str) : Nat → Nat → Wd → List Br → List Str → Option Nat × List Str
  | 0, a, _, _, rds => (some a, rds)
  | n + 1, a, wd, bs, rds => match x.cps.toList[skip x a]? with
    | none => ((if wd = .sign ∧ bs = [] then none else some (skip x a)), rds)
    | some c =>
      if wd = .sign then (if (behind c (two x (skip x a)) (skip x a) bs).1 = .wrong then (some (behind c (two x (skip x a)) (skip x a) bs).2.1, rds)
        else scan x n (behind c (two x (skip x a)) (skip x a) bs).2.1 (behind c (two x (skip x a)) (skip x a) bs).1 (behind c (two x (skip x a)) (skip x a) bs).2.2 rds)
      else if c = 40 ∨ c = 45 then scan x n (skip x a + 1) wd (if c = 40 then bs ++ [.one] else bs) rds
      else if c ∈ alnum.cps.toList then (if (opd x (skip x a) c bs rds).1 = .wrong then (some (opd x (skip x a) c bs rds).2.1, (opd x (skip x a) c bs rds).2.2.2)
        else scan x n (opd x (skip x a) c bs rds).2.1 (opd x (skip x a) c bs rds).1 (opd x (skip x a) c bs rds).2.2.1 (opd x (skip x a) c bs rds).2.2.2)
      else (some (skip x a), rds)
theorem skip_le {x : Str} {a : Nat} (h : a ≤ x.length) : a ≤ skip x a ∧ skip x a ≤ x.length := by
  have len1 : x.cps.toList.length = x.length := by simp [Str.length]
  have := (runLen_le (x.cps.toList.drop a) (" " : Str).cps.toList 100).1
  rw [List.length_drop] at this
  unfold skip
  omega
/-- a step behind an operand goes on by one or two -/
theorem behind_on {c a : Nat} {t : Bool} {bs : List Br} (h : ¬ (behind c t a bs).1 = .wrong) : a + 1 ≤ (behind c t a bs).2.1 ∧ (behind c t a bs).2.1 ≤ a + 2 ∧ (t = false → (behind c t a bs).2.1 ≤ a + 1) ∧ (behind c t a bs).2.2.length ≤ bs.length + 1 ∧ ((behind c t a bs).1 = .operand ∨ (behind c t a bs).1 = .sign) := by
  unfold behind at h ⊢
  split
  · exact ⟨Nat.le_refl _, by simp, fun _ => by simp, by simp, .inl rfl⟩
  · split
    · cases t
      · rename_i h1 h2
        simp [h1, h2] at h
      · exact ⟨by simp, by simp, (fun z => (by cases z)), by simp, .inl rfl⟩
    · split
      · refine ⟨by simp, by simp, fun _ => by simp, ?_, .inl rfl⟩
        simp
        try omega
      · split
        · refine ⟨by simp, by simp, fun _ => by simp, ?_, .inr rfl⟩
          simp
          try omega
        · rename_i h1 h2 h3 h4
          simp [h1, h2, h3, h4] at h
theorem run_pos {l sg : List Nat} {k c : Nat} (h : l[0]? = some c) (hc : c ∈ sg) : 1 ≤ runLen l sg (k + 1) := by
  have := run_more (l := l) (sg := sg) (k := k + 1) (e := 0) (by omega) h hc
  rw [List.drop_zero, Nat.sub_zero] at this
  omega
theorem alnum_split {c : Nat} (h : c ∈ alnum.cps.toList) : c ∈ fig.cps.toList ∨ c ∈ lets.cps.toList := by
  have e : alnum.cps.toList = fig.cps.toList ++ lets.cps.toList := by decide +kernel
  rw [e] at h
  exact List.mem_append.mp h
theorem opd_on {x : Str} {a c : Nat} {bs : List Br} {rds : List Str} (hc : x.cps.toList[a]? = some c) (hal : c ∈ alnum.cps.toList) (h : ¬ (opd x a c bs rds).1 = .wrong) :
    a + 1 ≤ (opd x a c bs rds).2.1 ∧ (opd x a c bs rds).2.1 ≤ x.length ∧ (opd x a c bs rds).2.2.1.length ≤ bs.length + 1 ∧ (opd x a c bs rds).2.2.2.length ≤ rds.length + 1 ∧ ((opd x a c bs rds).1 = .operand ∨ (opd x a c bs rds).1 = .sign) := by
  have len1 : x.cps.toList.length = x.length := by simp [Str.length]
  have lt := (List.getElem?_eq_some_iff.mp hc).1
  have hd0 : (x.cps.toList.drop a)[0]? = some c := by rw [List.getElem?_drop]; exact hc
  have ld : (x.cps.toList.drop a).length = x.length - a := by rw [List.length_drop, len1]
  by_cases c1 : c ∈ fig.cps.toList
  · have e : opd x a c bs rds = ((if memAt x (opdD x a c) fig = true then .wrong else .sign), opdD x a c, bs, rds) := by
      unfold opd
      rw [if_pos c1]
    rw [e] at h ⊢
    have b1 : a + 1 ≤ opdD x a c ∧ opdD x a c ≤ x.length := by
      have p : 1 ≤ runLen (x.cps.toList.drop a) fig.cps.toList 31 := run_pos (k := 30) hd0 c1
      have q := (runLen_le (x.cps.toList.drop a) fig.cps.toList 31).1
      unfold opdD
      split <;> omega
    refine ⟨b1.1, b1.2, Nat.le_succ _, Nat.le_succ _, .inr ?_⟩
    by_cases z : memAt x (opdD x a c) fig = true
    · exact absurd (if_pos z) h
    · exact if_neg z
  · have c1' : c ∈ lets.cps.toList := (alnum_split hal).elim (fun z => absurd z c1) id
    have p : 1 ≤ runLen (x.cps.toList.drop a) lets.cps.toList 8 := run_pos (k := 7) hd0 c1'
    have q := (runLen_le (x.cps.toList.drop a) lets.cps.toList 8).1
    have b1 : a + 1 ≤ opdW x a ∧ opdW x a ≤ x.length := by
      unfold opdW
      omega
    by_cases c2 : memAt x (opdW x a) lets = true ∨ word x a = "self"
    · have e : opd x a c bs rds = (.wrong, opdW x a, bs, rds) := by
        unfold opd
        rw [if_neg c1, if_pos c2]
      rw [e] at h
      exact absurd rfl h
    · by_cases c3 : word x a = "min" ∨ word x a = "max"
      · by_cases c4 : x.cps.toList[opdE x a]? = some 40
        · have e : opd x a c bs rds = (.operand, opdE x a + 1, bs ++ [.pair], rds) := by
            unfold opd
            rw [if_neg c1, if_neg c2, if_neg (fun z => z c3), if_pos c4]
          rw [e]
          have l4 := (List.getElem?_eq_some_iff.mp c4).1
          have b2 : opdW x a ≤ opdE x a := by
            unfold opdE
            omega
          refine ⟨by show a + 1 ≤ opdE x a + 1; omega, by show opdE x a + 1 ≤ x.length; omega, by simp, Nat.le_succ _, .inl rfl⟩
        · have e : opd x a c bs rds = (.wrong, opdE x a, bs, rds) := by
            unfold opd
            rw [if_neg c1, if_neg c2, if_neg (fun z => z c3), if_neg c4]
          rw [e] at h
          exact absurd rfl h
      · have e : opd x a c bs rds = (.sign, opdW x a, bs, rds ++ [word x a]) := by
          unfold opd
          rw [if_neg c1, if_neg c2, if_pos c3]
        rw [e]
        exact ⟨b1.1, b1.2, Nat.le_succ _, by simp, .inr rfl⟩
theorem cut_end {x : Str} {e : Nat} (he : e ≤ x.length) (h : x.cps.toList[e]? = none) : cutS x (some (e : Int)) (some ((e : Int) + 1)) = "" := by
  rw [cut_at1 he, List.drop_eq_nil_of_le (List.getElem?_eq_none_iff.mp h), List.take_nil]
  rfl
theorem cut_sign {x : Str} {e c : Nat} (he : e ≤ x.length) (h : x.cps.toList[e]? = some c) : cutS x (some (e : Int)) (some ((e : Int) + 1)) = ⟨#[c]⟩ := by
  obtain ⟨lt, ed⟩ := List.getElem?_eq_some_iff.mp h
  rw [cut_at1 he, List.drop_eq_getElem_cons lt, ed]
  rfl
section
variable {P : Program} {w : World} {K : PySem.W.Frag} {mg : Str → Option Value} {base : Heap}
end
end Toy
end

section
set_option Elab.async false
set_option linter.all false
set_option maxRecDepth 100000
set_option maxHeartbeats 4000000
/-! A dict of the module from texts to ints, asked with any text. -/
namespace Kt
open PySem PySem.Spec PyProof.Rows L2
/-- what the dict at a answers to any text -/
structure Tbl (K : PySem.W.Frag) (w : World) (a : Addr) (kvs : List (Str × Int)) : Prop where
  ex : ∃ es n, KDict K w a es n ∧ ∀ z, ∃ r : Option Value, PySem.W.nsIn K a z = some r ∧ (match kvs.lookup z with
    | some i => ∃ u, r = some u ∧ RelV (.int i) u
    | none => r = none)
theorem key_is {P : Params} {e : DictEntry} {k : Str} (h : He.keyOf e = some (k, PyData.keyHash P k)) : ∃ t, e.key = .str k t := by
  unfold He.keyOf at h
  split at h
  · rename_i x t q
    have h4 := Option.some.inj h
    obtain ⟨h5, h6⟩ := Prod.mk.inj h4
    exact ⟨t, by rw [q, h5]⟩
  · cases h
theorem miss {P : Params} : ∀ {l : List DictEntry} {ks : List Str} {z : Str}, l.map He.keyOf = He.keysIn P ks → ¬ z ∈ ks → l.find? (·.key.isStr z) = none ∧ l.any (·.refKey) = false
  | [], _, _, _, _ => ⟨rfl, rfl⟩
  | e :: r, [], _, h, _ => by cases h
  | e :: r, k :: ks, z, h, n => by
    have h1 : He.keyOf e :: r.map He.keyOf = some (k, PyData.keyHash P k) :: He.keysIn P ks := h
    injection h1 with h2 h3
    obtain ⟨t, q⟩ := key_is h2
    obtain ⟨i1, i2⟩ := miss h3 (fun m => n (List.mem_cons_of_mem _ m))
    have ne : k ≠ z := fun e => n (by rw [e]; exact List.mem_cons_self ..)
    have b1 : e.key.isStr z = false := by
      rw [q]
      show (k == z) = false
      exact beq_eq_false_iff_ne.mpr ne
    have b2 : e.refKey = false := by
      unfold DictEntry.refKey
      rw [q]
    refine ⟨?_, ?_⟩
    · rw [List.find?_cons, b1]
      exact i1
    · rw [List.any_cons, b2, i2]
      rfl
theorem tbl_of {K : PySem.W.Frag} {w : World} {a : Addr} {kvs : List (Str × Int)} (h : He.dicW K a = some (He.keysIn w.params (kvs.map (·.1)))) (v : He.valsB K a (kvs.map fun q => (q.1, He.Dv.int q.2)) = true) : Tbl K w a kvs := by
  obtain ⟨es, n, D⟩ := He.dicW_ok h
  refine ⟨es, n, D, fun z => ?_⟩
  cases e : kvs.lookup z with
  | some i =>
    have m : (z, i) ∈ kvs := by
      clear h v D
      induction kvs with
      | nil => cases e
      | cons q r ih =>
        obtain ⟨k, j⟩ := q
        rw [List.lookup_cons] at e
        cases b : (z == k) with
        | true =>
          rw [b] at e
          have e1 : z = k := eq_of_beq b
          have e2 : j = i := Option.some.inj e
          rw [e1, e2]
          exact List.mem_cons_self ..
        | false =>
          rw [b] at e
          exact List.mem_cons_of_mem _ (ih e)
    obtain ⟨u, e1, r1⟩ := He.valsB_ok v (q := (z, He.Dv.int i)) (List.mem_map.mpr ⟨(z, i), m, rfl⟩)
    exact ⟨some u, e1, u, rfl, r1⟩
  | none =>
    have nm : ¬ z ∈ kvs.map (·.1) := by
      intro m
      obtain ⟨q, hq, rfl⟩ := List.mem_map.mp m
      clear h v D
      induction kvs with
      | nil => cases hq
      | cons q' r ih =>
        obtain ⟨k, j⟩ := q'
        rw [List.lookup_cons] at e
        cases b : (q.1 == k) with
        | true =>
          rw [b] at e
          cases e
        | false =>
          rw [b] at e
          rcases List.mem_cons.mp hq with rfl | hq
          · rw [beq_self_eq_true] at b
            cases b
          · exact ih hq e (List.mem_map.mpr ⟨q, hq, rfl⟩)
    refine ⟨none, ?_, rfl⟩
    have hl := D.at_
    unfold He.dicW at h
    rw [hl] at h
    have lo := D.low
    have h' : es.toList.map He.keyOf = He.keysIn w.params (kvs.map (·.1)) := by
      have e1 : (decide (("dict" : String) = "dict") && ((#[] : Array (Option Value)).isEmpty && !(a == sysModules))) = true := by rw [lo]; decide
      dsimp only at h
      rw [e1] at h
      exact Option.some.inj h
    obtain ⟨i1, i2⟩ := miss h' nm
    unfold PySem.W.nsIn
    rw [hl]
    dsimp only
    rw [i1, i2]
    rfl
/-- z in D -/
def rInT (K : PySem.W.Frag) (w : World) (a : Addr) (kvs : List (Str × Int)) : R2 := fun x y H Q => ∃ z : Str, x = .str z ∧ y = .ref a ∧ Q (.bl (kvs.lookup z).isSome) H
/-- D[z] -/
def rIxT (a : Addr) (kvs : List (Str × Int)) : R2 := fun x y H Q => ∃ (z : Str) (i : Int), x = .ref a ∧ y = .str z ∧ kvs.lookup z = some i ∧ Q (.int i) H
/-- D.get(z, d) -/
def tTGet (a : Addr) (kvs : List (Str × Int)) (ty tx : TE) : TE := fun σ H Q => ty σ H fun y H2 => ∃ z : Str, y = .str z ∧ tx σ H2 fun d H3 => Q (match kvs.lookup z with
  | some i => .int i
  | none => d) H3
section
variable {X : Cx} {a : Addr} {kvs : List (Str × Int)}
theorem op_inT (T : Tbl X.K X.w a kvs) : OpR X (compareOp .In) (rInT X.K X.w a kvs) := by
  intro pins s σ H x y v u Q I rx ry h
  obtain ⟨z, ex, ey, q⟩ := h
  obtain ⟨es, n, D, g⟩ := T.ex
  obtain ⟨r, e, m⟩ := g z
  refine op_in_kd D pins s σ H x y v u Q I rx ry ⟨z, r, ex, ey, e, ?_⟩
  cases l : kvs.lookup z with
  | some i =>
    rw [l] at m q
    obtain ⟨u, rfl, _⟩ := m
    exact q
  | none =>
    rw [l] at m q
    rw [m]
    exact q
theorem ix_T (T : Tbl X.K X.w a kvs) : IxR X (rIxT a kvs) := by
  intro value slice pins s σ H x y v u Q I rx ry h hs
  obtain ⟨z, i, ex, ey, l, q⟩ := h
  obtain ⟨es, n, D, g⟩ := T.ex
  obtain ⟨r, e, m⟩ := g z
  rw [l] at m
  obtain ⟨u0, rfl, r0⟩ := m
  exact ix_kdict value slice pins s σ H x y v u Q I rx ry ⟨a, z, .int i, ex, ey, ⟨es, n, u0, D.at_, D.lit, e, r0⟩, q⟩ hs
theorem pe_tget {o e f : Expr} {apos cpos : Pos} {ty tx : TE} (T : Tbl X.K X.w a kvs) (ho : PE X o (fun σ H Q => Q (.ref a) H)) (he : PE X e ty) (hf : PE X f tx) (m : M2 X o "get" apos e f cpos) : PE X (.Call (.Attribute o "get" apos) [e, f] [] cpos) (tTGet a kvs ty tx) := by
  refine ⟨fun pins s σ H Q I h => ?_⟩
  obtain ⟨es, n, D, g⟩ := T.ex
  refine wpAny_Call_method m.base m.few m.line PySem.F.plainAttrs_dict PySem.F.slot_dict_get PySem.F.type_dict_get
    (thn (ho.run pins s σ H (fun x H1 => x = .ref a ∧ H1 = H) I ⟨rfl, rfl⟩) fun u s1 ⟨x, H1, I1, rx, ex, eH⟩ => ?_)
  subst ex eH
  obtain rfl : u = Value.ref a := rx
  refine ⟨kd_type D I1, fun b q => ?_, ?_⟩
  · cases q
    exact ⟨_, I1.kIn _ _ D.at_, rfl⟩
  rw [m.trees]
  refine Calls.callWith_builtin rfl (Calls.evalArgs_plain (Calls.spliced_cons (thn (he.run pins s1 σ H1 _ I1 h) fun iv s2 ⟨y, H2, I2, ry, z, ey, q2⟩ =>
    Calls.spliced_cons (thn (hf.run pins s2 σ H2 _ I2 q2) fun fv s3 ⟨d, H3, I3, rd, q3⟩ => Calls.spliced_nil ?_))))
  subst ey
  obtain ⟨t, rfl⟩ := ry
  obtain ⟨r, e, mm⟩ := g z
  refine call_meetsIn PySem.F.slot_dict_get (kd_type D I3) PySem.F.entry_dict_get (PySem.F.args_dict_get_3 _ _ _) (meets_dict_get_default (PySem.strKind X.prog X.w) a (PySem.strKind_is X.prog X.w z t) D.low fv)
    ⟨_, PySem.W.mapOf_K (prog := X.prog) (w := X.w) I3.kIn D.at_ D.lit, ?_⟩
  rw [PySem.W.find_K D.at_ e]
  cases l : kvs.lookup z with
  | some i =>
    rw [l] at mm q3
    obtain ⟨u, rfl, r0⟩ := mm
    exact ⟨_, H3, I3.tok _, r0, q3⟩
  | none =>
    rw [l] at mm q3
    rw [mm]
    exact ⟨_, H3, I3.tok _, rd, q3⟩
end
end Kt
end

section
set_option Elab.async false
set_option linter.all false
set_option maxRecDepth 100000
namespace Toy
open PySem L2 Gd Kt
/-! ### the error -/
abbrev sInitParse : Stmt := inClass (top 2) 0
structure ErrT (K : PySem.W.Frag) (mg : Str → Option Value) (x : Str) (C fI : Addr) (fd : FuncData) (ps : List Str) : Prop where
  ox : OexC K C
  m : mg x = some (.ref C)
  iC : PySem.W.findIn K (.ref C) "__init__" = some (some (.ref fI))
  tI : PySem.W.typeIn K (.ref fI) = some (.type "function")
  b : Binds K fd ps []
structure TxtV (K : PySem.W.Frag) (mg : Str → Option Value) : Prop where
  ve : mg "ValueError" = none
  vV : PySem.W.findCls K (.type "ValueError") (.type "type") "__init__" = some (.val (.builtin "ValueError.__init__"))
abbrev ki : Str := "index"
def spExc (C : Addr) : Sp := fun vs H Q _ => ∃ a v, vs = [.ref a, v] ∧ H a = some (exo a C none) ∧ ∀ dx, H dx = none → dx ≠ a → Q .non (upd (upd H dx (exd dx [(ki, v)])) a (exo a C (some dx)))
/-- an error of the class at C, its index v, leaves; all that was tracked stands -/
def Rz (H : Hp) (E : XK) (C : Addr) (v : V) : Prop := ∀ d H', H d = none → Same H H' → H' d = some (.xd [(ki, v)]) → E (.ref C) (some d) H'
theorem Rz.grow {H H1 : Hp} {E : XK} {C : Addr} {v : V} (e : Same H H1) (h : Rz H E C v) : Rz H1 E C v := fun d H' n s => h d H' (e.free n) (e.trans s)
theorem rz_made {H : Hp} {E : XK} {C : Addr} {v : V} (h : Rz H E C v) : ∀ a, H a = none → spExc C (.ref a :: ([v] ++ [])) (upd H a (exo a C none))
    (fun u H2 => u = .non ∧ ∃ (d : Addr) (fs : List (Str × V)), H2 a = some (exo a C (some d)) ∧ H2 d = some (exd d fs) ∧ H d = none ∧ E (.ref C) (some d) (upd (del H2 a) d (.xd fs))) (fun _ _ _ => False) := by
  intro a na
  refine ⟨a, v, rfl, upd_same, fun dx hd ne => ⟨rfl, dx, [(ki, v)], upd_same, by rw [upd_ne ne, upd_same], ?_, ?_⟩⟩
  · rw [upd_ne ne] at hd
    exact hd
  · rw [upd_ne ne] at hd
    refine h dx _ hd (fun b o e => ?_) upd_same
    have ba := ne_of_none e na
    have bd := ne_of_none e hd
    rw [upd_ne bd, del_ne ba, upd_ne ba, upd_ne bd, upd_ne ba]
    exact e
section
variable {P : Program} {w : World} {K : PySem.W.Frag} {mg : Str → Option Value} {base : Heap} {C f : Addr} {fd : FuncData}
theorem scIP : FnScope ["self", "index"] ["self", "index"] (defScope sInitParse) := ⟨rfl, rfl, rfl, by decide +kernel, rfl, by decide +kernel, by decide +kernel⟩
theorem ok_initP (F : Fun K "__init__" "ParseError.__init__" sInitParse f fd) (T : TxtV K mg) (O : OexC K C) (nv : PySem.W.findIn K (.ref C) ki = some none) : FnOk P w K mg base CX0 1 f fd ["self", "index"] (spExc C) := by
  refine F.ok scIP (fun vs H Q E h => ?_) (fun cdv A outer s H vs Q E hr h => ?_)
  · obtain ⟨a, v, rfl, _⟩ := h
    rfl
  · obtain ⟨a, v, rfl, ha, k⟩ := h
    refine ⟨_, pss_cons (ps_expr (pe_veinit (by rfl) T.ve T.vV (pa_cons (pv 0) (pa_cons pe_str pa_nil)))) (pss_one (ps_ost (pv 0) (pv 1))), ?_⟩
    exact ⟨_, rfl, a, C, _, rfl, (by decide), O, ha, _, rfl, _, rfl, a, C, rfl, O, nv, .inl ⟨ha, k⟩⟩
end
structure ErrsT (P : Program) (w : World) (K : PySem.W.Frag) (mg : Str → Option Value) (base : Heap) (x : Str) (C : Addr) : Prop where
  ex : ∃ fI fd, ErrT K mg x C fI fd ["self", "index"] ∧ FnOk P w K mg base CX0 1 fI fd ["self", "index"] (spExc C)
/-! ### what a reader writes -/
inductive Ins where
  | int (n : Int)
  | par (s : Str)
  | op (s : Str)
def Ins.vs : Ins → List V
  | .int n => [.str "integer", .int n]
  | .par s => [.str "parameter", .str s]
  | .op s => [.str "operation", .str s]
inductive InsAll (H : Hp) : List Addr → List Ins → Prop
  | nil : InsAll H [] []
  | cons {a : Addr} {c : Ins} {as : List Addr} {cs : List Ins} (h : H a = some (.tup c.vs)) (t : InsAll H as cs) : InsAll H (a :: as) (c :: cs)
theorem InsAll.imp {H H' : Hp} {as : List Addr} {cs : List Ins} (h : InsAll H as cs) (k : ∀ a o, H a = some (.tup o) → H' a = some (.tup o)) : InsAll H' as cs := by
  induction h with
  | nil => exact .nil
  | cons h t ih => exact .cons (k _ _ h) ih
theorem InsAll.snoc {H : Hp} {as : List Addr} {cs : List Ins} {a : Addr} {c : Ins} (h : InsAll H as cs) (e : H a = some (.tup c.vs)) : InsAll H (as ++ [a]) (cs ++ [c]) := by
  induction h with
  | nil => exact .cons e .nil
  | cons h t ih => exact .cons h ih
theorem InsAll.len {H : Hp} {as : List Addr} {cs : List Ins} (h : InsAll H as cs) : as.length = cs.length := by
  induction h with
  | nil => rfl
  | cons h t ih => rw [List.length_cons, List.length_cons, ih]
def CodeAt (H : Hp) (lc : Addr) (cs : List Ins) : Prop := ∃ as : List Addr, H lc = some (.lst (as.map V.ref)) ∧ InsAll H as cs
/-! ### a reader's fields -/
abbrev gT : Str := "text"
abbrev gP : Str := "place"
abbrev gC : Str := "code"
abbrev gW : Str := "waiting"
def fR (x : Str) (n : Nat) (lc lw : Addr) : List (Str × V) := [(gT, .str x), (gP, .int n), (gC, .ref lc), (gW, .ref lw)]
theorem lk_hit {f : Str} {v : V} {r : List (Str × V)} : List.lookup f ((f, v) :: r) = some v := by
  rw [List.lookup_cons, beq_self_eq_true]
theorem lk_miss {f g : Str} {v : V} {r : List (Str × V)} (h : ¬ f = g) : List.lookup f ((g, v) :: r) = List.lookup f r := by
  rw [List.lookup_cons, beq_eq_false_iff_ne.mpr h]
theorem n1 : ¬ gP = gT := by decide +kernel
theorem n2 : ¬ gC = gT := by decide +kernel
theorem n3 : ¬ gC = gP := by decide +kernel
theorem n4 : ¬ gW = gT := by decide +kernel
theorem n5 : ¬ gW = gP := by decide +kernel
theorem n6 : ¬ gW = gC := by decide +kernel
theorem fR_t (x : Str) (n : Nat) (lc lw : Addr) : (fR x n lc lw).lookup gT = some (.str x) := lk_hit
theorem fR_p (x : Str) (n : Nat) (lc lw : Addr) : (fR x n lc lw).lookup gP = some (.int n) := (lk_miss n1).trans lk_hit
theorem fR_c (x : Str) (n : Nat) (lc lw : Addr) : (fR x n lc lw).lookup gC = some (.ref lc) := (lk_miss n2).trans ((lk_miss n3).trans lk_hit)
theorem fR_w (x : Str) (n : Nat) (lc lw : Addr) : (fR x n lc lw).lookup gW = some (.ref lw) := (lk_miss n4).trans ((lk_miss n5).trans ((lk_miss n6).trans lk_hit))
theorem fR_no {m : Str} (h1 : ¬ m = gT) (h2 : ¬ m = gP) (h3 : ¬ m = gC) (h4 : ¬ m = gW) (x : Str) (n : Nat) (lc lw : Addr) : (fR x n lc lw).lookup m = none := by
  unfold fR
  rw [lk_miss h1, lk_miss h2, lk_miss h3, lk_miss h4]
  rfl
theorem putF_hit {f : Str} {v u : V} {r : List (Str × V)} : putF f v ((f, u) :: r) = (f, v) :: r := if_pos rfl
theorem putF_miss {f g : Str} {v u : V} {r : List (Str × V)} (h : ¬ g = f) : putF f v ((g, u) :: r) = (g, u) :: putF f v r := if_neg h
theorem fR_set (x : Str) (n m : Nat) (lc lw : Addr) : putF gP (.int m) (fR x n lc lw) = fR x m lc lw := by
  unfold fR
  rw [putF_miss (fun e => n1 e.symm), putF_hit]
theorem fR_made (x : Str) (lc lw : Addr) : putF gW (.ref lw) (putF gC (.ref lc) (putF gP (.int 0) (putF gT (.str x) []))) = fR x 0 lc lw := by
  show putF gW (.ref lw) (putF gC (.ref lc) (putF gP (.int 0) [(gT, .str x)])) = _
  rw [putF_miss (fun e => n1 e.symm)]
  show putF gW (.ref lw) (putF gC (.ref lc) [(gT, .str x), (gP, .int 0)]) = _
  rw [putF_miss (fun e => n2 e.symm), putF_miss (fun e => n3 e.symm)]
  show putF gW (.ref lw) [(gT, .str x), (gP, .int 0), (gC, .ref lc)] = _
  rw [putF_miss (fun e => n4 e.symm), putF_miss (fun e => n5 e.symm), putF_miss (fun e => n6 e.symm)]
  rfl
/-! ### a reader -/
structure RdT (K : PySem.W.Frag) (C : Addr) : Prop where
  cl : Cls K C
  nT : NoAttr K C gT
  nP : NoAttr K C gP
  nC : NoAttr K C gC
  nW : NoAttr K C gW
/-- where it is, what it wrote, what waits (the last one ahead) -/
structure RS where
  n : Nat
  cs : List Ins
  ws : List Str
def waitV (ws : List Str) : List V := ws.reverse.map V.str
structure RdS (C : Addr) (H : Hp) (p dx lc lw : Addr) (x : Str) (s : RS) : Prop where
  ob : H p = some (.ins C dx (fR x s.n lc lw))
  wt : H lw = some (.lst (waitV s.ws))
  cd : CodeAt H lc s.cs
  ne : lc ≠ lw
/-- all other objects stand -/
def Kp (p lc lw : Addr) (H H' : Hp) : Prop := ∀ b o, b ≠ p → b ≠ lc → b ≠ lw → H b = some o → H' b = some o
theorem Kp.refl {p lc lw : Addr} {H : Hp} : Kp p lc lw H H := fun _ _ _ _ _ e => e
theorem Kp.trans {p lc lw : Addr} {H H1 H2 : Hp} (h : Kp p lc lw H H1) (k : Kp p lc lw H1 H2) : Kp p lc lw H H2 := fun b o n1 n2 n3 e => k b o n1 n2 n3 (h b o n1 n2 n3 e)
theorem Kp.same {p lc lw : Addr} {H H' : Hp} (h : Same H H') : Kp p lc lw H H' := fun b o _ _ _ e => h b o e
theorem kp_p {p lc lw : Addr} {H : Hp} {o : HO} : Kp p lc lw H (upd H p o) := fun b o' n1 _ _ e => by
  rw [upd_ne n1]
  exact e
theorem kp_c {p lc lw : Addr} {H : Hp} {o : HO} : Kp p lc lw H (upd H lc o) := fun b o' _ n2 _ e => by
  rw [upd_ne n2]
  exact e
theorem kp_w {p lc lw : Addr} {H : Hp} {o : HO} : Kp p lc lw H (upd H lw o) := fun b o' _ _ n3 e => by
  rw [upd_ne n3]
  exact e
section
variable {C : Addr} {H H' : Hp} {p dx lc lw : Addr} {x : Str} {s : RS}
theorem RdS.pc (R : RdS C H p dx lc lw x s) : p ≠ lc := fun e => by
  obtain ⟨as, h, _⟩ := R.cd
  rw [← e, R.ob] at h
  cases h
theorem RdS.pw (R : RdS C H p dx lc lw x s) : p ≠ lw := fun e => by
  have h := R.wt
  rw [← e, R.ob] at h
  cases h
theorem RdS.grow (R : RdS C H p dx lc lw x s) (k : Same H H') : RdS C H' p dx lc lw x s := by
  obtain ⟨as, h1, h2⟩ := R.cd
  exact ⟨k _ _ R.ob, k _ _ R.wt, ⟨as, k _ _ h1, h2.imp fun a o e => k _ _ e⟩, R.ne⟩
theorem RdS.place (R : RdS C H p dx lc lw x s) (m : Nat) : RdS C (upd H p (.ins C dx (putF gP (.int m) (fR x s.n lc lw)))) p dx lc lw x ⟨m, s.cs, s.ws⟩ := by
  obtain ⟨as, h1, h2⟩ := R.cd
  refine ⟨?_, ?_, ⟨as, ?_, h2.imp fun a o e => ?_⟩, R.ne⟩
  · rw [upd_same, fR_set]
  · rw [upd_ne (Ne.symm R.pw)]
    exact R.wt
  · rw [upd_ne (Ne.symm R.pc)]
    exact h1
  · have na : a ≠ p := fun z => by
      rw [z, R.ob] at e
      cases e
    rw [upd_ne na]
    exact e
theorem RdS.setw (R : RdS C H p dx lc lw x s) (ws : List Str) : RdS C (upd H lw (.lst (waitV ws))) p dx lc lw x ⟨s.n, s.cs, ws⟩ := by
  obtain ⟨as, h1, h2⟩ := R.cd
  refine ⟨?_, upd_same, ⟨as, ?_, h2.imp fun a o e => ?_⟩, R.ne⟩
  · rw [upd_ne R.pw]
    exact R.ob
  · rw [upd_ne R.ne]
    exact h1
  · have na : a ≠ lw := fun z => by
      rw [z, R.wt] at e
      cases e
    rw [upd_ne na]
    exact e
theorem RdS.addc (R : RdS C H p dx lc lw x s) {as : List Addr} {a : Addr} {c : Ins} (h1 : H lc = some (.lst (as.map V.ref))) (h2 : InsAll H as s.cs) (ha : H a = some (.tup c.vs)) :
    RdS C (upd H lc (.lst (as.map V.ref ++ [V.ref a]))) p dx lc lw x ⟨s.n, s.cs ++ [c], s.ws⟩ := by
  have nt : ∀ {b : Addr} {o : List V}, H b = some (.tup o) → b ≠ lc := fun {b o} e z => by
    rw [z, h1] at e
    cases e
  refine ⟨?_, ?_, ⟨as ++ [a], ?_, ?_⟩, R.ne⟩
  · rw [upd_ne R.pc]
    exact R.ob
  · rw [upd_ne (Ne.symm R.ne)]
    exact R.wt
  · rw [upd_same, List.map_append]
    rfl
  · refine (h2.imp fun b o e => ?_).snoc ?_
    · rw [upd_ne (nt e)]
      exact e
    · rw [upd_ne (nt ha)]
      exact ha
theorem RdS.free (R : RdS C H' p dx lc lw x s) (k : Kp p lc lw H H') {d : Addr} (h : H' d = none) : H d = none := by
  cases e : H d with
  | none => rfl
  | some o =>
    obtain ⟨as, h1, _⟩ := R.cd
    have m1 : d ≠ p := fun e => by
      rw [e, R.ob] at h
      cases h
    have m2 : d ≠ lc := fun e => by
      rw [e, h1] at h
      cases h
    have m3 : d ≠ lw := fun e => by
      rw [e, R.wt] at h
      cases h
    rw [k d o m1 m2 m3 e] at h
    cases h
/-- an error leaves; the reader's own objects may have changed -/
def RzK (H : Hp) (E : XK) (PE p lc lw : Addr) (i : Nat) : Prop := ∀ d H', H d = none → Kp p lc lw H H' → H' d = some (.xd [(ki, .int i)]) → E (.ref PE) (some d) H'
theorem RzK.at {E : XK} {PE : Addr} {i : Nat} (h : RzK H E PE p lc lw i) (R : RdS C H' p dx lc lw x s) (k : Kp p lc lw H H') : Rz H' E PE (.int i) :=
  fun d H2 n s2 e => h d H2 (R.free k n) (k.trans (Kp.same s2)) e
theorem RzK.on {E : XK} {PE : Addr} {i : Nat} (h : RzK H E PE p lc lw i) (R : RdS C H' p dx lc lw x s) (k : Kp p lc lw H H') : RzK H' E PE p lc lw i :=
  fun d H2 n s2 e => h d H2 (R.free k n) (k.trans s2) e
end
/-! ### readings of its fields -/
section
variable {K : PySem.W.Frag} {C : Addr} {H : Hp} {p dx lc lw : Addr} {x : Str} {s : RS} {σ : L2.St} {Q : VK}
theorem rdT (T : RdT K C) (R : RdS C H p dx lc lw x s) (h0 : σ[0]? = some (some (.ref p))) (q : Q (.str x) H) : tFld K (tVar 0) gT σ H Q :=
  ⟨_, h0, p, C, dx, _, _, rfl, R.ob, T.cl, T.nT, fR_t _ _ _ _, q⟩
theorem rdP (T : RdT K C) (R : RdS C H p dx lc lw x s) (h0 : σ[0]? = some (some (.ref p))) (q : Q (.int s.n) H) : tFld K (tVar 0) gP σ H Q :=
  ⟨_, h0, p, C, dx, _, _, rfl, R.ob, T.cl, T.nP, fR_p _ _ _ _, q⟩
theorem rdC (T : RdT K C) (R : RdS C H p dx lc lw x s) (h0 : σ[0]? = some (some (.ref p))) (q : Q (.ref lc) H) : tFld K (tVar 0) gC σ H Q :=
  ⟨_, h0, p, C, dx, _, _, rfl, R.ob, T.cl, T.nC, fR_c _ _ _ _, q⟩
theorem rdW (T : RdT K C) (R : RdS C H p dx lc lw x s) (h0 : σ[0]? = some (some (.ref p))) (q : Q (.ref lw) H) : tFld K (tVar 0) gW σ H Q :=
  ⟨_, h0, p, C, dx, _, _, rfl, R.ob, T.cl, T.nW, fR_w _ _ _ _, q⟩
/-- self.place += k -/
theorem rdInc {D : Ends} (T : RdT K C) (R : RdS C H p dx lc lw x s) (h0 : σ[0]? = some (some (.ref p))) (k : Nat) {tv : TE} (hv : ∀ Q : VK, Q (.int k) H → tv σ H Q)
    (q : D.nx σ (upd H p (.ins C dx (putF gP (.int (s.n + k : Nat)) (fR x s.n lc lw))))) : sFldAug K (tVar 0) tv rAdd gP D σ H := by
  refine ⟨_, h0, p, C, dx, _, _, rfl, R.ob, T.cl, T.nP, fR_p _ _ _ _, hv _ ⟨_, _, rfl, rfl, dx, _, R.ob, by show 4 < 1000; decide, ?_⟩⟩
  rw [show ((s.n : Int) + (k : Int)) = ((s.n + k : Nat) : Int) by omega]
  exact q
end
end Toy
end

section
set_option Elab.async false
set_option linter.all false
set_option maxRecDepth 100000
namespace Toy
open PySem L2 Gd Kt
/-! ### the reader, as a pure machine -/
def levT : List (Str × Int) := [("+", 1), ("-", 1), ("*", 2), ("//", 2), ("minus", 3)]
def lev (w : Str) : Int := match levT.lookup w with
  | some i => i
  | none => 0
def finL (lv : Int) : List Ins → List Str → List Ins × List Str
  | cs, [] => (cs, [])
  | cs, w :: ws => if lv ≤ lev w then finL lv (cs ++ [.op w]) ws else (cs, w :: ws)
inductive Wn where
  | opd | opr | brk
  deriving DecidableEq
def Wn.t : Wn → Str
  | .opd => "operand"
  | .opr => "operator"
  | .brk => "bracket"
inductive Res where
  | ok (s : RS) (wd : Wn)
  | err (i : Nat)
def rBr (x : Str) (s : RS) : Res := if x.cps.toList[s.n]? = some 40 then .ok ⟨s.n + 1, s.cs, s.ws⟩ .opd else .err s.n
def rWord (x : Str) (s : RS) : Res :=
  if word x s.n = "min" ∨ word x s.n = "max" then .ok ⟨opdW x s.n, s.cs, word x s.n :: s.ws⟩ .brk
  else if word x s.n = "self" then .err (opdW x s.n) else .ok ⟨opdW x s.n, s.cs ++ [.par (word x s.n)], s.ws⟩ .opr
def numOf (x : Str) (n c : Nat) : Int := ((NumText.digitsVal (cutS x (some (n : Int)) (some (opdD x n c : Int))).cps.toList : Nat) : Int)
def rOpd (x : Str) (c : Nat) (s : RS) : Res :=
  if c = 45 ∨ c = 40 then .ok ⟨s.n + 1, s.cs, (if c = 45 then "minus" else "(") :: s.ws⟩ .opd
  else if c ∈ fig.cps.toList then .ok ⟨opdD x s.n c, s.cs ++ [.int (numOf x s.n c)], s.ws⟩ .opr
  else if c ∈ lets.cps.toList then rWord x s else .err s.n
def rComma (s : RS) : Res := match s.ws with
  | w :: r => if w = "min" ∨ w = "max" then .ok ⟨s.n + 1, s.cs, (w ++ ",") :: r⟩ .opd else .err s.n
  | [] => .err s.n
def rEnd (s : RS) : Res := match s.ws with
  | w :: r => if w = "min" ∨ w = "max" then .err s.n else .ok ⟨s.n + 1, (if w = "(" then s.cs else s.cs ++ [.op (cutS w none (some 3))]), r⟩ .opr
  | [] => .err s.n
def sgn (c : Nat) : Str := if c = 47 then "//" else ⟨#[c]⟩
def finS (lv : Int) (s : RS) : RS := ⟨s.n, (finL lv s.cs s.ws).1, (finL lv s.cs s.ws).2⟩
def rOp (x : Str) (c : Nat) (s : RS) : Res :=
  if c = 47 ∧ ¬ x.cps.toList[s.n + 1]? = some 47 then .err (s.n + 1) else
  match levT.lookup (sgn c) with
  | some lv => .ok ⟨s.n + (sgn c).length, (finL lv s.cs s.ws).1, sgn c :: (finL lv s.cs s.ws).2⟩ .opd
  | none => if c = 44 then rComma (finS 1 s) else if c = 41 then rEnd (finS 1 s) else .err s.n
def rStep (wd : Wn) (x : Str) (c : Nat) (s : RS) : Res := match wd with
  | .opd => rOpd x c s
  | .brk => rBr x s
  | .opr => rOp x c s
inductive Out where
  | code (cs : List Ins)
  | bad (i : Nat)
def rLoop (x : Str) : Nat → Wn → RS → Out
  | 0, _, s => .bad s.n
  | k + 1, wd, s => match x.cps.toList[s.n]? with
    | none => if wd = .opr ∧ (finL 1 s.cs s.ws).2 = [] then .code (finL 1 s.cs s.ws).1 else .bad x.length
    | some c => match rStep wd x c s with
      | .err i => .bad i
      | .ok s' wd' => rLoop x k wd' ⟨skip x s'.n, s'.cs, s'.ws⟩
/-! ### its words -/
def pars (cs : List Ins) : List Str := cs.filterMap fun c => match c with
  | .par s => some s
  | _ => none
def brOf (w : Str) : Option Br := if w = "(" then some .one else if w = "min" ∨ w = "max" then some .pair else if w = "min," ∨ w = "max," then some .last else none
structure OkW (w : Str) : Prop where
  ex : (1 ≤ lev w ∧ brOf w = none) ∨ (lev w = 0 ∧ (brOf w).isSome = true)
theorem pars_snoc (cs : List Ins) (c : Ins) : pars (cs ++ [c]) = pars cs ++ pars [c] := List.filterMap_append ..
theorem pars_op (cs : List Ins) (w : Str) : pars (cs ++ [.op w]) = pars cs := by rw [pars_snoc]; exact List.append_nil _
theorem pars_int (cs : List Ins) (w : Int) : pars (cs ++ [.int w]) = pars cs := by rw [pars_snoc]; exact List.append_nil _
theorem pars_par (cs : List Ins) (w : Str) : pars (cs ++ [.par w]) = pars cs ++ [w] := by rw [pars_snoc]; rfl
theorem finL_pars (lv : Int) : ∀ (ws : List Str) (cs : List Ins), pars (finL lv cs ws).1 = pars cs
  | [], cs => rfl
  | w :: ws, cs => by
    unfold finL
    split
    · rw [finL_pars lv ws, pars_op]
    · rfl
theorem finL_len (lv : Int) : ∀ (ws : List Str) (cs : List Ins), (finL lv cs ws).1.length + (finL lv cs ws).2.length = cs.length + ws.length
  | [], cs => rfl
  | w :: ws, cs => by
    unfold finL
    split
    · rw [finL_len lv ws, List.length_append, List.length_cons, List.length_cons, List.length_nil]
      omega
    · rfl
theorem finL_br {lv : Int} (h1 : 1 ≤ lv) : ∀ (ws : List Str) (cs : List Ins), (∀ w ∈ ws, OkW w) → (finL lv cs ws).2.filterMap brOf = ws.filterMap brOf ∧ ∀ w ∈ (finL lv cs ws).2, OkW w
  | [], cs, h => ⟨rfl, h⟩
  | w :: ws, cs, h => by
    unfold finL
    split
    · rename_i hl
      obtain ⟨a1, a2⟩ := finL_br h1 ws (cs ++ [.op w]) (fun u hu => h u (List.mem_cons_of_mem _ hu))
      refine ⟨?_, a2⟩
      rw [a1]
      have e : brOf w = none := by
        rcases (h w (List.mem_cons_self ..)).ex with ⟨_, e⟩ | ⟨e, _⟩
        · exact e
        · omega
      rw [List.filterMap_cons, e]
    · exact ⟨rfl, h⟩
theorem finL_top : ∀ (ws : List Str) (cs : List Ins) {w : Str} {r : List Str}, (finL 1 cs ws).2 = w :: r → lev w < 1
  | [], cs, w, r, h => by cases h
  | u :: ws, cs, w, r, h => by
    unfold finL at h
    split at h
    · exact finL_top ws _ h
    · rename_i hl
      injection h with h1 h2
      rw [← h1]
      omega
theorem ok_plus : OkW "+" := ⟨.inl (by decide +kernel)⟩
theorem ok_minus : OkW "-" := ⟨.inl (by decide +kernel)⟩
theorem ok_mul : OkW "*" := ⟨.inl (by decide +kernel)⟩
theorem ok_div : OkW "//" := ⟨.inl (by decide +kernel)⟩
theorem ok_neg : OkW "minus" := ⟨.inl (by decide +kernel)⟩
theorem ok_one : OkW "(" := ⟨.inr (by decide +kernel)⟩
theorem ok_min : OkW "min" := ⟨.inr (by decide +kernel)⟩
theorem ok_max : OkW "max" := ⟨.inr (by decide +kernel)⟩
theorem ok_min1 : OkW "min," := ⟨.inr (by decide +kernel)⟩
theorem ok_max1 : OkW "max," := ⟨.inr (by decide +kernel)⟩
end Toy
end

section
set_option Elab.async false
set_option linter.all false
set_option maxRecDepth 100000
namespace Toy
open PySem L2 Gd Kt
/-! ### the reader and the law's walk go in step -/
theorem sign_ne {c : Nat} {z : Str} (h : ¬ [c] = z.cps.toList) : ((⟨#[c]⟩ : Str) == z) = false := by
  refine beq_eq_false_iff_ne.mpr fun e => h ?_
  rw [← e]
theorem lk_none {c : Nat} (h1 : ¬ c = 43) (h2 : ¬ c = 45) (h3 : ¬ c = 42) (h4 : ¬ c = 47) : levT.lookup (sgn c) = none := by
  unfold sgn levT
  rw [if_neg h4]
  rw [List.lookup_cons, sign_ne (by rw [show ("+" : Str).cps.toList = [43] by decide +kernel]; exact fun e => h1 (List.cons.inj e).1)]
  dsimp only
  rw [List.lookup_cons, sign_ne (by rw [show ("-" : Str).cps.toList = [45] by decide +kernel]; exact fun e => h2 (List.cons.inj e).1)]
  dsimp only
  rw [List.lookup_cons, sign_ne (by rw [show ("*" : Str).cps.toList = [42] by decide +kernel]; exact fun e => h3 (List.cons.inj e).1)]
  dsimp only
  rw [List.lookup_cons, sign_ne (by rw [show ("//" : Str).cps.toList = [47, 47] by decide +kernel]; exact fun e => by cases e)]
  dsimp only
  rw [List.lookup_cons, sign_ne (by rw [show ("minus" : Str).cps.toList = [109, 105, 110, 117, 115] by decide +kernel]; exact fun e => by cases e)]
  rfl
theorem lk_sgn {c : Nat} (h : c = 43 ∨ c = 45 ∨ c = 42 ∨ c = 47) : ∃ lv : Int, levT.lookup (sgn c) = some lv ∧ 1 ≤ lv ∧ OkW (sgn c) ∧ brOf (sgn c) = none ∧ (sgn c).length = if c = 47 then 2 else 1 := by
  rcases h with rfl | rfl | rfl | rfl
  · exact ⟨1, by decide +kernel, by decide, ⟨.inl (by decide +kernel)⟩, by decide +kernel, by decide +kernel⟩
  · exact ⟨1, by decide +kernel, by decide, ⟨.inl (by decide +kernel)⟩, by decide +kernel, by decide +kernel⟩
  · exact ⟨2, by decide +kernel, by decide, ⟨.inl (by decide +kernel)⟩, by decide +kernel, by decide +kernel⟩
  · exact ⟨2, by decide +kernel, by decide, ⟨.inl (by decide +kernel)⟩, by decide +kernel, by decide +kernel⟩
theorem br_pair {w : Str} : brOf w = some .pair ↔ (w = "min" ∨ w = "max") := by
  unfold brOf
  constructor
  · intro h
    split at h
    · cases h
    · split at h
      · assumption
      · split at h <;> cases h
  · intro h
    rcases h with rfl | rfl <;> decide +kernel
theorem br_one {w : Str} : brOf w = some .one ↔ w = "(" := by
  unfold brOf
  constructor
  · intro h
    split at h
    · assumption
    · split at h
      · cases h
      · split at h <;> cases h
  · intro h
    rw [h]
    decide +kernel
theorem br_comma {w : Str} (h : w = "min" ∨ w = "max") : brOf (w ++ ",") = some .last ∧ OkW (w ++ ",") := by
  rcases h with rfl | rfl
  · exact ⟨by decide +kernel, ⟨.inr (by decide +kernel)⟩⟩
  · exact ⟨by decide +kernel, ⟨.inr (by decide +kernel)⟩⟩
/-- what stands on top once the operators are written -/
theorem top_of {ws : List Str} {cs : List Ins} {bs : List Br} (h : ∀ w ∈ ws, OkW w) (hb : ws.filterMap brOf = bs.reverse) :
    ((finL 1 cs ws).2 = [] ∧ bs = []) ∨ ∃ w r b, (finL 1 cs ws).2 = w :: r ∧ brOf w = some b ∧ bs.getLast? = some b ∧ r.filterMap brOf = bs.dropLast.reverse ∧ (∀ u ∈ r, OkW u) := by
  obtain ⟨a1, a2⟩ := finL_br (lv := 1) (by decide) ws cs h
  cases e : (finL 1 cs ws).2 with
  | nil =>
    rw [e] at a1
    rw [hb] at a1
    exact .inl ⟨rfl, List.reverse_eq_nil_iff.mp a1.symm⟩
  | cons w r =>
    have ht := finL_top ws cs e
    rw [e] at a1 a2
    obtain ⟨b, hbr⟩ : ∃ b, brOf w = some b := by
      rcases (a2 w (List.mem_cons_self ..)).ex with ⟨z, _⟩ | ⟨_, z⟩
      · omega
      · exact Option.isSome_iff_exists.mp z
    rw [List.filterMap_cons, hbr, hb] at a1
    have e2 : bs = (r.filterMap brOf).reverse ++ [b] := by
      have := congrArg List.reverse a1
      rw [List.reverse_reverse, List.reverse_cons] at this
      exact this.symm
    refine .inr ⟨w, r, b, rfl, hbr, ?_, ?_, fun u hu => a2 u (List.mem_cons_of_mem _ hu)⟩
    · rw [e2]
      exact List.getLast?_concat ..
    · rw [e2, List.dropLast_concat, List.reverse_reverse]
def Agr : Out → Option Nat × List Str → Prop
  | .code cs, (none, rds) => pars cs = rds
  | .bad i, (some j, _) => i = j
  | _, _ => False
structure Sim (x : Str) (a : Nat) (wd : Wd) (bs : List Br) (rds : List Str) (wn : Wn) (s : RS) : Prop where
  at_ : s.n = skip x a
  wd : (wd = .operand ∧ wn = .opd) ∨ (wd = .sign ∧ wn = .opr)
  br : s.ws.filterMap brOf = bs.reverse
  ok : ∀ w ∈ s.ws, OkW w
  rd : pars s.cs = rds
  le : a ≤ x.length
theorem skip_no {x : Str} {e c : Nat} (h : x.cps.toList[e]? = some c) (hc : ¬ c = 32) : skip x e = e := by
  unfold skip
  have := run_stop (l := x.cps.toList.drop e) (sg := (" " : Str).cps.toList) (k := 100) (e := 0) (.inr (.inr ⟨c, by rw [List.getElem?_drop]; exact h, by
    rw [show (" " : Str).cps.toList = [32] by decide +kernel]
    simpa using hc⟩))
  rw [List.drop_zero, Nat.sub_zero] at this
  rw [this]
  rfl
theorem run_end : ∀ (l sg : List Nat) (k : Nat), runLen l sg k = k ∨ l.length ≤ runLen l sg k ∨ ∃ c, l[runLen l sg k]? = some c ∧ ¬ c ∈ sg
  | l, sg, 0 => .inl (by cases l <;> rfl)
  | [], sg, k + 1 => .inr (.inl (Nat.le_refl _))
  | c :: l, sg, k + 1 => by
    unfold runLen
    split
    · rcases run_end l sg k with h | h | ⟨d, h1, h2⟩
      · exact .inl (by rw [h])
      · exact .inr (.inl (by rw [List.length_cons]; omega))
      · exact .inr (.inr ⟨d, by rw [List.getElem?_cons_succ]; exact h1, h2⟩)
    · rename_i hn
      exact .inr (.inr ⟨c, rfl, hn⟩)
theorem word_len {x : Str} {a : Nat} (h : opdW x a ≤ x.length) : (word x a).length = opdW x a - a := by
  have len1 : x.cps.toList.length = x.length := by simp [Str.length]
  have e1 : HT.sIx x.length 0 (some (a : Int)) = min a x.length := by rw [HT.sIx_nat]
  have e2 : HT.sIx x.length x.length (some (opdW x a : Int)) = min (opdW x a) x.length := by rw [HT.sIx_nat]
  have ha : a ≤ opdW x a := by unfold opdW; omega
  unfold word cutS
  rw [e1, e2]
  show ((x.cps.toList.drop _).take _).toArray.size = _
  rw [List.size_toArray, List.length_take, List.length_drop, len1]
  omega
theorem long_word {x : Str} {a : Nat} (h : memAt x (opdW x a) lets = true) : ¬ (word x a = "min" ∨ word x a = "max") ∧ ¬ word x a = "self" := by
  have len1 : x.cps.toList.length = x.length := by simp [Str.length]
  unfold memAt at h
  split at h
  · rename_i c hc
    have hm : c ∈ lets.cps.toList := of_decide_eq_true h
    have lt := (List.getElem?_eq_some_iff.mp hc).1
    have e8 : opdW x a = a + 8 := by
      unfold opdW at hc ⊢
      rcases run_end (x.cps.toList.drop a) lets.cps.toList 8 with e | e | ⟨d, e1, e2⟩
      · rw [e]
      · rw [List.length_drop] at e
        unfold opdW at lt
        omega
      · rw [List.getElem?_drop, hc] at e1
        cases e1
        exact absurd hm e2
    have wl := word_len (x := x) (a := a) (by omega)
    rw [e8, show a + 8 - a = 8 by omega] at wl
    refine ⟨?_, ?_⟩
    · rintro (e | e) <;> rw [e] at wl <;> exact absurd wl (by decide +kernel)
    · intro e
      rw [e] at wl
      exact absurd wl (by decide +kernel)
  · cases h
theorem fig_sign {c : Nat} (h : c ∈ fig.cps.toList) : 48 ≤ c ∧ c ≤ 57 := by
  rw [show fig.cps.toList = [48, 49, 50, 51, 52, 53, 54, 55, 56, 57] by decide +kernel] at h
  simp at h
  omega
theorem lets_sign {c : Nat} (h : c ∈ lets.cps.toList) : 97 ≤ c ∧ c ≤ 122 := by
  rw [show lets.cps.toList = [97, 98, 99, 100, 101, 102, 103, 104, 105, 106, 107, 108, 109, 110, 111, 112, 113, 114, 115, 116, 117, 118, 119, 120, 121, 122] by decide +kernel] at h
  simp at h
  omega
/-- another sign behind an operand -/
theorem op_bad {x : Str} {c : Nat} {s : RS} (h : (48 ≤ c ∧ c ≤ 57) ∨ (97 ≤ c ∧ c ≤ 122)) : rOp x c s = .err s.n := by
  unfold rOp
  rw [if_neg (by omega), lk_none (by omega) (by omega) (by omega) (by omega)]
  show (if c = 44 then _ else if c = 41 then _ else _) = _
  rw [if_neg (by omega), if_neg (by omega)]
theorem loop_bad {x : Str} {k c : Nat} {s : RS} (hc : x.cps.toList[s.n]? = some c) (h : (48 ≤ c ∧ c ≤ 57) ∨ (97 ≤ c ∧ c ≤ 122)) : rLoop x (k + 1) .opr s = .bad s.n := by
  unfold rLoop
  rw [hc]
  show (match rOp x c s with | .err i => Out.bad i | .ok s' wd' => _) = _
  rw [op_bad h]
theorem agree {x : Str} : ∀ (n k a : Nat) (wd : Wd) (bs : List Br) (rds : List Str) (wn : Wn) (s : RS), Sim x a wd bs rds wn s → x.length + 1 ≤ n + a → 2 * n ≤ k → Agr (rLoop x k wn s) (scan x n a wd bs rds) := by
  have len1 : x.cps.toList.length = x.length := by simp [Str.length]
  intro n
  induction n with
  | zero =>
    intro k a wd bs rds wn s S hf hk
    have := S.le
    omega
  | succ n ih =>
    intro k a wd bs rds wn s S hf hk
    obtain ⟨k, rfl⟩ : ∃ j, k = j + 2 := ⟨k - 2, by omega⟩
    obtain ⟨sk1, sk2⟩ := skip_le S.le
    have hat := S.at_
    obtain ⟨sn, cs, ws⟩ := s
    have hat : sn = skip x a := S.at_
    subst hat
    have hbr : ws.filterMap brOf = bs.reverse := S.br
    have hok : ∀ w ∈ ws, OkW w := S.ok
    have hrd : pars cs = rds := S.rd
    unfold scan
    rw [show rLoop x (k + 2) wn ⟨skip x a, cs, ws⟩ = (match x.cps.toList[skip x a]? with
      | none => if wn = .opr ∧ (finL 1 cs ws).2 = [] then .code (finL 1 cs ws).1 else .bad x.length
      | some c => match rStep wn x c ⟨skip x a, cs, ws⟩ with
        | .err i => .bad i
        | .ok s' wd' => rLoop x (k + 1) wd' ⟨skip x s'.n, s'.cs, s'.ws⟩) from rfl]
    cases hc : x.cps.toList[skip x a]? with
    | none =>
      have el : skip x a = x.length := by
        have := List.getElem?_eq_none_iff.mp hc
        omega
      dsimp only
      have tp : (finL 1 cs ws).2 = [] ↔ bs = [] := by
        rcases top_of (cs := cs) hok hbr with ⟨t1, t2⟩ | ⟨w, r, b, t1, _, t3, _⟩
        · rw [t1, t2]
          exact ⟨fun _ => rfl, fun _ => rfl⟩
        · rw [t1]
          refine ⟨fun z => (by cases z), fun z => ?_⟩
          rw [z] at t3
          cases t3
      have wp : wn = .opr ↔ wd = .sign := by
        rcases S.wd with ⟨h1, h2⟩ | ⟨h1, h2⟩ <;> rw [h1, h2]
        · exact ⟨fun z => (by cases z), fun z => (by cases z)⟩
        · exact ⟨fun _ => rfl, fun _ => rfl⟩
      by_cases q : wd = .sign ∧ bs = []
      · rw [if_pos q, if_pos ⟨wp.mpr q.1, tp.mpr q.2⟩]
        show pars _ = rds
        rw [finL_pars, hrd]
      · rw [if_neg q, if_neg (fun z => q ⟨wp.mp z.1, tp.mp z.2⟩)]
        exact el.symm
    | some c =>
      dsimp only
      have lt := (List.getElem?_eq_some_iff.mp hc).1
      -- go on with the same stack and what was read
      have go : ∀ (a2 : Nat) (wd2 : Wd) (bs2 : List Br) (rds2 : List Str) (wn2 : Wn) (cs2 : List Ins) (ws2 : List Str) (j : Nat), k ≤ j → skip x a + 1 ≤ a2 → a2 ≤ x.length → ((wd2 = .operand ∧ wn2 = .opd) ∨ (wd2 = .sign ∧ wn2 = .opr)) →
          ws2.filterMap brOf = bs2.reverse → (∀ w ∈ ws2, OkW w) → pars cs2 = rds2 → Agr (rLoop x j wn2 ⟨skip x a2, cs2, ws2⟩) (scan x n a2 wd2 bs2 rds2) := by
        intro a2 wd2 bs2 rds2 wn2 cs2 ws2 j hj g1 g2 g3 g4 g5 g6
        exact ih j a2 wd2 bs2 rds2 wn2 _ ⟨rfl, g3, g4, g5, g6, g2⟩ (by omega) (by omega)
      have push : ∀ {u : Str} {b : Br} {l : List Str}, brOf u = some b → l.filterMap brOf = bs.reverse → (u :: l).filterMap brOf = (bs ++ [b]).reverse := by
        intro u b l h1 h2
        rw [List.filterMap_cons, h1, h2, List.reverse_append]
        rfl
      have okc : ∀ {u : Str} {l : List Str}, OkW u → (∀ w ∈ l, OkW w) → ∀ w ∈ u :: l, OkW w := by
        intro u l h1 h2 w hw
        rcases List.mem_cons.mp hw with rfl | hw
        · exact h1
        · exact h2 w hw
      rcases S.wd with ⟨rfl, rfl⟩ | ⟨rfl, rfl⟩
      · -- an operand is wanted
        rw [if_neg (by decide)]
        show Agr (match rOpd x c ⟨skip x a, cs, ws⟩ with | .err i => .bad i | .ok s' wd' => rLoop x (k + 1) wd' ⟨skip x s'.n, s'.cs, s'.ws⟩) _
        unfold rOpd
        by_cases c1 : c = 40 ∨ c = 45
        · rw [if_pos c1, if_pos (by omega)]
          dsimp only
          refine go (skip x a + 1) _ _ rds _ _ _ _ (by omega) (Nat.le_refl _) (by omega) (.inl ⟨rfl, rfl⟩) ?_ ?_ hrd
          · by_cases c2 : c = 40
            · rw [if_pos c2, if_neg (by omega)]
              exact push (by decide +kernel) hbr
            · rw [if_neg c2, if_pos (by omega), List.filterMap_cons, show brOf "minus" = none by decide +kernel]
              exact hbr
          · by_cases c2 : c = 45
            · rw [if_pos c2]
              exact okc ok_neg hok
            · rw [if_neg c2]
              exact okc ok_one hok
        · rw [if_neg c1, if_neg (by omega)]
          by_cases c2 : c ∈ fig.cps.toList
          · have c3 : c ∈ alnum.cps.toList := by
              rw [show alnum.cps.toList = fig.cps.toList ++ lets.cps.toList by decide +kernel]
              exact List.mem_append_left _ c2
            rw [if_pos c2, if_pos c3]
            dsimp only
            have e : opd x (skip x a) c bs rds = ((if memAt x (opdD x (skip x a) c) fig = true then .wrong else .sign), opdD x (skip x a) c, bs, rds) := by
              unfold opd
              rw [if_pos c2]
            by_cases c4 : memAt x (opdD x (skip x a) c) fig = true
            · rw [e, if_pos c4, if_pos rfl]
              unfold memAt at c4
              split at c4
              · rename_i d hd
                have hs := fig_sign (of_decide_eq_true c4)
                rw [skip_no hd (by omega)]
                rw [loop_bad (k := k) (c := d) (s := ⟨opdD x (skip x a) c, _, ws⟩) hd (.inl hs)]
                exact rfl
              · cases c4
            · have on := opd_on hc c3 (bs := bs) (rds := rds) (by rw [e, if_neg c4]; exact fun z => by cases z)
              rw [e, if_neg c4] at on ⊢
              rw [if_neg (by decide : ¬ Wd.sign = Wd.wrong)]
              exact go _ _ _ _ _ _ _ (k + 1) (by omega) on.1 on.2.1 (.inr ⟨rfl, rfl⟩) hbr hok (by rw [pars_int]; exact hrd)
          · rw [if_neg c2]
            by_cases c3 : c ∈ lets.cps.toList
            · have c3' : c ∈ alnum.cps.toList := by
                rw [show alnum.cps.toList = fig.cps.toList ++ lets.cps.toList by decide +kernel]
                exact List.mem_append_right _ c3
              rw [if_pos c3, if_pos c3']
              have hW : opdW x (skip x a) ≤ x.length := by
                have := (runLen_le (x.cps.toList.drop (skip x a)) lets.cps.toList 8).1
                rw [List.length_drop] at this
                unfold opdW
                omega
              have hW1 : skip x a + 1 ≤ opdW x (skip x a) := by
                have : 1 ≤ runLen (x.cps.toList.drop (skip x a)) lets.cps.toList 8 := run_pos (k := 7) (by rw [List.getElem?_drop]; exact hc) c3
                unfold opdW
                omega
              unfold rWord
              by_cases m0 : memAt x (opdW x (skip x a)) lets = true
              · -- one letter too many
                have e : opd x (skip x a) c bs rds = (.wrong, opdW x (skip x a), bs, rds) := by
                  unfold opd
                  rw [if_neg c2, if_pos (.inl m0)]
                obtain ⟨l1, l2⟩ := long_word m0
                rw [e, if_pos rfl, if_neg l1, if_neg l2]
                dsimp only
                unfold memAt at m0
                split at m0
                · rename_i d hd
                  have hs := lets_sign (of_decide_eq_true m0)
                  rw [skip_no hd (by omega), loop_bad (k := k) (c := d) (s := ⟨opdW x (skip x a), _, ws⟩) hd (.inr hs)]
                  exact rfl
                · cases m0
              · by_cases m1 : word x (skip x a) = "self"
                · have e : opd x (skip x a) c bs rds = (.wrong, opdW x (skip x a), bs, rds) := by
                    unfold opd
                    rw [if_neg c2, if_pos (.inr m1)]
                  rw [e, if_pos rfl, if_neg (by rw [m1]; decide +kernel), if_pos m1]
                  exact rfl
                · by_cases m2 : word x (skip x a) = "min" ∨ word x (skip x a) = "max"
                  · rw [if_pos m2]
                    dsimp only
                    rw [show skip x (opdW x (skip x a)) = opdE x (skip x a) from rfl]
                    rw [show rLoop x (k + 1) .brk ⟨opdE x (skip x a), cs, word x (skip x a) :: ws⟩ = (match x.cps.toList[opdE x (skip x a)]? with
                      | none => if (Wn.brk = .opr) ∧ (finL 1 cs (word x (skip x a) :: ws)).2 = [] then .code (finL 1 cs (word x (skip x a) :: ws)).1 else .bad x.length
                      | some c => match rBr x ⟨opdE x (skip x a), cs, word x (skip x a) :: ws⟩ with
                        | .err i => .bad i
                        | .ok s' wd' => rLoop x k wd' ⟨skip x s'.n, s'.cs, s'.ws⟩) from rfl]
                    have hE : opdE x (skip x a) ≤ x.length ∧ opdW x (skip x a) ≤ opdE x (skip x a) := by
                      have := (runLen_le (x.cps.toList.drop (opdW x (skip x a))) (" " : Str).cps.toList 100).1
                      rw [List.length_drop] at this
                      unfold opdE
                      omega
                    by_cases m3 : x.cps.toList[opdE x (skip x a)]? = some 40
                    · have e : opd x (skip x a) c bs rds = (.operand, opdE x (skip x a) + 1, bs ++ [.pair], rds) := by
                        unfold opd
                        rw [if_neg c2, if_neg (fun z => z.elim m0 m1), if_neg (fun z => z m2), if_pos m3]
                      have l3 := (List.getElem?_eq_some_iff.mp m3).1
                      rw [e, if_neg (by decide : ¬ Wd.operand = Wd.wrong), m3]
                      dsimp only
                      unfold rBr
                      rw [if_pos m3]
                      dsimp only
                      refine go _ _ _ _ _ _ _ k (Nat.le_refl _) (by omega) (by omega) (.inl ⟨rfl, rfl⟩) (push (br_pair.mpr m2) hbr) (okc ?_ hok) hrd
                      rcases m2 with m2 | m2 <;> rw [m2]
                      · exact ok_min
                      · exact ok_max
                    · have e : opd x (skip x a) c bs rds = (.wrong, opdE x (skip x a), bs, rds) := by
                        unfold opd
                        rw [if_neg c2, if_neg (fun z => z.elim m0 m1), if_neg (fun z => z m2), if_neg m3]
                      rw [e, if_pos rfl]
                      cases hd : x.cps.toList[opdE x (skip x a)]? with
                      | none =>
                        dsimp only
                        rw [if_neg (fun z => by cases z.1)]
                        show x.length = opdE x (skip x a)
                        have := List.getElem?_eq_none_iff.mp hd
                        omega
                      | some d =>
                        dsimp only
                        unfold rBr
                        rw [if_neg m3]
                        exact rfl
                  · have e : opd x (skip x a) c bs rds = (.sign, opdW x (skip x a), bs, rds ++ [word x (skip x a)]) := by
                      unfold opd
                      rw [if_neg c2, if_neg (fun z => z.elim m0 m1), if_pos m2]
                    rw [e, if_neg (by decide : ¬ Wd.sign = Wd.wrong), if_neg m2, if_neg m1]
                    dsimp only
                    exact go _ _ _ _ _ _ _ (k + 1) (by omega) hW1 hW (.inr ⟨rfl, rfl⟩) hbr hok (by rw [pars_par, hrd])
            · have c3' : ¬ c ∈ alnum.cps.toList := by
                rw [show alnum.cps.toList = fig.cps.toList ++ lets.cps.toList by decide +kernel]
                exact fun z => (List.mem_append.mp z).elim c2 c3
              rw [if_neg c3, if_neg c3']
              exact rfl
      · -- behind an operand
        rw [if_pos rfl]
        show Agr (match rOp x c ⟨skip x a, cs, ws⟩ with | .err i => .bad i | .ok s' wd' => rLoop x (k + 1) wd' ⟨skip x s'.n, s'.cs, s'.ws⟩) _
        unfold rOp
        by_cases c0 : c = 47 ∧ ¬ x.cps.toList[skip x a + 1]? = some 47
        · rw [if_pos c0]
          have e : behind c (two x (skip x a)) (skip x a) bs = (.wrong, skip x a + 1, bs) := by
            unfold behind two
            rw [if_neg (by omega), if_pos c0.1, decide_eq_false c0.2, if_neg (by decide)]
          rw [e, if_pos rfl]
          exact rfl
        · rw [if_neg c0]
          by_cases c1 : c = 43 ∨ c = 45 ∨ c = 42 ∨ c = 47
          · obtain ⟨lv, k1, k2, k3, k4, k5⟩ := lk_sgn c1
            rw [k1]
            dsimp only
            obtain ⟨f1, f2⟩ := finL_br k2 ws cs hok
            have e : behind c (two x (skip x a)) (skip x a) bs = (.operand, skip x a + (sgn c).length, bs) ∧ skip x a + (sgn c).length ≤ x.length := by
              by_cases c2 : c = 47
              · have c3 : x.cps.toList[skip x a + 1]? = some 47 := Classical.byContradiction fun z => c0 ⟨c2, z⟩
                have l3 := (List.getElem?_eq_some_iff.mp c3).1
                rw [k5, if_pos c2]
                refine ⟨?_, by omega⟩
                unfold behind two
                rw [if_neg (by omega), if_pos c2, decide_eq_true c3, if_pos rfl]
              · rw [k5, if_neg c2]
                refine ⟨?_, by omega⟩
                unfold behind
                rw [if_pos (by omega)]
            rw [e.1, if_neg (by decide : ¬ Wd.operand = Wd.wrong)]
            refine go _ _ _ _ _ _ _ (k + 1) (by omega) ?_ e.2 (.inl ⟨rfl, rfl⟩) ?_ (okc k3 f2) (by rw [finL_pars]; exact hrd)
            · rw [k5]
              split <;> omega
            · rw [List.filterMap_cons, k4, f1]
              exact hbr
          · rw [lk_none (by omega) (by omega) (by omega) (by omega)]
            dsimp only
            have tp := top_of (cs := cs) hok hbr
            have hp : pars (finL 1 cs ws).1 = rds := by
              rw [finL_pars]
              exact hrd
            by_cases c2 : c = 44
            · rw [if_pos c2]
              unfold rComma finS
              rcases tp with ⟨t1, t2⟩ | ⟨w, r, b, t1, t2, t3, t4, t5⟩
              · have e : behind c (two x (skip x a)) (skip x a) bs = (.wrong, skip x a, bs) := by
                  unfold behind
                  rw [if_neg (by omega), if_neg (by omega), if_neg (fun z => by rw [t2] at z; cases z.2), if_neg (by omega)]
                rw [e, if_pos rfl]
                dsimp only
                rw [t1]
                exact rfl
              · dsimp only
                rw [t1]
                dsimp only
                by_cases c3 : w = "min" ∨ w = "max"
                · have hb : b = .pair := by
                    have := br_pair.mpr c3
                    rw [t2] at this
                    exact Option.some.inj this
                  have e : behind c (two x (skip x a)) (skip x a) bs = (.operand, skip x a + 1, bs.dropLast ++ [.last]) := by
                    unfold behind
                    rw [if_neg (by omega), if_neg (by omega), if_pos ⟨c2, by rw [t3, hb]⟩]
                  obtain ⟨q1, q2⟩ := br_comma c3
                  rw [e, if_neg (by decide : ¬ Wd.operand = Wd.wrong), if_pos c3]
                  dsimp only
                  refine go _ _ _ _ _ _ _ (k + 1) (by omega) (Nat.le_refl _) (by omega) (.inl ⟨rfl, rfl⟩) ?_ (okc q2 t5) hp
                  rw [List.filterMap_cons, q1, t4, List.reverse_append]
                  rfl
                · have hb : ¬ b = .pair := fun z => c3 (br_pair.mp (by rw [t2, z]))
                  have e : behind c (two x (skip x a)) (skip x a) bs = (.wrong, skip x a, bs) := by
                    unfold behind
                    rw [if_neg (by omega), if_neg (by omega), if_neg (fun z => by rw [t3] at z; exact hb (Option.some.inj z.2)), if_neg (by omega)]
                  rw [e, if_pos rfl, if_neg c3]
                  exact rfl
            · rw [if_neg c2]
              by_cases c4 : c = 41
              · rw [if_pos c4]
                unfold rEnd finS
                rcases tp with ⟨t1, t2⟩ | ⟨w, r, b, t1, t2, t3, t4, t5⟩
                · have e : behind c (two x (skip x a)) (skip x a) bs = (.wrong, skip x a, bs) := by
                    unfold behind
                    rw [if_neg (by omega), if_neg (by omega), if_neg (by omega), if_neg (fun z => by rw [t2] at z; rcases z.2 with z | z <;> cases z)]
                  rw [e, if_pos rfl]
                  dsimp only
                  rw [t1]
                  exact rfl
                · dsimp only
                  rw [t1]
                  dsimp only
                  by_cases c3 : w = "min" ∨ w = "max"
                  · have hb : b = .pair := by
                      have := br_pair.mpr c3
                      rw [t2] at this
                      exact Option.some.inj this
                    have e : behind c (two x (skip x a)) (skip x a) bs = (.wrong, skip x a, bs) := by
                      unfold behind
                      rw [if_neg (by omega), if_neg (by omega), if_neg (by omega), if_neg (fun z => by rw [t3, hb] at z; rcases z.2 with z | z <;> cases z)]
                    rw [e, if_pos rfl, if_pos c3]
                    exact rfl
                  · have hb : b = .one ∨ b = .last := by
                      cases b with
                      | one => exact .inl rfl
                      | last => exact .inr rfl
                      | pair => exact absurd (br_pair.mp t2) c3
                    have e : behind c (two x (skip x a)) (skip x a) bs = (.sign, skip x a + 1, bs.dropLast) := by
                      unfold behind
                      rw [if_neg (by omega), if_neg (by omega), if_neg (by omega), if_pos ⟨c4, by rw [t3]; rcases hb with hb | hb <;> rw [hb] <;> simp⟩]
                    rw [e, if_neg (by decide : ¬ Wd.sign = Wd.wrong), if_neg c3]
                    dsimp only
                    refine go _ _ _ _ _ _ _ (k + 1) (by omega) (Nat.le_refl _) (by omega) (.inr ⟨rfl, rfl⟩) t4 t5 ?_
                    split
                    · exact hp
                    · rw [pars_op]
                      exact hp
              · rw [if_neg c4]
                have e : behind c (two x (skip x a)) (skip x a) bs = (.wrong, skip x a, bs) := by
                  unfold behind
                  rw [if_neg (by omega), if_neg (by omega), if_neg (by omega), if_neg (by omega)]
                rw [e, if_pos rfl]
                exact rfl
end Toy
end

section
set_option Elab.async false
set_option linter.all false
set_option maxRecDepth 100000
namespace Toy
open PySem L2 Gd Kt
/-! ### the reader's methods: spaces, runs -/
abbrev sRInit : Stmt := inClass (top 20) 0
abbrev sRRead : Stmt := inClass (top 20) 1
abbrev sRSkip : Stmt := inClass (top 20) 2
abbrev sRRun : Stmt := inClass (top 20) 3
abbrev sROpd : Stmt := inClass (top 20) 4
abbrev sRWord : Stmt := inClass (top 20) 5
abbrev sRBr : Stmt := inClass (top 20) 6
abbrev sROp : Stmt := inClass (top 20) 7
abbrev sRComma : Stmt := inClass (top 20) 8
abbrev sREnd : Stmt := inClass (top 20) 9
abbrev sRFin : Stmt := inClass (top 20) 10
/-- what the written part says of the reader's words -/
structure TxtR (K : PySem.W.Frag) (w : World) (mg : Str → Option Value) : Prop where
  len : mg "len" = none
  int : mg "int" = none
  opd : ∃ t, mg "OPERAND" = some (.str "operand" t)
  opr : ∃ t, mg "OPERATOR" = some (.str "operator" t)
  brk : ∃ t, mg "BRACKET" = some (.str "bracket" t)
  dig : ∃ t, mg "DIGITS" = some (.str fig t)
  lets : ∃ t, mg "LETTERS" = some (.str lets t)
  md : ∃ t, mg "MOST_DIGITS" = some (.int 31 t)
  ml : ∃ t, mg "MOST_LETTERS" = some (.int 8 t)
  lo : ∃ t, mg "LOOSEST" = some (.int 1 t)
  rs : ∃ a, mg "RESERVED" = some (.ref a) ∧ ∀ H, SqT K H a [.str "min", .str "max", .str "self"]
  lv : ∃ a, mg "LEVELS" = some (.ref a) ∧ Tbl K w a levT
def spSkip (C : Addr) : Sp := fun vs H Q _ => ∃ p dx lc lw x s, vs = [.ref p] ∧ RdS C H p dx lc lw x s ∧ x.length ≤ 100 ∧ s.n ≤ x.length ∧
  ∀ H', RdS C H' p dx lc lw x ⟨skip x s.n, s.cs, s.ws⟩ → Kp p lc lw H H' → Q .non H'
def spRunOf (C : Addr) : Sp := fun vs H Q _ => ∃ p dx lc lw x s sg k, vs = [.ref p, .str sg, .int (k : Nat)] ∧ RdS C H p dx lc lw x s ∧ x.length ≤ 100 ∧ s.n ≤ x.length ∧
  ∀ H', RdS C H' p dx lc lw x ⟨s.n + runLen (x.cps.toList.drop s.n) sg.cps.toList k, s.cs, s.ws⟩ → Kp p lc lw H H' →
    Q (.str (cutS x (some (s.n : Int)) (some ((s.n + runLen (x.cps.toList.drop s.n) sg.cps.toList k : Nat) : Int)))) H'
theorem runLen_enough : ∀ (l sg : List Nat) (k j : Nat), l.length ≤ k → l.length ≤ j → runLen l sg k = runLen l sg j
  | [], sg, 0, 0, _, _ => rfl
  | [], sg, 0, j + 1, _, _ => rfl
  | [], sg, k + 1, 0, _, _ => rfl
  | [], sg, k + 1, j + 1, _, _ => rfl
  | c :: l, sg, 0, _, h, _ => by simp at h
  | c :: l, sg, _ + 1, 0, _, h => by simp at h
  | c :: l, sg, k + 1, j + 1, h1, h2 => by
    unfold runLen
    rw [runLen_enough l sg k j (by simpa using h1) (by simpa using h2)]
theorem skip_on {x : Str} {a : Nat} (hx : x.length ≤ 100) (h : x.cps.toList[a]? = some 32) : skip x a = skip x (a + 1) := by
  have len1 : x.cps.toList.length = x.length := by simp [Str.length]
  have lt := (List.getElem?_eq_some_iff.mp h).1
  unfold skip
  have e := run_more (l := x.cps.toList.drop a) (sg := (" " : Str).cps.toList) (k := 100) (e := 0) (c := 32) (by decide) (by rw [List.getElem?_drop]; exact h) (by decide +kernel)
  rw [List.drop_zero, Nat.sub_zero, List.drop_drop] at e
  rw [e]
  rw [runLen_enough (x.cps.toList.drop (a + (0 + 1))) (" " : Str).cps.toList (100 - (0 + 1)) 100 (by rw [List.length_drop]; omega) (by rw [List.length_drop]; omega)]
  rw [show a + (0 + 1) = a + 1 by omega]
  omega
theorem skip_end {x : Str} {a : Nat} (h : ¬ x.cps.toList[a]? = some 32) (ha : a ≤ x.length) : skip x a = a := by
  have len1 : x.cps.toList.length = x.length := by simp [Str.length]
  cases e : x.cps.toList[a]? with
  | none =>
    have := List.getElem?_eq_none_iff.mp e
    unfold skip
    rw [List.drop_eq_nil_of_le this]
    rfl
  | some c => exact skip_no e (fun z => h (by rw [e, z]))
section
variable {P : Program} {w : World} {K : PySem.W.Frag} {mg : Str → Option Value} {base : Heap} {C PE : Addr} {f : Addr} {fd : FuncData}
theorem scSkip : FnScope ["self"] ["self"] (defScope sRSkip) := ⟨rfl, rfl, rfl, by decide +kernel, rfl, by decide +kernel, by decide +kernel⟩
def skipW (C p dx lc lw : Addr) (x : Str) (s : RS) (H : Hp) (m : Nat) : L2.St → Hp → Prop := fun σ H' => ∃ n : Nat, m = x.length - n ∧ σ = [some (.ref p)] ∧ n ≤ x.length ∧ RdS C H' p dx lc lw x ⟨n, s.cs, s.ws⟩ ∧ Kp p lc lw H H' ∧ skip x s.n = skip x n
theorem ok_skip (F : Fun K "skip_spaces" "Reader.skip_spaces" sRSkip f fd) (T : RdT K C) : FnOk P w K mg base CX0 1 f fd ["self"] (spSkip C) := by
  refine F.ok scSkip (fun vs H Q E h => ?_) (fun cdv A outer s H vs Q E hr h => ?_)
  · obtain ⟨p, dx, lc, lw, x, s, rfl, _⟩ := h
    rfl
  · obtain ⟨p, dx, lc, lw, x, s, rfl, R, hx, hn, k⟩ := h
    refine ⟨_, pss_one (ps_while PassesOwn.never (pt_cmpR op_eq (pe_slice sl_str (pe_fld (pv 0) rfl) (po_some (pe_fld (pv 0) rfl)) (po_some (pe_op op_add (pe_fld (pv 0) rfl) pe_int))) pe_str (nomark _))
      (pss_one (ps_fldaug (pv 0) pe_int in_add))), ?_⟩
    have sl : x.length ≤ sizeLine := Nat.le_trans hx (by decide)
    refine ⟨skipW C p dx lc lw x s H, ⟨x.length - s.n, s.n, rfl, rfl, hn, R, Kp.refl, rfl⟩, ?_⟩
    intro m σ H' hW
    obtain ⟨n, rfl, rfl, hn2, R2, kp, es⟩ := hW
    refine ⟨_, rfl, p, C, dx, _, _, rfl, R2.ob, T.cl, T.nT, fR_t _ _ _ _, _, rfl, p, C, dx, _, _, rfl, R2.ob, T.cl, T.nP, fR_p _ _ _ _, _, rfl, _, rfl, p, C, dx, _, _, rfl, R2.ob, T.cl, T.nP, fR_p _ _ _ _, _, _, rfl, rfl, _, rfl, x, rfl, sl, rfl, _, rfl, ?_⟩
    rw [show decide (V.str (cutS x (some (n : Int)) (some ((n : Int) + 1))) = V.str " ") = decide (x.cps.toList[n]? = some 32) from cut_at (k := 32) (by decide +kernel) hn2]
    by_cases c1 : x.cps.toList[n]? = some 32
    · rw [decide_eq_true c1]
      have lt : n < x.length := by
        have := (List.getElem?_eq_some_iff.mp c1).1
        simpa [Str.length] using this
      refine iteT ⟨skipW C p dx lc lw x s H (x.length - (n + 1)), fun σ2 H2 z => ⟨_, by omega, z⟩, ?_⟩
      refine ⟨_, rfl, p, C, dx, _, _, rfl, R2.ob, T.cl, T.nP, fR_p _ _ _ _, _, _, rfl, rfl, dx, _, R2.ob, by show 4 < 1000; decide, ?_⟩
      exact ⟨n + 1, rfl, rfl, lt, R2.place (n + 1), kp.trans kp_p, by rw [es, skip_on hx c1]⟩
    · rw [decide_eq_false c1]
      refine iteF (k H' ?_ kp)
      rw [es, skip_end c1 hn2]
      exact R2
abbrev NRO : List Str := ["self", "signs", "most", "start"]
theorem scRunOf : FnScope NRO ["self", "signs", "most"] (defScope sRRun) := ⟨rfl, rfl, rfl, by decide +kernel, rfl, by decide +kernel, by decide +kernel⟩
def runOW (C p dx lc lw : Addr) (x sg : Str) (k : Nat) (s : RS) (H : Hp) (m : Nat) : L2.St → Hp → Prop := fun σ H' => ∃ e : Nat, m = k - e ∧ σ = [some (.ref p), some (.str sg), some (.int (k : Nat)), some (.int s.n)] ∧ s.n + e ≤ x.length ∧ e ≤ k ∧ RdS C H' p dx lc lw x ⟨s.n + e, s.cs, s.ws⟩ ∧ Kp p lc lw H H' ∧
  runLen (x.cps.toList.drop s.n) sg.cps.toList k = e + runLen ((x.cps.toList.drop s.n).drop e) sg.cps.toList (k - e)
theorem ok_runOf (F : Fun K "run_of" "Reader.run_of" sRRun f fd) (T : RdT K C) (TX : TxtR K w mg) : FnOk P w K mg base CX0 1 f fd ["self", "signs", "most"] (spRunOf C) := by
  refine F.ok scRunOf (fun vs H Q E h => ?_) (fun cdv A outer s H vs Q E hr h => ?_)
  · obtain ⟨p, dx, lc, lw, x, s, sg, k, rfl, _⟩ := h
    rfl
  · obtain ⟨p, dx, lc, lw, x, s, sg, k, rfl, R, hx, hn, kq⟩ := h
    refine ⟨_, pss_cons (ps_set (i := 3) scRunOf.nd rfl (Or.inl rfl) (pe_fld (pv 0) rfl))
      (pss_cons (ps_while PassesOwn.never (PW.pt (pw_and (pt_cmpR op_lt (pe_fld (pv 0) rfl) (pe_callB call_len (by rfl) TX.len PySem.boot_len (pa_cons (pe_fld (pv 0) rfl) pa_nil)) (nomark _))
        (pw_and (pt_cmpR op_lt (pe_op op_sub (pe_fld (pv 0) rfl) (pv 3)) (pv 2) (nomark _)) (pw_and1 (pt_cmpR op_in_sign (pe_ix ix_str (pe_fld (pv 0) rfl) (pe_fld (pv 0) rfl) (fun _ _ => rfl)) (pv 1) (by rfl))))))
        (pss_one (ps_fldaug (pv 0) pe_int in_add)))
      (pss_one (ps_ret (pe_slice sl_str (pe_fld (pv 0) rfl) (po_some (pv 3)) (po_some (pe_fld (pv 0) rfl)))))), ?_⟩
    have sl : x.length ≤ sizeLine := Nat.le_trans hx (by decide)
    have len1 : x.cps.toList.length = x.length := by simp [Str.length]
    refine ⟨_, rfl, p, C, dx, _, _, rfl, R.ob, T.cl, T.nP, fR_p _ _ _ _, runOW C p dx lc lw x sg k s H, ⟨k, 0, rfl, rfl, hn, Nat.zero_le _, R, Kp.refl, ?_⟩, ?_⟩
    · rw [List.drop_zero, Nat.sub_zero, Nat.zero_add]
    intro m σ H' hW
    obtain ⟨e, rfl, rfl, he, hk, R2, kp, heq⟩ := hW
    have done : runLen ((x.cps.toList.drop s.n).drop e) sg.cps.toList (k - e) = 0 → Q (.str (cutS x (some (s.n : Int)) (some ((s.n + e : Nat) : Int)))) H' := fun z => by
      rw [heq, z, Nat.add_zero] at kq
      exact kq H' R2 kp
    refine ⟨_, rfl, p, C, dx, _, _, rfl, R2.ob, T.cl, T.nP, fR_p _ _ _ _, _, rfl, p, C, dx, _, _, rfl, R2.ob, T.cl, T.nT, fR_t _ _ _ _, _, _, rfl, ⟨sl, rfl⟩, _, _, rfl, rfl, _, rfl, ?_⟩
    by_cases c1 : (((s.n + e : Nat) : Int) < (x.length : Int))
    · rw [decide_eq_true c1]
      refine iteT ⟨_, rfl, p, C, dx, _, _, rfl, R2.ob, T.cl, T.nP, fR_p _ _ _ _, _, rfl, _, _, rfl, rfl, _, rfl, _, _, rfl, rfl, _, rfl, ?_⟩
      by_cases c2 : (((s.n + e : Nat) : Int) - (s.n : Int) < (k : Int))
      · rw [decide_eq_true c2]
        have lt : s.n + e < x.cps.toList.length := by omega
        have at_ : (x.cps.toList.drop s.n)[e]? = some (x.cps.toList[s.n + e]) := by rw [List.getElem?_drop, List.getElem?_eq_getElem lt]
        refine iteT ⟨_, rfl, p, C, dx, _, _, rfl, R2.ob, T.cl, T.nT, fR_t _ _ _ _, _, rfl, p, C, dx, _, _, rfl, R2.ob, T.cl, T.nP, fR_p _ _ _ _, x, _, x.cps.toList[s.n + e], rfl, rfl, sl, ?_, _, rfl, x.cps.toList[s.n + e], sg, rfl, rfl, _, rfl, ?_⟩
        · exact atI_nat (List.getElem?_eq_getElem lt)
        by_cases c3 : x.cps.toList[s.n + e] ∈ sg.cps.toList
        · rw [decide_eq_true c3]
          refine iteT ⟨runOW C p dx lc lw x sg k s H (k - (e + 1)), fun σ2 H2 z => ⟨_, by omega, z⟩, ?_⟩
          refine ⟨_, rfl, p, C, dx, _, _, rfl, R2.ob, T.cl, T.nP, fR_p _ _ _ _, _, _, rfl, rfl, dx, _, R2.ob, by show 4 < 1000; decide, ?_⟩
          refine ⟨e + 1, rfl, rfl, by omega, by omega, R2.place (s.n + e + 1), kp.trans kp_p, ?_⟩
          rw [heq, run_more (by omega) at_ c3]
          omega
        · rw [decide_eq_false c3]
          exact iteF ⟨_, rfl, p, C, dx, _, _, rfl, R2.ob, T.cl, T.nT, fR_t _ _ _ _, _, rfl, _, rfl, _, rfl, p, C, dx, _, _, rfl, R2.ob, T.cl, T.nP, fR_p _ _ _ _, _, rfl, x, rfl, sl, done (run_stop (.inr (.inr ⟨_, at_, c3⟩)))⟩
      · rw [decide_eq_false c2]
        exact iteF (iteF ⟨_, rfl, p, C, dx, _, _, rfl, R2.ob, T.cl, T.nT, fR_t _ _ _ _, _, rfl, _, rfl, _, rfl, p, C, dx, _, _, rfl, R2.ob, T.cl, T.nP, fR_p _ _ _ _, _, rfl, x, rfl, sl, done (run_stop (.inl (by omega)))⟩)
    · rw [decide_eq_false c1]
      exact iteF (iteF ⟨_, rfl, p, C, dx, _, _, rfl, R2.ob, T.cl, T.nT, fR_t _ _ _ _, _, rfl, _, rfl, _, rfl, p, C, dx, _, _, rfl, R2.ob, T.cl, T.nP, fR_p _ _ _ _, _, rfl, x, rfl, sl, done (run_stop (.inr (.inl (by rw [List.length_drop]; omega))))⟩)
/-! ### finish -/
def spFin (C : Addr) : Sp := fun vs H Q _ => ∃ p dx lc lw x s lv, vs = [.ref p, .int lv] ∧ RdS C H p dx lc lw x s ∧ s.cs.length + s.ws.length ≤ 1000 ∧
  ∀ H', RdS C H' p dx lc lw x (finS lv s) → Kp p lc lw H H' → Q .non H'
theorem wait_cons (w : Str) (r : List Str) : waitV (w :: r) = waitV r ++ [V.str w] := by
  unfold waitV
  rw [List.reverse_cons, List.map_append]
  rfl
theorem wait_len (ws : List Str) : (waitV ws).length = ws.length := by
  unfold waitV
  rw [List.length_map, List.length_reverse]
theorem wait_last (w : Str) (r : List Str) : atI (waitV (w :: r)) (-1) = some (.str w) := by
  unfold atI
  have e : ixN (waitV (w :: r)).length (-1) = some r.length := by
    unfold ixN
    rw [wait_len, if_neg (by decide), if_pos (by rw [List.length_cons]; omega)]
    congr 1
    rw [List.length_cons]
    omega
  rw [e]
  show (waitV (w :: r))[r.length]? = _
  rw [wait_cons, ← wait_len r, List.getElem?_concat_length]
theorem wait_at (w : Str) (r : List Str) : (waitV (w :: r))[(waitV (w :: r)).length - 1]? = some (.str w) := by
  rw [wait_cons, List.length_append, List.length_singleton, Nat.add_sub_cancel, List.getElem?_concat_length]
theorem wait_ne (w : Str) (r : List Str) : (!(waitV (w :: r)).isEmpty) = true := by
  rw [wait_cons]
  simp
theorem wait_drop (w : Str) (r : List Str) : (waitV (w :: r)).dropLast = waitV r := by
  rw [wait_cons, List.dropLast_concat]
theorem lev_is (w : Str) : (match levT.lookup w with
    | some i => V.int i
    | none => V.int 0) = V.int (lev w) := by
  unfold lev
  cases levT.lookup w <;> rfl
theorem scFin : FnScope ["self", "level"] ["self", "level"] (defScope sRFin) := ⟨rfl, rfl, rfl, by decide +kernel, rfl, by decide +kernel, by decide +kernel⟩
def finW (C p dx lc lw : Addr) (x : Str) (lv : Int) (s : RS) (H : Hp) (m : Nat) : L2.St → Hp → Prop := fun σ H' => ∃ (cs : List Ins) (ws : List Str), m = ws.length ∧ σ = [some (.ref p), some (.int lv)] ∧ RdS C H' p dx lc lw x ⟨s.n, cs, ws⟩ ∧ Kp p lc lw H H' ∧
  finL lv s.cs s.ws = finL lv cs ws ∧ cs.length + ws.length ≤ 1000
theorem ok_fin (F : Fun K "finish" "Reader.finish" sRFin f fd) (T : RdT K C) (TX : TxtR K w mg) : FnOk P w K mg base CX0 1 f fd ["self", "level"] (spFin C) := by
  obtain ⟨aL, mL, TL⟩ := TX.lv
  refine F.ok scFin (fun vs H Q E h => ?_) (fun cdv A outer s H vs Q E hr h => ?_)
  · obtain ⟨p, dx, lc, lw, x, s, lv, rfl, _⟩ := h
    rfl
  · obtain ⟨p, dx, lc, lw, x, s, lv, rfl, R, hsz, k⟩ := h
    refine ⟨_, pss_one (ps_while PassesOwn.never (PW.pt (pw_and (pt_truth (pe_fld (pv 0) rfl) (fun _ => rfl)) (pw_and1 (pt_cmpR op_ge (pe_tget TL (pe_glob (v := .ref aL) (by rfl) mL rfl) (pe_ix ix_list (pe_fld (pv 0) rfl) (pe_un un_neg pe_int) (fun _ _ => rfl)) pe_int ⟨rfl, rfl, rfl, rfl⟩) (pv 1) (nomark _)))))
      (pss_one (ps_expr (pe_bm PySem.F.plainAttrs_list PySem.F.slot_list_append PySem.F.type_list_append mt_append (pe_fld (pv 0) rfl) (pa_cons (pe_tup (pa_cons pe_str (pa_cons (pe_bm0 PySem.F.plainAttrs_list PySem.F.slot_list_pop PySem.F.type_list_pop mt_pop (pe_fld (pv 0) rfl)) pa_nil))) pa_nil))))), ?_⟩
    refine ⟨finW C p dx lc lw x lv s H, ⟨s.ws.length, s.cs, s.ws, rfl, rfl, R, Kp.refl, rfl, hsz⟩, ?_⟩
    intro m σ H' hW
    obtain ⟨cs, ws, rfl, rfl, R2, kp, heq, hz⟩ := hW
    have done : ((finL lv cs ws) = (cs, ws)) → Q .non H' := fun z => by
      refine k H' ?_ kp
      unfold finS
      rw [heq, z]
      exact R2
    cases ws with
    | nil => exact ⟨_, rfl, p, C, dx, _, _, rfl, R2.ob, T.cl, T.nW, fR_w _ _ _ _, false, .inl ⟨_, SqL.of R2.wt, rfl⟩, iteF (iteF (done rfl))⟩
    | cons w r =>
      refine ⟨_, rfl, p, C, dx, _, _, rfl, R2.ob, T.cl, T.nW, fR_w _ _ _ _, true, .inl ⟨_, SqL.of R2.wt, (wait_ne w r).symm⟩, iteT ⟨_, rfl, p, C, dx, _, _, rfl, R2.ob, T.cl, T.nW, fR_w _ _ _ _, _, rfl, lw, _, _, _, rfl, rfl, SqL.of R2.wt, wait_last w r, w, rfl, ?_⟩⟩
      refine ⟨_, rfl, lev w, lv, lev_is w, rfl, _, rfl, ?_⟩
      by_cases c1 : lv ≤ lev w
      · rw [decide_eq_true c1]
        refine iteT ⟨finW C p dx lc lw x lv s H r.length, fun σ2 H2 z => ⟨_, by rw [List.length_cons]; exact Nat.lt_succ_self _, z⟩, ?_⟩
        obtain ⟨as0, g1, g2⟩ := R2.cd
        refine ⟨_, rfl, p, C, dx, _, _, rfl, R2.ob, T.cl, T.nC, fR_c _ _ _ _, .inl ⟨rfl, _, SqL.of g1⟩, _, rfl, p, C, dx, _, _, rfl, R2.ob, T.cl, T.nW, fR_w _ _ _ _, .inl ⟨rfl, _, SqL.of R2.wt⟩, lw, _, .str w, rfl, rfl, R2.wt, wait_at w r, ?_⟩
        rw [wait_drop]
        have R3 := R2.setw r
        refine ⟨by show 2 ≤ sizeLine; decide, fun tp htp => ?_⟩
        have R4 := R3.grow (same_new (o := .tup [.str "operation", .str w]) htp)
        obtain ⟨as, h1, h2⟩ := R4.cd
        refine ⟨lc, _, _, rfl, rfl, h1, ?_, ?_⟩
        · rw [List.length_map, h2.len]
          refine Nat.lt_of_le_of_lt (m := 1000) ?_ (by decide)
          dsimp only
          omega
        · refine ⟨cs ++ [.op w], r, rfl, rfl, R4.addc h1 h2 (c := .op w) upd_same, kp.trans (kp_w.trans ((Kp.same (same_new htp)).trans kp_c)), ?_, ?_⟩
          · rw [heq]
            show (if lv ≤ lev w then _ else _) = _
            rw [if_pos c1]
          · rw [List.length_append, List.length_singleton]
            rw [List.length_cons] at hz
            omega
      · rw [decide_eq_false c1]
        refine iteF (done ?_)
        show (if lv ≤ lev w then _ else _) = _
        rw [if_neg c1]
end
end Toy
end

section
set_option Elab.async false
set_option linter.all false
set_option maxRecDepth 100000
namespace Toy
open PySem L2 Gd Kt
/-! ### the reader's steps -/
def Done (C PE : Addr) (H : Hp) (Q : VK) (E : XK) (p dx lc lw : Addr) (x : Str) : Res → Prop
  | .ok s' wd => ∀ H', RdS C H' p dx lc lw x s' → Kp p lc lw H H' → Q (.str wd.t) H'
  | .err i => RzK H E PE p lc lw i
def spC (C PE : Addr) (f : Str → Nat → RS → Res) : Sp := fun vs H Q E => ∃ p dx lc lw x s c, vs = [.ref p] ∧ RdS C H p dx lc lw x s ∧ x.length ≤ 100 ∧ x.cps.toList[s.n]? = some c ∧ s.cs.length + s.ws.length ≤ 1000 ∧ (∀ u ∈ s.ws, OkW u) ∧
  Done C PE H Q E p dx lc lw x (f x c s)
theorem okw_len {u : Str} (h : OkW u) : u.length ≤ 5 := by
  rcases h.ex with ⟨h, _⟩ | ⟨_, h⟩
  · refine Classical.byContradiction fun n => ?_
    have ne : ∀ z : Str, z.length ≤ 5 → (u == z) = false := fun z hz => beq_eq_false_iff_ne.mpr fun e => n (by rw [e]; exact hz)
    have e : levT.lookup u = none := by
      unfold levT
      rw [List.lookup_cons, ne "+" (by decide +kernel)]
      dsimp only
      rw [List.lookup_cons, ne "-" (by decide +kernel)]
      dsimp only
      rw [List.lookup_cons, ne "*" (by decide +kernel)]
      dsimp only
      rw [List.lookup_cons, ne "//" (by decide +kernel)]
      dsimp only
      rw [List.lookup_cons, ne "minus" (by decide +kernel)]
      rfl
    unfold lev at h
    rw [e] at h
    exact absurd h (by decide)
  · unfold brOf at h
    split at h
    · rename_i e
      rw [e]
      decide +kernel
    · split at h
      · rename_i e
        rcases e with e | e <;> rw [e] <;> decide +kernel
      · split at h
        · rename_i e
          rcases e with e | e <;> rw [e] <;> decide +kernel
        · cases h
theorem in_two_mm (w : Str) : inV (.str w) [V.str "min", V.str "max"] = decide (w = "min" ∨ w = "max") := in_mm w
theorem in_res (w : Str) : inV (.str w) [V.str "min", V.str "max", V.str "self"] = decide (w = "min" ∨ w = "max" ∨ w = "self") := by
  by_cases h1 : w = "min"
  · subst h1
    decide +kernel
  · by_cases h2 : w = "max"
    · subst h2
      decide +kernel
    · by_cases h3 : w = "self"
      · subst h3
        decide +kernel
      · simp [inV, eqV, h1, h2, h3, Ne.symm h1, Ne.symm h2, Ne.symm h3]
section
variable {P : Program} {w : World} {K : PySem.W.Frag} {mg : Str → Option Value} {base : Heap} {C PE : Addr} {f : Addr} {fd : FuncData}
/-! read_bracket -/
theorem scBr : FnScope ["self"] ["self"] (defScope sRBr) := ⟨rfl, rfl, rfl, by decide +kernel, rfl, by decide +kernel, by decide +kernel⟩
theorem ok_br (F : Fun K "read_bracket" "Reader.read_bracket" sRBr f fd) (T : RdT K C) (TX : TxtR K w mg) (EP : ErrsT P w K mg base "ParseError" PE) : FnOk P w K mg base (L2.CX P w) 3 f fd ["self"] (spC C PE fun x _ s => rBr x s) := by
  obtain ⟨fE, fdE, TE, GE⟩ := EP.ex
  obtain ⟨tO, mO⟩ := TX.opd
  refine F.okX scBr (fun vs H Q E h => ?_) (fun cdv A outer s H vs Q E hr h => ?_)
  · obtain ⟨p, dx, lc, lw, x, s, c, rfl, _⟩ := h
    rfl
  · obtain ⟨p, dx, lc, lw, x, s, c, rfl, R, hx, hc, hsz, hok, k⟩ := h
    refine ⟨_, pss_cons (ps_if (pt_cmpR op_ne (pe_ix ix_str (pe_fld (pv 0) rfl) (pe_fld (pv 0) rfl) (fun _ _ => rfl)) pe_str (nomark _))
        (pss_one (ps_raise rfl (takes_of rfl rfl rfl rfl) (pmk_oex TE.ox TE.iC TE.tI GE hr TE.b .nil pass0 (by rfl) TE.m (pa_cons (pe_fld (pv 0) rfl) pa_nil)))) pss_nil)
      (pss_cons (ps_fldaug (pv 0) pe_int in_add) (pss_one (ps_ret (pe_glob (v := .str "operand") (by rfl) mO ⟨_, rfl⟩)))), ?_⟩
    have sl : x.length ≤ sizeLine := Nat.le_trans hx (by decide)
    have lt := (List.getElem?_eq_some_iff.mp hc).1
    refine ⟨_, rfl, p, C, dx, _, _, rfl, R.ob, T.cl, T.nT, fR_t _ _ _ _, _, rfl, p, C, dx, _, _, rfl, R.ob, T.cl, T.nP, fR_p _ _ _ _, x, _, c, rfl, rfl, sl, atI_nat hc, rfl, _, rfl, ?_⟩
    rw [one_str (k := 40) (by decide +kernel)]
    have k : Done C PE H Q E p dx lc lw x (rBr x s) := k
    unfold rBr at k
    by_cases c1 : c = 40
    · rw [decide_eq_true c1]
      rw [if_pos (by rw [hc, c1])] at k
      refine iteF ⟨_, rfl, p, C, dx, _, _, rfl, R.ob, T.cl, T.nP, fR_p _ _ _ _, _, _, rfl, rfl, dx, _, R.ob, by show 4 < 1000; decide, ?_⟩
      exact k _ (R.place (s.n + 1)) kp_p
    · rw [decide_eq_false c1]
      rw [if_neg (by rw [hc]; exact fun z => c1 (Option.some.inj z))] at k
      exact iteT ⟨_, rfl, p, C, dx, _, _, rfl, R.ob, T.cl, T.nP, fR_p _ _ _ _, by show 1 ≤ 1000; decide, rz_made (k.at R Kp.refl)⟩
/-! read_comma -/
theorem scComma : FnScope ["self"] ["self"] (defScope sRComma) := ⟨rfl, rfl, rfl, by decide +kernel, rfl, by decide +kernel, by decide +kernel⟩
theorem ok_comma (F : Fun K "read_comma" "Reader.read_comma" sRComma f fd) (T : RdT K C) (TX : TxtR K w mg) (EP : ErrsT P w K mg base "ParseError" PE) : FnOk P w K mg base (L2.CX P w) 3 f fd ["self"] (spC C PE fun _ _ s => rComma s) := by
  obtain ⟨fE, fdE, TE, GE⟩ := EP.ex
  obtain ⟨tO, mO⟩ := TX.opd
  refine F.okX scComma (fun vs H Q E h => ?_) (fun cdv A outer s H vs Q E hr h => ?_)
  · obtain ⟨p, dx, lc, lw, x, s, c, rfl, _⟩ := h
    rfl
  · obtain ⟨p, dx, lc, lw, x, s, c, rfl, R, hx, hc, hsz, hok, k⟩ := h
    refine ⟨_, pss_cons (ps_if (PW.pt (pw_or (pt_not (pt_truth (pe_fld (pv 0) rfl) (fun _ => rfl))) (pw_or1 (pt_cmpR op_notIn_seq (pe_ix ix_list (pe_fld (pv 0) rfl) (pe_un un_neg pe_int) (fun _ _ => rfl)) (pe_tup (pa_cons pe_str (pa_cons pe_str pa_nil))) (by rfl)))))
        (pss_one (ps_raise rfl (takes_of rfl rfl rfl rfl) (pmk_oex TE.ox TE.iC TE.tI GE hr TE.b .nil pass0 (by rfl) TE.m (pa_cons (pe_fld (pv 0) rfl) pa_nil)))) pss_nil)
      (pss_cons (ps_expr (pe_bm PySem.F.plainAttrs_list PySem.F.slot_list_append PySem.F.type_list_append mt_append (pe_fld (pv 0) rfl) (pa_cons (pe_op op_add_str (pe_bm0 PySem.F.plainAttrs_list PySem.F.slot_list_pop PySem.F.type_list_pop mt_pop (pe_fld (pv 0) rfl)) pe_str) pa_nil)))
      (pss_cons (ps_fldaug (pv 0) pe_int in_add) (pss_one (ps_ret (pe_glob (v := .str "operand") (by rfl) mO ⟨_, rfl⟩))))), ?_⟩
    have k : Done C PE H Q E p dx lc lw x (rComma s) := k
    obtain ⟨n, cs, ws⟩ := s
    cases ws with
    | nil =>
      refine ⟨_, rfl, p, C, dx, _, _, rfl, R.ob, T.cl, T.nW, fR_w _ _ _ _, false, .inl ⟨_, SqL.of R.wt, rfl⟩, iteT ?_⟩
      exact iteT ⟨_, rfl, p, C, dx, _, _, rfl, R.ob, T.cl, T.nP, fR_p _ _ _ _, by show 1 ≤ 1000; decide, rz_made (k.at R Kp.refl)⟩
    | cons w r =>
      refine ⟨_, rfl, p, C, dx, _, _, rfl, R.ob, T.cl, T.nW, fR_w _ _ _ _, true, .inl ⟨_, SqL.of R.wt, (wait_ne w r).symm⟩, iteF ⟨_, rfl, p, C, dx, _, _, rfl, R.ob, T.cl, T.nW, fR_w _ _ _ _, _, rfl, lw, _, _, _, rfl, rfl, SqL.of R.wt, wait_last w r, by show 2 ≤ sizeLine; decide, fun t1 ht1 => ⟨t1, _, rfl, .inr (SqT.of upd_same), rfl, rfl, _, rfl, ?_⟩⟩⟩
      have s1 : Same H (upd H t1 (.tup [.str "min", .str "max"])) := same_new ht1
      have R1 := R.grow s1
      show (if (!(inV (V.str w) [V.str "min", V.str "max"])) = true then _ else _)
      rw [in_mm]
      unfold rComma at k
      dsimp only at k
      by_cases c1 : w = "min" ∨ w = "max"
      · rw [decide_eq_true c1]
        rw [if_pos c1] at k
        refine iteF ?_
        obtain ⟨as0, g1, g2⟩ := R1.cd
        have l3 : w.length + (("," : Str)).length ≤ sizeLine := by
          rcases c1 with rfl | rfl <;> decide +kernel
        refine ⟨_, rfl, p, C, dx, _, _, rfl, R1.ob, T.cl, T.nW, fR_w _ _ _ _, .inl ⟨rfl, _, SqL.of R1.wt⟩, _, rfl, p, C, dx, _, _, rfl, R1.ob, T.cl, T.nW, fR_w _ _ _ _, .inl ⟨rfl, _, SqL.of R1.wt⟩, lw, _, .str w, rfl, rfl, R1.wt, wait_at w r, ?_⟩
        rw [wait_drop]
        have R3 := R1.setw r
        refine ⟨_, _, rfl, rfl, l3, lw, _, _, rfl, rfl, R3.wt, ?_, ?_⟩
        · rw [wait_len]
          refine Nat.lt_of_le_of_lt (m := 1000) ?_ (by decide)
          dsimp only at hsz ⊢
          rw [List.length_cons] at hsz
          omega
        · rw [show waitV r ++ [V.str (w ++ ",")] = waitV ((w ++ ",") :: r) from (wait_cons _ _).symm]
          have R4 := R3.setw ((w ++ ",") :: r)
          refine ⟨_, rfl, p, C, dx, _, _, rfl, R4.ob, T.cl, T.nP, fR_p _ _ _ _, _, _, rfl, rfl, dx, _, R4.ob, by show 4 < 1000; decide, ?_⟩
          exact k _ (R4.place (n + 1)) ((Kp.same s1).trans (kp_w.trans (kp_w.trans kp_p)))
      · rw [decide_eq_false c1]
        rw [if_neg c1] at k
        exact iteT ⟨_, rfl, p, C, dx, _, _, rfl, R1.ob, T.cl, T.nP, fR_p _ _ _ _, by show 1 ≤ 1000; decide, rz_made (k.at R1 (Kp.same s1))⟩
/-! read_end -/
theorem scEnd : FnScope ["self", "opener"] ["self"] (defScope sREnd) := ⟨rfl, rfl, rfl, by decide +kernel, rfl, by decide +kernel, by decide +kernel⟩
theorem ok_end (F : Fun K "read_end" "Reader.read_end" sREnd f fd) (T : RdT K C) (TX : TxtR K w mg) (EP : ErrsT P w K mg base "ParseError" PE) : FnOk P w K mg base (L2.CX P w) 3 f fd ["self"] (spC C PE fun _ _ s => rEnd s) := by
  obtain ⟨fE, fdE, TE, GE⟩ := EP.ex
  obtain ⟨tO, mO⟩ := TX.opr
  refine F.okX scEnd (fun vs H Q E h => ?_) (fun cdv A outer s H vs Q E hr h => ?_)
  · obtain ⟨p, dx, lc, lw, x, s, c, rfl, _⟩ := h
    rfl
  · obtain ⟨p, dx, lc, lw, x, s, c, rfl, R, hx, hc, hsz, hok, k⟩ := h
    refine ⟨_, pss_cons (ps_if (PW.pt (pw_or (pt_not (pt_truth (pe_fld (pv 0) rfl) (fun _ => rfl))) (pw_or1 (pt_cmpR op_in_seq (pe_ix ix_list (pe_fld (pv 0) rfl) (pe_un un_neg pe_int) (fun _ _ => rfl)) (pe_tup (pa_cons pe_str (pa_cons pe_str pa_nil))) (by rfl)))))
        (pss_one (ps_raise rfl (takes_of rfl rfl rfl rfl) (pmk_oex TE.ox TE.iC TE.tI GE hr TE.b .nil pass0 (by rfl) TE.m (pa_cons (pe_fld (pv 0) rfl) pa_nil)))) pss_nil)
      (pss_cons (ps_set (i := 1) scEnd.nd rfl (Or.inl rfl) (pe_bm0 PySem.F.plainAttrs_list PySem.F.slot_list_pop PySem.F.type_list_pop mt_pop (pe_fld (pv 0) rfl)))
      (C8.pss_cut (ps_if (pt_cmpR op_ne (pv 1) pe_str (nomark _)) (pss_one (ps_expr (pe_bm PySem.F.plainAttrs_list PySem.F.slot_list_append PySem.F.type_list_append mt_append (pe_fld (pv 0) rfl) (pa_cons (pe_tup (pa_cons pe_str (pa_cons (pe_slice sl_str (pv 1) po_none (po_some pe_int)) pa_nil))) pa_nil)))) pss_nil)
      (pss_cons (ps_fldaug (pv 0) pe_int in_add) (pss_one (ps_ret (pe_glob (v := .str "operator") (by rfl) mO ⟨_, rfl⟩)))))), ?_⟩
    have k : Done C PE H Q E p dx lc lw x (rEnd s) := k
    obtain ⟨n, cs, ws⟩ := s
    cases ws with
    | nil =>
      refine ⟨_, rfl, p, C, dx, _, _, rfl, R.ob, T.cl, T.nW, fR_w _ _ _ _, false, .inl ⟨_, SqL.of R.wt, rfl⟩, iteT ?_⟩
      exact iteT ⟨_, rfl, p, C, dx, _, _, rfl, R.ob, T.cl, T.nP, fR_p _ _ _ _, by show 1 ≤ 1000; decide, rz_made (k.at R Kp.refl)⟩
    | cons w r =>
      refine ⟨_, rfl, p, C, dx, _, _, rfl, R.ob, T.cl, T.nW, fR_w _ _ _ _, true, .inl ⟨_, SqL.of R.wt, (wait_ne w r).symm⟩, iteF ⟨_, rfl, p, C, dx, _, _, rfl, R.ob, T.cl, T.nW, fR_w _ _ _ _, _, rfl, lw, _, _, _, rfl, rfl, SqL.of R.wt, wait_last w r, by show 2 ≤ sizeLine; decide, fun t1 ht1 => ⟨t1, _, rfl, .inr (SqT.of upd_same), rfl, rfl, _, rfl, ?_⟩⟩⟩
      have s1 : Same H (upd H t1 (.tup [.str "min", .str "max"])) := same_new ht1
      have R1 := R.grow s1
      show (if (inV (V.str w) [V.str "min", V.str "max"]) = true then _ else _)
      rw [in_mm]
      unfold rEnd at k
      dsimp only at k
      by_cases c1 : w = "min" ∨ w = "max"
      · rw [decide_eq_true c1]
        rw [if_pos c1] at k
        exact iteT ⟨_, rfl, p, C, dx, _, _, rfl, R1.ob, T.cl, T.nP, fR_p _ _ _ _, by show 1 ≤ 1000; decide, rz_made (k.at R1 (Kp.same s1))⟩
      · rw [decide_eq_false c1]
        rw [if_neg c1] at k
        refine iteF ⟨_, rfl, p, C, dx, _, _, rfl, R1.ob, T.cl, T.nW, fR_w _ _ _ _, .inl ⟨rfl, _, SqL.of R1.wt⟩, lw, _, .str w, rfl, rfl, R1.wt, wait_at w r, ?_⟩
        rw [wait_drop]
        have R3 := R1.setw r
        have wl := okw_len (hok w (List.mem_cons_self ..))
        refine ⟨fun σ' H' => σ' = [some (.ref p), some (.str w)] ∧ RdS C H' p dx lc lw x ⟨n, (if w = "(" then cs else cs ++ [.op (cutS w none (some 3))]), r⟩ ∧ Kp p lc lw H H', ?_, ?_⟩
        · refine ⟨_, rfl, rfl, _, rfl, ?_⟩
          rw [str_dec2]
          by_cases c2 : w = "("
          · rw [decide_eq_true c2]
            refine iteF ⟨rfl, ?_, (Kp.same s1).trans kp_w⟩
            rw [if_pos c2]
            exact R3
          · rw [decide_eq_false c2]
            obtain ⟨as0, g1, g2⟩ := R3.cd
            refine iteT ⟨_, rfl, p, C, dx, _, _, rfl, R3.ob, T.cl, T.nC, fR_c _ _ _ _, .inl ⟨rfl, _, SqL.of g1⟩, _, rfl, _, rfl, w, rfl, Nat.le_trans wl (by decide), by show 2 ≤ sizeLine; decide, fun tp htp => ?_⟩
            have R4 := R3.grow (same_new (o := .tup [.str "operation", .str (cutS w none (some 3))]) htp)
            obtain ⟨as, h1, h2⟩ := R4.cd
            refine ⟨lc, _, _, rfl, rfl, h1, ?_, rfl, ?_, (Kp.same s1).trans (kp_w.trans ((Kp.same (same_new htp)).trans kp_c))⟩
            · rw [List.length_map, h2.len]
              refine Nat.lt_of_le_of_lt (m := 1000) ?_ (by decide)
              dsimp only at hsz ⊢
              omega
            · rw [if_neg c2]
              exact R4.addc h1 h2 (c := .op (cutS w none (some 3))) upd_same
        intro σ2 H2 hm
        obtain ⟨rfl, R5, kp5⟩ := hm
        refine ⟨_, rfl, p, C, dx, _, _, rfl, R5.ob, T.cl, T.nP, fR_p _ _ _ _, _, _, rfl, rfl, dx, _, R5.ob, by show 4 < 1000; decide, ?_⟩
        exact k _ (R5.place (n + 1)) (kp5.trans kp_p)
/-! read_word -/
theorem scWord : FnScope ["self", "word"] ["self"] (defScope sRWord) := ⟨rfl, rfl, rfl, by decide +kernel, rfl, by decide +kernel, by decide +kernel⟩
theorem ok_word {fR : Addr} {fdR : FuncData} (F : Fun K "read_word" "Reader.read_word" sRWord f fd) (T : RdT K C) (TX : TxtR K w mg) (EP : ErrsT P w K mg base "ParseError" PE)
    (MR : Meth K C "run_of" fR) (BR : Binds K fdR ["self", "signs", "most"] []) (GR : FnOk P w K mg base CX0 1 fR fdR ["self", "signs", "most"] (spRunOf C)) : FnOk P w K mg base (L2.CX P w) 3 f fd ["self"] (spC C PE fun x _ s => rWord x s) := by
  obtain ⟨fE, fdE, TE, GE⟩ := EP.ex
  obtain ⟨tO, mO⟩ := TX.opr
  obtain ⟨tB, mB⟩ := TX.brk
  obtain ⟨tL, mL⟩ := TX.lets
  obtain ⟨tM, mM⟩ := TX.ml
  obtain ⟨aR, mR, hR⟩ := TX.rs
  refine F.okX scWord (fun vs H Q E h => ?_) (fun cdv A outer s H vs Q E hr h => ?_)
  · obtain ⟨p, dx, lc, lw, x, s, c, rfl, _⟩ := h
    rfl
  · obtain ⟨p, dx, lc, lw, x, s, c, rfl, R, hx, hc, hsz, hok, k⟩ := h
    have hr1 : Room 1 _ := hr.mono (by decide)
    refine ⟨_, pss_cons (ps_set (i := 1) scWord.nd rfl (Or.inl rfl) (pe_meth (pv 0) T.cl MR GR hr1 BR .nil pass0 (pa_cons (pe_glob (v := .str lets) (by rfl) mL ⟨_, rfl⟩) (pa_cons (pe_glob (v := .int 8) (by rfl) mM ⟨_, rfl⟩) pa_nil))))
      (pss_cons (ps_if (pt_cmpR op_in_seq (pv 1) (pe_tup (pa_cons pe_str (pa_cons pe_str pa_nil))) (by rfl)) (pss_cons (ps_expr (pe_bm PySem.F.plainAttrs_list PySem.F.slot_list_append PySem.F.type_list_append mt_append (pe_fld (pv 0) rfl) (pa_cons (pv 1) pa_nil)))
          (pss_one (ps_ret (pe_glob (v := .str "bracket") (by rfl) mB ⟨_, rfl⟩)))) pss_nil)
      (pss_cons (ps_if (pt_cmpR op_in_seq (pv 1) (pe_glob (v := .ref aR) (by rfl) mR rfl) (by rfl)) (pss_one (ps_raise rfl (takes_of rfl rfl rfl rfl) (pmk_oex TE.ox TE.iC TE.tI GE hr TE.b .nil pass0 (by rfl) TE.m (pa_cons (pe_fld (pv 0) rfl) pa_nil)))) pss_nil)
      (pss_cons (ps_expr (pe_bm PySem.F.plainAttrs_list PySem.F.slot_list_append PySem.F.type_list_append mt_append (pe_fld (pv 0) rfl) (pa_cons (pe_tup (pa_cons pe_str (pa_cons (pv 1) pa_nil))) pa_nil)))
      (pss_one (ps_ret (pe_glob (v := .str "operator") (by rfl) mO ⟨_, rfl⟩)))))), ?_⟩
    have k : Done C PE H Q E p dx lc lw x (rWord x s) := k
    have len1 : x.cps.toList.length = x.length := by simp [Str.length]
    have lt := (List.getElem?_eq_some_iff.mp hc).1
    refine ⟨_, rfl, p, dx, _, rfl, R.ob, fR_no (by decide +kernel) (by decide +kernel) (by decide +kernel) (by decide +kernel) _ _ _ _, p, dx, lc, lw, x, s, lets, 8, rfl, R, hx, by omega, fun H1 R1 kp1 => ?_⟩
    have R1 : RdS C H1 p dx lc lw x ⟨opdW x s.n, s.cs, s.ws⟩ := R1
    refine ⟨_, rfl, by show 2 ≤ sizeLine; decide, fun t1 ht1 => ⟨t1, _, rfl, .inr (SqT.of upd_same), rfl, rfl, _, rfl, ?_⟩⟩
    have s1 : Same H1 (upd H1 t1 (.tup [.str "min", .str "max"])) := same_new ht1
    have R2 := R1.grow s1
    have kp2 := kp1.trans (Kp.same s1)
    show (if (inV (V.str (word x s.n)) [V.str "min", V.str "max"]) = true then _ else _)
    rw [in_mm]
    unfold rWord at k
    by_cases c1 : word x s.n = "min" ∨ word x s.n = "max"
    · rw [decide_eq_true c1]
      rw [if_pos c1] at k
      refine iteT ⟨_, rfl, p, C, dx, _, _, rfl, R2.ob, T.cl, T.nW, fR_w _ _ _ _, .inl ⟨rfl, _, SqL.of R2.wt⟩, _, rfl, lw, _, _, rfl, rfl, R2.wt, ?_, ?_⟩
      · rw [wait_len]
        refine Nat.lt_of_le_of_lt (m := 1000) ?_ (by decide)
        dsimp only
        omega
      · show Q (.str "bracket") (upd _ lw (.lst (waitV s.ws ++ [V.str (word x s.n)])))
        rw [← wait_cons]
        exact k _ (R2.setw (word x s.n :: s.ws)) (kp2.trans kp_w)
    · rw [decide_eq_false c1]
      rw [if_neg c1] at k
      refine iteF ⟨_, rfl, aR, _, rfl, .inr (hR _), rfl, rfl, _, rfl, ?_⟩
      show (if (inV (V.str (word x s.n)) [V.str "min", V.str "max", V.str "self"]) = true then _ else _)
      rw [in_res]
      by_cases c2 : word x s.n = "self"
      · rw [decide_eq_true (.inr (.inr c2))]
        rw [if_pos c2] at k
        exact iteT ⟨_, rfl, p, C, dx, _, _, rfl, R2.ob, T.cl, T.nP, fR_p _ _ _ _, by show 1 ≤ 1000; decide, rz_made (k.at R2 kp2)⟩
      · rw [decide_eq_false (fun z => by
          rcases z with z | z | z
          · exact c1 (.inl z)
          · exact c1 (.inr z)
          · exact c2 z)]
        rw [if_neg c2] at k
        obtain ⟨as0, g1, g2⟩ := R2.cd
        refine iteF ⟨_, rfl, p, C, dx, _, _, rfl, R2.ob, T.cl, T.nC, fR_c _ _ _ _, .inl ⟨rfl, _, SqL.of g1⟩, _, rfl, by show 2 ≤ sizeLine; decide, fun tp htp => ?_⟩
        have R4 := R2.grow (same_new (o := .tup [.str "parameter", .str (word x s.n)]) htp)
        obtain ⟨as, h1, h2⟩ := R4.cd
        refine ⟨lc, _, _, rfl, rfl, h1, ?_, ?_⟩
        · rw [List.length_map, h2.len]
          refine Nat.lt_of_le_of_lt (m := 1000) ?_ (by decide)
          dsimp only
          omega
        · exact k _ (R4.addc h1 h2 (c := .par (word x s.n)) upd_same) (kp2.trans ((Kp.same (same_new htp)).trans kp_c))
end
end Toy
end

section
set_option Elab.async false
set_option linter.all false
set_option maxRecDepth 100000
namespace Toy
open PySem L2 Gd Kt
/-! ### operands and operators -/
theorem run_all : ∀ (l sg : List Nat) (k : Nat), ∀ c ∈ l.take (runLen l sg k), c ∈ sg
  | l, sg, 0, c, h => by
    rw [show runLen l sg 0 = 0 by cases l <;> rfl] at h
    cases h
  | [], sg, k + 1, c, h => by
    rw [List.take_nil] at h
    cases h
  | d :: l, sg, k + 1, c, h => by
    unfold runLen at h
    split at h
    · rename_i hd
      rw [List.take_succ_cons] at h
      rcases List.mem_cons.mp h with rfl | h
      · exact hd
      · exact run_all l sg k c h
    · cases h
theorem cut_list {x : Str} {a e : Nat} (he : e ≤ x.length) (hae : a ≤ e) : (cutS x (some (a : Int)) (some (e : Int))).cps.toList = (x.cps.toList.drop a).take (e - a) := by
  have len1 : x.cps.toList.length = x.length := by simp [Str.length]
  have e1 : HT.sIx x.length 0 (some (a : Int)) = min a x.length := by rw [HT.sIx_nat]
  have e2 : HT.sIx x.length x.length (some (e : Int)) = min e x.length := by rw [HT.sIx_nat]
  unfold cutS
  rw [e1, e2, Nat.min_eq_left he, Nat.min_eq_left (Nat.le_trans hae he)]
theorem Done.on {C PE : Addr} {H H1 : Hp} {Q : VK} {E : XK} {p dx lc lw : Addr} {x : Str} {s : RS} {r : Res} (d : Done C PE H Q E p dx lc lw x r) (R : RdS C H1 p dx lc lw x s) (k : Kp p lc lw H H1) : Done C PE H1 Q E p dx lc lw x r := by
  cases r with
  | ok s' wd => exact fun H' R' k' => d H' R' (k.trans k')
  | err i => exact RzK.on d R k
section
variable {P : Program} {w : World} {K : PySem.W.Frag} {mg : Str → Option Value} {base : Heap} {C PE : Addr} {f : Addr} {fd : FuncData}
theorem scOpdR : FnScope ["self", "first", "digits"] ["self"] (defScope sROpd) := ⟨rfl, rfl, rfl, by decide +kernel, rfl, by decide +kernel, by decide +kernel⟩
theorem ok_opdR {fR fW : Addr} {fdR fdW : FuncData} (F : Fun K "read_operand" "Reader.read_operand" sROpd f fd) (T : RdT K C) (TX : TxtR K w mg) (EP : ErrsT P w K mg base "ParseError" PE)
    (MR : Meth K C "run_of" fR) (BR : Binds K fdR ["self", "signs", "most"] []) (GR : FnOk P w K mg base CX0 1 fR fdR ["self", "signs", "most"] (spRunOf C))
    (MW : Meth K C "read_word" fW) (BW : Binds K fdW ["self"] []) (GW : FnOk P w K mg base (L2.CX P w) 3 fW fdW ["self"] (spC C PE fun x _ s => rWord x s)) : FnOk P w K mg base (L2.CX P w) 4 f fd ["self"] (spC C PE rOpd) := by
  obtain ⟨fE, fdE, TE, GE⟩ := EP.ex
  obtain ⟨tO, mO⟩ := TX.opd
  obtain ⟨tP, mP⟩ := TX.opr
  obtain ⟨tD, mD⟩ := TX.dig
  obtain ⟨tL, mL⟩ := TX.lets
  obtain ⟨tM, mM⟩ := TX.md
  refine F.okX scOpdR (fun vs H Q E h => ?_) (fun cdv A outer s H vs Q E hr h => ?_)
  · obtain ⟨p, dx, lc, lw, x, s, c, rfl, _⟩ := h
    rfl
  · obtain ⟨p, dx, lc, lw, x, s, c, rfl, R, hx, hc, hsz, hok, k⟩ := h
    have hr1 : Room 1 _ := hr.mono (by decide)
    have hr2 : Room (1 + 1) _ := hr.mono (by decide)
    refine ⟨_, pss_cons (ps_set (i := 1) scOpdR.nd rfl (Or.inl rfl) (pe_ix ix_str (pe_fld (pv 0) rfl) (pe_fld (pv 0) rfl) (fun _ _ => rfl)))
      (pss_cons (ps_if (pt_cmpR op_in_sign (pv 1) pe_str (by rfl)) (pss_cons (ps_expr (pe_bm PySem.F.plainAttrs_list PySem.F.slot_list_append PySem.F.type_list_append mt_append (pe_fld (pv 0) rfl) (pa_cons (pe_ifExp (pt_cmpR op_eq (pv 1) pe_str (nomark _)) pe_str pe_str) pa_nil)))
          (pss_cons (ps_fldaug (pv 0) pe_int in_add) (pss_one (ps_ret (pe_glob (v := .str "operand") (by rfl) mO ⟨_, rfl⟩))))) pss_nil)
      (pss_cons (ps_if (pt_cmpR op_in_sign (pv 1) (pe_glob (v := .str fig) (by rfl) mD ⟨_, rfl⟩) (by rfl))
          (C8.pss_cut (ps_set (i := 2) scOpdR.nd rfl (Or.inl rfl) (pe_meth (pv 0) T.cl MR GR hr1 BR .nil pass0 (pa_cons (pe_glob (v := .str fig) (by rfl) mD ⟨_, rfl⟩) (pa_cons (pe_ifExp (pt_cmpR op_eq (pv 1) pe_str (nomark _)) pe_int (pe_glob (v := .int 31) (by rfl) mM ⟨_, rfl⟩)) pa_nil))))
          (pss_cons (ps_expr (pe_bm PySem.F.plainAttrs_list PySem.F.slot_list_append PySem.F.type_list_append mt_append (pe_fld (pv 0) rfl) (pa_cons (pe_tup (pa_cons pe_str (pa_cons (pe_callTy call_int_str (by rfl) TX.int (by decide +kernel) (pa_cons (pv 2) pa_nil)) pa_nil))) pa_nil)))
          (pss_one (ps_ret (pe_glob (v := .str "operator") (by rfl) mP ⟨_, rfl⟩))))) pss_nil)
      (pss_cons (ps_if (pt_cmpR op_in_sign (pv 1) (pe_glob (v := .str lets) (by rfl) mL ⟨_, rfl⟩) (by rfl))
          (pss_one (ps_ret (pe_meth0 (pv 0) T.cl MW GW hr BW .nil (passes_call (E := E) (W := fun cls d _ H => E cls d H) (takes_of rfl rfl rfl rfl) (fun _ _ _ _ h => h))))) pss_nil)
      (pss_one (ps_raise rfl (takes_of rfl rfl rfl rfl) (pmk_oex TE.ox TE.iC TE.tI GE hr2 TE.b .nil pass0 (by rfl) TE.m (pa_cons (pe_fld (pv 0) rfl) pa_nil))))))), ?_⟩
    have k : Done C PE H Q E p dx lc lw x (rOpd x c s) := k
    have len1 : x.cps.toList.length = x.length := by simp [Str.length]
    have sl : x.length ≤ sizeLine := Nat.le_trans hx (by decide)
    have lt := (List.getElem?_eq_some_iff.mp hc).1
    unfold rOpd at k
    refine ⟨_, rfl, p, C, dx, _, _, rfl, R.ob, T.cl, T.nT, fR_t _ _ _ _, _, rfl, p, C, dx, _, _, rfl, R.ob, T.cl, T.nP, fR_p _ _ _ _, x, _, c, rfl, rfl, sl, atI_nat hc, ?_⟩
    refine ⟨_, rfl, c, _, rfl, rfl, _, rfl, ?_⟩
    rw [show ("-(" : Str).cps.toList = [45, 40] by decide +kernel]
    by_cases c1 : c = 45 ∨ c = 40
    · rw [decide_eq_true (by simpa using c1 : c ∈ ([45, 40] : List Nat))]
      rw [if_pos c1] at k
      refine iteT ⟨_, rfl, p, C, dx, _, _, rfl, R.ob, T.cl, T.nW, fR_w _ _ _ _, .inl ⟨rfl, _, SqL.of R.wt⟩, _, rfl, rfl, _, rfl, ?_⟩
      rw [one_str (k := 45) (by decide +kernel)]
      have fin : ∀ u : Str, u = (if c = 45 then ("minus" : Str) else ("(" : Str)) → rAppend (.ref lw) [.str u] H (fun v H' => ∃ a C' dx' fs v', V.ref p = .ref a ∧ H' a = some (.ins C' dx' fs) ∧ Cls K C' ∧ NoAttr K C' gP ∧ fs.lookup gP = some v' ∧
          rAdd v' (.int 1) H' (fun z H3 => ∃ dx' fs', H3 a = some (.ins C' dx' fs') ∧ fs'.length < 1000 ∧ Q (.str "operand") (upd H3 a (.ins C' dx' (putF gP z fs'))))) := by
        intro u hu
        refine ⟨lw, _, _, rfl, rfl, R.wt, ?_, ?_⟩
        · rw [wait_len]
          exact Nat.lt_of_le_of_lt (m := 1000) (by omega) (by decide)
        · rw [show waitV s.ws ++ [V.str u] = waitV (u :: s.ws) from (wait_cons _ _).symm, hu]
          have R4 := R.setw ((if c = 45 then ("minus" : Str) else ("(" : Str)) :: s.ws)
          refine ⟨p, C, dx, _, _, rfl, R4.ob, T.cl, T.nP, fR_p _ _ _ _, _, _, rfl, rfl, dx, _, R4.ob, by show 4 < 1000; decide, ?_⟩
          exact k _ (R4.place (s.n + 1)) (kp_w.trans kp_p)
      by_cases c2 : c = 45
      · rw [decide_eq_true c2]
        obtain ⟨l, xs, y, e1, e2, e3, e4, a, C', dx', fs, v', e5, e6⟩ := fin "minus" (by rw [if_pos c2])
        exact iteT ⟨l, xs, y, e1, e2, e3, e4, _, rfl, a, C', dx', fs, v', e5, e6⟩
      · rw [decide_eq_false c2]
        obtain ⟨l, xs, y, e1, e2, e3, e4, a, C', dx', fs, v', e5, e6⟩ := fin "(" (by rw [if_neg c2])
        exact iteF ⟨l, xs, y, e1, e2, e3, e4, _, rfl, a, C', dx', fs, v', e5, e6⟩
    · rw [decide_eq_false (by simpa using c1 : ¬ c ∈ ([45, 40] : List Nat))]
      rw [if_neg c1] at k
      refine iteF ⟨_, rfl, c, fig, rfl, rfl, _, rfl, ?_⟩
      by_cases c2 : c ∈ fig.cps.toList
      · rw [decide_eq_true c2]
        rw [if_pos c2] at k
        have hd0 : (x.cps.toList.drop s.n)[0]? = some c := by rw [List.getElem?_drop]; exact hc
        refine iteT ⟨fun σ' H' => σ' = [some (.ref p), some (.str ⟨#[c]⟩), some (.str (cutS x (some (s.n : Int)) (some (opdD x s.n c : Int))))] ∧ RdS C H' p dx lc lw x ⟨opdD x s.n c, s.cs, s.ws⟩ ∧ Kp p lc lw H H', ?_, ?_⟩
        · refine ⟨_, rfl, p, dx, _, rfl, R.ob, fR_no (by decide +kernel) (by decide +kernel) (by decide +kernel) (by decide +kernel) _ _ _ _, _, rfl, rfl, _, rfl, ?_⟩
          rw [one_str (k := 48) (by decide +kernel)]
          by_cases c3 : c = 48
          · rw [decide_eq_true c3]
            have e1 : opdD x s.n c = s.n + runLen (x.cps.toList.drop s.n) fig.cps.toList 1 := by
              have a1 : 1 ≤ runLen (x.cps.toList.drop s.n) fig.cps.toList 1 := run_pos (k := 0) hd0 c2
              have a2 := (runLen_le (x.cps.toList.drop s.n) fig.cps.toList 1).2
              unfold opdD
              rw [if_pos c3]
              omega
            refine iteT ⟨p, dx, lc, lw, x, s, fig, 1, rfl, R, hx, by omega, fun H1 R1 kp1 => ?_⟩
            rw [← e1] at R1 ⊢
            exact ⟨rfl, R1, kp1⟩
          · rw [decide_eq_false c3]
            have e1 : opdD x s.n c = s.n + runLen (x.cps.toList.drop s.n) fig.cps.toList 31 := by
              unfold opdD
              rw [if_neg c3]
            refine iteF ⟨p, dx, lc, lw, x, s, fig, 31, rfl, R, hx, by omega, fun H1 R1 kp1 => ?_⟩
            rw [← e1] at R1 ⊢
            exact ⟨rfl, R1, kp1⟩
        intro σ2 H2 hm
        obtain ⟨rfl, R2, kp2⟩ := hm
        have hle : opdD x s.n c ≤ x.length ∧ s.n + 1 ≤ opdD x s.n c ∧ opdD x s.n c ≤ s.n + 31 := by
          have a1 : 1 ≤ runLen (x.cps.toList.drop s.n) fig.cps.toList 31 := run_pos (k := 30) hd0 c2
          have a2 := runLen_le (x.cps.toList.drop s.n) fig.cps.toList 31
          rw [List.length_drop] at a2
          unfold opdD
          split <;> omega
        have ecut := cut_list (x := x) (a := s.n) (e := opdD x s.n c) hle.1 (by omega)
        have hcl : (cutS x (some (s.n : Int)) (some (opdD x s.n c : Int))).length = opdD x s.n c - s.n := by
          have : (cutS x (some (s.n : Int)) (some (opdD x s.n c : Int))).cps.toList.length = (cutS x (some (s.n : Int)) (some (opdD x s.n c : Int))).length := by simp [Str.length]
          rw [← this, ecut, List.length_take, List.length_drop]
          omega
        have alld : NumText.AllDigits (cutS x (some (s.n : Int)) (some (opdD x s.n c : Int))).cps.toList := by
          intro d hd
          rw [ecut] at hd
          refine fig_sign ?_
          by_cases c3 : c = 48
          · have e1 : opdD x s.n c - s.n = runLen (x.cps.toList.drop s.n) fig.cps.toList 1 := by
              have a1 : 1 ≤ runLen (x.cps.toList.drop s.n) fig.cps.toList 1 := run_pos (k := 0) hd0 c2
              have a2 := (runLen_le (x.cps.toList.drop s.n) fig.cps.toList 1).2
              unfold opdD
              rw [if_pos c3]
              omega
            rw [e1] at hd
            exact run_all _ _ _ d hd
          · have e1 : opdD x s.n c - s.n = runLen (x.cps.toList.drop s.n) fig.cps.toList 31 := by
              unfold opdD
              rw [if_neg c3]
              omega
            rw [e1] at hd
            exact run_all _ _ _ d hd
        have it := intText_digits alld (fun z => by
          have := congrArg List.length z
          rw [ecut, List.length_take, List.length_drop] at this
          rw [List.length_nil] at this
          omega) (by omega)
        obtain ⟨as0, g1, g2⟩ := R2.cd
        refine ⟨_, rfl, p, C, dx, _, _, rfl, R2.ob, T.cl, T.nC, fR_c _ _ _ _, .inl ⟨rfl, _, SqL.of g1⟩, _, rfl, _, _, rfl, it, by omega, by show 2 ≤ sizeLine; decide, fun tp htp => ?_⟩
        have R4 := R2.grow (same_new (o := .tup [.str "integer", .int (numOf x s.n c)]) htp)
        obtain ⟨as, h1, h2⟩ := R4.cd
        refine ⟨lc, _, _, rfl, rfl, h1, ?_, ?_⟩
        · rw [List.length_map, h2.len]
          refine Nat.lt_of_le_of_lt (m := 1000) ?_ (by decide)
          dsimp only
          omega
        · exact k _ (R4.addc h1 h2 (c := .int (numOf x s.n c)) upd_same) (kp2.trans ((Kp.same (same_new htp)).trans kp_c))
      · rw [decide_eq_false c2]
        rw [if_neg c2] at k
        refine iteF ⟨_, rfl, c, lets, rfl, rfl, _, rfl, ?_⟩
        by_cases c3 : c ∈ lets.cps.toList
        · rw [decide_eq_true c3]
          rw [if_pos c3] at k
          exact iteT ⟨_, rfl, p, dx, _, rfl, R.ob, fR_no (by decide +kernel) (by decide +kernel) (by decide +kernel) (by decide +kernel) _ _ _ _, p, dx, lc, lw, x, s, c, rfl, R, hx, hc, hsz, hok, k⟩
        · rw [decide_eq_false c3]
          rw [if_neg c3] at k
          exact iteF ⟨_, rfl, p, C, dx, _, _, rfl, R.ob, T.cl, T.nP, fR_p _ _ _ _, by show 1 ≤ 1000; decide, rz_made (k.at R Kp.refl)⟩
end
end Toy
end

section
set_option Elab.async false
set_option linter.all false
set_option maxRecDepth 100000
namespace Toy
open PySem L2 Gd Kt
/-! ### operators, the whole walk -/
theorem sgn_is {c : Nat} {z : Str} {k : Nat} (hz : z.cps.toList = [k]) (h47 : ¬ c = 47) : decide (V.str (sgn c) = V.str z) = decide (c = k) := by
  unfold sgn
  rw [if_neg h47]
  exact one_str hz
section
variable {P : Program} {w : World} {K : PySem.W.Frag} {mg : Str → Option Value} {base : Heap} {C PE : Addr} {f : Addr} {fd : FuncData}
theorem scOpR : FnScope ["self", "sign"] ["self"] (defScope sROp) := ⟨rfl, rfl, rfl, by decide +kernel, rfl, by decide +kernel, by decide +kernel⟩
theorem ok_opR {fF fC fN : Addr} {fdF fdC fdN : FuncData} (F : Fun K "read_operator" "Reader.read_operator" sROp f fd) (T : RdT K C) (TX : TxtR K w mg) (EP : ErrsT P w K mg base "ParseError" PE)
    (MF : Meth K C "finish" fF) (BF : Binds K fdF ["self", "level"] []) (GF : FnOk P w K mg base CX0 1 fF fdF ["self", "level"] (spFin C))
    (MC : Meth K C "read_comma" fC) (BC : Binds K fdC ["self"] []) (GC : FnOk P w K mg base (L2.CX P w) 3 fC fdC ["self"] (spC C PE fun _ _ s => rComma s))
    (MN : Meth K C "read_end" fN) (BN : Binds K fdN ["self"] []) (GN : FnOk P w K mg base (L2.CX P w) 3 fN fdN ["self"] (spC C PE fun _ _ s => rEnd s)) : FnOk P w K mg base (L2.CX P w) 4 f fd ["self"] (spC C PE rOp) := by
  obtain ⟨fE, fdE, TE, GE⟩ := EP.ex
  obtain ⟨tO, mO⟩ := TX.opd
  obtain ⟨tS, mS⟩ := TX.lo
  obtain ⟨aL, mL, TL⟩ := TX.lv
  refine F.okX scOpR (fun vs H Q E h => ?_) (fun cdv A outer s H vs Q E hr h => ?_)
  · obtain ⟨p, dx, lc, lw, x, s, c, rfl, _⟩ := h
    rfl
  · obtain ⟨p, dx, lc, lw, x, s, c, rfl, R, hx, hc, hsz, hok, k⟩ := h
    have hr1 : Room 1 _ := hr.mono (by decide)
    have hr2 : Room (1 + 1) _ := hr.mono (by decide)
    refine ⟨_, pss_cons (ps_set (i := 1) scOpR.nd rfl (Or.inl rfl) (pe_ix ix_str (pe_fld (pv 0) rfl) (pe_fld (pv 0) rfl) (fun _ _ => rfl)))
      (C8.pss_cut (ps_if (pt_cmpR op_eq (pv 1) pe_str (nomark _))
          (pss_cons (ps_if (pt_cmpR op_ne (pe_slice sl_str (pe_fld (pv 0) rfl) (po_some (pe_op op_add (pe_fld (pv 0) rfl) pe_int)) (po_some (pe_op op_add (pe_fld (pv 0) rfl) pe_int))) pe_str (nomark _))
            (pss_one (ps_raise rfl (takes_of rfl rfl rfl rfl) (pmk_oex TE.ox TE.iC TE.tI GE hr2 TE.b .nil pass0 (by rfl) TE.m (pa_cons (pe_op op_add (pe_fld (pv 0) rfl) pe_int) pa_nil)))) pss_nil)
          (pss_one (ps_set (i := 1) scOpR.nd rfl (Or.inl rfl) pe_str))) pss_nil)
      (pss_cons (ps_if (pt_cmpR (op_inT TL) (pv 1) (pe_glob (v := .ref aL) (by rfl) mL rfl) (by rfl))
          (pss_cons (ps_expr (pe_meth (pv 0) T.cl MF GF hr1 BF .nil pass0 (pa_cons (pe_ix (ix_T TL) (pe_glob (v := .ref aL) (by rfl) mL rfl) (pv 1) (fun _ _ => rfl)) pa_nil)))
          (pss_cons (ps_expr (pe_bm PySem.F.plainAttrs_list PySem.F.slot_list_append PySem.F.type_list_append mt_append (pe_fld (pv 0) rfl) (pa_cons (pv 1) pa_nil)))
          (pss_cons (ps_fldaug (pv 0) (pe_callB call_len (by rfl) TX.len PySem.boot_len (pa_cons (pv 1) pa_nil)) in_add) (pss_one (ps_ret (pe_glob (v := .str "operand") (by rfl) mO ⟨_, rfl⟩)))))) pss_nil)
      (pss_cons (ps_expr (pe_meth (pv 0) T.cl MF GF hr1 BF .nil pass0 (pa_cons (pe_glob (v := .int 1) (by rfl) mS ⟨_, rfl⟩) pa_nil)))
      (pss_cons (ps_if (pt_cmpR op_eq (pv 1) pe_str (nomark _)) (pss_one (ps_ret (pe_meth0 (pv 0) T.cl MC GC hr BC .nil (passes_call (E := E) (W := fun cls d _ H => E cls d H) (takes_of rfl rfl rfl rfl) (fun _ _ _ _ h => h))))) pss_nil)
      (pss_cons (ps_if (pt_cmpR op_eq (pv 1) pe_str (nomark _)) (pss_one (ps_ret (pe_meth0 (pv 0) T.cl MN GN hr BN .nil (passes_call (E := E) (W := fun cls d _ H => E cls d H) (takes_of rfl rfl rfl rfl) (fun _ _ _ _ h => h))))) pss_nil)
      (pss_one (ps_raise rfl (takes_of rfl rfl rfl rfl) (pmk_oex TE.ox TE.iC TE.tI GE hr2 TE.b .nil pass0 (by rfl) TE.m (pa_cons (pe_fld (pv 0) rfl) pa_nil))))))))), ?_⟩
    have k : Done C PE H Q E p dx lc lw x (rOp x c s) := k
    have len1 : x.cps.toList.length = x.length := by simp [Str.length]
    have sl : x.length ≤ sizeLine := Nat.le_trans hx (by decide)
    have lt := (List.getElem?_eq_some_iff.mp hc).1
    have nof : ∀ {m : Str}, ¬ m = gT → ¬ m = gP → ¬ m = gC → ¬ m = gW → ∀ n, (fR x n lc lw).lookup m = none := fun h1 h2 h3 h4 n => fR_no h1 h2 h3 h4 _ _ _ _
    unfold rOp at k
    refine ⟨_, rfl, p, C, dx, _, _, rfl, R.ob, T.cl, T.nT, fR_t _ _ _ _, _, rfl, p, C, dx, _, _, rfl, R.ob, T.cl, T.nP, fR_p _ _ _ _, x, _, c, rfl, rfl, sl, atI_nat hc, ?_⟩
    refine ⟨fun σ' H' => σ' = [some (.ref p), some (.str (sgn c))] ∧ H' = H ∧ ¬ (c = 47 ∧ ¬ x.cps.toList[s.n + 1]? = some 47), ?_, ?_⟩
    · refine ⟨_, rfl, rfl, _, rfl, ?_⟩
      rw [one_str (k := 47) (by decide +kernel)]
      by_cases c1 : c = 47
      · rw [decide_eq_true c1]
        refine iteT ⟨_, rfl, p, C, dx, _, _, rfl, R.ob, T.cl, T.nT, fR_t _ _ _ _, _, rfl, p, C, dx, _, _, rfl, R.ob, T.cl, T.nP, fR_p _ _ _ _, _, _, rfl, rfl, _, rfl, _, rfl, p, C, dx, _, _, rfl, R.ob, T.cl, T.nP, fR_p _ _ _ _, _, _, rfl, rfl, _, rfl, x, rfl, sl, rfl, _, rfl, ?_⟩
        rw [cut_two (k := 47) (by decide +kernel) (by omega)]
        by_cases c2 : x.cps.toList[s.n + 1]? = some 47
        · rw [decide_eq_true c2]
          refine iteF ⟨?_, rfl, fun z => z.2 c2⟩
          unfold sgn
          rw [if_pos c1]
          rfl
        · rw [decide_eq_false c2]
          rw [if_pos ⟨c1, c2⟩] at k
          exact iteT ⟨_, rfl, p, C, dx, _, _, rfl, R.ob, T.cl, T.nP, fR_p _ _ _ _, _, _, rfl, rfl, by show 1 ≤ 1000; decide, rz_made (RzK.at (i := s.n + 1) k R Kp.refl)⟩
      · rw [decide_eq_false c1]
        refine iteF ⟨?_, rfl, fun z => c1 z.1⟩
        unfold sgn
        rw [if_neg c1]
        rfl
    intro σ1 H1 hm
    obtain ⟨rfl, rfl, c0⟩ := hm
    rw [if_neg c0] at k
    refine ⟨_, rfl, sgn c, rfl, rfl, _, rfl, ?_⟩
    by_cases c1 : c = 43 ∨ c = 45 ∨ c = 42 ∨ c = 47
    · obtain ⟨lv, k1, k2, k3, k4, k5⟩ := lk_sgn c1
      rw [k1] at k ⊢
      have k : Done C PE H1 Q E p dx lc lw x (.ok ⟨s.n + (sgn c).length, (finL lv s.cs s.ws).1, sgn c :: (finL lv s.cs s.ws).2⟩ .opd) := k
      refine iteT ⟨_, rfl, p, dx, _, rfl, R.ob, nof (by decide +kernel) (by decide +kernel) (by decide +kernel) (by decide +kernel) _, _, rfl, sgn c, lv, rfl, rfl, k1, p, dx, lc, lw, x, s, lv, rfl, R, hsz, fun H2 R2 kp2 => ?_⟩
      have hz := finL_len lv s.ws s.cs
      have R2 : RdS C H2 p dx lc lw x ⟨s.n, (finL lv s.cs s.ws).1, (finL lv s.cs s.ws).2⟩ := R2
      refine ⟨_, rfl, p, C, dx, _, _, rfl, R2.ob, T.cl, T.nW, fR_w _ _ _ _, .inl ⟨rfl, _, SqL.of R2.wt⟩, _, rfl, lw, _, _, rfl, rfl, R2.wt, ?_, ?_⟩
      · rw [wait_len]
        refine Nat.lt_of_le_of_lt (m := 1000) ?_ (by decide)
        dsimp only
        omega
      · rw [show waitV (finL lv s.cs s.ws).2 ++ [V.str (sgn c)] = waitV (sgn c :: (finL lv s.cs s.ws).2) from (wait_cons _ _).symm]
        have R4 := R2.setw (sgn c :: (finL lv s.cs s.ws).2)
        have l2 : (sgn c).length ≤ sizeLine := by
          rw [k5]
          split <;> decide
        refine ⟨_, rfl, p, C, dx, _, _, rfl, R4.ob, T.cl, T.nP, fR_p _ _ _ _, _, rfl, _, _, rfl, ⟨l2, rfl⟩, _, _, rfl, rfl, dx, _, R4.ob, by show 4 < 1000; decide, ?_⟩
        exact k _ (R4.place (s.n + (sgn c).length)) (kp2.trans (kp_w.trans kp_p))
    · have n47 : ¬ c = 47 := fun z => c1 (.inr (.inr (.inr z)))
      rw [lk_none (by omega) (by omega) (by omega) (by omega)] at k ⊢
      have k : Done C PE H1 Q E p dx lc lw x (if c = 44 then rComma (finS 1 s) else if c = 41 then rEnd (finS 1 s) else .err s.n) := k
      refine iteF ⟨_, rfl, p, dx, _, rfl, R.ob, nof (by decide +kernel) (by decide +kernel) (by decide +kernel) (by decide +kernel) _, p, dx, lc, lw, x, s, 1, rfl, R, hsz, fun H2 R2 kp2 => ?_⟩
      have hz : (finS 1 s).cs.length + (finS 1 s).ws.length ≤ 1000 := by
        rw [show (finS 1 s).cs.length + (finS 1 s).ws.length = s.cs.length + s.ws.length from finL_len 1 s.ws s.cs]
        exact hsz
      have hk2 := (finL_br (lv := 1) (by decide) s.ws s.cs hok).2
      have k2 := Done.on k R2 kp2
      refine ⟨_, rfl, rfl, _, rfl, ?_⟩
      rw [sgn_is (k := 44) (by decide +kernel) n47]
      by_cases c2 : c = 44
      · rw [decide_eq_true c2]
        rw [if_pos c2] at k2
        exact iteT ⟨_, rfl, p, dx, _, rfl, R2.ob, nof (by decide +kernel) (by decide +kernel) (by decide +kernel) (by decide +kernel) _, p, dx, lc, lw, x, finS 1 s, c, rfl, R2, hx, hc, hz, hk2, k2⟩
      · rw [decide_eq_false c2]
        rw [if_neg c2] at k2
        refine iteF ⟨_, rfl, rfl, _, rfl, ?_⟩
        rw [sgn_is (k := 41) (by decide +kernel) n47]
        by_cases c3 : c = 41
        · rw [decide_eq_true c3]
          rw [if_pos c3] at k2
          exact iteT ⟨_, rfl, p, dx, _, rfl, R2.ob, nof (by decide +kernel) (by decide +kernel) (by decide +kernel) (by decide +kernel) _, p, dx, lc, lw, x, finS 1 s, c, rfl, R2, hx, hc, hz, hk2, k2⟩
        · rw [decide_eq_false c3]
          rw [if_neg c3] at k2
          exact iteF ⟨_, rfl, p, C, dx, _, _, rfl, R2.ob, T.cl, T.nP, fR_p _ _ _ _, by show 1 ≤ 1000; decide, rz_made (RzK.at (i := s.n) k2 R2 Kp.refl)⟩
end
/-! ### one step goes on -/
theorem step_keep {wd wd' : Wn} {x : Str} {c : Nat} {s s' : RS} (e : rStep wd x c s = .ok s' wd') (hc : x.cps.toList[s.n]? = some c) (ok : ∀ u ∈ s.ws, OkW u) :
    s.n + 1 ≤ s'.n ∧ s'.n ≤ x.length ∧ s'.cs.length + s'.ws.length ≤ s.cs.length + s.ws.length + 1 ∧ ∀ u ∈ s'.ws, OkW u := by
  have len1 : x.cps.toList.length = x.length := by simp [Str.length]
  have lt := (List.getElem?_eq_some_iff.mp hc).1
  have hd0 : (x.cps.toList.drop s.n)[0]? = some c := by rw [List.getElem?_drop]; exact hc
  have okc : ∀ {u : Str} {l : List Str}, OkW u → (∀ w ∈ l, OkW w) → ∀ w ∈ u :: l, OkW w := by
    intro u l h1 h2 w hw
    rcases List.mem_cons.mp hw with rfl | hw
    · exact h1
    · exact h2 w hw
  cases wd with
  | brk =>
    have e : rBr x s = .ok s' wd' := e
    unfold rBr at e
    split at e
    · injection e with e1 e2
      rw [← e1]
      exact ⟨Nat.le_refl _, by dsimp only; omega, Nat.le_succ _, ok⟩
    · cases e
  | opd =>
    have e : rOpd x c s = .ok s' wd' := e
    unfold rOpd at e
    split at e
    · injection e with e1 e2
      rw [← e1]
      refine ⟨Nat.le_refl _, by dsimp only; omega, by dsimp only; rw [List.length_cons]; omega, okc ?_ ok⟩
      split
      · exact ok_neg
      · exact ok_one
    · split at e
      · rename_i hf
        injection e with e1 e2
        rw [← e1]
        have a1 : 1 ≤ runLen (x.cps.toList.drop s.n) fig.cps.toList 31 := run_pos (k := 30) hd0 hf
        have a2 := runLen_le (x.cps.toList.drop s.n) fig.cps.toList 31
        rw [List.length_drop] at a2
        have hle : opdD x s.n c ≤ x.length ∧ s.n + 1 ≤ opdD x s.n c := by
          unfold opdD
          split <;> omega
        refine ⟨hle.2, hle.1, ?_, ok⟩
        dsimp only
        rw [List.length_append, List.length_singleton]
        omega
      · split at e
        · rename_i hl
          have a1 : 1 ≤ runLen (x.cps.toList.drop s.n) lets.cps.toList 8 := run_pos (k := 7) hd0 hl
          have a2 := runLen_le (x.cps.toList.drop s.n) lets.cps.toList 8
          rw [List.length_drop] at a2
          have hle : opdW x s.n ≤ x.length ∧ s.n + 1 ≤ opdW x s.n := by
            unfold opdW
            omega
          unfold rWord at e
          split at e
          · rename_i hm
            injection e with e1 e2
            rw [← e1]
            refine ⟨hle.2, hle.1, by dsimp only; rw [List.length_cons]; omega, okc ?_ ok⟩
            rcases hm with hm | hm <;> rw [hm]
            · exact ok_min
            · exact ok_max
          · split at e
            · cases e
            · injection e with e1 e2
              rw [← e1]
              refine ⟨hle.2, hle.1, ?_, ok⟩
              dsimp only
              rw [List.length_append, List.length_singleton]
              omega
        · cases e
  | opr =>
    have e : rOp x c s = .ok s' wd' := e
    unfold rOp at e
    split at e
    · cases e
    · rename_i c0
      by_cases c1 : c = 43 ∨ c = 45 ∨ c = 42 ∨ c = 47
      · obtain ⟨lv, k1, k2, k3, k4, k5⟩ := lk_sgn c1
        rw [k1] at e
        dsimp only at e
        injection e with e1 e2
        rw [← e1]
        have hz := finL_len lv s.ws s.cs
        have hl : s.n + (sgn c).length ≤ x.length ∧ 1 ≤ (sgn c).length := by
          rw [k5]
          by_cases c2 : c = 47
          · have c3 : x.cps.toList[s.n + 1]? = some 47 := Classical.byContradiction fun z => c0 ⟨c2, z⟩
            have l3 := (List.getElem?_eq_some_iff.mp c3).1
            rw [if_pos c2]
            omega
          · rw [if_neg c2]
            omega
        exact ⟨by dsimp only; omega, hl.1, by dsimp only; rw [List.length_cons]; omega, okc k3 (finL_br k2 s.ws s.cs ok).2⟩
      · rw [lk_none (by omega) (by omega) (by omega) (by omega)] at e
        dsimp only at e
        have hz := finL_len 1 s.ws s.cs
        have hk := (finL_br (lv := 1) (by decide) s.ws s.cs ok).2
        have hz : (finS 1 s).cs.length + (finS 1 s).ws.length = s.cs.length + s.ws.length := hz
        have hk : ∀ u ∈ (finS 1 s).ws, OkW u := hk
        have hn : (finS 1 s).n = s.n := rfl
        generalize finS 1 s = t at e hz hk hn
        obtain ⟨tn, tc, tw⟩ := t
        dsimp only at hz hk hn
        split at e
        · unfold rComma at e
          cases tw with
          | nil => cases e
          | cons w r =>
            dsimp only at e
            split at e
            · rename_i hm
              injection e with e1 e2
              rw [← e1]
              refine ⟨by dsimp only; omega, by dsimp only; omega, ?_, okc (br_comma hm).2 fun u hu => hk u (List.mem_cons_of_mem _ hu)⟩
              dsimp only
              rw [List.length_cons] at hz ⊢
              omega
            · cases e
        · split at e
          · unfold rEnd at e
            cases tw with
            | nil => cases e
            | cons w r =>
              dsimp only at e
              split at e
              · cases e
              · injection e with e1 e2
                rw [← e1]
                refine ⟨by dsimp only; omega, by dsimp only; omega, ?_, fun u hu => hk u (List.mem_cons_of_mem _ hu)⟩
                rw [List.length_cons] at hz
                dsimp only
                split
                · omega
                · rw [List.length_append, List.length_singleton]
                  omega
          · cases e
end Toy
end

section
set_option Elab.async false
set_option linter.all false
set_option maxRecDepth 100000
namespace Toy
open PySem L2 Gd Kt
/-! ### the whole walk -/
def FinO (PE : Addr) (H : Hp) (Q : VK) (E : XK) (p lc lw : Addr) : Out → Prop
  | .code cs => ∀ H', CodeAt H' lc cs → Kp p lc lw H H' → Q (.ref lc) H'
  | .bad i => RzK H E PE p lc lw i
def outOf (x : Str) : Out := rLoop x (x.length + 1) .opd ⟨skip x 0, [], []⟩
def spRead (C PE : Addr) : Sp := fun vs H Q E => ∃ p dx lc lw x, vs = [.ref p] ∧ RdS C H p dx lc lw x ⟨0, [], []⟩ ∧ x.length ≤ 100 ∧ FinO PE H Q E p lc lw (outOf x)
theorem wn_t (a b : Wn) : decide (V.str a.t = V.str b.t) = decide (a = b) := by
  rw [str_dec2]
  cases a <;> cases b <;> decide +kernel
def Wd3 (C PE : Addr) (p dx lc lw : Addr) (x : Str) (H : Hp) (tot : Out) (m : Nat) : L2.St → Hp → Prop := fun σ H' => ∃ (wn : Wn) (s : RS), σ = [some (.ref p), some (.str wn.t)] ∧ RdS C H' p dx lc lw x s ∧ Kp p lc lw H H' ∧ tot = rLoop x m wn s ∧
  s.n ≤ x.length ∧ x.length + 1 ≤ m + s.n ∧ s.cs.length + s.ws.length ≤ s.n ∧ (∀ u ∈ s.ws, OkW u)
section
variable {P : Program} {w : World} {K : PySem.W.Frag} {mg : Str → Option Value} {base : Heap} {C PE : Addr} {f : Addr} {fd : FuncData}
theorem scRead : FnScope ["self", "wanted"] ["self"] (defScope sRRead) := ⟨rfl, rfl, rfl, by decide +kernel, rfl, by decide +kernel, by decide +kernel⟩
theorem ok_read {fS fF fO fB fP : Addr} {fdS fdF fdO fdB fdP : FuncData} (F : Fun K "read" "Reader.read" sRRead f fd) (T : RdT K C) (TX : TxtR K w mg) (EP : ErrsT P w K mg base "ParseError" PE)
    (MS : Meth K C "skip_spaces" fS) (BS : Binds K fdS ["self"] []) (GS : FnOk P w K mg base CX0 1 fS fdS ["self"] (spSkip C))
    (MF : Meth K C "finish" fF) (BF : Binds K fdF ["self", "level"] []) (GF : FnOk P w K mg base CX0 1 fF fdF ["self", "level"] (spFin C))
    (MO : Meth K C "read_operand" fO) (BO : Binds K fdO ["self"] []) (GO : FnOk P w K mg base (L2.CX P w) 4 fO fdO ["self"] (spC C PE rOpd))
    (MB : Meth K C "read_bracket" fB) (BB : Binds K fdB ["self"] []) (GB : FnOk P w K mg base (L2.CX P w) 3 fB fdB ["self"] (spC C PE fun x _ s => rBr x s))
    (MP : Meth K C "read_operator" fP) (BP : Binds K fdP ["self"] []) (GP : FnOk P w K mg base (L2.CX P w) 4 fP fdP ["self"] (spC C PE rOp)) : FnOk P w K mg base (L2.CX P w) 5 f fd ["self"] (spRead C PE) := by
  obtain ⟨fE, fdE, TE, GE⟩ := EP.ex
  obtain ⟨tO, mO⟩ := TX.opd
  obtain ⟨tQ, mQ⟩ := TX.opr
  obtain ⟨tB, mB⟩ := TX.brk
  obtain ⟨tS, mS⟩ := TX.lo
  refine F.okX scRead (fun vs H Q E h => ?_) (fun cdv A outer s0 H vs Q E hr h => ?_)
  · obtain ⟨p, dx, lc, lw, x, rfl, _⟩ := h
    rfl
  · obtain ⟨p, dx, lc, lw, x, rfl, R, hx, k⟩ := h
    have hr1 : Room 1 _ := hr.mono (by decide)
    have hr2 : Room (1 + 1) _ := hr.mono (by decide)
    have hr3 : Room 3 _ := hr.mono (by decide)
    refine ⟨_, pss_cons (ps_set (i := 1) scRead.nd rfl (Or.inl rfl) (pe_glob (v := .str "operand") (by rfl) mO ⟨_, rfl⟩))
      (pss_cons (ps_expr (pe_meth0 (pv 0) T.cl MS GS hr1 BS .nil pass0))
      (C8.pss_cut (ps_while (passes_of rfl) (pt_cmpR op_lt (pe_fld (pv 0) rfl) (pe_callB call_len (by rfl) TX.len PySem.boot_len (pa_cons (pe_fld (pv 0) rfl) pa_nil)) (nomark _))
          (C8.pss_cut (ps_if (pt_cmpR op_eq (pv 1) (pe_glob (v := .str "operand") (by rfl) mO ⟨_, rfl⟩) (nomark _))
              (pss_one (ps_set (i := 1) scRead.nd rfl (Or.inl rfl) (pe_meth0 (pv 0) T.cl MO GO hr BO .nil (passes_call (E := E) (W := fun cls d _ H => E cls d H) (takes_of rfl rfl rfl rfl) (fun _ _ _ _ h => h)))))
              (pss_one (ps_if (pt_cmpR op_eq (pv 1) (pe_glob (v := .str "bracket") (by rfl) mB ⟨_, rfl⟩) (nomark _))
                (pss_one (ps_set (i := 1) scRead.nd rfl (Or.inl rfl) (pe_meth0 (pv 0) T.cl MB GB hr3 BB .nil (passes_call (E := E) (W := fun cls d _ H => E cls d H) (takes_of rfl rfl rfl rfl) (fun _ _ _ _ h => h)))))
                (pss_one (ps_set (i := 1) scRead.nd rfl (Or.inl rfl) (pe_meth0 (pv 0) T.cl MP GP hr BP .nil (passes_call (E := E) (W := fun cls d _ H => E cls d H) (takes_of rfl rfl rfl rfl) (fun _ _ _ _ h => h))))))))
            (pss_one (ps_expr (pe_meth0 (pv 0) T.cl MS GS hr1 BS .nil pass0)))))
      (pss_cons (ps_expr (pe_meth (pv 0) T.cl MF GF hr1 BF .nil pass0 (pa_cons (pe_glob (v := .int 1) (by rfl) mS ⟨_, rfl⟩) pa_nil)))
      (pss_cons (ps_if (PW.pt (pw_or (pt_cmpR op_ne (pv 1) (pe_glob (v := .str "operator") (by rfl) mQ ⟨_, rfl⟩) (nomark _)) (pw_or1 (pt_truth (pe_fld (pv 0) rfl) (fun _ => rfl)))))
          (pss_one (ps_raise rfl (takes_of rfl rfl rfl rfl) (pmk_oex TE.ox TE.iC TE.tI GE hr2 TE.b .nil pass0 (by rfl) TE.m (pa_cons (pe_callB call_len (by rfl) TX.len PySem.boot_len (pa_cons (pe_fld (pv 0) rfl) pa_nil)) pa_nil)))) pss_nil)
      (pss_one (ps_ret (pe_fld (pv 0) rfl))))))), ?_⟩
    have len1 : x.cps.toList.length = x.length := by simp [Str.length]
    have sl : x.length ≤ sizeLine := Nat.le_trans hx (by decide)
    have nof : ∀ {m : Str}, ¬ m = gT → ¬ m = gP → ¬ m = gC → ¬ m = gW → ∀ n, (fR x n lc lw).lookup m = none := fun h1 h2 h3 h4 n => fR_no h1 h2 h3 h4 _ _ _ _
    have sk0 := skip_le (x := x) (a := 0) (Nat.zero_le _)
    refine ⟨_, rfl, p, dx, _, rfl, R.ob, nof (by decide +kernel) (by decide +kernel) (by decide +kernel) (by decide +kernel) _, p, dx, lc, lw, x, _, rfl, R, hx, Nat.zero_le _, fun H0 R0 kp0 => ?_⟩
    refine ⟨fun σ' H' => ∃ (wn : Wn) (s : RS), σ' = [some (.ref p), some (.str wn.t)] ∧ RdS C H' p dx lc lw x s ∧ Kp p lc lw H H' ∧ s.cs.length + s.ws.length ≤ 1000 ∧
      outOf x = (if wn = .opr ∧ (finL 1 s.cs s.ws).2 = [] then .code (finL 1 s.cs s.ws).1 else .bad x.length), ?_, ?_⟩
    · refine ⟨Wd3 C PE p dx lc lw x H (outOf x), ⟨x.length + 1, .opd, ⟨skip x 0, [], []⟩, rfl, R0, kp0, rfl, sk0.2, by omega, by dsimp only; simp, fun u hu => by cases hu⟩, ?_⟩
      intro m σ H1 hW
      obtain ⟨wn, s, rfl, R1, kp1, heq, hn, hm, hz, hok⟩ := hW
      refine ⟨_, rfl, p, C, dx, _, _, rfl, R1.ob, T.cl, T.nP, fR_p _ _ _ _, _, rfl, p, C, dx, _, _, rfl, R1.ob, T.cl, T.nT, fR_t _ _ _ _, _, _, rfl, ⟨sl, rfl⟩, _, _, rfl, rfl, _, rfl, ?_⟩
      obtain ⟨m, rfl⟩ : ∃ j, m = j + 1 := ⟨m - 1, by omega⟩
      rw [show rLoop x (m + 1) wn s = (match x.cps.toList[s.n]? with
        | none => if wn = .opr ∧ (finL 1 s.cs s.ws).2 = [] then .code (finL 1 s.cs s.ws).1 else .bad x.length
        | some c => match rStep wn x c s with
          | .err i => .bad i
          | .ok s' wd' => rLoop x m wd' ⟨skip x s'.n, s'.cs, s'.ws⟩) from rfl] at heq
      cases hc : x.cps.toList[s.n]? with
      | none =>
        have := List.getElem?_eq_none_iff.mp hc
        rw [hc] at heq
        rw [decide_eq_false (by omega : ¬ ((s.n : Int) < (x.length : Int)))]
        exact iteF ⟨wn, s, rfl, R1, kp1, by omega, heq⟩
      | some c =>
        have lt := (List.getElem?_eq_some_iff.mp hc).1
        rw [hc] at heq
        dsimp only at heq
        rw [decide_eq_true (by omega : ((s.n : Int) < (x.length : Int)))]
        refine iteT ⟨Wd3 C PE p dx lc lw x H (outOf x) m, fun σ2 H2 z => ⟨_, Nat.lt_succ_self _, z⟩, ?_⟩
        have nx : ∀ r, rStep wn x c s = r → Done C PE H1 (fun v H' => ∃ (wn' : Wn) (s' : RS), v = .str wn'.t ∧ RdS C H' p dx lc lw x s' ∧ Kp p lc lw H H' ∧ outOf x = rLoop x m wn' ⟨skip x s'.n, s'.cs, s'.ws⟩ ∧
            s.n + 1 ≤ s'.n ∧ s'.n ≤ x.length ∧ s'.cs.length + s'.ws.length ≤ s.n + 1 ∧ (∀ u ∈ s'.ws, OkW u)) E p dx lc lw x r := by
          intro r er
          rw [er] at heq
          cases r with
          | ok s' wd' =>
            intro H' R' k'
            obtain ⟨g1, g2, g3, g4⟩ := step_keep er hc hok
            exact ⟨wd', s', rfl, R', kp1.trans k', heq, g1, g2, by omega, g4⟩
          | err i =>
            rw [heq] at k
            exact RzK.on k R1 kp1
        refine ⟨fun σ' H' => ∃ (wn' : Wn) (s' : RS), σ' = [some (.ref p), some (.str wn'.t)] ∧ RdS C H' p dx lc lw x s' ∧ Kp p lc lw H H' ∧ outOf x = rLoop x m wn' ⟨skip x s'.n, s'.cs, s'.ws⟩ ∧
            s.n + 1 ≤ s'.n ∧ s'.n ≤ x.length ∧ s'.cs.length + s'.ws.length ≤ s.n + 1 ∧ (∀ u ∈ s'.ws, OkW u), ?_, ?_⟩
        · have fin : ∀ r, rStep wn x c s = r → Done C PE H1 (fun v H' => ∃ (wn' : Wn) (s' : RS), ([some (V.ref p), some (V.str wn.t)] : L2.St).set 1 (some v) = [some (.ref p), some (.str wn'.t)] ∧ RdS C H' p dx lc lw x s' ∧ Kp p lc lw H H' ∧ outOf x = rLoop x m wn' ⟨skip x s'.n, s'.cs, s'.ws⟩ ∧
            s.n + 1 ≤ s'.n ∧ s'.n ≤ x.length ∧ s'.cs.length + s'.ws.length ≤ s.n + 1 ∧ (∀ u ∈ s'.ws, OkW u)) E p dx lc lw x r := by
            intro r er
            have d := nx r er
            cases r with
            | err i => exact d
            | ok s' wd' =>
              intro H' R' k'
              obtain ⟨wn', s2, e1, g⟩ := d H' R' k'
              exact ⟨wn', s2, by rw [e1]; rfl, g⟩
          refine ⟨_, rfl, rfl, _, rfl, ?_⟩
          rw [show decide (V.str wn.t = V.str "operand") = decide (wn = .opd) from wn_t wn .opd]
          by_cases c1 : wn = .opd
          · rw [decide_eq_true c1]
            subst c1
            exact iteT ⟨_, rfl, p, dx, _, rfl, R1.ob, nof (by decide +kernel) (by decide +kernel) (by decide +kernel) (by decide +kernel) _, p, dx, lc, lw, x, s, c, rfl, R1, hx, hc, by omega, hok, fin _ rfl⟩
          · rw [decide_eq_false c1]
            refine iteF ⟨_, rfl, rfl, _, rfl, ?_⟩
            rw [show decide (V.str wn.t = V.str "bracket") = decide (wn = .brk) from wn_t wn .brk]
            by_cases c2 : wn = .brk
            · rw [decide_eq_true c2]
              subst c2
              exact iteT ⟨_, rfl, p, dx, _, rfl, R1.ob, nof (by decide +kernel) (by decide +kernel) (by decide +kernel) (by decide +kernel) _, p, dx, lc, lw, x, s, c, rfl, R1, hx, hc, by omega, hok, fin _ rfl⟩
            · rw [decide_eq_false c2]
              have c3 : wn = .opr := by
                cases wn with
                | opd => exact absurd rfl c1
                | brk => exact absurd rfl c2
                | opr => rfl
              subst c3
              exact iteF ⟨_, rfl, p, dx, _, rfl, R1.ob, nof (by decide +kernel) (by decide +kernel) (by decide +kernel) (by decide +kernel) _, p, dx, lc, lw, x, s, c, rfl, R1, hx, hc, by omega, hok, fin _ rfl⟩
        intro σ3 H3 hm3
        obtain ⟨wn', s', rfl, R3, kp3, e3, g1, g2, g3, g4⟩ := hm3
        have sk := skip_le g2
        refine ⟨_, rfl, p, dx, _, rfl, R3.ob, nof (by decide +kernel) (by decide +kernel) (by decide +kernel) (by decide +kernel) _, p, dx, lc, lw, x, s', rfl, R3, hx, g2, fun H4 R4 kp4 => ?_⟩
        exact ⟨wn', _, rfl, R4, kp3.trans kp4, e3, sk.2, by dsimp only; omega, by dsimp only; omega, g4⟩
    intro σ5 H5 hm5
    obtain ⟨wn, s, rfl, R5, kp5, hz, heq⟩ := hm5
    refine ⟨_, rfl, p, dx, _, rfl, R5.ob, nof (by decide +kernel) (by decide +kernel) (by decide +kernel) (by decide +kernel) _, p, dx, lc, lw, x, s, 1, rfl, R5, hz, fun H6 R6 kp6 => ?_⟩
    have kp7 := kp5.trans kp6
    refine ⟨_, rfl, rfl, _, rfl, ?_⟩
    rw [show decide (V.str wn.t = V.str "operator") = decide (wn = .opr) from wn_t wn .opr]
    have bad : ¬ (wn = .opr ∧ (finL 1 s.cs s.ws).2 = []) → Rz H6 E PE (.int x.length) := by
      intro n
      rw [heq, if_neg n] at k
      exact RzK.at (i := x.length) k R6 kp7
    by_cases c1 : wn = .opr
    · rw [decide_eq_true c1]
      refine iteF ?_
      cases e : (finL 1 s.cs s.ws).2 with
      | nil =>
        have ew : (finS 1 s).ws = [] := e
        rw [heq, if_pos ⟨c1, e⟩] at k
        have wt := R6.wt
        rw [ew] at wt
        exact ⟨_, rfl, p, C, dx, _, _, rfl, R6.ob, T.cl, T.nW, fR_w _ _ _ _, false, .inl ⟨_, SqL.of wt, rfl⟩, iteF ⟨_, rfl, p, C, dx, _, _, rfl, R6.ob, T.cl, T.nC, fR_c _ _ _ _, k H6 R6.cd kp7⟩⟩
      | cons u r =>
        have ew : (finS 1 s).ws = u :: r := e
        have wt := R6.wt
        rw [ew] at wt
        exact ⟨_, rfl, p, C, dx, _, _, rfl, R6.ob, T.cl, T.nW, fR_w _ _ _ _, true, .inl ⟨_, SqL.of wt, (wait_ne u r).symm⟩, iteT ⟨_, rfl, p, C, dx, _, _, rfl, R6.ob, T.cl, T.nT, fR_t _ _ _ _, _, _, rfl, ⟨sl, rfl⟩, by show 1 ≤ 1000; decide, rz_made (bad (fun z => by rw [e] at z; cases z.2))⟩⟩
    · rw [decide_eq_false c1]
      exact iteT (iteT ⟨_, rfl, p, C, dx, _, _, rfl, R6.ob, T.cl, T.nT, fR_t _ _ _ _, _, _, rfl, ⟨sl, rfl⟩, by show 1 ≤ 1000; decide, rz_made (bad (fun z => c1 z.1))⟩)
end
end Toy
end

section
set_option Elab.async false
set_option linter.all false
set_option maxRecDepth 100000
set_option maxHeartbeats 2000000
/-! Sets of texts: the members as a list without doubles; add. -/
namespace Kt
open PySem PySem.Spec PyProof.Rows L2
/-- a member's text -/
def txtOf (v : Value) : Str := match v with
  | .str x _ => x
  | _ => Str.empty
def IsTx (w : World) (e : Int × Value) : Prop := ∃ x u, e = (hashStr w x, Value.str x u)
/-- the texts of the members -/
abbrev txs (es : Array (Int × Value)) : List Str := es.toList.map fun e => txtOf e.2
/-- what the object at a, a set, holds: these texts -/
structure SetBody (w : World) (es : Array (Int × Value)) (t : SetTable) (l : List Str) : Prop where
  good : ∀ e ∈ es.toList, IsTx w e
  perm : (txs es).Perm l
  nd : l.Nodup
  few : es.size < scanBound
  fits : t.fits es.size = true
  ris : Ris t.place.toList
  led : w.params.followText "set-order" = true ∨ t.led = true
structure SetTx (w : World) (h : Heap) (a : Addr) (l : List Str) : Prop where
  ex : ∃ o es ep t, h.get? a = some o ∧ o.ExactSet ∧ o.data = .set es ep t ∧ SetBody w es t l
def addTo (k : Str) (l : List Str) : List Str := if k ∈ l then l else k :: l
section
variable {P : Program} {w : World} {A : Around} {E : Value → Shared → Prop} {s : Shared} {a : Addr} {l : List Str}
theorem SetTx.old {h h' : Heap} (R : SetTx w h a l) (k : ∀ o, h.get? a = some o → h'.get? a = some o) : SetTx w h' a l := by
  obtain ⟨o, es, ep, t, q, r⟩ := R.ex
  exact ⟨o, es, ep, t, k o q, r⟩
theorem SetBody.elems {es : Array (Int × Value)} {t : SetTable} (B : SetBody w es t l) : ElemsOf (strKind P w) es.toList := by
  intro e m
  obtain ⟨x, u, q⟩ := B.good e m
  rw [q]
  exact ⟨⟨x, strKind_is P w x u, rfl⟩, rfl⟩
theorem is_tx {e : Int × Value} (g : IsTx w e) (k : Str) : (strKind P w).is k e.2 = true ↔ txtOf e.2 = k := by
  obtain ⟨x, u, q⟩ := g
  rw [q]
  show (x == k) = true ↔ x = k
  exact beq_iff_eq
theorem SetBody.has {es : Array (Int × Value)} {t : SetTable} (B : SetBody w es t l) (k : Str) : k ∈ l ↔ ∃ e ∈ es.toList, (strKind P w).is k e.2 = true := by
  rw [← B.perm.mem_iff]
  refine List.mem_map.trans ⟨?_, ?_⟩
  · rintro ⟨e, m, q⟩
    exact ⟨e, m, (is_tx (B.good e m) k).mpr q⟩
  · rintro ⟨e, m, q⟩
    exact ⟨e, m, (is_tx (B.good e m) k).mp q⟩
theorem SetBody.len {es : Array (Int × Value)} {t : SetTable} (B : SetBody w es t l) : es.size = l.length := by
  rw [← B.perm.length_eq, List.length_map, Array.length_toList]
/-- behind a store -/
theorem laidSet {h : Heap} {o : Obj} {es es' : Array (Int × Value)} {ep : Nat} {t t' : SetTable} (g : h.get? a = some o) (x : o.ExactSet) (d : o.data = .set es ep t) (B : SetBody w es' t' l) : SetTx w (h.update a (Obj.putSet es' t')) a l :=
  ⟨_, _, _, _, store_at g d, x, rfl, B⟩
/-- the end of an add: the entries are stored, and laid anew where the table is too full -/
theorem add_end {g : Bool → Sem Unit} (silent : ∀ (b : Bool) (s1 : Shared) (R : Unit → Shared → Prop), R () s1 → wpAny (model P w) A (g b) R E s1) {o : Obj} {es fs : Array (Int × Value)} {ep : Nat} {t u : SetTable}
    (ho : s.heap.get? a = some o) (hx : o.ExactSet) (hd : o.data = .set es ep t) (B : SetBody w fs u l) {dm : Bool} {R : Option Bool → Shared → Prop} (hR : ∀ h2, Heap.SameBut a s.heap h2 → SetTx w h2 a l → R (some true) { s with heap := h2 }) :
    wpAny (model P w) A (do
        storeSet a fs u
        if (!dm && u.tooFull) = true then do
            g (relayAll u fs (SetTable.grown fs.size)).2.2
            storeSet a (relayAll u fs (SetTable.grown fs.size)).1 (relayAll u fs (SetTable.grown fs.size)).2.1
            pure (some true)
          else pure (some true)) R E s := by
  have room := fits_of_scanBound B.few
  have first := Heap.SameBut.update s.heap a (Obj.putSet fs u)
  refine wpAny_bind (wpAny_storeSet_of ho hd ?_ room)
  by_cases full : (!dm && u.tooFull) = true
  · rw [if_pos full]
    have q1 := relayAll_perm u fs (SetTable.grown fs.size)
    have q2 := relayAll_fits u fs (SetTable.grown fs.size)
    have q3 := relayAll_ris u fs (SetTable.grown fs.size)
    have q4 := relayAll_led u fs (SetTable.grown fs.size)
    generalize relayAll u fs (SetTable.grown fs.size) = Y at q1 q2 q3 q4 ⊢
    obtain ⟨gs, v, gave⟩ := Y
    have n1 : gs.size = fs.size := by
      have := q1.length_eq
      rwa [Array.length_toList, Array.length_toList] at this
    have B2 : SetBody w gs v l := ⟨fun e m => B.good e (q1.mem_iff.mp m), (q1.map _).trans B.perm, B.nd, by rw [n1]; exact B.few, q2, q3, B.led.imp id fun z => q4.trans z⟩
    refine wpAny_bind (silent _ _ _ (wpAny_bind (wpAny_storeSet_of (store_at ho hd) rfl ?_ (by rw [n1]; exact room))))
    exact wpAny_pure (hR _ (first.trans (Heap.SameBut.update _ a _)) (laidSet (store_at ho hd) hx rfl B2))
  · rw [if_neg full]
    exact wpAny_pure (hR _ first (laidSet ho hx hd B))
/-- a text put into a set -/
theorem add_tx {k : Str} {u : Tok} {Q : Bool → Shared → Prop} (R : SetTx w s.heap a l) (room : l.length + 1 < scanBound) (hQ : ∀ b h2, Heap.SameBut a s.heap h2 → SetTx w h2 a (addTo k l) → Q b { s with heap := h2 }) :
    wpAny (model P w) A (setAddHashed a (.str k u) (hashStr w k)) Q E s := by
  obtain ⟨o, es, ep, t, ho, hx, hd, B⟩ := R.ex
  have here : (strKind P w).is k (.str k u) = true := strKind_is P w k u
  have sc : Value.scannable (.str k u) = true := rfl
  have el : ElemsOf (strKind P w) es.toList := B.elems
  unfold setAddHashed setAddHashedIn
  refine wpAny_holding (wpAny_bind (wpAny_setState_of ho hd B.fits ?_))
  dsimp only
  rw [byScan_of sc B.few el, if_pos rfl]
  unfold setAddByScan
  refine wpAny_bind (wpAny_bind (wpAny_rule (wpAny_bind (wpAny_setScan_of (knd := strKind P w) here ho hd B.fits el ?_))))
  cases hf : List.findIdx? (fun e => (strKind P w).is k e.2) es.toList with
  | some j =>
    dsimp only
    obtain ⟨lt, yes, _⟩ := List.findIdx?_eq_some_iff_getElem.mp hf
    have inn : k ∈ l := (B.has (P := P) k).mpr ⟨_, List.getElem_mem lt, yes⟩
    refine wpAny_pure (wpAny_pure (hQ _ s.heap (.refl a s.heap) ?_))
    unfold addTo
    rw [if_pos inn]
    exact R
  | none =>
    dsimp only
    have out : k ∉ l := fun z => by
      obtain ⟨e, m, q⟩ := (B.has (P := P) k).mp z
      have := List.findIdx?_eq_none_iff.mp hf e m
      rw [q] at this
      cases this
    have mute : ∀ (b : Bool) (s1 : Shared) (R : Unit → Shared → Prop), R () s1 → wpAny (model P w) A (match b with
        | true => rule "set.scan.the-table-gave-way"
        | false => pure ()) R E s1 := by
      intro b s1 R q
      cases b with
      | true => exact wpAny_rule q
      | false => exact wpAny_pure q
    have q1 := layNew_perm t es (hashStr w k) (.str k u)
    have q2 := layNew_fits t es (hashStr w k) (.str k u)
    have q3 := layNew_ris t es (hashStr w k) (.str k u) B.ris
    have q4 := layNew_led t es (hashStr w k) (.str k u)
    generalize layNew t es (hashStr w k) (.str k u) = Y at q1 q2 q3 q4 ⊢
    obtain ⟨fs, v, dm, gave⟩ := Y
    dsimp only at q1 q2 q3 q4 ⊢
    rw [Array.toList_push] at q1
    have q5 : fs.toList.Perm ((hashStr w k, Value.str k u) :: es.toList) := q1.trans (List.perm_append_singleton _ _)
    have n1 : fs.size = l.length + 1 := by
      rw [← B.len, ← Array.length_toList, q5.length_eq, List.length_cons, Array.length_toList]
    have body : ∀ v2 : SetTable, v2.fits fs.size = true → Ris v2.place.toList → v2.led = v.led → SetBody w fs v2 (addTo k l) := by
      intro v2 f2 r2 l2
      refine ⟨fun e m => ?_, ?_, ?_, by rw [n1]; exact room, f2, r2, B.led.imp id fun z => l2.trans (q4.trans z)⟩
      · rcases List.mem_cons.mp (q5.mem_iff.mp m) with z | z
        · exact ⟨k, u, z⟩
        · exact B.good e z
      · unfold addTo
        rw [if_neg out]
        exact (q5.map _).trans (List.Perm.cons k B.perm)
      · unfold addTo
        rw [if_neg out]
        exact List.nodup_cons.mpr ⟨out, B.nd⟩
    refine wpAny_bind (mute _ _ _ ?_)
    split
    · refine wpAny_bind ?_
      rw [hashByValue_scannable 8 sc]
      refine wpAny_pure ?_
      refine add_end ?_ ho hx hd (l := addTo k l) (body _ ?_ ?_ ?_) ?_
      · exact mute
      · first | exact q2 | (split <;> first | exact q2 | exact SetTable.fits_plain_off q2)
      · first | exact q3 | (split <;> exact q3)
      · first | rfl | (split <;> rfl)
      · intro h2 sb r
        exact wpAny_pure (hQ _ h2 sb r)
    · refine wpAny_bind (wpAny_pure ?_)
      simp only [↓reduceIte]
      refine add_end ?_ ho hx hd (body v q2 q3 rfl) ?_
      · exact mute
      intro h2 sb r
      exact wpAny_pure (hQ _ h2 sb r)
end
end Kt
end

section
set_option Elab.async false
set_option linter.all false
set_option maxRecDepth 100000
set_option maxHeartbeats 4000000
/-! Sets of texts: set(xs), sorted(set(xs)). -/
namespace Kt
open PySem PySem.Spec PyProof.Rows L2
def gather (xs : List Str) : List Str := xs.foldl (fun l k => addTo k l) []
theorem gather_snoc (xs : List Str) (k : Str) : gather (xs ++ [k]) = addTo k (gather xs) := by
  unfold gather
  rw [List.foldl_append]
  rfl
theorem addTo_mem {k x : Str} {l : List Str} : x ∈ addTo k l ↔ x = k ∨ x ∈ l := by
  unfold addTo
  split
  · rename_i h
    exact ⟨.inr, fun z => z.elim (fun e => e ▸ h) id⟩
  · exact List.mem_cons
theorem fold_mem {x : Str} : ∀ (xs l : List Str), x ∈ xs.foldl (fun l k => addTo k l) l ↔ x ∈ xs ∨ x ∈ l
  | [], l => by simp
  | k :: xs, l => by
    rw [List.foldl_cons, fold_mem xs (addTo k l), addTo_mem, List.mem_cons]
    constructor
    · rintro (h | h | h)
      · exact .inl (.inr h)
      · exact .inl (.inl h)
      · exact .inr h
    · rintro ((h | h) | h)
      · exact .inr (.inl h)
      · exact .inl h
      · exact .inr (.inr h)
theorem gather_mem {x : Str} (xs : List Str) : x ∈ gather xs ↔ x ∈ xs := by
  have := fold_mem (x := x) xs []
  simpa [gather] using this
theorem fold_len : ∀ (xs l : List Str), (xs.foldl (fun l k => addTo k l) l).length ≤ xs.length + l.length
  | [], l => by simp
  | k :: xs, l => by
    rw [List.foldl_cons]
    have h := fold_len xs (addTo k l)
    have h2 : (addTo k l).length ≤ l.length + 1 := by
      unfold addTo
      split <;> simp
    simp only [List.length_cons]
    omega
theorem gather_len (xs : List Str) : (gather xs).length ≤ xs.length := by
  have := fold_len xs []
  simpa [gather] using this
abbrev emptySet (w : World) : Obj := { cls := .type "set", dict := none, data := .set #[] 0 (.fresh 0 0 (!w.params.followText "set-order")) }
section
variable {P : Program} {w : World} {A : Around} {E : Value → Shared → Prop} {s : Shared}
theorem empty_tx {h : Heap} {a : Addr} (g : h.get? a = some (emptySet w)) : SetTx w h a (gather []) := by
  refine ⟨_, #[], 0, _, g, ⟨rfl, rfl, rfl⟩, rfl, ⟨fun e m => ?_, .nil, List.nodup_nil, (by decide), rfl, List.Pairwise.nil, ?_⟩⟩
  · cases List.not_mem_nil (show e ∈ [] from m)
  · cases hb : w.params.followText "set-order" with
    | true => exact .inl rfl
    | false => exact .inr rfl
/-- all that is walked is put into the set -/
theorem fill_tx {I : Addr} {fp wr : List Addr} {G : Array GenState → Array GenState → Prop} {n : Nat} {Pv : Nat → Value → Prop} {St : Nat → Shared → Prop} {R : Result → Shared → Prop} (W : WalksS P w A.in1 I fp wr G n Pv St)
    (p : Addr) (apart : p ∉ fp) (xs : List Str) (len : n = xs.length) (room : xs.length + 1 < scanBound) (tell : ∀ i v, Pv i v → ∃ k u, xs[i]? = some k ∧ v = .str k u) :
    ∀ (left i : Nat) (s : Shared), i + left = n → St i s → SetTx w s.heap p (gather (xs.take i)) → (∀ s2, Moved (p :: wr) G s s2 → SetTx w s2.heap p (gather xs) → R (.ok (.ret .none)) s2) →
      codeAny (model P w) A (.builtin "set.update.loop" ⟨[.ref p, .ref I], []⟩) R s
  | 0, i, s, hi, st, B, k => by
    have pw : p ∉ wr := fun z => apart (W.sub _ z)
    have all : xs.take i = xs := List.take_of_length_le (by omega)
    rw [all] at B
    refine codeAny_builtin F.entry_set_update_loop ?_
    rw [Around.under_plainId F.plain_set_update_loop _]
    have hn : i = n := by omega
    rw [hn] at st
    refine wpAny_bind (W.done s _ _ st fun s2 m => ?_)
    exact wpAny_pure (k s2 (m.mono fun b hb => List.mem_cons_of_mem _ hb) (B.old fun o e => m.heap p o pw e))
  | left + 1, i, s, hi, st, B, k => by
    have pw : p ∉ wr := fun z => apart (W.sub _ z)
    refine codeAny_builtin F.entry_set_update_loop ?_
    rw [Around.under_plainId F.plain_set_update_loop _]
    refine wpAny_bind (W.item i s _ _ (by omega) st fun v s2 pv st2 m => ?_)
    obtain ⟨x, u, hx, rfl⟩ := tell i v pv
    have B2 := B.old fun o e => m.heap p o pw e
    show wpAny _ A.in1 (holding [Value.str x u] (setAdd p (.str x u)) >>= _) _ _ s2
    refine wpAny_bind (wpAny_holding ?_)
    unfold setAdd
    refine wpAny_holding (wpAny_bind ((strKind P w).pyHash (strKind_is P w x u) ?_))
    have few : (gather (xs.take i)).length + 1 < scanBound := by
      have h1 := gather_len (xs.take i)
      rw [List.length_take] at h1
      omega
    refine add_tx (s := { s2 with toks := s2.toks + 1 }) B2 few fun b h2 sb B3 => ?_
    have B4 : SetTx w h2 p (gather (xs.take (i + 1))) := by
      rw [List.take_add_one, hx]
      show SetTx w h2 p (gather (xs.take i ++ [x]))
      rw [gather_snoc]
      exact B3
    refine wpAny_pure ⟨plainId_quiet F.plain_set_update_loop _, fill_tx W p apart xs len room tell left (i + 1) _ (by omega) (W.frame _ s2 _ _ st2 (Nat.le_succ _) fun c hc o e => ?_) B4 fun s3 m3 B5 => ?_⟩
    · rw [sb.2 c fun z => apart (z ▸ hc)]
      exact e
    · refine k s3 (Moved.trans W.gtrans ((m.mono fun b hb => List.mem_cons_of_mem _ hb).then_heap (Nat.le_succ _) fun c o hc e => ?_) m3) B5
      rw [sb.2 c fun z => hc (by rw [z]; exact List.mem_cons_self)]
      exact e
/-- set.__new__ with an argument -/
theorem new_tx (a : Value) {Q : Value → Shared → Prop} (h : Q (.ref s.heap.objs.size) { s with heap := s.heap.push (emptySet w) }) : codeAny (model P w) A (.call (.builtin "set.__new__") ⟨[.type "set", a], []⟩) (wants Q E) s := code_set_led1 a h

set_option maxRecDepth 100000 in
theorem set_of_list {l : Addr} {items : Array Value} {xs : List Str} {Q : Value → Shared → Prop} (hh : A.handled = none) (hl : s.heap.IsList l items) (hi : StrsAre items.toList xs) (room : xs.length + 1 < scanBound)
    (k : ∀ (h2 : Heap) (tk : Nat), SetTx w h2 s.heap.objs.size (gather xs) → (∀ b o, s.heap.get? b = some o → h2.get? b = some o) → Q (.ref s.heap.objs.size) { s with heap := h2, toks := tk }) : wpAny (model P w) A (call (.type "set") [.ref l]) Q E s := by
  have hisz : items.size = xs.length := by rw [← StrsAre.len_eq hi, Array.length_toList]
  obtain ⟨c, tl, hmro⟩ := F.called_set.mro
  have hmade := F.called_set.made
  have hsub := F.called_set.sub
  refine wpAny_call (codeAny_of_tree ?_)
  refine wpAny_pure ⟨Code.quiet_builtin _ (by decide +kernel), codeAny_builtin F.entry_type_call ?_⟩
  rw [Around.under_plain (weight_type_call_type "set" [.ref l] []) rfl]
  have h1 := F.called_set.notType
  have h2 := F.called_set.canCreate
  have hct := F.typeCall_set_1 (.ref l)
  repeat (any_goals (first | assumption | wp_step))
  refine codeAny_mono (new_tx (.ref l) (E := E) (Q := fun u s1 => u = .ref s.heap.objs.size ∧ s1 = { s with heap := s.heap.push (emptySet w) }) ⟨rfl, rfl⟩) fun r s1 hr => ?_
  match r, hr with
  | .error e, hr => exact hr
  | .ok .next, hr => exact hr.elim
  | .ok .brk, hr => exact hr.elim
  | .ok .cont, hr => exact hr.elim
  | .ok (.ret u), hr =>
    obtain ⟨rfl, rfl⟩ := hr
    have at0 : (s.heap.push (emptySet w)).get? s.heap.objs.size = some (emptySet w) := Heap.get?_push_size _ rfl
    have ty0 : Shared.TypeIs { s with heap := s.heap.push (emptySet w) } (.ref s.heap.objs.size) "set" := ⟨_, at0, rfl⟩
    have hli := F.called_set.init.lookup
    have hbi := F.called_set.init.bind (.ref s.heap.objs.size)
    repeat (any_goals (first | assumption | wp_step))
    refine codeAny_mono (codeAny_call_builtin (R := wants (fun r s2 => r = .none ∧ ∃ h2 tk, s2 = { s with heap := h2, toks := tk } ∧ SetTx w h2 s.heap.objs.size (gather xs) ∧ (∀ b o, s.heap.get? b = some o → h2.get? b = some o)) E)
      F.called_set.init.plain F.entry_set_init (check_set_init_1 ty0 ?_)) fun r2 s2 hr2 => ?_
    · obtain ⟨⟨oc, od, dt, os⟩, ho, hc, ep, hd⟩ := hl
      simp only at hc hd
      subst hc hd
      have ho2 : (s.heap.push (emptySet w)).get? l = some { cls := .type "list", dict := od, data := .seq items ep, slots := os } := Heap.get?_push_of_some _ ho
      have sub1 := F.sub_list_set
      have sub2 := F.sub_list_frozenset
      have nodict : (Value.type "list" == Value.type "dict") = false := by decide
      have seq0 : (s.heap.push (emptySet w)).IsList l items := ⟨_, ho2, rfl, ep, rfl⟩
      unfold Builtin.«set.__init__» noKeywords Builtin.Frozenset.updateFrom
      generalize hPI : pyIter = PI
      wp_walk
      subst hPI
      refine wpAny_pyIter_list seq0 (wpAny_bind (wpAny_runValue ?_))
      have low : l < s.heap.objs.size := Heap.lt_size ho
      have z1 : (s.heap.push (emptySet w)).objs.size = s.heap.objs.size + 1 := Heap.size_push ..
      have n1 : l ≠ (s.heap.push (emptySet w)).objs.size := by
        rw [z1]
        exact Nat.ne_of_lt (Nat.lt_succ_of_lt low)
      have n2 : s.heap.objs.size ∉ [(s.heap.push (emptySet w)).objs.size, l] := by
        rw [z1]
        simp only [List.mem_cons, List.not_mem_nil, or_false, not_or]
        exact ⟨Nat.ne_of_lt (Nat.lt_succ_self _), Nat.ne_of_gt low⟩
      have hh3 : A.in1.in1.in1.handled = none := by simp [hh]
      refine fill_tx ((Walks.list hh3 _ l n1 items).toS) s.heap.objs.size n2 xs hisz room (fun i v hv => ?_) items.size 0 _ (by omega) ⟨⟨_, Heap.get?_push_size _ rfl, rfl, rfl⟩, seq0.push _⟩ (empty_tx (Heap.get?_push_of_some _ at0)) fun s3 m B => ?_
      · obtain ⟨u, e⟩ := SS.strs_at hi i v (by rw [Array.getElem?_toList]; exact hv)
        have hi2 : i < xs.length := by
          rw [← hisz]
          exact (Array.getElem?_eq_some_iff.mp hv).1
        refine ⟨xs[i], u, List.getElem?_eq_getElem hi2, ?_⟩
        rw [e, List.getD_eq_getElem?_getD, List.getElem?_eq_getElem hi2]
        rfl
      · obtain ⟨h3, g3, d3, t3, o3⟩ := s3
        have e1 : g3 = s.gens := m.gens
        have e2 : d3 = s.drawn := m.drawn
        have e3 : o3 = s.os := m.os
        subst e1 e2 e3
        refine wpAny_pure (wpAny_pure ⟨rfl, h3, t3, rfl, B, fun b o e => ?_⟩)
        have lb : b < s.heap.objs.size := Heap.lt_size e
        refine m.heap b o ?_ (Heap.get?_push_of_some _ (Heap.get?_push_of_some _ e))
        simp only [List.mem_cons, List.not_mem_nil, or_false, not_or]
        exact ⟨Nat.ne_of_lt lb, by rw [z1]; exact Nat.ne_of_lt (Nat.lt_succ_of_lt lb)⟩
    · match r2, hr2 with
      | .error e, hr2 => exact hr2
      | .ok .next, hr2 => exact hr2.elim
      | .ok .brk, hr2 => exact hr2.elim
      | .ok .cont, hr2 => exact hr2.elim
      | .ok (.ret u), hr2 =>
        obtain ⟨rfl, h3, t3, rfl, B, keep⟩ := hr2
        repeat (any_goals (first | assumption | wp_step))
        exact k _ _ B keep

set_option maxRecDepth 100000 in
theorem set_of_tuple {l : Addr} {items : Array Value} {xs : List Str} {Q : Value → Shared → Prop} (hh : A.handled = none) (hl : s.heap.IsTuple l items) (hi : StrsAre items.toList xs) (room : xs.length + 1 < scanBound)
    (k : ∀ (h2 : Heap) (tk : Nat), SetTx w h2 s.heap.objs.size (gather xs) → (∀ b o, s.heap.get? b = some o → h2.get? b = some o) → Q (.ref s.heap.objs.size) { s with heap := h2, toks := tk }) : wpAny (model P w) A (call (.type "set") [.ref l]) Q E s := by
  have hisz : items.size = xs.length := by rw [← StrsAre.len_eq hi, Array.length_toList]
  obtain ⟨c, tl, hmro⟩ := F.called_set.mro
  have hmade := F.called_set.made
  have hsub := F.called_set.sub
  refine wpAny_call (codeAny_of_tree ?_)
  refine wpAny_pure ⟨Code.quiet_builtin _ (by decide +kernel), codeAny_builtin F.entry_type_call ?_⟩
  rw [Around.under_plain (weight_type_call_type "set" [.ref l] []) rfl]
  have h1 := F.called_set.notType
  have h2 := F.called_set.canCreate
  have hct := F.typeCall_set_1 (.ref l)
  repeat (any_goals (first | assumption | wp_step))
  refine codeAny_mono (new_tx (.ref l) (E := E) (Q := fun u s1 => u = .ref s.heap.objs.size ∧ s1 = { s with heap := s.heap.push (emptySet w) }) ⟨rfl, rfl⟩) fun r s1 hr => ?_
  match r, hr with
  | .error e, hr => exact hr
  | .ok .next, hr => exact hr.elim
  | .ok .brk, hr => exact hr.elim
  | .ok .cont, hr => exact hr.elim
  | .ok (.ret u), hr =>
    obtain ⟨rfl, rfl⟩ := hr
    have at0 : (s.heap.push (emptySet w)).get? s.heap.objs.size = some (emptySet w) := Heap.get?_push_size _ rfl
    have ty0 : Shared.TypeIs { s with heap := s.heap.push (emptySet w) } (.ref s.heap.objs.size) "set" := ⟨_, at0, rfl⟩
    have hli := F.called_set.init.lookup
    have hbi := F.called_set.init.bind (.ref s.heap.objs.size)
    repeat (any_goals (first | assumption | wp_step))
    refine codeAny_mono (codeAny_call_builtin (R := wants (fun r s2 => r = .none ∧ ∃ h2 tk, s2 = { s with heap := h2, toks := tk } ∧ SetTx w h2 s.heap.objs.size (gather xs) ∧ (∀ b o, s.heap.get? b = some o → h2.get? b = some o)) E)
      F.called_set.init.plain F.entry_set_init (check_set_init_1 ty0 ?_)) fun r2 s2 hr2 => ?_
    · obtain ⟨⟨oc, od, dt, os⟩, ho, hc, ep, hd⟩ := hl
      simp only at hc hd
      subst hc hd
      have ho2 : (s.heap.push (emptySet w)).get? l = some { cls := .type "tuple", dict := od, data := .seq items ep, slots := os } := Heap.get?_push_of_some _ ho
      have sub1 := F.sub_tuple_set
      have sub2 := F.sub_tuple_frozenset
      have nodict : (Value.type "tuple" == Value.type "dict") = false := by decide
      have seq0 : (s.heap.push (emptySet w)).IsTuple l items := ⟨_, ho2, rfl, ep, rfl⟩
      unfold Builtin.«set.__init__» noKeywords Builtin.Frozenset.updateFrom
      generalize hPI : pyIter = PI
      wp_walk
      subst hPI
      refine wpAny_pyIter_tuple seq0 (wpAny_bind (wpAny_runValue ?_))
      have low : l < s.heap.objs.size := Heap.lt_size ho
      have z1 : (s.heap.push (emptySet w)).objs.size = s.heap.objs.size + 1 := Heap.size_push ..
      have n1 : l ≠ (s.heap.push (emptySet w)).objs.size := by
        rw [z1]
        exact Nat.ne_of_lt (Nat.lt_succ_of_lt low)
      have n2 : s.heap.objs.size ∉ [(s.heap.push (emptySet w)).objs.size, l] := by
        rw [z1]
        simp only [List.mem_cons, List.not_mem_nil, or_false, not_or]
        exact ⟨Nat.ne_of_lt (Nat.lt_succ_self _), Nat.ne_of_gt low⟩
      have hh3 : A.in1.in1.in1.handled = none := by simp [hh]
      refine fill_tx ((Walks.tuple hh3 _ l n1 items).toS) s.heap.objs.size n2 xs hisz room (fun i v hv => ?_) items.size 0 _ (by omega) ⟨⟨_, Heap.get?_push_size _ rfl, rfl, rfl⟩, seq0.push _⟩ (empty_tx (Heap.get?_push_of_some _ at0)) fun s3 m B => ?_
      · obtain ⟨u, e⟩ := SS.strs_at hi i v (by rw [Array.getElem?_toList]; exact hv)
        have hi2 : i < xs.length := by
          rw [← hisz]
          exact (Array.getElem?_eq_some_iff.mp hv).1
        refine ⟨xs[i], u, List.getElem?_eq_getElem hi2, ?_⟩
        rw [e, List.getD_eq_getElem?_getD, List.getElem?_eq_getElem hi2]
        rfl
      · obtain ⟨h3, g3, d3, t3, o3⟩ := s3
        have e1 : g3 = s.gens := m.gens
        have e2 : d3 = s.drawn := m.drawn
        have e3 : o3 = s.os := m.os
        subst e1 e2 e3
        refine wpAny_pure (wpAny_pure ⟨rfl, h3, t3, rfl, B, fun b o e => ?_⟩)
        have lb : b < s.heap.objs.size := Heap.lt_size e
        refine m.heap b o ?_ (Heap.get?_push_of_some _ (Heap.get?_push_of_some _ e))
        simp only [List.mem_cons, List.not_mem_nil, or_false, not_or]
        exact ⟨Nat.ne_of_lt lb, by rw [z1]; exact Nat.ne_of_lt (Nat.lt_succ_of_lt lb)⟩
    · match r2, hr2 with
      | .error e, hr2 => exact hr2
      | .ok .next, hr2 => exact hr2.elim
      | .ok .brk, hr2 => exact hr2.elim
      | .ok .cont, hr2 => exact hr2.elim
      | .ok (.ret u), hr2 =>
        obtain ⟨rfl, h3, t3, rfl, B, keep⟩ := hr2
        repeat (any_goals (first | assumption | wp_step))
        exact k _ _ B keep
end
end Kt
end

section
set_option Elab.async false
set_option linter.all false
set_option maxRecDepth 100000
/-! Sorted texts without doubles: one such list for the same members. -/
namespace Kt
open PySem PySem.Spec PyProof.Rows
theorem lt_no_self : ∀ a : List Nat, ltCps a a = false
  | [] => rfl
  | x :: r => by
    unfold ltCps
    rw [lt_no_self r]
    simp
theorem lt_both : ∀ {a b : List Nat}, ltCps a b = false → ltCps b a = false → a = b
  | [], [], _, _ => rfl
  | [], _ :: _, h, _ => by cases h
  | _ :: _, [], _, h => by cases h
  | x :: r, y :: t, h1, h2 => by
    unfold ltCps at h1 h2
    simp only [Bool.or_eq_false_iff, decide_eq_false_iff_not, Bool.and_eq_false_iff] at h1 h2
    have e : x = y := by omega
    subst e
    have a1 : ltCps r t = false := by
      rcases h1.2 with z | z
      · simp at z
      · exact z
    have a2 : ltCps t r = false := by
      rcases h2.2 with z | z
      · simp at z
      · exact z
    rw [lt_both a1 a2]
theorem lt_chain : ∀ {a b c : List Nat}, ltCps b a = false → ltCps c b = false → ltCps c a = false
  | [], [], _, _, h2 => h2
  | [], _ :: _, [], _, _ => rfl
  | [], _ :: _, _ :: _, _, _ => rfl
  | _ :: _, [], _, h1, _ => by cases h1
  | _ :: _, _ :: _, [], _, h2 => by cases h2
  | x :: r, y :: t, z :: v, h1, h2 => by
    unfold ltCps at h1 h2 ⊢
    simp only [Bool.or_eq_false_iff, decide_eq_false_iff_not, Bool.and_eq_false_iff] at h1 h2 ⊢
    refine ⟨by omega, ?_⟩
    by_cases e : z = x
    · subst e
      have e2 : y = z := by omega
      subst e2
      refine .inr (lt_chain (b := t) ?_ ?_)
      · rcases h1.2 with q | q
        · simp at q
        · exact q
      · rcases h2.2 with q | q
        · simp at q
        · exact q
    · exact .inl (by simpa using e)
/-- not before -/
def Nb (x y : Str) : Prop := ltCps y.cps.toList x.cps.toList = false
theorem rising_pw : ∀ (p : Str) (l : List Str), risingS p l = true → (∀ y ∈ l, Nb p y) ∧ l.Pairwise Nb
  | _, [], _ => ⟨fun _ h => (by cases h), .nil⟩
  | p, x :: r, h => by
    unfold risingS at h
    obtain ⟨h1, h2⟩ := Bool.and_eq_true_iff.mp h
    have h1' : Nb p x := by
      unfold Nb
      simpa using h1
    obtain ⟨g1, g2⟩ := rising_pw x r h2
    refine ⟨fun y hy => ?_, List.pairwise_cons.mpr ⟨g1, g2⟩⟩
    rcases List.mem_cons.mp hy with e | e
    · rw [e]
      exact h1'
    · exact lt_chain h1' (g1 y e)
theorem sorted_pw {l : List Str} (h : sortedS l = true) : l.Pairwise Nb := by
  cases l with
  | nil => exact .nil
  | cons x r =>
    obtain ⟨h1, h2⟩ := rising_pw x r h
    exact List.pairwise_cons.mpr ⟨h1, h2⟩
/-- the sorted members of xs, each once -/
structure SrtOf (xs ys : List Str) : Prop where
  srt : sortedS ys = true
  nd : ys.Nodup
  mem : ∀ x, x ∈ ys ↔ x ∈ xs
theorem nb_both {x y : Str} (h1 : Nb x y) (h2 : Nb y x) : x = y := by
  have e := lt_both h2 h1
  cases x with
  | mk a =>
    cases y with
    | mk b =>
      have e2 : a.toList = b.toList := e
      have e3 : a = b := by rw [← Array.toArray_toList (xs := a), e2, Array.toArray_toList]
      rw [e3]
theorem pw_one : ∀ {a b : List Str}, a.Pairwise Nb → b.Pairwise Nb → a.Nodup → b.Nodup → (∀ x, x ∈ a ↔ x ∈ b) → a = b
  | [], [], _, _, _, _, _ => rfl
  | [], y :: _, _, _, _, _, h => by cases (h y).mpr List.mem_cons_self
  | x :: _, [], _, _, _, _, h => by cases (h x).mp List.mem_cons_self
  | x :: r, y :: t, p1, p2, n1, n2, h => by
    obtain ⟨p11, p12⟩ := List.pairwise_cons.mp p1
    obtain ⟨p21, p22⟩ := List.pairwise_cons.mp p2
    obtain ⟨n11, n12⟩ := List.nodup_cons.mp n1
    obtain ⟨n21, n22⟩ := List.nodup_cons.mp n2
    have e : x = y := by
      rcases List.mem_cons.mp ((h x).mp List.mem_cons_self) with q | q
      · exact q
      · rcases List.mem_cons.mp ((h y).mpr List.mem_cons_self) with q2 | q2
        · exact q2.symm
        · exact nb_both (p11 y q2) (p21 x q)
    subst e
    rw [pw_one p12 p22 n12 n22 fun z => ?_]
    constructor
    · intro hz
      rcases List.mem_cons.mp ((h z).mp (List.mem_cons_of_mem _ hz)) with q | q
      · exact absurd (q ▸ hz) n11
      · exact q
    · intro hz
      rcases List.mem_cons.mp ((h z).mpr (List.mem_cons_of_mem _ hz)) with q | q
      · exact absurd (q ▸ hz) n21
      · exact q
theorem SrtOf.one {xs a b : List Str} (h1 : SrtOf xs a) (h2 : SrtOf xs b) : a = b :=
  pw_one (sorted_pw h1.srt) (sorted_pw h2.srt) h1.nd h2.nd fun x => (h1.mem x).trans (h2.mem x).symm
end Kt
end

section
set_option Elab.async false
set_option linter.all false
set_option maxRecDepth 100000
set_option maxHeartbeats 2000000
/-! sorted(set(xs)) of texts. -/
namespace Kt
open PySem PySem.Spec PyProof.Rows L2
section
variable {P : Program} {w : World} {A : Around} {E : Value → Shared → Prop} {s : Shared}
theorem good_strs {w : World} : ∀ {vs : List Value}, (∀ v ∈ vs, ∃ x u, v = Value.str x u) → StrsAre vs (vs.map txtOf)
  | [], _ => .nil
  | v :: vs, h => by
    obtain ⟨x, u, rfl⟩ := h v List.mem_cons_self
    exact .cons x u (good_strs (w := w) fun v m => h v (List.mem_cons_of_mem _ m))
theorem sorted_tx {a : Addr} {l : List Str} {Q : Value → Shared → Prop} (R : SetTx w s.heap a l) (hh : A.handled = none) (few : l.length < 64)
    (k : ∀ s2 p (out : Array Value) (ep : Nat) (ys : List Str), (∀ b o, s.heap.get? b = some o → s2.heap.get? b = some o) → s2.gens = s.gens → s2.os = s.os → s.heap.objs.size ≤ p → s2.heap.get? p = some (seqObj "list" out ep) → StrsAre out.toList ys → SrtOf l ys → ys.length = l.length → Q (.ref p) s2) :
    wpAny (model P w) A (call (.builtin "sorted") [.ref a]) Q E s := by
  obtain ⟨o, es, ep, t, ho, hx, hd, B⟩ := R.ex
  refine Calls.call_function_entry kind_sorted plain_sorted entry_sorted (args_sorted1 _) ?_
  unfold Builtin.«sorted»
  refine wpAny_bind (m := checkCount "sorted" 1 1 _) (wpAny_pure ?_)
  refine wpAny_bind (collect_set (A := A.in1) hh ⟨o, ho, hx.1, hd⟩ B.fits B.few B.ris B.led fun s1 vs keep big g1 o1 pm => ?_)
  have are : StrsAre vs (vs.map txtOf) := good_strs (w := w) fun v m => by
    obtain ⟨e, he, q⟩ := List.mem_map.mp (pm.mem_iff.mp m)
    obtain ⟨x, u, z⟩ := B.good e he
    exact ⟨x, u, by rw [← q, z]⟩
  have pl : (vs.map txtOf).Perm l := by
    have q := pm.map txtOf
    rw [List.map_map] at q
    exact q.trans B.perm
  have vl : vs.length = l.length := by
    have := pl.length_eq
    rwa [List.length_map] at this
  refine wpAny_bind (wpAny_newList ?_ (by rw [vl, sizeLine_eq]; omega))
  have made : (s1.heap.push (seqObj "list" vs.toArray 0)).get? s1.heap.objs.size = some (seqObj "list" vs.toArray 0) := Heap.get?_push_size _ rfl
  refine wpAny_bind (wpAny_holding (wpAny_call_entry slot_list_sort ⟨_, made, rfl⟩ entry_list_sort
    (list_sort_treeK strKind_oneLt made are.keysOf (fun v1 v2 rest e => keyKind_strs (by rw [← e]; exact are)) (by rw [vl]; exact few) fun st sp ss => ⟨_, rfl, ?_⟩) (args_list_sort _)))
  obtain ⟨ys, y1, y2, y3⟩ := sorted_out_str are sp ss
  obtain ⟨e2, at2⟩ := sortedHeap_at (vs := vs) (out := (arrOf st).map (·.2)) made
  have py : ys.Perm l := y2.trans pl
  refine wpAny_pure ⟨_, rfl, k _ s1.heap.objs.size _ e2 ys (fun b u e => ?_) g1 o1 big at2 y1 ⟨y3, py.nodup_iff.mpr B.nd, fun x => py.mem_iff⟩ py.length_eq⟩
  have q := keep b u e
  have lt := Heap.lt_size q
  show (sortedHeap (s1.heap.push (seqObj "list" vs.toArray 0)) s1.heap.objs.size vs _).get? b = some u
  rw [sortedHeap_old (Nat.ne_of_lt lt) (by rw [size_push']; exact Nat.lt_succ_of_lt lt)]
  exact Heap.get?_push_of_some _ q
end
theorem boot_srt : bootBuiltins "sorted" = some (.builtin "sorted") := by decide +kernel
def tSrtSet (K : PySem.W.Frag) (ta : TE) : TE := fun σ H Q => ta σ H fun x H1 => ∃ (l : Addr) (xs : List Str), x = .ref l ∧ (SqL K H1 l (xs.map V.str) ∨ SqT K H1 l (xs.map V.str)) ∧ xs.length < 64 ∧
  ∀ (ys : List Str) (p : Addr), SrtOf xs ys → ys.length ≤ xs.length → H1 p = none → Q (.ref p) (upd H1 p (.lst (ys.map V.str)))
theorem pe_sortedSet {X : Cx} {a : Expr} {ta : TE} {p p2 q pos : Pos} (hc : X.calm = true) (hg : Gl X "sorted") (hm : X.mg "sorted" = none) (hg2 : Gl X "set") (hm2 : X.mg "set" = none) (ha : PE X a ta)
    (na : starEach [a] X.env = (false, eval a X.env) :: starEach [] X.env := by rfl) : PE X (.Call (.Name "sorted" p) [.Call (.Name "set" p2) [a] [] q] [] pos) (tSrtSet X.K ta) := by
  refine ⟨fun pins s σ H Q I h => ?_⟩
  refine Call_ (ld_blt I hg hm boot_srt ?_)
  refine PyProof.Rows.callWith_builtin1 (PyProof.Rows.args_cons ?_ rfl) rfl rfl
  refine Call_ (ld_blt I hg2 hm2 boot_set ?_)
  refine PyProof.Rows.callWith_type1 (PyProof.Rows.args_cons (thn (ha.run pins s σ H _ I h) fun v s1 ⟨x, H1, I1, r1, q1⟩ => PyProof.Rows.args_nil ?_) na) na rfl
  obtain ⟨l, xs, rfl, hq, few, k⟩ := q1
  cases r1
  have room : xs.length + 1 < scanBound := Nat.lt_of_lt_of_le (Nat.succ_lt_succ few) (by decide)
  have hh : X.A.handled = none := I1.ok.hd hc
  have fin : ∀ (h2 : Heap) (tk : Nat), SetTx X.w h2 s1.heap.objs.size (gather xs) → (∀ b o, s1.heap.get? b = some o → h2.get? b = some o) →
      wpAny (model X.prog X.w) X.A (spliced (backTo pos (starEach [] X.env))) (fun vs s₂ => wpAny (model X.prog X.w) X.A (call (.builtin "sorted") (Value.ref s1.heap.objs.size :: vs)) (EP X pins σ Q) X.xe s₂) X.xe { s1 with heap := h2, toks := tk } := by
    intro h2 tk B keep
    refine PyProof.Rows.args_nil ?_
    have I2 : Inv X pins σ H1 { s1 with heap := h2, toks := tk } := I1.kept keep
    have gl := gather_len xs
    refine sorted_tx B hh (by omega) fun s' p' out c ys k2 g o big at2 are srt len => ?_
    have hlen : (ys.map V.str).length ≤ sizeLine := by
      rw [List.length_map, len, sizeLine_eq]
      omega
    have hn : H1 p' = none := I2.hok.fresh big
    have J : Inv X pins σ (upd H1 p' (.lst (ys.map V.str))) { ({ s1 with heap := h2, toks := tk } : Shared) with heap := s'.heap, gens := s'.gens, drawn := s'.drawn, toks := s'.toks } :=
      I2.call (ch := []) (Un.laid k2 big hn) (I2.hok.laid k2 big ⟨hlen, out.toList, c, vals_of_strs are, at2⟩) (by rw [g]; exact I2.bare) (fun _ z => nomatch z)
    have e : s' = { s1 with heap := s'.heap, gens := s'.gens, drawn := s'.drawn, toks := s'.toks } := by
      cases s'
      cases s1
      cases o
      rfl
    rw [e]
    refine ⟨.ref p', _, J, rfl, k ys p' ⟨srt.srt, srt.nd, fun x => (srt.mem x).trans (gather_mem xs)⟩ (by rw [len]; exact gl) hn⟩
  rcases hq with hq | hq
  · obtain ⟨its, r, pl, hz⟩ := I1.list hq
    exact set_of_list hh pl.isList (by simpa using strsAre_of r) room fin
  · obtain ⟨its, r, pl, hz⟩ := I1.tuple hq
    exact set_of_tuple hh pl (by simpa using strsAre_of r) room fin
end Kt
end

section
set_option Elab.async false
set_option linter.all false
set_option maxRecDepth 100000
namespace Toy
open PySem L2 Gd Kt
/-! ### how many names a text reads -/
theorem pars_step {wd wd' : Wn} {x : Str} {c : Nat} {s s' : RS} (e : rStep wd x c s = .ok s' wd') (hc : x.cps.toList[s.n]? = some c)
    (h : 2 * (pars s.cs).length ≤ s.n + (if wd = .opr then 1 else 0)) : 2 * (pars s'.cs).length ≤ s'.n + (if wd' = .opr then 1 else 0) := by
  have hd0 : (x.cps.toList.drop s.n)[0]? = some c := by rw [List.getElem?_drop]; exact hc
  cases wd with
  | brk =>
    have e : rBr x s = .ok s' wd' := e
    unfold rBr at e
    split at e
    · injection e with e1 e2
      rw [← e1, ← e2]
      rw [if_neg (by decide)] at h
      dsimp only
      rw [if_neg (by decide)]
      omega
    · cases e
  | opd =>
    have e : rOpd x c s = .ok s' wd' := e
    rw [if_neg (by decide)] at h
    unfold rOpd at e
    split at e
    · injection e with e1 e2
      rw [← e1, ← e2]
      dsimp only
      omega
    · split at e
      · rename_i hf
        injection e with e1 e2
        rw [← e1, ← e2]
        have a1 : 1 ≤ runLen (x.cps.toList.drop s.n) fig.cps.toList 31 := run_pos (k := 30) hd0 hf
        have hle : s.n + 1 ≤ opdD x s.n c := by
          unfold opdD
          split <;> omega
        dsimp only
        rw [pars_int]
        omega
      · split at e
        · rename_i hl
          have a1 : 1 ≤ runLen (x.cps.toList.drop s.n) lets.cps.toList 8 := run_pos (k := 7) hd0 hl
          have hle : s.n + 1 ≤ opdW x s.n := by
            unfold opdW
            omega
          unfold rWord at e
          split at e
          · injection e with e1 e2
            rw [← e1, ← e2]
            dsimp only
            omega
          · split at e
            · cases e
            · injection e with e1 e2
              rw [← e1, ← e2]
              dsimp only
              rw [pars_par, List.length_append, List.length_singleton, if_pos rfl]
              omega
        · cases e
  | opr =>
    have e : rOp x c s = .ok s' wd' := e
    rw [if_pos rfl] at h
    have fp : ∀ lv, (pars (finL lv s.cs s.ws).1).length = (pars s.cs).length := fun lv => by rw [finL_pars]
    unfold rOp at e
    split at e
    · cases e
    · rename_i c0
      by_cases c1 : c = 43 ∨ c = 45 ∨ c = 42 ∨ c = 47
      · obtain ⟨lv, k1, k2, k3, k4, k5⟩ := lk_sgn c1
        rw [k1] at e
        dsimp only at e
        injection e with e1 e2
        rw [← e1, ← e2]
        dsimp only
        rw [fp, k5]
        split <;> omega
      · rw [lk_none (by omega) (by omega) (by omega) (by omega)] at e
        dsimp only at e
        have hp : (pars (finS 1 s).cs).length = (pars s.cs).length := fp 1
        have hn : (finS 1 s).n = s.n := rfl
        generalize finS 1 s = t at e hp hn
        obtain ⟨tn, tc, tw⟩ := t
        dsimp only at hp hn
        split at e
        · unfold rComma at e
          cases tw with
          | nil => cases e
          | cons w r =>
            dsimp only at e
            split at e
            · injection e with e1 e2
              rw [← e1, ← e2]
              dsimp only
              omega
            · cases e
        · split at e
          · unfold rEnd at e
            cases tw with
            | nil => cases e
            | cons w r =>
              dsimp only at e
              split at e
              · cases e
              · injection e with e1 e2
                rw [← e1, ← e2]
                dsimp only
                split
                · omega
                · rw [pars_op]
                  omega
          · cases e
theorem pars_few {x : Str} : ∀ (k : Nat) (wd : Wn) (s : RS) (cs : List Ins), rLoop x k wd s = .code cs → s.n ≤ x.length → 2 * (pars s.cs).length ≤ s.n + (if wd = .opr then 1 else 0) → (∀ u ∈ s.ws, OkW u) → 2 * (pars cs).length ≤ x.length + 1 := by
  intro k
  induction k with
  | zero =>
    intro wd s cs e
    cases e
  | succ k ih =>
    intro wd s cs e hn h hok
    rw [show rLoop x (k + 1) wd s = (match x.cps.toList[s.n]? with
      | none => if wd = .opr ∧ (finL 1 s.cs s.ws).2 = [] then .code (finL 1 s.cs s.ws).1 else .bad x.length
      | some c => match rStep wd x c s with
        | .err i => .bad i
        | .ok s' wd' => rLoop x k wd' ⟨skip x s'.n, s'.cs, s'.ws⟩) from rfl] at e
    cases hc : x.cps.toList[s.n]? with
    | none =>
      rw [hc] at e
      dsimp only at e
      split at e
      · injection e with e1
        rw [← e1, finL_pars]
        split at h <;> omega
      · cases e
    | some c =>
      rw [hc] at e
      dsimp only at e
      cases er : rStep wd x c s with
      | err i =>
        rw [er] at e
        cases e
      | ok s' wd' =>
        rw [er] at e
        dsimp only at e
        obtain ⟨g1, g2, g3, g4⟩ := step_keep er hc hok
        have sk := skip_le g2
        have := pars_step er hc h
        exact ih wd' _ cs e sk.2 (by dsimp only; omega) g4
theorem few_names {x : Str} {cs : List Ins} (hx : x.length ≤ 100) (e : outOf x = .code cs) : (pars cs).length < 64 := by
  have sk := skip_le (x := x) (a := 0) (Nat.zero_le _)
  have := pars_few (x.length + 1) .opd ⟨skip x 0, [], []⟩ cs e sk.2 (by show 2 * 0 ≤ _; omega) (fun u hu => by cases hu)
  omega
/-! ### kinds of values -/
structure Kd (T : String) (i b s : Bool) : Prop where
  i : kitB T "int" = some i
  b : kitB T "bool" = some b
  s : kitB T "str" = some s
theorem kd_none : Kd "NoneType" false false false := ⟨by decide +kernel, by decide +kernel, by decide +kernel⟩
theorem kd_bool : Kd "bool" true true false := ⟨by decide +kernel, by decide +kernel, by decide +kernel⟩
theorem kd_int : Kd "int" true false false := ⟨by decide +kernel, by decide +kernel, by decide +kernel⟩
theorem kd_str : Kd "str" false false true := ⟨by decide +kernel, by decide +kernel, by decide +kernel⟩
theorem kd_list : Kd "list" false false false := ⟨by decide +kernel, by decide +kernel, by decide +kernel⟩
theorem kd_tuple : Kd "tuple" false false false := ⟨by decide +kernel, by decide +kernel, by decide +kernel⟩
theorem kd_dict : Kd "dict" false false false := ⟨by decide +kernel, by decide +kernel, by decide +kernel⟩
def isS : V → Bool
  | .str _ => true
  | _ => false
theorem Th.kd3 {K : PySem.W.Frag} {H : Hp} {v : V} {d : PyData} (t : Th K H v d) : ∃ T i b, TyX K H v (.type T) ∧ Kd T i b (isS v) := by
  cases t with
  | dp h nd =>
    cases h with
    | non => exact ⟨_, _, _, .base .non, kd_none⟩
    | bl b => exact ⟨_, _, _, .base (.bl b), kd_bool⟩
    | int i => exact ⟨_, _, _, .base (.int i), kd_int⟩
    | str x => exact ⟨_, _, _, .base (.str x), kd_str⟩
    | lst h1 h2 =>
      rcases h1 with (h1 | ⟨o, h1⟩) | ⟨o, _, _, h1, h3, _⟩
      · exact ⟨_, _, _, .base (.lst h1), kd_list⟩
      · exact ⟨_, _, _, .base (.frz h1), kd_list⟩
      · exact ⟨_, _, _, .kList h1 h3, kd_list⟩
    | tup h1 h2 =>
      rcases h1 with (h1 | ⟨o, h1⟩) | ⟨o, _, _, h1, h3, _⟩
      · exact ⟨_, _, _, .base (.tup h1), kd_tuple⟩
      · exact ⟨_, _, _, .fTuple h1, kd_tuple⟩
      · exact ⟨_, _, _, .kTuple h1 h3, kd_tuple⟩
  | dk e => exact ⟨_, _, _, .base (.dK e), kd_dict⟩
/-! ### Reader(text) -/
def spRInit (C : Addr) : Sp := fun vs H Q _ => ∃ p dx x, vs = [.ref p, .str x] ∧ H p = some (.ins C dx []) ∧
  ∀ H' lc lw, RdS C H' p dx lc lw x ⟨0, [], []⟩ → H lc = none → H lw = none → (∀ b o, b ≠ p → H b = some o → H' b = some o) → Q .non H'
section
variable {P : Program} {w : World} {K : PySem.W.Frag} {mg : Str → Option Value} {base : Heap} {C PE : Addr} {f : Addr} {fd : FuncData}
theorem scRInit : FnScope ["self", "text"] ["self", "text"] (defScope sRInit) := ⟨rfl, rfl, rfl, by decide +kernel, rfl, by decide +kernel, by decide +kernel⟩
theorem ok_rinit (F : Fun K "__init__" "Reader.__init__" sRInit f fd) (T : RdT K C) : FnOk P w K mg base CX0 1 f fd ["self", "text"] (spRInit C) := by
  refine F.ok scRInit (fun vs H Q E h => ?_) (fun cdv A outer s H vs Q E hr h => ?_)
  · obtain ⟨p, dx, x, rfl, _⟩ := h
    rfl
  · obtain ⟨p, dx, x, rfl, hp, k⟩ := h
    refine ⟨_, pss_cons (ps_fld (pv 0) (pv 1) rfl) (pss_cons (ps_fld (pv 0) pe_int rfl) (pss_cons (ps_fld (pv 0) (pe_lst pa_nil) rfl) (pss_one (ps_fld (pv 0) (pe_lst pa_nil) rfl)))), ?_⟩
    refine ⟨_, rfl, _, rfl, p, C, dx, _, rfl, hp, T.cl, T.nT, (by show 0 < 1000; decide), ?_⟩
    refine ⟨_, rfl, p, C, dx, _, rfl, upd_same, T.cl, T.nP, (Nat.lt_of_le_of_lt (length_putF _ _ _) (by show 0 + 1 < 1000; decide)), ?_⟩
    refine ⟨by show 0 ≤ sizeLine; decide, fun lc hlc => ?_⟩
    have npc : p ≠ lc := ne_of_none upd_same hlc
    refine ⟨_, rfl, p, C, dx, _, rfl, by rw [upd_ne npc]; exact upd_same, T.cl, T.nC, (Nat.lt_of_le_of_lt (length_putF _ _ _) (Nat.lt_of_le_of_lt (Nat.succ_le_succ (length_putF _ _ _)) (by show 0 + 1 + 1 < 1000; decide))), ?_⟩
    refine ⟨by show 0 ≤ sizeLine; decide, fun lw hlw => ?_⟩
    have npw : p ≠ lw := ne_of_none upd_same hlw
    have ncw : lc ≠ lw := ne_of_none (by rw [upd_ne (Ne.symm npc)]; exact upd_same) hlw
    refine ⟨_, rfl, p, C, dx, _, rfl, by rw [upd_ne npw]; exact upd_same, T.cl, T.nW, (Nat.lt_of_le_of_lt (length_putF _ _ _) (Nat.lt_of_le_of_lt (Nat.succ_le_succ (length_putF _ _ _)) (Nat.lt_of_le_of_lt (Nat.succ_le_succ (Nat.succ_le_succ (length_putF _ _ _))) (by show 0 + 1 + 1 + 1 < 1000; decide)))), ?_⟩
    have hc0 : H lc = none := by
      rw [upd_ne (Ne.symm npc), upd_ne (Ne.symm npc)] at hlc
      exact hlc
    have hw0 : H lw = none := by
      rw [upd_ne (Ne.symm npw), upd_ne (Ne.symm ncw), upd_ne (Ne.symm npw), upd_ne (Ne.symm npw)] at hlw
      exact hlw
    refine k _ lc lw ⟨?_, ?_, ⟨[], ?_, .nil⟩, ncw⟩ hc0 hw0 fun b o nb e => ?_
    · rw [upd_same, fR_made]
    · rw [upd_ne (Ne.symm npw), upd_same]
      rfl
    · rw [upd_ne (Ne.symm npc), upd_ne ncw, upd_ne (Ne.symm npc), upd_same]
      rfl
    · rw [upd_ne nb, upd_ne (ne_of_none e hw0), upd_ne nb, upd_ne (ne_of_none e hc0), upd_ne nb, upd_ne nb]
      exact e
end
end Toy
end

section
set_option Elab.async false
set_option linter.all false
set_option maxRecDepth 100000
namespace Toy
open PySem L2 Gd Kt
/-! ### Formula(text) -/
abbrev sFInit : Stmt := inClass (top 36) 0
abbrev hT : Str := "text"
abbrev hC : Str := "_code"
abbrev hR : Str := "_reads"
abbrev hN : Str := "names"
structure FmT (K : PySem.W.Frag) (C : Addr) : Prop where
  cl : Cls K C
  nT : NoAttr K C hT
  nC : NoAttr K C hC
  nR : NoAttr K C hR
  nN : NoAttr K C hN
structure TxtF (K : PySem.W.Frag) (mg : Str → Option Value) : Prop where
  isi : mg "isinstance" = none
  str : mg "str" = none
  len : mg "len" = none
  tuple : mg "tuple" = none
  sorted : mg "sorted" = none
  set : mg "set" = none
  mc : ∃ t, mg "MOST_CHARACTERS" = some (.int 100 t)
inductive Ans where
  | bad (i : Nat)
  | good (ps : List Str)
def fOut (v : V) : Ans := match v with
  | .str x => if 100 < x.length then .bad 100 else match outOf x with
    | .bad i => .bad i
    | .code cs => .good (pars cs)
  | _ => .bad 0
/-- an error leaves; the object at p may have changed -/
def RzF (H : Hp) (E : XK) (PE p : Addr) (i : Nat) : Prop := ∀ d H', H d = none → (∀ b o, b ≠ p → H b = some o → H' b = some o) → H' d = some (.xd [(ki, .int i)]) → E (.ref PE) (some d) H'
/-- a formula: its text, its code, what it reads, its names -/
structure FmO (H : Hp) (p C : Addr) (x : Str) (cs : List Ins) : Prop where
  ex : ∃ dx fs tc tr tn as ys, H p = some (.ins C dx fs) ∧ fs.lookup hT = some (.str x) ∧ fs.lookup hC = some (.ref tc) ∧ fs.lookup hR = some (.ref tr) ∧ fs.lookup hN = some (.ref tn) ∧ H tc = some (.tup (as.map V.ref)) ∧ InsAll H as cs ∧
    H tr = some (.tup ((pars cs).map V.str)) ∧ H tn = some (.tup (ys.map V.str)) ∧ SrtOf (pars cs) ys ∧ ys.length ≤ 64 ∧ ∀ g, g ≠ hT → g ≠ hC → g ≠ hR → g ≠ hN → fs.lookup g = none
def spFInit (C PE : Addr) (K : PySem.W.Frag) : Sp := fun vs H Q E => ∃ p dx v d, vs = [.ref p, v] ∧ H p = some (.ins C dx []) ∧ Th K H v d ∧ (∀ x, v = .str x → x.length ≤ sizeLine) ∧
  match fOut v with
  | .bad i => RzF H E PE p i
  | .good ps => ∀ (x' : Str) (cs' : List Ins) (H' : Hp), v = .str x' → outOf x' = .code cs' → FmO H' p C x' cs' → (∀ b o, b ≠ p → H b = some o → H' b = some o) → Q .non H'
theorem RzF.rz {H H1 : Hp} {E : XK} {PE p : Addr} {i : Nat} (h : RzF H E PE p i) (k : ∀ b o, b ≠ p → H b = some o → H1 b = some o) (hp : H1 p ≠ none) : Rz H1 E PE (.int i) := by
  intro d H' n s e
  have hd : H d = none := by
    cases q : H d with
    | none => rfl
    | some o =>
      by_cases z : d = p
      · rw [z] at n
        exact absurd n hp
      · rw [k d o z q] at n
        cases n
  exact h d H' hd (fun b o nb eb => s _ _ (k b o nb eb)) e
theorem ins_get {H : Hp} {as : List Addr} {cs : List Ins} (h : InsAll H as cs) : ∀ {i : Nat} {a : Addr}, as[i]? = some a → ∃ c, cs[i]? = some c ∧ H a = some (.tup c.vs) := by
  induction h with
  | nil => intro i a e; cases e
  | cons h t ih =>
    intro i a e
    cases i with
    | zero => cases e; exact ⟨_, rfl, h⟩
    | succ i => exact ih (by simpa using e)
theorem pars_take {cs : List Ins} {i : Nat} {c : Ins} (h : cs[i]? = some c) : pars (cs.take (i + 1)) = pars (cs.take i) ++ pars [c] := by
  rw [List.take_succ, h]
  exact pars_snoc _ _
section
variable {P : Program} {w : World} {K : PySem.W.Frag} {mg : Str → Option Value} {base : Heap} {C CR PE : Addr} {f : Addr} {fd : FuncData}
abbrev NFI : List Str := ["self", "text", "kind", "what"]
theorem scFInit : FnScope NFI ["self", "text"] (defScope sFInit) := ⟨rfl, rfl, rfl, by decide +kernel, rfl, by decide +kernel, by decide +kernel⟩
theorem ok_finit {fI fD : Addr} {fdI fdD : FuncData} (F : Fun K "__init__" "Formula.__init__" sFInit f fd) (T : FmT K C) (TX : TxtF K mg) (EP : ErrsT P w K mg base "ParseError" PE) (TR : RdT K CR)
    (mR : mg "Reader" = some (.ref CR)) (MkR : Mk K CR fI) (BI : Binds K fdI ["self", "text"] []) (GI : FnOk P w K mg base CX0 1 fI fdI ["self", "text"] (spRInit CR))
    (MD : Meth K CR "read" fD) (BD : Binds K fdD ["self"] []) (GD : FnOk P w K mg base (L2.CX P w) 5 fD fdD ["self"] (spRead CR PE)) : FnOk P w K mg base (L2.CX P w) 6 f fd ["self", "text"] (spFInit C PE K) := by
  obtain ⟨fE, fdE, TE, GE⟩ := EP.ex
  obtain ⟨tM, mM⟩ := TX.mc
  refine F.okX scFInit (fun vs H Q E h => ?_) (fun cdv A outer s H vs Q E hr h => ?_)
  · obtain ⟨p, dx, v, d, rfl, _⟩ := h
    rfl
  · obtain ⟨p, dx, v, d, rfl, hp, tv, hsz, k⟩ := h
    have hr2 : Room (1 + 1) _ := hr.mono (by decide)
    refine ⟨_, (C8.pss_cut (ps_if (pt_not (pt_val (pe_callB call_isi (by rfl) TX.isi (by decide +kernel) (pa_cons (pv 1) (pa_cons (pe_bltn (by rfl) TX.str (by decide +kernel) (v := .ty "str") rfl) pa_nil)))))
          (pss_one (ps_raise rfl (takes_of rfl rfl rfl rfl) (pmk_oex TE.ox TE.iC TE.tI GE hr2 TE.b .nil pass0 (by rfl) TE.m (pa_cons pe_int pa_nil)))) pss_nil)
      (pss_cons (ps_if (pt_cmpR op_gt (pe_callB call_len (by rfl) TX.len PySem.boot_len (pa_cons (pv 1) pa_nil)) (pe_glob (v := .int 100) (by rfl) mM ⟨_, rfl⟩) (nomark _))
          (pss_one (ps_raise rfl (takes_of rfl rfl rfl rfl) (pmk_oex TE.ox TE.iC TE.tI GE hr2 TE.b .nil pass0 (by rfl) TE.m (pa_cons (pe_glob (v := .int 100) (by rfl) mM ⟨_, rfl⟩) pa_nil)))) pss_nil)
      (pss_cons (ps_fld (pv 0) (pv 1) rfl)
      (C8.pss_cut (ps_fld (pv 0) (pe_callTy call_tuple_of (by rfl) TX.tuple (by decide +kernel) (pa_cons (pe_meth0 (pe_make MkR GI hr2 (by rfl) mR BI .nil pass0 (pa_cons (pv 1) pa_nil)) TR.cl MD GD hr BD .nil
          (passes_call (E := E) (W := fun cls d _ H => E cls d H) (takes_of rfl rfl rfl rfl) (fun _ _ _ _ h => h))) pa_nil)) rfl)
      (C8.pss_cut (ps_fld (pv 0) (pe_callTy call_tuple_of (by rfl) TX.tuple (by decide +kernel) (pa_cons (pe_lc (own := [("kind", 2), ("what", 3)]) (g := gTup K 2 (gCons (gName 2) (gCons (gName 3) gNil))) rfl scFInit.nd (pi_tup (pe_fld (pv 0) rfl))
          (blkOk_by (own := [("kind", 2), ("what", 3)]) (N := NFI) (sc := defScope sFInit) (by decide +kernel))
          (fun _ _ _ _ _ => pg_tup (by rfl) (pgs_cons (pg_name (i := 2) scFInit.nd rfl (Or.inl rfl)) (pgs_cons (pg_name (i := 3) scFInit.nd rfl (Or.inl rfl)) pgs_nil)))
          (fun _ _ _ _ _ => pts_one (pt_cmpR op_eq (pv 2) pe_str (nomark _))) (fun _ _ _ _ _ => pv 3)) pa_nil)) rfl)
      (pss_one (ps_fld (pv 0) (pe_callTy call_tuple_of (by rfl) TX.tuple (by decide +kernel) (pa_cons (pe_sortedSet rfl (by rfl) TX.sorted (by rfl) TX.set (pe_fld (pv 0) rfl)) pa_nil)) rfl))))))), ?_⟩
    obtain ⟨T0, i0, b0, ty, kd⟩ := Th.kd3 tv
    refine ⟨fun σ' H' => σ' = [some (.ref p), some v, none, none] ∧ H' = H ∧ isS v = true, ?_, ?_⟩
    · refine ⟨_, rfl, v, _, _, _, isS v, rfl, .ty "str", ty, kit_ty kd.s, _, rfl, ?_⟩
      cases hs : isS v with
      | true => exact iteF ⟨rfl, rfl, rfl⟩
      | false =>
        have e0 : fOut v = .bad 0 := by
          cases v <;> first | rfl | cases hs
        rw [e0] at k
        exact iteT ⟨by show 1 ≤ 1000; decide, rz_made (RzF.rz (i := 0) k (fun b o _ e => e) (by rw [hp]; exact fun z => by cases z))⟩
    intro σ1 H1 hm
    obtain ⟨rfl, rfl, hs⟩ := hm
    obtain ⟨x, rfl⟩ : ∃ x, v = .str x := by
      cases v <;> first | exact ⟨_, rfl⟩ | cases hs
    have sl := hsz x rfl
    have k : match (if 100 < x.length then Ans.bad 100 else match outOf x with
        | .bad i => .bad i
        | .code cs => .good (pars cs)) with
      | .bad i => RzF H1 E PE p i
      | .good ps => ∀ (x' : Str) (cs' : List Ins) (H' : Hp), V.str x = .str x' → outOf x' = .code cs' → FmO H' p C x' cs' → (∀ b o, b ≠ p → H1 b = some o → H' b = some o) → Q .non H' := k
    refine ⟨_, rfl, _, _, rfl, ⟨sl, rfl⟩, _, _, rfl, rfl, _, rfl, ?_⟩
    by_cases c1 : 100 < x.length
    · rw [decide_eq_true (by omega : (100 : Int) < (x.length : Int))]
      rw [if_pos c1] at k
      exact iteT ⟨by show 1 ≤ 1000; decide, rz_made (RzF.rz (i := 100) k (fun b o _ e => e) (by rw [hp]; exact fun z => by cases z))⟩
    · rw [decide_eq_false (by omega : ¬ (100 : Int) < (x.length : Int))]
      rw [if_neg c1] at k
      have hx : x.length ≤ 100 := by omega
      refine iteF ⟨_, rfl, _, rfl, p, C, dx, _, rfl, hp, T.cl, T.nT, (by show 0 < 1000; decide), ?_⟩
      have hx1 : (upd H1 p (.ins C dx (putF hT (.str x) []))) p = some (.ins C dx (putF hT (.str x) [])) := upd_same
      have s12 : ∀ b o, b ≠ p → H1 b = some o → (upd H1 p (.ins C dx (putF hT (.str x) []))) b = some o := fun b o nb e => by
        rw [upd_ne nb]
        exact e
      have l1 : ∀ (a : Str) (u : V) (fs : List (Str × V)) (n : Nat), fs.length ≤ n → (putF a u fs).length ≤ n + 1 := fun a u fs n h => Nat.le_trans (length_putF _ _ _) (Nat.succ_le_succ h)
      have hl1 : (putF hT (.str x) []).length ≤ 1 := l1 _ _ _ 0 (Nat.le_refl _)
      generalize (upd H1 p (.ins C dx (putF hT (.str x) []))) = H2 at hx1 s12
      refine ⟨fun σ' H' => σ' = [some (.ref p), some (.str x), none, none] ∧ ∃ tc cs as, outOf x = .code cs ∧ H' p = some (.ins C dx (putF hC (.ref tc) (putF hT (.str x) []))) ∧ H' tc = some (.tup (as.map V.ref)) ∧ InsAll H' as cs ∧ ∀ b o, b ≠ p → H1 b = some o → H' b = some o, ?_, ?_⟩
      · refine ⟨_, rfl, fun r dr hr0 hdr hne => ⟨r, dr, x, rfl, upd_same, fun H3 lc lw R3 hlc hlw k3 => ?_⟩⟩
        have k23 : ∀ b o, H2 b = some o → H3 b = some o := fun b o e => by
          have n1 : b ≠ r := ne_of_none e hr0
          have n2 : b ≠ dr := ne_of_none e hdr
          refine k3 b o n1 ?_
          rw [upd_ne n1, upd_ne n2]
          exact e
        have nlc : ∀ b o, H2 b = some o → b ≠ r ∧ b ≠ lc ∧ b ≠ lw := fun b o e => by
          have n1 : b ≠ r := ne_of_none e hr0
          have n2 : b ≠ dr := ne_of_none e hdr
          have e3 : (upd (upd H2 dr (.own r)) r (.ins CR dr [])) b = some o := by
            rw [upd_ne n1, upd_ne n2]
            exact e
          exact ⟨n1, ne_of_none e3 hlc, ne_of_none e3 hlw⟩
        refine ⟨rfl, r, dr, _, rfl, R3.ob, fR_no (by decide +kernel) (by decide +kernel) (by decide +kernel) (by decide +kernel) _ _ _ _, r, dr, lc, lw, x, rfl, R3, hx, ?_⟩
        cases eo : outOf x with
        | bad i =>
          rw [eo] at k
          have k : RzF H1 E PE p i := k
          intro d' H' hd' kp' e'
          refine k d' H' ?_ (fun b o nb e => ?_) e'
          · cases q : H1 d' with
            | none => rfl
            | some o =>
              by_cases z : d' = p
              · rw [z, k23 p _ hx1] at hd'
                cases hd'
              · rw [k23 d' o (s12 d' o z q)] at hd'
                cases hd'
          · have e2 := s12 b o nb e
            obtain ⟨n1, n2, n3⟩ := nlc b o e2
            exact kp' b o n1 n2 n3 (k23 b o e2)
        | code cs =>
          intro H4 hc4 kp4
          obtain ⟨as, g1, g2⟩ := hc4
          refine ⟨lc, _, rfl, .inl ⟨SqL.of g1, fun tc htc => ?_⟩⟩
          have k24 : ∀ b o, H2 b = some o → (upd H4 tc (.tup (as.map V.ref))) b = some o := fun b o e => by
            obtain ⟨n1, n2, n3⟩ := nlc b o e
            exact same_new htc _ _ (kp4 b o n1 n2 n3 (k23 b o e))
          have hp4 := k24 p _ hx1
          refine ⟨_, rfl, p, C, dx, _, rfl, hp4, T.cl, T.nC, by omega, rfl, tc, cs, as, rfl, upd_same, ?_, ?_, fun b o nb e => ?_⟩
          · have : tc ≠ p := fun z => by
              rw [z, upd_same] at hp4
              cases hp4
            rw [upd_ne this, upd_same]
          · refine g2.imp fun a o e => ?_
            have e5 := same_new (o := .tup (as.map V.ref)) htc _ _ e
            have : a ≠ p := fun z => by
              rw [z, hp4] at e5
              cases e5
            rw [upd_ne this]
            exact e5
          · rw [upd_ne nb]
            exact k24 b o (s12 b o nb e)
      intro σ5 H5 hm5
      obtain ⟨rfl, tc, cs, as, eo, hp5, htc, gi, keep5⟩ := hm5
      have few := few_names hx eo
      rw [eo] at k
      have k : ∀ (x' : Str) (cs' : List Ins) (H' : Hp), V.str x = .str x' → outOf x' = .code cs' → FmO H' p C x' cs' → (∀ b o, b ≠ p → H1 b = some o → H' b = some o) → Q .non H' := k
      have hl2 := l1 hC (.ref tc) _ 1 hl1
      have hk2 : (putF hC (.ref tc) (putF hT (.str x) [])).lookup hC = some (.ref tc) := by rw [lookup_putF, if_pos rfl]
      have hk2T : (putF hC (.ref tc) (putF hT (.str x) [])).lookup hT = some (.str x) := by rw [lookup_putF, if_neg (by decide +kernel), lookup_putF, if_pos rfl]
      have hk2G : ∀ g, g ≠ hT → g ≠ hC → (putF hC (.ref tc) (putF hT (.str x) [])).lookup g = none := fun g n1 n2 => by
        rw [lookup_putF, if_neg n2, lookup_putF, if_neg n1]
        rfl
      generalize putF hC (.ref tc) (putF hT (.str x) []) = F2 at hp5 hl2 hk2 hk2T hk2G
      refine ⟨fun σ' H' => σ' = [some (.ref p), some (.str x), none, none] ∧ ∃ tr, H' p = some (.ins C dx (putF hR (.ref tr) F2)) ∧ H' tr = some (.tup ((pars cs).map V.str)) ∧ ∀ b o, b ≠ p → H5 b = some o → H' b = some o, ?_, ?_⟩
      · refine ⟨_, rfl, p, C, dx, _, _, rfl, hp5, T.cl, T.nC, hk2, tc, rfl, ⟨_, .inl (.inl htc)⟩, fun D hD => ?_⟩
        have pD : p ≠ D := ne_of_none hp5 hD
        refine lc_tup (xs := as.map V.ref) (fun i H' => H' D = some (.lst ((pars (cs.take i)).map V.str)) ∧ ∀ b o, b ≠ D → H5 b = some o → H' b = some o) ?_ ?_ ?_ ?_
        · exact ⟨upd_same, fun b o nb e => by rw [upd_ne nb]; exact e⟩
        · intro i H' _ hP
          exact .inl (.inl (hP.2 _ _ (ne_of_none htc hD) htc))
        · intro i y H' hy hP
          obtain ⟨h1, h2⟩ := hP
          rw [List.getElem?_map] at hy
          obtain ⟨a, ha, rfl⟩ : ∃ a, as[i]? = some a ∧ V.ref a = y := by
            cases q : as[i]? with
            | none =>
              rw [q] at hy
              cases hy
            | some a =>
              rw [q] at hy
              exact ⟨a, rfl, Option.some.inj hy⟩
          obtain ⟨c, hcs, hac⟩ := ins_get gi ha
          have hac' := h2 _ _ (ne_of_none hac hD) hac
          have ep := pars_take hcs
          have lp : ((pars (cs.take i)).map V.str).length < sizeLine := by
            rw [List.length_map]
            have q1 : (pars (cs.take i)).length ≤ (pars cs).length := by
              have := List.take_append_drop i cs
              have q2 : pars cs = pars (cs.take i) ++ pars (cs.drop i) := by
                conv => lhs; rw [← this]
                exact List.filterMap_append ..
              rw [q2, List.length_append]
              omega
            exact Nat.lt_of_le_of_lt (m := 64) (by omega) (by decide)
          cases c with
          | par z =>
            refine ⟨a, _, rfl, .inl (.inl hac'), rfl, _, _, rfl, _, _, rfl, rfl, rfl, _, rfl, rfl, _, rfl, ?_⟩
            rw [show decide (V.str "parameter" = V.str "parameter") = true from decide_eq_true rfl]
            refine iteT ⟨_, rfl, _, h1, lp, ?_, fun b o nb e => ?_⟩
            · rw [upd_same, ep, List.map_append]
              rfl
            · rw [upd_ne nb]
              exact h2 b o nb e
          | int z =>
            refine ⟨a, _, rfl, .inl (.inl hac'), rfl, _, _, rfl, _, _, rfl, rfl, rfl, _, rfl, rfl, _, rfl, ?_⟩
            rw [show decide (V.str "integer" = V.str "parameter") = false by rw [str_dec2]; decide +kernel]
            refine iteF ⟨?_, h2⟩
            rw [ep, show pars [Ins.int z] = [] from rfl, List.append_nil]
            exact h1
          | op z =>
            refine ⟨a, _, rfl, .inl (.inl hac'), rfl, _, _, rfl, _, _, rfl, rfl, rfl, _, rfl, rfl, _, rfl, ?_⟩
            rw [show decide (V.str "operation" = V.str "parameter") = false by rw [str_dec2]; decide +kernel]
            refine iteF ⟨?_, h2⟩
            rw [ep, show pars [Ins.op z] = [] from rfl, List.append_nil]
            exact h1
        · intro H6 hP
          obtain ⟨h1, h2⟩ := hP
          rw [List.length_map, gi.len, List.take_length] at h1
          refine ⟨D, _, rfl, .inl ⟨SqL.of h1, fun tr htr => ?_⟩⟩
          have hp6 := same_new (o := .tup ((pars cs).map V.str)) htr _ _ (h2 p _ pD hp5)
          have ntr : tr ≠ p := fun z => by
            rw [z, upd_same] at hp6
            cases hp6
          refine ⟨_, rfl, p, C, dx, _, rfl, hp6, T.cl, T.nR, by omega, rfl, tr, upd_same, ?_, fun b o nb e => ?_⟩
          · rw [upd_ne ntr, upd_same]
          · rw [upd_ne nb]
            exact same_new htr _ _ (h2 b o (ne_of_none e hD) e)
      intro σ7 H7 hm7
      obtain ⟨rfl, tr, hp7, htr, keep7⟩ := hm7
      have hl3 := l1 hR (.ref tr) _ 2 hl2
      have hk3 : (putF hR (.ref tr) F2).lookup hR = some (.ref tr) := by rw [lookup_putF, if_pos rfl]
      have hk3T : (putF hR (.ref tr) F2).lookup hT = some (.str x) := by rw [lookup_putF, if_neg (by decide +kernel), hk2T]
      have hk3C : (putF hR (.ref tr) F2).lookup hC = some (.ref tc) := by rw [lookup_putF, if_neg (by decide +kernel), hk2]
      have hk3G : ∀ g, g ≠ hT → g ≠ hC → g ≠ hR → (putF hR (.ref tr) F2).lookup g = none := fun g n1 n2 n3 => by rw [lookup_putF, if_neg n3, hk2G g n1 n2]
      generalize putF hR (.ref tr) F2 = F3 at hp7 hl3 hk3 hk3T hk3C hk3G
      refine ⟨_, rfl, p, C, dx, _, _, rfl, hp7, T.cl, T.nR, hk3, tr, pars cs, rfl, .inr (.inl (.inl htr)), few, fun ys q srt hlen hq => ?_⟩
      refine ⟨q, _, rfl, .inl ⟨SqL.of upd_same, fun tn htn => ?_⟩⟩
      have s78 : Same H7 (upd (upd H7 q (.lst (ys.map V.str))) tn (.tup (ys.map V.str))) := (same_new hq).trans (same_new htn)
      have hp8 := s78 p _ hp7
      have ntn : tn ≠ p := fun z => by
        rw [z, upd_same] at hp8
        cases hp8
      refine ⟨_, rfl, p, C, dx, _, rfl, hp8, T.cl, T.nN, by omega, ?_⟩
      have ntp : ∀ b xs, H5 b = some (.tup xs) → b ≠ p := fun b xs e z => by
        rw [z, hp5] at e
        cases e
      have kk : ∀ b xs, H5 b = some (.tup xs) → (upd (upd (upd H7 q (.lst (ys.map V.str))) tn (.tup (ys.map V.str))) p (.ins C dx (putF hN (.ref tn) F3))) b = some (.tup xs) := fun b xs e => by
        rw [upd_ne (ntp b xs e)]
        exact s78 b _ (keep7 b _ (ntp b xs e) e)
      refine k x cs _ rfl eo ⟨dx, _, tc, tr, tn, as, ys, upd_same, ?_, ?_, ?_, by rw [lookup_putF, if_pos rfl], kk tc _ htc, gi.imp fun a o e => kk a o e, ?_, ?_, srt, by omega, fun g n1 n2 n3 n4 => by rw [lookup_putF, if_neg n4, hk3G g n1 n2 n3]⟩ fun b o nb e => ?_
      · rw [lookup_putF, if_neg (by decide +kernel), hk3T]
      · rw [lookup_putF, if_neg (by decide +kernel), hk3C]
      · rw [lookup_putF, if_neg (by decide +kernel), hk3]
      · have : tr ≠ p := fun z => by
          rw [z, hp7] at htr
          cases htr
        rw [upd_ne this]
        exact s78 tr _ htr
      · rw [upd_ne ntn, upd_same]
      · rw [upd_ne nb]
        exact s78 b o (keep7 b o nb (keep5 b o nb e))
end
end Toy
end

section
set_option Elab.async false
set_option linter.all false
set_option maxRecDepth 100000
set_option maxHeartbeats 4000000
/-! A caught error that is kept behind its suite: tracked from there on. -/
namespace Gd
open PySem PySem.Spec PyProof.Rows L2
/-- at a: an error of the class kls, its dict d -/
def KxO (kls : Value) (d : Option Addr) (a : Addr) : HO := .ext fun h => ∃ (oe : Obj) (vs : Array Value), h.get? a = some oe ∧ Zc kls d oe ∧ oe.data = .fields vs
theorem kxo_ok {P : Program} {w : World} {H : Hp} {h : Heap} {a : Addr} {kls : Value} {d : Option Addr} {oe : Obj} {vs : Array Value} (e : h.get? a = some oe) (z : Zc kls d oe) (f : oe.data = .fields vs) : ObjOk P w H h a (KxO kls d a) :=
  ⟨⟨oe, vs, e, z, f⟩, ⟨oe, e⟩, fun _ _ ⟨o, v, q, r⟩ k => ⟨o, v, k o q, r⟩⟩
theorem kxo_at {P : Program} {w : World} {H : Hp} {h : Heap} {a : Addr} {kls : Value} {d : Option Addr} (hok : HOk P w H h) (e : H a = some (KxO kls d a)) : ∃ (oe : Obj) (vs : Array Value), h.get? a = some oe ∧ Zc kls d oe ∧ oe.data = .fields vs := by
  have x : ObjOk P w H h a (.ext fun h => ∃ (oe : Obj) (vs : Array Value), h.get? a = some oe ∧ Zc kls d oe ∧ oe.data = .fields vs) := hok a _ e
  exact x.1
section
variable {X : Cx} {pins : List (Addr × Obj)} {σ : L2.St} {H : Hp} {s : Shared} {a : Addr} {kls : Value} {d : Option Addr} {oe : Obj} {vs : Array Value}
/-- an object that no promise speaks of is told of from here on -/
theorem Inv.track (I : Inv X pins σ H s) (he : s.heap.get? a = some oe) (z : Zc kls d oe) (f : oe.data = .fields vs) (na : H a = none) (n0 : X.s_0.heap.get? a = none) (nL : a ≠ X.env.locals) (np : ∀ p ∈ X.pn ++ pins, p.1 ≠ a) :
    Inv X pins σ (upd H a (KxO kls d a)) s := by
  have ne0 : ∀ b o, X.s_0.heap.get? b = some o → b ≠ a := fun b o e z => by
    rw [z, n0] at e
    cases e
  have neC : ∀ x c, X.env.cells.lookup x = some c → c ≠ a := fun x c e z => by
    obtain ⟨v, o, ho, hd⟩ := I.cell x c e
    rw [z, he] at ho
    cases ho
    rw [f] at hd
    cases hd
  refine ⟨I.ok, I.os, I.bare, ⟨fun b o e n hb hq => I.base.keep b o e n hb hq, fun b o e n hb hq => I.base.slot b o e n hb hq, fun b o e n hq => ?_, fun b o e hq => I.base.there b o e hq, fun b xs e => ?_, fun b o u e => ?_, fun b ps e => ?_⟩, I.loc, fun x c e => I.cell x c e, ?_, fun x c e => ?_, fun p hp => ?_, fun b u e => ?_, I.len⟩
  · rw [upd_ne (ne0 b o e)]
    exact I.base.free b o e n hq
  · have q := I.base.tups b xs e
    rw [upd_ne (ne_of_none q na)]
    exact q
  · have q := I.base.frzs b o u e
    rw [upd_ne (ne_of_none q na)]
    exact q
  · obtain ⟨m, q⟩ := I.base.tbls b ps e
    exact ⟨m, by rw [upd_ne (ne_of_none q na)]; exact q⟩
  · rw [upd_ne (Ne.symm nL)]
    exact I.free
  · rw [upd_ne (neC x c e)]
    exact I.freeC x c e
  · obtain ⟨e, n, ne, nf, dd⟩ := I.pin p hp
    exact ⟨e, by rw [upd_ne (np p hp)]; exact n, ne, nf, dd⟩
  · by_cases hb : b = a
    · subst hb
      rw [upd_same] at e
      cases e
      exact kxo_ok he z f
    · rw [upd_ne hb] at e
      refine (I.hok b u e).stay (fun c v hc q => q) (fun c q => ?_) fun c xs q => ?_
      · rw [upd_ne (ne_of_none q na)]
        exact q
      · rw [upd_ne (ne_of_none q na)]
        exact q
/-- behind the suite its name is gone, the error is told of -/
def DunK (D : Ends) (i : Nat) (a : Addr) (kls : Value) (d : Option Addr) : Ends :=
  ⟨fun τ G => D.nx (τ.set i none) (upd G a (KxO kls d a)), fun _ _ => False, fun _ _ => False, fun _ _ => False⟩
def wKept (K : PySem.W.Frag) (D : Ends) (c : Value) (i : Nat) (ts : Suite) : WX := fun kls d τ G => PySem.W.exmOne K kls c = some true ∧ ∀ a, G a = none → ts a kls d (DunK D i a kls d) (τ.set i (some (.ref a))) G
end
section
variable {X : Cx} {body : List Stmt} {x n : Str} {c : Value} {i : Nat} {ts : Suite} {st : Stmt} {sts : List Stmt} {np hp pos : Pos} {tb : WX → TS}
theorem ps_try_kept (stk : X.stack = X.env :: X.outer) (frm : X.env.frame = some X.env.locals) (hex : X.ex = []) (ndN : X.N.Nodup) (nm : Names X x c) (hi : X.N[i]? = some n) (hk : X.env.kindOf n = some .local)
    (hb : ∀ (W : WX) (pn : List (Addr × Obj)) (xe : Value → Shared → Prop), Takes (X.tr pn xe) W → PassesOwn (model X.prog X.w) X.A X.env xe → PSs (X.tr pn xe) body (tb W))
    (su : ∀ (a : Addr) (oe : Obj) (kls : Value) (d : Option Addr) (pn : List (Addr × Obj)), Zc kls d oe → (∃ fv, oe.data = .fields fv) → PSs (X.suite a ((a, oe) :: pn)) (st :: sts) (ts a kls d)) :
    PS X (.Try body [.ExceptHandler (some (.Name x np)) (some n) (st :: sts) hp] [] [] pos) (fun D τ G => tb (wKept X.K D c i ts) D τ G) := by
  constructor
  intro pins s τ G D I h
  have ok := I.ok
  have afr : X.A.frames = some (X.env :: X.outer) := ok.frames.trans (congrArg some stk)
  let xe' : Value → Shared → Prop := fun e sA => wpAny (model X.prog X.w) X.A (noteFrame e X.env) (fun _ sB => wpAny (model X.prog X.w) X.A (setFlight e none)
    (fun _ sC => wpAny (model X.prog X.w) X.A (handleBy e X.env [.ExceptHandler (some (.Name x np)) (some n) (st :: sts) hp]) (SP X pins D) X.xe sC) X.xe sB) X.xe sA
  have caught : Takes (X.tr (X.pn ++ pins) xe') (wKept X.K D c i ts) := by
    intro u sE xx
    obtain ⟨a, B, sI, pn2, τ2, G2, kls, d, eu, J0, nb, up, sky, na, os, ag, hit, yes⟩ := xx
    subst eu
    have J : Inv X pins τ2 G2 sI := J0.ofTry ok
    have sk : Sky B (X.env :: X.outer) a (Zc kls d) X.env.locals sE.heap := stk ▸ sky
    show wpAny (model X.prog X.w) X.A (noteFrame (.ref a) X.env) _ _ _
    refine Sky.land Zc.steady afr frm sk ?_
    intro h3 fl up3
    have J3 : Inv X pins τ2 G2 { sE with heap := h3 } := J.landed nb fl.1 (up.trans up3) os ag
    obtain ⟨ob, fv, at3, z3, dd3⟩ := fl.there
    have notIn : a ∉ frs (X.env :: X.outer) := by
      intro hm
      obtain ⟨_, o', e', nf⟩ := fl.2.2.1.mem hm
      rw [at3] at e'
      have eo := Option.some.inj e'
      subst eo
      exact nf _ dd3
    have nI : sI.heap.get? a = none := by
      cases q : sI.heap.get? a with
      | none => rfl
      | some o =>
        have z := nb a o q (by
          show a ∉ frs X.stack
          rw [stk]
          exact notIn)
        rw [fl.2.1] at z
        cases z
    have n0 : X.s_0.heap.get? a = none := by
      cases q : X.s_0.heap.get? a with
      | none => rfl
      | some o =>
        obtain ⟨o', z⟩ := J.base.there a o q (by rw [hex]; exact fun z => nomatch z)
        rw [nI] at z
        cases z
    have npn : ∀ p ∈ X.pn ++ pins, p.1 ≠ a := fun p hpp z => by
      have e := (J.pin p hpp).1
      rw [z, nI] at e
      cases e
    have nL : a ≠ X.env.locals := by
      intro z
      exact notIn (List.mem_filterMap.mpr ⟨X.env, List.mem_cons_self, frm.trans (congrArg some z.symm)⟩)
    have nF : a ∉ X.fs := by
      intro hm
      obtain ⟨e, he, q⟩ := List.mem_filterMap.mp hm
      exact notIn (List.mem_filterMap.mpr ⟨e, List.mem_cons_of_mem _ he, q⟩)
    have S3 := J3.suite at3 dd3 na nL nF
    have look : PySem.W.Looks (model X.prog X.w) h3 (typeOf (.ref a)) kls := by
      intro A Q E s k q
      exact wpAny_typeOf_ref (k _ _ at3) (z3.1.symm ▸ q)
    refine wpAny_handleBy_cons (codeAny_handlers_test ?_) (by intro q; cases q)
    have one := PySem.W.exm_one (M := model X.prog X.w) J3.kIn look hit
    have named : ∀ {Q : Value → Shared → Prop} {E : Value → Shared → Prop}, Q c { sE with heap := h3 } →
        wpAny (model X.prog X.w) (X.A.mark (some (.ref a))) (eval (.Name x np) X.env) Q E { sE with heap := h3 } := by
      intro Q E q
      obtain ⟨gl, nd, mm⟩ := nm
      cases mm with
      | inl mm => exact ld_glob (X := X.suite a ((a, ob) :: (X.pn ++ pins))) S3 gl mm q nd
      | inr mm => exact ld_blt (X := X.suite a ((a, ob) :: (X.pn ++ pins))) S3 gl mm.1 mm.2.1 q mm.2.2 nd
    refine named (one.here ?_)
    refine codeAny_handlers_suite_as ?_
    refine HandSPX.lands_againZ fl ?_
    intro h4 fl4 up4
    have J4 : Inv X pins τ2 G2 { sE with heap := h4 } := J.landed nb fl4.1 ((up.trans up3).trans up4) os ag
    obtain ⟨ob4, fv4, at4, z4, dd4⟩ := fl4.there
    have S4 := J4.suite at4 dd4 na nL nF
    refine store_ok (X := X.suite a ((a, ob4) :: (X.pn ++ pins))) (v := .ref a) S4 ndN hi (.inl hk) rfl ?_ (.inr hk)
    intro s5 S5
    have run := (su a ob4 kls d (X.pn ++ pins) z4 ⟨_, dd4⟩).run [] s5 _ G2 _ S5 (yes a na)
    refine wpAny_mono run ?_ (fun _ _ z => False.elim z)
    intro fo s6 hsp
    match fo, hsp with
    | .next, ⟨τ6, G6, S6, q6⟩ =>
      obtain ⟨g1, g2, _⟩ := S6.pin (a, ob4) (List.mem_append_left _ List.mem_cons_self)
      have J6 := Inv.track (S6.unsuite ok) g1 z4 dd4 g2 n0 nL npn
      exact gone_ok J6 ndN hi hk fun s7 J7 => ⟨_, _, J7, q6⟩
    | .brk, ⟨τ6, G6, S6, q6⟩ => exact False.elim q6
    | .cont, ⟨τ6, G6, S6, q6⟩ => exact False.elim q6
    | .ret u, ⟨v6, τ6, G6, S6, r6, q6⟩ => exact False.elim q6
  refine wpAny_Try_except ?_
  have tried := (hb (wKept X.K D c i ts) (X.pn ++ pins) xe' caught PassesOwn.looking).run [] s τ G D (I.toTry _) h
  refine wpAny_mono tried ?_ (fun _ _ z => z)
  intro fo s1 hsp
  match fo, hsp with
  | .next, ⟨τ', G', J', q⟩ => exact wpAny_execs_nil ⟨τ', G', J'.ofTry ok, q⟩
  | .brk, ⟨τ', G', J', q⟩ => exact ⟨τ', G', J'.ofTry ok, q⟩
  | .cont, ⟨τ', G', J', q⟩ => exact ⟨τ', G', J'.ofTry ok, q⟩
  | .ret u, ⟨v, τ', G', J', r, q⟩ => exact ⟨v, τ', G', J'.ofTry ok, r, q⟩
end
/-! ### its field, isinstance of it -/
/-- e.n of such an error -/
def tKx (C : Addr) (n : Str) (te : TE) : TE := fun σ H Q => te σ H fun x H1 => ∃ (a dd : Addr) (fs : List (Str × V)) (v : V), x = .ref a ∧ H1 a = some (KxO (.ref C) (some dd) a) ∧ H1 dd = some (.xd fs) ∧ fs.lookup n = some v ∧ Q v H1
theorem pe_kx {X : Cx} {C : Addr} {e : Expr} {te : TE} {pos : Pos} {n : Str} (T : XfC X.K C) (hno : PySem.W.findIn X.K (.ref C) n = some none)
    (he : PE X e te) (hb : attributeBase e n X.env (eval e X.env) = eval e X.env := by rfl) : PE X (.Attribute e n pos) (tKx C n te) := by
  refine ⟨fun pins s σ H Q I h => ?_⟩
  refine attr_of hb (thn (he.run pins s σ H _ I h) fun u s1 hh => ?_)
  obtain ⟨x, H1, I1, rx, a, dd, fs, v, ex, ea, ed, l, q⟩ := hh
  subst ex
  obtain rfl : u = Value.ref a := rx
  obtain ⟨oe, vs, ha, hz, hd⟩ := kxo_at I1.hok ea
  have hx : ObjOk X.prog X.w H1 s1.heap dd (.xd fs) := I1.hok dd _ ed
  obtain ⟨mA, hns, hr⟩ := hx
  obtain ⟨od, ho, hl⟩ := lookIn_ns hns
  obtain ⟨u, hu, ru⟩ := RelO.some_of (v := v) (o := mA n) (by rw [← l]; exact hr n)
  have inst : PySem.W.InstAt s1.heap a oe C (some od) := ⟨ha, hz.1, by unfold PySem.W.notCls; rw [hd] <;> rfl, by rw [hz.2]; exact ho⟩
  exact HandSPX.exc_get I1.kIn inst T.ga T.gg T.exC (PySem.W.findObj_own T.hdC hno rfl (by rw [hl, hu])) (handed_of ru) ⟨v, H1, I1.tok _, ru, q⟩
/-- isinstance(e, c) of such an error that has a dict -/
theorem call_isK {X : Cx} {D : Addr} (C : ExcC X.K D) : CallR X (.builtin "isinstance") (fun xs H Q => ∃ (a dd : Addr) (fs : List (Str × V)), H a = some (KxO (.ref D) (some dd) a) ∧ H dd = some (.xd fs) ∧ rIsE X.K D a xs H Q) := by
  intro pins s σ H xs us Q I r h
  obtain ⟨a, dd, fs, ea, ed, c, cv, b, rfl, hcv, e, q⟩ := h
  match r with
  | .cons rx (.cons rt .nil) =>
    cases rx
    have ec := hcv _ rt
    subst ec
    obtain ⟨oe, vs, hget, hz, hv⟩ := kxo_at I.hok ea
    obtain ⟨mA, hns, _⟩ := (show ObjOk X.prog X.w H s.heap dd (.xd fs) from I.hok dd _ ed)
    obtain ⟨od, ho, _⟩ := lookIn_ns hns
    have J : ∃ od, PySem.W.InstAt s.heap a oe D od := by
      refine ⟨some od, hget, hz.1, ?_, ?_⟩
      · unfold PySem.W.notCls
        rw [hv] <;> rfl
      · rw [hz.2]
        exact ho
    exact PySem.W.kia_one (kit_exc C) I.kIn J e (fun z => nomatch z) fun tk => ⟨.bl b, H, I.kept (t' := tk) fun _ _ z => z, rfl, q⟩
end Gd
end

section
set_option Elab.async false
set_option linter.all false
set_option maxRecDepth 100000
namespace Toy
open PySem L2 Gd Kt
/-! ### told and due -/
theorem loop_fuel {x : Str} : ∀ (k j : Nat) (wd : Wn) (s : RS), x.length + 1 ≤ k + s.n → x.length + 1 ≤ j + s.n → s.n ≤ x.length → (∀ u ∈ s.ws, OkW u) → rLoop x k wd s = rLoop x j wd s := by
  intro k
  induction k with
  | zero =>
    intro j wd s h1 h2 h3 _
    omega
  | succ k ih =>
    intro j wd s h1 h2 h3 hok
    obtain ⟨j, rfl⟩ : ∃ i, j = i + 1 := ⟨j - 1, by omega⟩
    unfold rLoop
    cases hc : x.cps.toList[s.n]? with
    | none => rfl
    | some c =>
      dsimp only
      cases er : rStep wd x c s with
      | err i => rfl
      | ok s' wd' =>
        dsimp only
        obtain ⟨g1, g2, g3, g4⟩ := step_keep er hc hok
        have sk := skip_le g2
        exact ih j wd' _ (by dsimp only; omega) (by dsimp only; omega) sk.2 g4
section
variable {P : Program} {w : World} {K : PySem.W.Frag} {mg : Str → Option Value} {base : Heap} {f : Addr} {fd : FuncData}
/-! ### told -/
theorem takes_len {X : Cx} {W : WX} (t : Takes X W) : Takes X (fun cls d σ H => σ.length = X.N.length → W cls d σ H) := by
  intro u s' x
  obtain ⟨a, B, sI, pins, σ, H, cls, d, e, I, nb, up, sky, na, os, ag, w⟩ := x
  exact t u s' ⟨a, B, sI, pins, σ, H, cls, d, e, I, nb, up, sky, na, os, ag, w I.len⟩
end
end Toy
end

section
set_option Elab.async false
set_option linter.all false
set_option maxRecDepth 100000
namespace Toy
open PySem L2 Gd Kt
/-! ### trees, their texts, and what a reader makes of them -/
inductive Tr where
  | num (n : Nat)
  | nam (y : Str)
  | neg (t : Tr)
  | bin (s : Str) (a b : Tr)
def post : Tr → List Ins
  | .num n => [.int n]
  | .nam y => [.par y]
  | .neg t => post t ++ [.op "minus"]
  | .bin s a b => post a ++ post b ++ [.op s]
def sp (g : Nat) : List Nat := List.replicate g 32
def NoSp (r : List Nat) : Prop := ∀ c ∈ r.head?, c ≠ 32
def Fol (r : List Nat) : Prop := ∀ c ∈ r.head?, ¬ c ∈ fig.cps.toList ∧ ¬ c ∈ lets.cps.toList
/-- the text at a place -/
def At (x : Str) (n : Nat) (r : List Nat) : Prop := x.cps.toList.drop n = r ∧ n + r.length = x.length
theorem len_list (x : Str) : x.cps.toList.length = x.length := by simp [Str.length]
theorem At.head {x : Str} {n c : Nat} {r : List Nat} (h : At x n (c :: r)) : x.cps.toList[n]? = some c := by
  have e : (x.cps.toList.drop n)[0]? = some c := by rw [h.1]; rfl
  rwa [List.getElem?_drop, Nat.add_zero] at e
theorem At.app {x : Str} {n : Nat} {l r : List Nat} (h : At x n (l ++ r)) : At x (n + l.length) r := by
  refine ⟨?_, ?_⟩
  · rw [← List.drop_drop, h.1, List.drop_left]
  · have := h.2
    rw [List.length_append] at this
    omega
theorem At.next {x : Str} {n c : Nat} {r : List Nat} (h : At x n (c :: r)) : At x (n + 1) r := At.app (l := [c]) h
theorem At.get {x : Str} {n i c : Nat} {r : List Nat} (h : At x n r) (e : r[i]? = some c) : x.cps.toList[n + i]? = some c := by
  rw [← h.1, List.getElem?_drop] at e
  exact e
theorem run_exact : ∀ (l r sg : List Nat) (k : Nat), (∀ c ∈ l, c ∈ sg) → (∀ c ∈ r.head?, ¬ c ∈ sg) → l.length ≤ k → runLen (l ++ r) sg k = l.length
  | [], r, sg, k, _, h2, _ => by
    cases k with
    | zero => cases r <;> rfl
    | succ k =>
      cases r with
      | nil => rfl
      | cons c r =>
        have := h2 c (by simp)
        show (if c ∈ sg then _ else 0) = 0
        rw [if_neg this]
  | c :: l, r, sg, k, h1, h2, h3 => by
    cases k with
    | zero => simp at h3
    | succ k =>
      show (if c ∈ sg then runLen (l ++ r) sg k + 1 else 0) = _
      rw [if_pos (h1 c (by simp)), run_exact l r sg k (fun d hd => h1 d (List.mem_cons_of_mem _ hd)) h2 (by simpa using h3)]
      rfl
theorem sp_len (g : Nat) : (sp g).length = g := List.length_replicate
theorem skip_at {x : Str} {n g : Nat} {r : List Nat} (h : At x n (sp g ++ r)) (hg : g ≤ 100) (hr : NoSp r) : skip x n = n + g := by
  unfold skip
  rw [h.1, run_exact (sp g) r _ 100 (fun c hc => ?_) (fun c hc z => ?_) (by rw [sp_len]; exact hg), sp_len]
  · rw [(List.mem_replicate.mp hc).2]
    decide +kernel
  · have e : c = 32 := by
      have : c ∈ ((" " : Str).cps.toList) := z
      have e2 : (" " : Str).cps.toList = [32] := by decide +kernel
      rw [e2] at this
      simpa using this
    exact hr c hc e
/-! a reader's way -/
def Go (x : Str) (wd : Wn) (s : RS) (wd' : Wn) (s' : RS) : Prop := ∃ j, ∀ k, rLoop x (k + j) wd s = rLoop x k wd' s'
theorem Go.refl {x : Str} {wd : Wn} {s : RS} : Go x wd s wd s := ⟨0, fun k => rfl⟩
theorem Go.trans {x : Str} {a b c : Wn} {s t u : RS} (h : Go x a s b t) (h2 : Go x b t c u) : Go x a s c u := by
  obtain ⟨j, e⟩ := h
  obtain ⟨i, e2⟩ := h2
  exact ⟨i + j, fun k => by rw [← Nat.add_assoc, e, e2]⟩
theorem Go.step {x : Str} {wd wd' : Wn} {s s' : RS} {c g : Nat} {r : List Nat} (hc : x.cps.toList[s.n]? = some c) (e : rStep wd x c s = .ok s' wd') (h : At x s'.n (sp g ++ r)) (hg : g ≤ 100) (hr : NoSp r) :
    Go x wd s wd' ⟨s'.n + g, s'.cs, s'.ws⟩ := by
  refine ⟨1, fun k => ?_⟩
  show rLoop x (k + 1) wd s = _
  conv => lhs; unfold rLoop
  rw [hc]
  dsimp only
  rw [e]
  dsimp only
  rw [skip_at h hg hr]
theorem finL_stop {lv : Int} {ws : List Str} (h : ∀ w ∈ ws.head?, lev w < lv) (cs : List Ins) : finL lv cs ws = (cs, ws) := by
  cases ws with
  | nil => rfl
  | cons w ws =>
    unfold finL
    have := h w (by simp)
    rw [if_neg (by omega)]
theorem finL_take {lv : Int} {w : Str} (h : lv ≤ lev w) (cs : List Ins) (ws : List Str) : finL lv cs (w :: ws) = finL lv (cs ++ [.op w]) ws := by
  conv => lhs; unfold finL
  rw [if_pos h]
def Ctx (k : Nat) (ws : List Str) : Prop := k < 2 → ∀ w ∈ ws.head?, lev w < (k : Int) + 1
theorem Ctx.up {j k : Nat} {ws : List Str} (h : Ctx j ws) (hj : j ≤ k) : Ctx k ws := fun h2 w hw => by
  have := h (by omega) w hw
  omega
def Lv (k : Nat) : Int := if k = 0 then 1 else 2
/-- texts of a tree that may stand at a level -/
inductive Pr : Nat → Tr → List Nat → Prop
  | num (n : Nat) (ds : List Nat) (hd : NumText.AllDigits ds) (hv : NumText.digitsVal ds = n) (h0 : ds = [48] ∨ ∃ c t, ds = c :: t ∧ c ≠ 48) (hl : ds.length ≤ 31) : Pr 2 (.num n) ds
  | nam (y : Str) (hy : ∀ c ∈ y.cps.toList, c ∈ lets.cps.toList) (h1 : 1 ≤ y.length) (h2 : y.length ≤ 8) (h3 : ¬ y = "min") (h4 : ¬ y = "max") (h5 : ¬ y = "self") : Pr 2 (.nam y) y.cps.toList
  | neg {t : Tr} {l : List Nat} (g : Nat) (hg : g ≤ 2) (h : Pr 2 t l) : Pr 2 (.neg t) (45 :: (sp g ++ l))
  | sum {a b : Tr} {l m : List Nat} (c g1 g2 : Nat) (hc : c = 43 ∨ c = 45) (h1 : g1 ≤ 2) (h2 : g2 ≤ 2) (ha : Pr 0 a l) (hb : Pr 1 b m) : Pr 0 (.bin (sgn c) a b) (l ++ (sp g1 ++ (c :: (sp g2 ++ m))))
  | mul {a b : Tr} {l m : List Nat} (g1 g2 : Nat) (h1 : g1 ≤ 2) (h2 : g2 ≤ 2) (ha : Pr 1 a l) (hb : Pr 2 b m) : Pr 1 (.bin "*" a b) (l ++ (sp g1 ++ (42 :: (sp g2 ++ m))))
  | div {a b : Tr} {l m : List Nat} (g1 g2 : Nat) (h1 : g1 ≤ 2) (h2 : g2 ≤ 2) (ha : Pr 1 a l) (hb : Pr 2 b m) : Pr 1 (.bin "//" a b) (l ++ (sp g1 ++ (47 :: 47 :: (sp g2 ++ m))))
  | two {a b : Tr} {l m : List Nat} (w : Str) (g g1 g2 g3 g4 : Nat) (hw : w = "min" ∨ w = "max") (h : g ≤ 2) (h1 : g1 ≤ 2) (h2 : g2 ≤ 2) (h3 : g3 ≤ 2) (h4 : g4 ≤ 2) (ha : Pr 0 a l) (hb : Pr 0 b m) :
      Pr 2 (.bin w a b) (w.cps.toList ++ (sp g ++ (40 :: (sp g1 ++ (l ++ (sp g2 ++ (44 :: (sp g3 ++ (m ++ (sp g4 ++ [41]))))))))))
  | brk {k : Nat} {t : Tr} {l : List Nat} (g1 g2 : Nat) (h1 : g1 ≤ 2) (h2 : g2 ≤ 2) (h : Pr k t l) : Pr 2 t (40 :: (sp g1 ++ (l ++ (sp g2 ++ [41]))))
  | weak {j k : Nat} {t : Tr} {l : List Nat} (hj : j ≤ k) (h : Pr k t l) : Pr j t l
theorem dig_mem {c : Nat} (h : 48 ≤ c ∧ c ≤ 57) : c ∈ fig.cps.toList := by
  have e : fig.cps.toList = [48, 49, 50, 51, 52, 53, 54, 55, 56, 57] := by decide +kernel
  rw [e]
  simp
  omega
theorem Pr.head {k : Nat} {t : Tr} {l : List Nat} (h : Pr k t l) : ∃ c r, l = c :: r ∧ c ≠ 32 := by
  induction h with
  | num n ds hd hv h0 hl =>
    rcases h0 with rfl | ⟨c, t, rfl, _⟩
    · exact ⟨48, [], rfl, by decide⟩
    · exact ⟨c, t, rfl, by have := hd.head; omega⟩
  | nam y hy h1 h2 h3 h4 h5 =>
    have e := len_list y
    match hz : y.cps.toList, hy, e with
    | [], _, e => simp at e; omega
    | c :: r, hy, _ => exact ⟨c, r, rfl, by have := lets_sign (hy c (by simp)); omega⟩
  | neg g hg h ih => exact ⟨_, _, rfl, by decide⟩
  | sum c g1 g2 hc h1 h2 ha hb iha ihb =>
    obtain ⟨c, r, rfl, z⟩ := iha
    exact ⟨c, _, rfl, z⟩
  | mul g1 g2 h1 h2 ha hb iha ihb =>
    obtain ⟨c, r, rfl, z⟩ := iha
    exact ⟨c, _, rfl, z⟩
  | div g1 g2 h1 h2 ha hb iha ihb =>
    obtain ⟨c, r, rfl, z⟩ := iha
    exact ⟨c, _, rfl, z⟩
  | two w g g1 g2 g3 g4 hw h h1 h2 h3 h4 ha hb iha ihb =>
    rcases hw with rfl | rfl
    · exact ⟨109, _, rfl, by decide⟩
    · exact ⟨109, _, rfl, by decide⟩
  | brk g1 g2 h1 h2 h ih => exact ⟨_, _, rfl, by decide⟩
  | weak hj h ih => exact ih
theorem Pr.nosp {k : Nat} {t : Tr} {l r : List Nat} (h : Pr k t l) : NoSp (l ++ r) := by
  obtain ⟨c, m, rfl, z⟩ := h.head
  intro d hd
  have : d = c := by simpa using hd.symm
  rw [this]
  exact z
end Toy
end

section
set_option Elab.async false
set_option linter.all false
set_option maxRecDepth 100000
namespace Toy
open PySem L2 Gd Kt
/-! ### one step each -/
theorem At.gap {x : Str} {n g : Nat} {r : List Nat} (h : At x n (sp g ++ r)) : At x (n + g) r := by
  have := h.app
  rwa [sp_len] at this
theorem go_neg {x : Str} {n g : Nat} {r : List Nat} {cs : List Ins} {ws : List Str} (h : At x n (45 :: (sp g ++ r))) (hg : g ≤ 100) (hr : NoSp r) : Go x .opd ⟨n, cs, ws⟩ .opd ⟨n + 1 + g, cs, "minus" :: ws⟩ :=
  Go.step (s := ⟨n, cs, ws⟩) (s' := ⟨n + 1, cs, "minus" :: ws⟩) h.head rfl h.next hg hr
theorem go_par {x : Str} {n g : Nat} {r : List Nat} {cs : List Ins} {ws : List Str} (h : At x n (40 :: (sp g ++ r))) (hg : g ≤ 100) (hr : NoSp r) : Go x .opd ⟨n, cs, ws⟩ .opd ⟨n + 1 + g, cs, "(" :: ws⟩ :=
  Go.step (s := ⟨n, cs, ws⟩) (s' := ⟨n + 1, cs, "(" :: ws⟩) h.head rfl h.next hg hr
theorem go_brk {x : Str} {n g : Nat} {r : List Nat} {cs : List Ins} {ws : List Str} (h : At x n (40 :: (sp g ++ r))) (hg : g ≤ 100) (hr : NoSp r) : Go x .brk ⟨n, cs, ws⟩ .opd ⟨n + 1 + g, cs, ws⟩ :=
  Go.step (s := ⟨n, cs, ws⟩) (s' := ⟨n + 1, cs, ws⟩) h.head (if_pos h.head) h.next hg hr
/-- what stands behind a text: no figure, no letter -/
theorem fol_gap {g : Nat} {r : List Nat} (h : Fol r) : Fol (sp g ++ r) := by
  cases g with
  | zero => exact h
  | succ g =>
    intro c hc
    have e : c = 32 := by simpa [sp, List.replicate_succ] using hc.symm
    subst e
    exact ⟨by decide +kernel, by decide +kernel⟩
theorem cut_text {x : Str} {n : Nat} {y r : List Nat} (h : At x n (y ++ r)) : (cutS x (some (n : Int)) (some ((n + y.length : Nat) : Int))).cps.toList = y := by
  have l := h.2
  rw [List.length_append] at l
  have e1 : HT.sIx x.length 0 (some (n : Int)) = n := by
    rw [HT.sIx_nat]
    omega
  have e2 : HT.sIx x.length x.length (some ((n + y.length : Nat) : Int)) = n + y.length := by
    rw [HT.sIx_nat]
    omega
  unfold cutS
  rw [e1, e2, h.1, Nat.add_sub_cancel_left]
  show (List.take y.length (y ++ r)).toArray.toList = y
  rw [List.take_left]
theorem str_list {x y : Str} (h : x.cps.toList = y.cps.toList) : x = y := by
  cases x; cases y
  congr 1
  exact Array.toList_inj.mp h
theorem go_num {x : Str} {n v g : Nat} {ds r : List Nat} {cs : List Ins} {ws : List Str} (hd : NumText.AllDigits ds) (hv : NumText.digitsVal ds = v) (h0 : ds = [48] ∨ ∃ c t, ds = c :: t ∧ c ≠ 48) (hl : ds.length ≤ 31)
    (h : At x n (ds ++ (sp g ++ r))) (hg : g ≤ 100) (hr : NoSp r) (hf : Fol r) : Go x .opd ⟨n, cs, ws⟩ .opr ⟨n + ds.length + g, cs ++ [.int v], ws⟩ := by
  have hf2 := fol_gap (g := g) hf
  obtain ⟨c, t, rfl⟩ : ∃ c t, ds = c :: t := by
    rcases h0 with rfl | ⟨c, t, rfl, _⟩
    · exact ⟨_, _, rfl⟩
    · exact ⟨_, _, rfl⟩
  have hc := hd.head
  have e : opdD x n c = n + (c :: t).length := by
    unfold opdD
    by_cases c0 : c = 48
    · rw [if_pos c0]
      rcases h0 with z | ⟨c', t', z, nz⟩
      · rw [z]; rfl
      · injection z with z1 z2
        exact absurd (z1.symm.trans c0) nz
    · rw [if_neg c0, h.1, run_exact (c :: t) _ _ 31 (fun d hd' => dig_mem (hd d hd')) (fun d hd' => (hf2 d hd').1) hl]
  have st : rStep .opd x c ⟨n, cs, ws⟩ = .ok ⟨n + (c :: t).length, cs ++ [.int v], ws⟩ .opr := by
    show rOpd x c ⟨n, cs, ws⟩ = _
    unfold rOpd
    rw [if_neg (by omega), if_pos (dig_mem hc)]
    unfold numOf
    dsimp only
    rw [e, cut_text h, hv]
  exact Go.step (s := ⟨n, cs, ws⟩) (s' := ⟨n + (c :: t).length, cs ++ [.int v], ws⟩) (At.head h) st h.app hg hr
theorem word_at {x y : Str} {n : Nat} {r : List Nat} (hy : ∀ c ∈ y.cps.toList, c ∈ lets.cps.toList) (h2 : y.length ≤ 8) (h : At x n (y.cps.toList ++ r)) (hf : ∀ c ∈ r.head?, ¬ c ∈ lets.cps.toList) : opdW x n = n + y.length ∧ word x n = y := by
  have e : opdW x n = n + y.length := by
    unfold opdW
    rw [h.1, run_exact _ _ _ 8 hy hf (by rw [len_list]; exact h2), len_list]
  refine ⟨e, ?_⟩
  unfold word
  rw [e, ← len_list y]
  have q := cut_text h
  generalize cutS x (some (n : Int)) (some ((n + y.cps.toList.length : Nat) : Int)) = u at q ⊢
  exact str_list q
theorem go_nam {x y : Str} {n g : Nat} {r : List Nat} {cs : List Ins} {ws : List Str} (hy : ∀ c ∈ y.cps.toList, c ∈ lets.cps.toList) (h1 : 1 ≤ y.length) (h2 : y.length ≤ 8) (h3 : ¬ y = "min") (h4 : ¬ y = "max") (h5 : ¬ y = "self")
    (h : At x n (y.cps.toList ++ (sp g ++ r))) (hg : g ≤ 100) (hr : NoSp r) (hf : Fol r) : Go x .opd ⟨n, cs, ws⟩ .opr ⟨n + y.length + g, cs ++ [.par y], ws⟩ := by
  have hf2 := fol_gap (g := g) hf
  obtain ⟨e1, e2⟩ := word_at hy h2 h (fun c hc => (hf2 c hc).2)
  have le := len_list y
  obtain ⟨c, t, hz⟩ : ∃ c t, y.cps.toList = c :: t := by
    match hz : y.cps.toList with
    | [] => rw [hz] at le; simp at le; omega
    | c :: t => exact ⟨c, t, rfl⟩
  have hc := lets_sign (hy c (by rw [hz]; simp))
  have st : rStep .opd x c ⟨n, cs, ws⟩ = .ok ⟨n + y.length, cs ++ [.par y], ws⟩ .opr := by
    show rOpd x c ⟨n, cs, ws⟩ = _
    unfold rOpd
    rw [if_neg (by omega), if_neg (fun z => by have := fig_sign z; omega), if_pos (hy c (by rw [hz]; simp))]
    unfold rWord
    dsimp only
    rw [e1, e2, if_neg (fun z => z.elim h3 h4), if_neg h5]
  have hh : At x n (c :: (t ++ (sp g ++ r))) := by rw [← List.cons_append, ← hz]; exact h
  have nx := h.app
  rw [le] at nx
  exact Go.step (s := ⟨n, cs, ws⟩) (s' := ⟨n + y.length, cs ++ [.par y], ws⟩) hh.head st nx hg hr
theorem go_word {x w : Str} {n g : Nat} {r : List Nat} {cs : List Ins} {ws : List Str} (hw : w = "min" ∨ w = "max") (h : At x n (w.cps.toList ++ (sp g ++ r))) (hg : g ≤ 100) (hr : NoSp r) (hf : Fol r) : Go x .opd ⟨n, cs, ws⟩ .brk ⟨n + 3 + g, cs, w :: ws⟩ := by
  have hf2 := fol_gap (g := g) hf
  have hl : w.cps.toList.length = 3 ∧ w.length = 3 ∧ (∀ c ∈ w.cps.toList, c ∈ lets.cps.toList) ∧ ∃ t, w.cps.toList = 109 :: t := by
    rcases hw with rfl | rfl
    · exact ⟨by decide +kernel, by decide +kernel, by decide +kernel, [105, 110], by decide +kernel⟩
    · exact ⟨by decide +kernel, by decide +kernel, by decide +kernel, [97, 120], by decide +kernel⟩
  obtain ⟨l1, l2, hy, t, hz⟩ := hl
  obtain ⟨e1, e2⟩ := word_at hy (by omega) h (fun c hc => (hf2 c hc).2)
  have st : rStep .opd x 109 ⟨n, cs, ws⟩ = .ok ⟨n + 3, cs, w :: ws⟩ .brk := by
    show rOpd x 109 ⟨n, cs, ws⟩ = _
    unfold rOpd
    rw [if_neg (by decide), if_neg (by decide +kernel), if_pos (by decide +kernel)]
    unfold rWord
    dsimp only
    rw [e1, e2, l2, if_pos hw]
  have hh : At x n (109 :: (t ++ (sp g ++ r))) := by rw [← List.cons_append, ← hz]; exact h
  have nx := h.app
  rw [l1] at nx
  exact Go.step (s := ⟨n, cs, ws⟩) (s' := ⟨n + 3, cs, w :: ws⟩) hh.head st nx hg hr
theorem go_op1 {x : Str} {n c g : Nat} {r : List Nat} {cs : List Ins} {ws : List Str} (lv : Int) (hc : c = 43 ∧ lv = 1 ∨ c = 45 ∧ lv = 1 ∨ c = 42 ∧ lv = 2) (h : At x n (c :: (sp g ++ r))) (hg : g ≤ 100) (hr : NoSp r) :
    Go x .opr ⟨n, cs, ws⟩ .opd ⟨n + 1 + g, (finL lv cs ws).1, sgn c :: (finL lv cs ws).2⟩ := by
  have st : rStep .opr x c ⟨n, cs, ws⟩ = .ok ⟨n + 1, (finL lv cs ws).1, sgn c :: (finL lv cs ws).2⟩ .opd := by
    show rOp x c ⟨n, cs, ws⟩ = _
    unfold rOp
    rw [if_neg (by omega)]
    rcases hc with ⟨rfl, rfl⟩ | ⟨rfl, rfl⟩ | ⟨rfl, rfl⟩
    · rw [show levT.lookup (sgn 43) = some 1 by decide +kernel]; rfl
    · rw [show levT.lookup (sgn 45) = some 1 by decide +kernel]; rfl
    · rw [show levT.lookup (sgn 42) = some 2 by decide +kernel]; rfl
  exact Go.step (s := ⟨n, cs, ws⟩) (s' := ⟨n + 1, (finL lv cs ws).1, sgn c :: (finL lv cs ws).2⟩) h.head st h.next hg hr
theorem go_div {x : Str} {n g : Nat} {r : List Nat} {cs : List Ins} {ws : List Str} (h : At x n (47 :: 47 :: (sp g ++ r))) (hg : g ≤ 100) (hr : NoSp r) :
    Go x .opr ⟨n, cs, ws⟩ .opd ⟨n + 2 + g, (finL 2 cs ws).1, "//" :: (finL 2 cs ws).2⟩ := by
  have st : rStep .opr x 47 ⟨n, cs, ws⟩ = .ok ⟨n + 2, (finL 2 cs ws).1, "//" :: (finL 2 cs ws).2⟩ .opd := by
    show rOp x 47 ⟨n, cs, ws⟩ = _
    unfold rOp
    rw [if_neg (fun z => z.2 h.next.head), show levT.lookup (sgn 47) = some 2 by decide +kernel]
    rfl
  exact Go.step (s := ⟨n, cs, ws⟩) (s' := ⟨n + 2, (finL 2 cs ws).1, "//" :: (finL 2 cs ws).2⟩) h.head st h.next.next hg hr
theorem go_comma {x w : Str} {n g : Nat} {r : List Nat} {cs cs' : List Ins} {ws ws' : List Str} (hw : w = "min" ∨ w = "max") (e : finL 1 cs ws = (cs', w :: ws')) (h : At x n (44 :: (sp g ++ r))) (hg : g ≤ 100) (hr : NoSp r) :
    Go x .opr ⟨n, cs, ws⟩ .opd ⟨n + 1 + g, cs', (w ++ ",") :: ws'⟩ := by
  have st : rStep .opr x 44 ⟨n, cs, ws⟩ = .ok ⟨n + 1, cs', (w ++ ",") :: ws'⟩ .opd := by
    show rOp x 44 ⟨n, cs, ws⟩ = _
    unfold rOp
    rw [if_neg (fun z => absurd z.1 (by decide)), show levT.lookup (sgn 44) = none by decide +kernel]
    dsimp only
    rw [if_pos rfl]
    unfold finS
    rw [e]
    show (if w = "min" ∨ w = "max" then _ else _) = _
    rw [if_pos hw]
  exact Go.step (s := ⟨n, cs, ws⟩) (s' := ⟨n + 1, cs', (w ++ ",") :: ws'⟩) h.head st h.next hg hr
theorem go_end {x w : Str} {n g : Nat} {r : List Nat} {cs cs' : List Ins} {ws ws' : List Str} (hw : ¬ (w = "min" ∨ w = "max")) (e : finL 1 cs ws = (cs', w :: ws')) (h : At x n (41 :: (sp g ++ r))) (hg : g ≤ 100) (hr : NoSp r) :
    Go x .opr ⟨n, cs, ws⟩ .opr ⟨n + 1 + g, (if w = "(" then cs' else cs' ++ [.op (cutS w none (some 3))]), ws'⟩ := by
  have st : rStep .opr x 41 ⟨n, cs, ws⟩ = .ok ⟨n + 1, (if w = "(" then cs' else cs' ++ [.op (cutS w none (some 3))]), ws'⟩ .opr := by
    show rOp x 41 ⟨n, cs, ws⟩ = _
    unfold rOp
    rw [if_neg (fun z => absurd z.1 (by decide)), show levT.lookup (sgn 41) = none by decide +kernel]
    dsimp only
    rw [if_neg (by decide), if_pos rfl]
    unfold finS
    rw [e]
    show (if w = "min" ∨ w = "max" then _ else _) = _
    rw [if_neg hw]
  exact Go.step (s := ⟨n, cs, ws⟩) (s' := ⟨n + 1, (if w = "(" then cs' else cs' ++ [.op (cutS w none (some 3))]), ws'⟩) h.head st h.next hg hr
end Toy
end

section
set_option Elab.async false
set_option linter.all false
set_option maxRecDepth 100000
namespace Toy
open PySem L2 Gd Kt
/-! ### a text is read to the code of its tree -/
theorem nosp_cons {c : Nat} {r : List Nat} (h : c ≠ 32) : NoSp (c :: r) := fun d hd => by
  have : d = c := by simpa using hd.symm
  rw [this]
  exact h
theorem fol_cons {c : Nat} {r : List Nat} (h : c = 43 ∨ c = 45 ∨ c = 42 ∨ c = 47 ∨ c = 44 ∨ c = 41 ∨ c = 40) : Fol (c :: r) := fun d hd => by
  have : d = c := by simpa using hd.symm
  rw [this]
  rcases h with rfl | rfl | rfl | rfl | rfl | rfl | rfl <;> exact ⟨by decide +kernel, by decide +kernel⟩
theorem lv_le (k : Nat) : 1 ≤ Lv k ∧ Lv k ≤ 2 := by
  unfold Lv
  split <;> omega
theorem read_ok {k : Nat} {t : Tr} {l : List Nat} (h : Pr k t l) : ∀ {x : Str} {n g : Nat} {r : List Nat} {cs : List Ins} {ws : List Str}, At x n (l ++ (sp g ++ r)) → g ≤ 100 → NoSp r → Fol r → Ctx k ws →
    ∃ cs' ws', Go x .opd ⟨n, cs, ws⟩ .opr ⟨n + l.length + g, cs', ws'⟩ ∧ ∀ lv, 1 ≤ lv → lv ≤ Lv k → finL lv cs' ws' = finL lv (cs ++ post t) ws := by
  induction h with
  | num v ds hd hv h0 hl =>
    intro x n g r cs ws ha hg hr hf _
    exact ⟨_, _, go_num hd hv h0 hl ha hg hr hf, fun _ _ _ => rfl⟩
  | nam y hy h1 h2 h3 h4 h5 =>
    intro x n g r cs ws ha hg hr hf _
    refine ⟨_, _, ?_, fun _ _ _ => rfl⟩
    rw [len_list]
    exact go_nam hy h1 h2 h3 h4 h5 ha hg hr hf
  | @neg t l g1 hg1 h ih =>
    intro x n g r cs ws ha hg hr hf _
    replace hg1 := Nat.le_trans hg1 (by decide : 2 ≤ 100)
    have ha : At x n (45 :: (sp g1 ++ (l ++ (sp g ++ r)))) := by simpa [List.append_assoc] using ha
    have s1 := go_neg (cs := cs) (ws := ws) ha hg1 h.nosp
    obtain ⟨cs', ws', s2, e⟩ := ih (cs := cs) (ws := "minus" :: ws) ha.next.gap hg hr hf (fun z => absurd z (by decide))
    refine ⟨cs', ws', ?_, fun lv h1 h2 => ?_⟩
    · have := s1.trans s2
      rwa [show n + 1 + g1 + l.length + g = n + (45 :: (sp g1 ++ l)).length + g by simp [sp_len]; omega] at this
    · have h2' : lv ≤ 2 := h2
      rw [e lv h1 h2, finL_take (show lv ≤ lev "minus" from Int.le_trans h2' (by decide +kernel)), List.append_assoc]
      rfl
  | @sum a b l m c g1 g2 hc h1 h2 hA hB ihA ihB =>
    intro x n g r cs ws ha hg hr hf ctx
    replace h1 := Nat.le_trans h1 (by decide : 2 ≤ 100)
    replace h2 := Nat.le_trans h2 (by decide : 2 ≤ 100)
    have ha : At x n (l ++ (sp g1 ++ (c :: (sp g2 ++ (m ++ (sp g ++ r)))))) := by simpa [List.append_assoc] using ha
    have c32 : c ≠ 32 := by omega
    obtain ⟨cs1, ws1, s1, e1⟩ := ihA (cs := cs) (ws := ws) ha h1 (nosp_cons c32) (fol_cons (by omega)) ctx
    have e1 := (e1 1 (by decide) (by decide)).trans (finL_stop (fun w hw => by have := ctx (by decide) w hw; omega) _)
    have at1 := ha.app.gap
    have s2 := go_op1 (cs := cs1) (ws := ws1) 1 (by omega) at1 h2 hB.nosp
    rw [e1] at s2
    have lw : lev (sgn c) = 1 := by rcases hc with rfl | rfl <;> decide +kernel
    obtain ⟨cs2, ws2, s3, e2⟩ := ihB (cs := cs ++ post a) (ws := sgn c :: ws) at1.next.gap hg hr hf (fun _ w hw => by
      have : w = sgn c := by simpa using hw.symm
      rw [this, lw]
      decide)
    refine ⟨cs2, ws2, ?_, fun lv h1 h2 => ?_⟩
    · have := (s1.trans s2).trans s3
      rwa [show n + l.length + g1 + 1 + g2 + m.length + g = n + (l ++ (sp g1 ++ (c :: (sp g2 ++ m)))).length + g by simp [sp_len]; omega] at this
    · have h2' : lv ≤ 1 := h2
      rw [e2 lv h1 (by show lv ≤ 2; omega), finL_take (by rw [lw]; exact h2')]
      simp only [post, List.append_assoc]
  | @mul a b l m g1 g2 h1 h2 hA hB ihA ihB =>
    intro x n g r cs ws ha hg hr hf ctx
    replace h1 := Nat.le_trans h1 (by decide : 2 ≤ 100)
    replace h2 := Nat.le_trans h2 (by decide : 2 ≤ 100)
    have ha : At x n (l ++ (sp g1 ++ (42 :: (sp g2 ++ (m ++ (sp g ++ r)))))) := by simpa [List.append_assoc] using ha
    obtain ⟨cs1, ws1, s1, e1⟩ := ihA (cs := cs) (ws := ws) ha h1 (nosp_cons (by decide)) (fol_cons (by omega)) ctx
    have e1 := (e1 2 (by decide) (by decide)).trans (finL_stop (fun w hw => by have := ctx (by decide) w hw; omega) _)
    have at1 := ha.app.gap
    have s2 := go_op1 (cs := cs1) (ws := ws1) 2 (by omega) at1 h2 hB.nosp
    rw [e1, show sgn 42 = "*" by decide +kernel] at s2
    obtain ⟨cs2, ws2, s3, e2⟩ := ihB (cs := cs ++ post a) (ws := "*" :: ws) at1.next.gap hg hr hf (fun z => absurd z (by decide))
    refine ⟨cs2, ws2, ?_, fun lv h1 h2 => ?_⟩
    · have := (s1.trans s2).trans s3
      rwa [show n + l.length + g1 + 1 + g2 + m.length + g = n + (l ++ (sp g1 ++ (42 :: (sp g2 ++ m)))).length + g by simp [sp_len]; omega] at this
    · have h2' : lv ≤ 2 := h2
      rw [e2 lv h1 h2', finL_take (show lv ≤ lev "*" from Int.le_trans h2' (by decide +kernel))]
      simp only [post, List.append_assoc]
  | @div a b l m g1 g2 h1 h2 hA hB ihA ihB =>
    intro x n g r cs ws ha hg hr hf ctx
    replace h1 := Nat.le_trans h1 (by decide : 2 ≤ 100)
    replace h2 := Nat.le_trans h2 (by decide : 2 ≤ 100)
    have ha : At x n (l ++ (sp g1 ++ (47 :: 47 :: (sp g2 ++ (m ++ (sp g ++ r)))))) := by simpa [List.append_assoc] using ha
    obtain ⟨cs1, ws1, s1, e1⟩ := ihA (cs := cs) (ws := ws) ha h1 (nosp_cons (by decide)) (fol_cons (by omega)) ctx
    have e1 := (e1 2 (by decide) (by decide)).trans (finL_stop (fun w hw => by have := ctx (by decide) w hw; omega) _)
    have at1 := ha.app.gap
    have s2 := go_div (cs := cs1) (ws := ws1) at1 h2 hB.nosp
    rw [e1] at s2
    obtain ⟨cs2, ws2, s3, e2⟩ := ihB (cs := cs ++ post a) (ws := "//" :: ws) at1.next.next.gap hg hr hf (fun z => absurd z (by decide))
    refine ⟨cs2, ws2, ?_, fun lv h1 h2 => ?_⟩
    · have := (s1.trans s2).trans s3
      rwa [show n + l.length + g1 + 2 + g2 + m.length + g = n + (l ++ (sp g1 ++ (47 :: 47 :: (sp g2 ++ m)))).length + g by simp [sp_len]; omega] at this
    · have h2' : lv ≤ 2 := h2
      rw [e2 lv h1 h2', finL_take (show lv ≤ lev "//" from Int.le_trans h2' (by decide +kernel))]
      simp only [post, List.append_assoc]
  | @two a b l m w g0 g1 g2 g3 g4 hw h0 h1 h2 h3 h4 hA hB ihA ihB =>
    intro x n g r cs ws ha hg hr hf ctx
    replace h0 := Nat.le_trans h0 (by decide : 2 ≤ 100)
    replace h1 := Nat.le_trans h1 (by decide : 2 ≤ 100)
    replace h2 := Nat.le_trans h2 (by decide : 2 ≤ 100)
    replace h3 := Nat.le_trans h3 (by decide : 2 ≤ 100)
    replace h4 := Nat.le_trans h4 (by decide : 2 ≤ 100)
    have hw' : ¬ ((w ++ ",") = "min" ∨ (w ++ ",") = "max") ∧ ¬ (w ++ "," = "(") ∧ cutS (w ++ ",") none (some 3) = w ∧ lev w < 1 ∧ lev (w ++ ",") < 1 ∧ w.cps.toList.length = 3 := by
      rcases hw with rfl | rfl
      · exact ⟨by decide +kernel, by decide +kernel, by decide +kernel, by decide +kernel, by decide +kernel, by decide +kernel⟩
      · exact ⟨by decide +kernel, by decide +kernel, by decide +kernel, by decide +kernel, by decide +kernel, by decide +kernel⟩
    obtain ⟨w1, w2, w3, w4, w5, w6⟩ := hw'
    have ha : At x n (w.cps.toList ++ (sp g0 ++ (40 :: (sp g1 ++ (l ++ (sp g2 ++ (44 :: (sp g3 ++ (m ++ (sp g4 ++ (41 :: (sp g ++ r)))))))))))) := by simpa [List.append_assoc] using ha
    have s0 := go_word (cs := cs) (ws := ws) hw ha h0 (nosp_cons (by decide)) (fol_cons (by omega))
    have a1 := ha.app.gap
    rw [w6] at a1
    have s1 := go_brk (cs := cs) (ws := w :: ws) a1 h1 hA.nosp
    have a2 := a1.next.gap
    obtain ⟨cs1, ws1, s2, e1⟩ := ihA (cs := cs) (ws := w :: ws) a2 h2 (nosp_cons (by decide)) (fol_cons (by omega)) (fun _ u hu => by
      have : u = w := by simpa using hu.symm
      rw [this]
      exact w4)
    have e1 := (e1 1 (by decide) (by decide)).trans (finL_stop (fun u hu => by
      have : u = w := by simpa using hu.symm
      rw [this]
      exact w4) _)
    have a3 := a2.app.gap
    have s3 := go_comma hw e1 a3 h3 hB.nosp
    have a4 := a3.next.gap
    obtain ⟨cs2, ws2, s4, e2⟩ := ihB (cs := cs ++ post a) (ws := (w ++ ",") :: ws) a4 h4 (nosp_cons (by decide)) (fol_cons (by omega)) (fun _ u hu => by
      have : u = w ++ "," := by simpa using hu.symm
      rw [this]
      exact w5)
    have e2 := (e2 1 (by decide) (by decide)).trans (finL_stop (fun u hu => by
      have : u = w ++ "," := by simpa using hu.symm
      rw [this]
      exact w5) _)
    have a5 := a4.app.gap
    have s5 := go_end w1 e2 a5 hg hr
    rw [if_neg w2, w3] at s5
    refine ⟨cs ++ post a ++ post b ++ [.op w], ws, ?_, fun lv h1 h2 => ?_⟩
    · have := ((((s0.trans s1).trans s2).trans s3).trans s4).trans s5
      rwa [show n + 3 + g0 + 1 + g1 + l.length + g2 + 1 + g3 + m.length + g4 + 1 + g = n + (w.cps.toList ++ (sp g0 ++ (40 :: (sp g1 ++ (l ++ (sp g2 ++ (44 :: (sp g3 ++ (m ++ (sp g4 ++ [41])))))))))).length + g by
        simp only [List.length_append, List.length_cons, List.length_nil, sp_len, w6]; omega] at this
    · simp only [post, List.append_assoc]
  | @brk k t l g1 g2 h1 h2 h ih =>
    intro x n g r cs ws ha hg hr hf ctx
    replace h1 := Nat.le_trans h1 (by decide : 2 ≤ 100)
    replace h2 := Nat.le_trans h2 (by decide : 2 ≤ 100)
    have ha : At x n (40 :: (sp g1 ++ (l ++ (sp g2 ++ (41 :: (sp g ++ r)))))) := by simpa [List.append_assoc] using ha
    have s1 := go_par (cs := cs) (ws := ws) ha h1 h.nosp
    have lp : lev "(" < 1 := by decide +kernel
    have a2 := ha.next.gap
    obtain ⟨cs1, ws1, s2, e1⟩ := ih (cs := cs) (ws := "(" :: ws) a2 h2 (nosp_cons (by decide)) (fol_cons (by omega)) (fun _ u hu => by
      have : u = "(" := by simpa using hu.symm
      rw [this]
      omega)
    have e1 := (e1 1 (by decide) (lv_le k).1).trans (finL_stop (fun u hu => by
      have : u = "(" := by simpa using hu.symm
      rw [this]
      exact lp) _)
    have a3 := a2.app.gap
    have s3 := go_end (by decide +kernel) e1 a3 hg hr
    rw [if_pos rfl] at s3
    refine ⟨cs ++ post t, ws, ?_, fun lv h1 h2 => rfl⟩
    have := (s1.trans s2).trans s3
    rwa [show n + 1 + g1 + l.length + g2 + 1 + g = n + (40 :: (sp g1 ++ (l ++ (sp g2 ++ [41])))).length + g by
      simp only [List.length_append, List.length_cons, List.length_nil, sp_len]; omega] at this
  | @weak j k t l hj h ih =>
    intro x n g r cs ws ha hg hr hf ctx
    obtain ⟨cs', ws', s, e⟩ := ih (cs := cs) (ws := ws) ha hg hr hf (ctx.up hj)
    refine ⟨cs', ws', s, fun lv h1 h2 => e lv h1 (Int.le_trans h2 ?_)⟩
    unfold Lv
    split
    · split <;> decide
    · rw [if_neg (by omega)]
      exact Int.le_refl _
/-- a whole text -/
theorem out_ok {x : Str} {t : Tr} {l : List Nat} {g1 g2 : Nat} (h : Pr 0 t l) (e : x.cps.toList = sp g1 ++ (l ++ sp g2)) (h1 : g1 ≤ 100) (h2 : g2 ≤ 100) : outOf x = .code (post t) := by
  have a0 : At x 0 (sp g1 ++ (l ++ (sp g2 ++ []))) := ⟨by rw [List.append_nil]; exact e, by rw [List.append_nil, ← e, len_list]; omega⟩
  have sk := skip_at a0 h1 h.nosp
  obtain ⟨cs', ws', ⟨j, s⟩, ef⟩ := read_ok h (cs := []) (ws := []) a0.gap h2 (fun c hc => by cases hc) (fun c hc => by cases hc) (fun _ w hw => by cases hw)
  have ef := ef 1 (by decide) (by decide)
  rw [List.nil_append] at ef
  have ef : finL 1 cs' ws' = (post t, []) := ef
  have le : 0 + g1 + l.length + g2 = x.length := by
    have := congrArg List.length e
    rw [len_list, List.length_append, List.length_append, sp_len, sp_len] at this
    omega
  unfold outOf
  rw [sk, loop_fuel (x.length + 1) (x.length + 1 + j) .opd ⟨0 + g1, [], []⟩ (by omega) (by omega) (by show 0 + g1 ≤ x.length; omega) (fun u hu => by cases hu), s, le]
  show rLoop x (x.length + 1) .opr ⟨x.length, cs', ws'⟩ = _
  unfold rLoop
  rw [show x.cps.toList[(⟨x.length, cs', ws'⟩ : RS).n]? = none from List.getElem?_eq_none (by rw [len_list]; exact Nat.le_refl _)]
  dsimp only
  rw [ef, if_pos ⟨rfl, rfl⟩]
end Toy
end

section
set_option Elab.async false
set_option linter.all false
set_option maxRecDepth 100000
set_option maxHeartbeats 4000000
/-! Texts of bounded length over few signs: what is made of them; a text times an int; a text read backward. -/
namespace Kt
open PySem PySem.Spec PyProof.Rows L2
structure Tx (m : Nat) (x : Str) : Prop where
  len : x.length ≤ m
  ok : ∀ c ∈ x.cps.toList, c < 200
theorem Tx.mono {m n : Nat} {x : Str} (t : Tx m x) (h : m ≤ n) : Tx n x := ⟨Nat.le_trans t.len h, t.ok⟩
theorem app_list (x y : Str) : (x ++ y).cps.toList = x.cps.toList ++ y.cps.toList := by
  show (x.cps ++ y.cps).toList = _
  rw [Array.toList_append]
theorem Tx.app {m n : Nat} {x y : Str} (a : Tx m x) (b : Tx n y) : Tx (m + n) (x ++ y) := by
  refine ⟨?_, fun c hc => ?_⟩
  · rw [Str.length_append]
    exact Nat.add_le_add a.len b.len
  · rw [app_list] at hc
    exact (List.mem_append.mp hc).elim (a.ok c) (b.ok c)
theorem Tx.cut {m : Nat} {x : Str} (a : Tx m x) (lo hi : Option Int) : Tx m (cutS x lo hi) := by
  refine ⟨Nat.le_trans (cutS_length x lo hi) a.len, fun c hc => a.ok c ?_⟩
  unfold cutS at hc
  exact List.mem_of_mem_drop (List.mem_of_mem_take hc)
theorem Tx.one {m : Nat} {x : Str} {c : Nat} (a : Tx m x) (h : c ∈ x.cps.toList) : Tx 1 ⟨#[c]⟩ := by
  refine ⟨Nat.le_refl _, fun d hd => ?_⟩
  have e : d = c := by simpa using hd
  rw [e]
  exact a.ok c h
theorem Tx.sub {m n : Nat} {x y : Str} (a : Tx m x) (l : y.length ≤ n) (h : ∀ c ∈ y.cps.toList, c ∈ x.cps.toList) : Tx n y := ⟨l, fun c hc => a.ok c (h c hc)⟩
theorem Tx.join {m n : Nat} {a : Str} (ta : Tx m a) : ∀ {ys : List Str}, (∀ y ∈ ys, Tx n y) → Tx (ys.length * (n + m)) (Txt.join a ys) := by
  intro ys h
  unfold Txt.join
  rw [StrLaws.glued_eq_join]
  induction ys with
  | nil => exact ⟨Nat.zero_le _, fun c hc => by cases hc⟩
  | cons x r ih =>
    cases r with
    | nil =>
      have t := h x (List.mem_cons_self ..)
      exact ⟨Nat.le_trans t.len (by simp), t.ok⟩
    | cons y r =>
      have t := h x (List.mem_cons_self ..)
      have j := ih (fun z hz => h z (List.mem_cons_of_mem _ hz))
      have e := (t.app ta).app j
      refine e.mono ?_
      simp only [List.length_cons]
      rw [Nat.add_mul (r.length + 1) 1, Nat.one_mul]
      omega
/-! ### a text times an int -/
theorem fold_rep (c : Array Nat) : ∀ (k : Nat) (a : Array Nat), ((List.replicate k c).foldl (· ++ ·) a).size = a.size + k * c.size ∧ ∀ d ∈ ((List.replicate k c).foldl (· ++ ·) a).toList, d ∈ a.toList ∨ d ∈ c.toList
  | 0, a => ⟨by simp, fun d hd => .inl hd⟩
  | k + 1, a => by
    rw [List.replicate_succ, List.foldl_cons]
    obtain ⟨h1, h2⟩ := fold_rep c k (a ++ c)
    refine ⟨?_, fun d hd => ?_⟩
    · rw [h1, Array.size_append, Nat.add_mul]
      omega
    · rcases h2 d hd with h | h
      · rw [Array.toList_append] at h
        exact List.mem_append.mp h
      · exact .inr h
theorem Tx.mul {m : Nat} {x : Str} (a : Tx m x) (n : Int) : Tx (m * n.toNat) (Txt.mul x n) := by
  unfold Txt.mul
  split
  · exact ⟨Nat.zero_le _, fun c hc => by cases hc⟩
  · rename_i h1
    split
    · refine ⟨Nat.le_trans a.len ?_, a.ok⟩
      have : 1 ≤ n.toNat := by omega
      exact Nat.le_mul_of_pos_right _ this
    · obtain ⟨h2, h3⟩ := fold_rep x.cps n.toNat #[]
      refine ⟨?_, fun c hc => ?_⟩
      · show ((List.replicate n.toNat x.cps).foldl (· ++ ·) #[]).size ≤ _
        rw [h2]
        have l := a.len
        have l2 : x.cps.size ≤ m := l
        have := Nat.mul_le_mul_left n.toNat l2
        rw [Nat.mul_comm m]
        simpa using this
      · rcases h3 c hc with h | h
        · cases h
        · exact a.ok c h
def rMulS : R2 := fun x y H Q => ∃ (z : Str) (n : Int), x = .str z ∧ y = .int n ∧ z.length ≤ 100 ∧ 0 ≤ n ∧ n ≤ 10000 ∧ Q (.str (Txt.mul z n)) H
theorem op_mulS {X : Cx} : OpR X (binaryOp .Mult) rMulS := by
  intro pins s σ H x y v u Q I rx ry h
  obtain ⟨z, n, rfl, rfl, hz, h0, h1, q⟩ := h
  obtain ⟨t, rfl⟩ := rx
  obtain ⟨t', rfl⟩ := ry
  refine PySem.SB.mul ⟨?_, fun _ _ => ?_, fun _ _ => ?_⟩ fun t' k => ⟨.str _, H, I.tok _, ⟨_, rfl⟩, q⟩
  · rw [decide_eq_false (by omega), decide_eq_false (by omega)]
    rfl
  · intro hh
    have hn : n ≠ 0 := by omega
    have : (100 : Int) ≤ (2 ^ 63 - 1) / n := by
      refine Int.le_ediv_of_mul_le (by omega) ?_
      omega
    omega
  · unfold Builtin.Str.tooLong
    refine decide_eq_false ?_
    have h2 : n.toNat ≤ 10000 := by omega
    have h3 := Nat.mul_le_mul hz h2
    have : sizeLine = 16777216 := by decide
    omega
/-! ### a text read backward -/
def rRevS : V → Hp → VK → Prop := fun x H Q => ∃ z : Str, x = .str z ∧ z.length ≤ sizeLine ∧ ∀ y : Str, y.length ≤ z.length → (∀ c ∈ y.cps.toList, c ∈ z.cps.toList) → Q (.str y) H
theorem back_len (n : Nat) : (Builtin.Str.strSliceIndices none none (-1) n).length ≤ n := by
  unfold Builtin.Str.strSliceIndices sliceRange
  simp
  split <;> omega
theorem po_neg {X : Cx} {st : Expr} {ts : TE} (h : PE X st ts) (hv : ∀ σ H (Q : VK), Q (.int (-1)) H → ts σ H Q) : PO X (some st) (fun _ H Q => Q (some (-1)) H) := by
  refine ⟨fun pins s σ H Q I q => ?_⟩
  exact (po_some h).run pins s σ H Q I (hv σ H _ ⟨-1, rfl, q⟩)
theorem pe_back {X : Cx} {e st : Expr} {te : TE} {p2 pos : Pos} (he : PE X e te) (hs : PO X (some st) (fun _ H Q => Q (some (-1)) H)) :
    PE X (.Subscript e (.Slice none none (some st) p2) pos) (fun σ H Q => te σ H fun x H1 => rRevS x H1 Q) := by
  refine ⟨fun pins s σ H Q I h => ?_⟩
  refine Subscript_ (thn (he.run pins s σ H _ I h) fun v s1 ⟨x, H1, I1, r1, z, ex, hz, q⟩ => ?_)
  subst ex
  obtain ⟨t, rfl⟩ := r1
  refine wpAny_Slice ?_
  rw [evalPart_none]
  refine wpAny_pure (wpAny_pure (thn (hs.run pins s1 σ H1 (fun o H2 => o = some (-1) ∧ H2 = H1) I1 ⟨rfl, rfl⟩) fun vs s2 ⟨o, H2, I2, po, eo, eH⟩ => ?_))
  subst eo eH
  obtain ⟨l, ev, el⟩ := IsPart.raw po
  obtain ⟨tk, rfl⟩ : ∃ tk, l = some (-1, tk) := by
    cases l with
    | none => cases el
    | some q =>
      obtain ⟨i, tk⟩ := q
      have e : i = (-1 : Int) := Option.some.inj el
      exact ⟨tk, by rw [e]⟩
  subst ev
  have I4 : Inv X pins σ H2 { s2 with heap := s2.heap.push { cls := .type "slice", data := .fields #[.none, .none, .int (-1) tk] } } := I2.kept (t' := s2.toks) fun b ob q => Heap.get?_push_of_some _ q
  show wpAny (model X.prog X.w) X.A (subscriptTail e (.Slice none none (some st) p2) (.str z t) (.ref s2.heap.objs.size)) (EP X pins σ Q) X.xe { s2 with heap := s2.heap.push { cls := .type "slice", data := .fields #[.none, .none, .int (-1) tk] } }
  refine tail_any (ops := [.ref s2.heap.objs.size, .str z t]) (typeIs_str _ _ _) F.slot_str_getitem.lookup ?_ (by with_unfolding_all rfl)
  refine wpAny_getItem_str_slice (l := none) (u := none) (st := some (-1, tk)) ⟨_, Heap.get?_push_size _ rfl, rfl, rfl⟩ (show ((-1 : Int) == 0) = false by decide) ?_
  have bl := back_len z.length
  have e0 : sliceMade z t none none (some (-1, tk)) = .str ⟨((slicePicked z none none (some (-1, tk))).filterMap (z.cps[·]?)).toArray⟩ := if_neg (by
    show ¬ (((-1 : Int) == 1) && _) = true
    rw [show ((-1 : Int) == 1) = false by decide]
    exact Bool.false_ne_true)
  rw [e0]
  have bl2 : (slicePicked z none none (some (-1, tk))).length ≤ z.length := bl
  have ln : (⟨((slicePicked z none none (some (-1, tk))).filterMap (z.cps[·]?)).toArray⟩ : Str).length ≤ z.length := by
    show (((slicePicked z none none (some (-1, tk))).filterMap (z.cps[·]?)).toArray).size ≤ _
    rw [List.size_toArray]
    exact Nat.le_trans (List.length_filterMap_le _ _) bl2
  refine ⟨Nat.le_trans ln hz, ?_⟩
  refine ⟨.str _, H2, I4.tok _, ⟨_, rfl⟩, q _ ln fun c hc => ?_⟩
  have hc : c ∈ (((slicePicked z none none (some (-1, tk))).filterMap (z.cps[·]?)).toArray).toList := hc
  rw [List.toList_toArray] at hc
  obtain ⟨i, _, hi⟩ := List.mem_filterMap.mp hc
  obtain ⟨h1, h2⟩ := Array.getElem?_eq_some_iff.mp hi
  rw [← h2]
  exact Array.getElem_mem_toList h1
end Kt
end

section
set_option Elab.async false
set_option linter.all false
set_option maxRecDepth 100000
namespace Toy
open PySem L2 Gd Kt
/-! ### what an answer looks like -/
theorem word_tx {x : Str} {m a : Nat} (t : Tx m x) (h : opdW x a ≤ x.length) : Tx 8 (word x a) := by
  refine ⟨?_, fun c hc => t.ok c ?_⟩
  · rw [word_len h]
    have := (runLen_le (x.cps.toList.drop a) lets.cps.toList 8).2
    unfold opdW
    omega
  · unfold word cutS at hc
    exact List.mem_of_mem_drop (List.mem_of_mem_take hc)
theorem opdW_le (x : Str) (a : Nat) (h : a ≤ x.length) : opdW x a ≤ x.length := by
  have len1 : x.cps.toList.length = x.length := by simp [Str.length]
  have := (runLen_le (x.cps.toList.drop a) lets.cps.toList 8).1
  rw [List.length_drop] at this
  unfold opdW
  omega
theorem step_err {wd : Wn} {x : Str} {c i : Nat} {s : RS} (e : rStep wd x c s = .err i) (hc : x.cps.toList[s.n]? = some c) : i ≤ x.length := by
  have len1 : x.cps.toList.length = x.length := by simp [Str.length]
  have lt := (List.getElem?_eq_some_iff.mp hc).1
  have hw := opdW_le x s.n (by omega)
  cases wd with
  | brk =>
    have e : rBr x s = .err i := e
    unfold rBr at e
    split at e
    · cases e
    · injection e with e
      omega
  | opd =>
    have e : rOpd x c s = .err i := e
    unfold rOpd at e
    split at e
    · cases e
    · split at e
      · cases e
      · split at e
        · unfold rWord at e
          split at e
          · cases e
          · split at e
            · injection e with e
              omega
            · cases e
        · injection e with e
          omega
  | opr =>
    have e : rOp x c s = .err i := e
    unfold rOp at e
    split at e
    · injection e with e
      omega
    · have hn : (finS 1 s).n = s.n := rfl
      generalize levT.lookup (sgn c) = o at e
      cases o with
      | some lv => cases e
      | none =>
        dsimp only at e
        generalize finS 1 s = t at e hn
        obtain ⟨tn, tc, tw⟩ := t
        dsimp only at hn
        split at e
        · unfold rComma at e
          cases tw with
          | nil =>
            dsimp only at e
            injection e with e
            omega
          | cons w r =>
            dsimp only at e
            split at e
            · cases e
            · injection e with e
              omega
        · split at e
          · unfold rEnd at e
            cases tw with
            | nil =>
              dsimp only at e
              injection e with e
              omega
            | cons w r =>
              dsimp only at e
              split at e
              · injection e with e
                omega
              · cases e
          · injection e with e
            omega
theorem step_pars {m : Nat} {wd wd' : Wn} {x : Str} {c : Nat} {s s' : RS} (t : Tx m x) (e : rStep wd x c s = .ok s' wd') (hc : x.cps.toList[s.n]? = some c) (h : ∀ y ∈ pars s.cs, Tx 8 y) : ∀ y ∈ pars s'.cs, Tx 8 y := by
  have len1 : x.cps.toList.length = x.length := by simp [Str.length]
  have lt := (List.getElem?_eq_some_iff.mp hc).1
  have hw := opdW_le x s.n (by omega)
  cases wd with
  | brk =>
    have e : rBr x s = .ok s' wd' := e
    unfold rBr at e
    split at e
    · injection e with e1 e2
      rw [← e1]
      exact h
    · cases e
  | opd =>
    have e : rOpd x c s = .ok s' wd' := e
    unfold rOpd at e
    split at e
    · injection e with e1 e2
      rw [← e1]
      exact h
    · split at e
      · injection e with e1 e2
        rw [← e1]
        dsimp only
        rw [pars_int]
        exact h
      · split at e
        · unfold rWord at e
          split at e
          · injection e with e1 e2
            rw [← e1]
            exact h
          · split at e
            · cases e
            · injection e with e1 e2
              rw [← e1]
              dsimp only
              rw [pars_par]
              intro y hy
              rcases List.mem_append.mp hy with hy | hy
              · exact h y hy
              · rw [List.mem_singleton.mp hy]
                exact word_tx t hw
        · cases e
  | opr =>
    have e : rOp x c s = .ok s' wd' := e
    have hp : ∀ lv, ∀ y ∈ pars (finL lv s.cs s.ws).1, Tx 8 y := fun lv => by
      rw [finL_pars]
      exact h
    unfold rOp at e
    split at e
    · cases e
    · have hq : ∀ y ∈ pars (finS 1 s).cs, Tx 8 y := hp 1
      generalize levT.lookup (sgn c) = o at e
      cases o with
      | some lv =>
        injection e with e1 e2
        rw [← e1]
        exact hp lv
      | none =>
        dsimp only at e
        generalize finS 1 s = t at e hq
        obtain ⟨tn, tc, tw⟩ := t
        dsimp only at hq
        split at e
        · unfold rComma at e
          cases tw with
          | nil => cases e
          | cons w r =>
            dsimp only at e
            split at e
            · injection e with e1 e2
              rw [← e1]
              exact hq
            · cases e
        · split at e
          · unfold rEnd at e
            cases tw with
            | nil => cases e
            | cons w r =>
              dsimp only at e
              split at e
              · cases e
              · injection e with e1 e2
                rw [← e1]
                dsimp only
                split
                · exact hq
                · rw [pars_op]
                  exact hq
          · cases e
def OkO (n : Nat) : Out → Prop
  | .bad i => i ≤ n
  | .code cs => ∀ y ∈ pars cs, Tx 8 y
theorem loop_ok {m : Nat} {x : Str} (t : Tx m x) : ∀ (k : Nat) (wd : Wn) (s : RS), s.n ≤ x.length → (∀ y ∈ pars s.cs, Tx 8 y) → (∀ u ∈ s.ws, OkW u) → OkO x.length (rLoop x k wd s) := by
  intro k
  induction k with
  | zero =>
    intro wd s h _ _
    exact h
  | succ k ih =>
    intro wd s hn h hok
    unfold rLoop
    cases hc : x.cps.toList[s.n]? with
    | none =>
      dsimp only
      split
      · show ∀ y ∈ pars (finL 1 s.cs s.ws).1, Tx 8 y
        rw [finL_pars]
        exact h
      · exact Nat.le_refl _
    | some c =>
      dsimp only
      cases er : rStep wd x c s with
      | err i => exact step_err er hc
      | ok s' wd' =>
        dsimp only
        obtain ⟨g1, g2, g3, g4⟩ := step_keep er hc hok
        have sk := skip_le g2
        exact ih wd' _ sk.2 (show ∀ y ∈ pars s'.cs, Tx 8 y from step_pars t er hc h) g4
/-! ### how it is shown -/
theorem repr_tx {m : Nat} {x : Str} (t : Tx m x) : (reprText x).length ≤ 10 * m + 2 := by
  have := StrLaws.reprText_len x (fun c hc => Nat.lt_trans (t.ok c hc) (by decide))
  have := t.len
  omega
theorem shw_str {m : Nat} {x : Str} (t : Tx m x) (hm : m ≤ 1000000) : Shw (.str x) := by
  refine ⟨by simp [PyData.showable], by simp [PyData.depth], .inl ?_⟩
  have := repr_tx t
  simp only [PyData.shown]
  have e : sizeLine = 16777216 := by decide
  omega
theorem shown_strs : ∀ ys : List Str, PyData.shownAll (ys.map PyData.str) = ys.map reprText
  | [] => by simp [PyData.shownAll]
  | y :: ys => by
    rw [List.map_cons, List.map_cons, PyData.shownAll, shown_strs ys]
    simp only [PyData.shown]
theorem show_strs : ∀ ys : List Str, PyData.showableAll (ys.map PyData.str) = true ∧ PyData.depthAll (ys.map PyData.str) = 0 ∧ PyData.hasDictAll (ys.map PyData.str) = false
  | [] => by simp [PyData.showableAll, PyData.depthAll, PyData.hasDictAll]
  | y :: ys => by
    obtain ⟨h1, h2, h3⟩ := show_strs ys
    simp [PyData.showableAll, PyData.depthAll, PyData.hasDictAll, PyData.showable, PyData.depth, PyData.hasDict, h1, h2, h3]
theorem sum_le {n : Nat} : ∀ {l : List Nat}, (∀ a ∈ l, a ≤ n) → l.sum ≤ l.length * n
  | [], _ => by simp
  | a :: l, h => by
    have := sum_le (n := n) (l := l) fun b hb => h b (List.mem_cons_of_mem _ hb)
    have := h a (List.mem_cons_self ..)
    rw [List.sum_cons, List.length_cons, Nat.add_mul, Nat.one_mul]
    omega
theorem shw_names {ys : List Str} (h : ∀ y ∈ ys, Tx 8 y) (hl : ys.length ≤ 64) : Shw (.tuple (ys.map PyData.str)) := by
  obtain ⟨h1, h2, _⟩ := show_strs ys
  refine ⟨by simp [PyData.showable, h1], by simp [PyData.depth, h2], .inl ?_⟩
  simp only [PyData.shown]
  rw [shown_strs]
  have a := tupleText_len_le (ys.map reprText)
  have b : ((ys.map reprText).map (·.length)).sum ≤ ((ys.map reprText).map (·.length)).length * 82 := sum_le fun n hn => by
    obtain ⟨z, hz, rfl⟩ := List.mem_map.mp hn
    obtain ⟨y, hy, rfl⟩ := List.mem_map.mp hz
    exact repr_tx (h y hy)
  simp only [List.length_map] at a b
  have e : sizeLine = 16777216 := by decide
  omega
theorem small_int : ∀ i : Fin 102, (PyData.shown (.int ((i.1 : Nat) : Int))).length ≤ 100 ∧ ((i.1 : Nat) : Int).natAbs.log2 < 1920 := by decide +kernel
theorem shw_bad {i : Nat} (h : i ≤ 101) : Shw (.list [.str "wrong", .int i, .bool true]) := by
  obtain ⟨h1, h2⟩ := small_int ⟨i, by omega⟩
  refine ⟨by simp [PyData.showable, PyData.showableAll]; exact h2, by simp [PyData.depth, PyData.depthAll], .inl ?_⟩
  have hi : PyData.shown (.int (i : Int)) = (toString (i : Int) : Str) := by simp only [PyData.shown]
  rw [show PyData.shown (.list [.str "wrong", .int i, .bool true]) = listText [PyData.shown (.str "wrong"), PyData.shown (.int i), PyData.shown (.bool true)] by simp only [PyData.shown, PyData.shownAll]]
  have a := listText_len_le [PyData.shown (.str "wrong"), PyData.shown (.int i), PyData.shown (.bool true)]
  have b1 : (PyData.shown (.str "wrong")).length ≤ 20 := by decide +kernel
  have b3 : (PyData.shown (.bool true)).length ≤ 20 := by decide +kernel
  simp only [List.map_cons, List.map_nil, List.sum_cons, List.sum_nil, List.length_cons, List.length_nil] at a
  have e : sizeLine = 16777216 := by decide
  dsimp only at h1
  omega
theorem dps_strs {K : PySem.W.Frag} {H : Hp} : ∀ ys : List Str, DpAll K H (ys.map V.str) (ys.map PyData.str)
  | [] => .nil
  | y :: ys => .cons (.str y) (dps_strs ys)
end Toy
end

section
set_option Elab.async false
set_option linter.all false
set_option maxRecDepth 100000
namespace Toy
open PySem L2 Gd Kt
/-! ### what the makers of texts put together -/
theorem all_rep {l : List Nat} {c : Nat} (h : ∀ d ∈ l, d = c) : l = List.replicate l.length c := List.eq_replicate_iff.mpr ⟨rfl, h⟩
theorem mul_sp {i : Int} (h : 0 ≤ i) : (Txt.mul (" " : Str) i).cps.toList = sp i.toNat := by
  have e1 : (" " : Str).cps.toList = [32] := by decide +kernel
  unfold Txt.mul
  split
  · have : i.toNat = 0 := by omega
    rw [this]
    rfl
  · split
    · rename_i h1 h2
      have l1 : (" " : Str).length = 1 := by decide +kernel
      rw [l1] at h2
      have : i = 1 := by simpa using h2
      rw [this, e1]
      rfl
    · obtain ⟨h2, h3⟩ := fold_rep (" " : Str).cps i.toNat #[]
      show ((List.replicate i.toNat (" " : Str).cps).foldl (· ++ ·) #[]).toList = _
      have hl : ((List.replicate i.toNat (" " : Str).cps).foldl (· ++ ·) #[]).toList.length = i.toNat := by
        rw [Array.length_toList, h2]
        have : (" " : Str).cps.size = 1 := by decide +kernel
        rw [this]
        simp
      have := all_rep (c := 32) (l := ((List.replicate i.toNat (" " : Str).cps).foldl (· ++ ·) #[]).toList) (fun d hd => by
        rcases h3 d hd with z | z
        · cases z
        · rw [e1] at z
          simpa using z)
      rw [hl] at this
      exact this
theorem join_mem {a : Str} {c : Nat} : ∀ {ys : List Str}, c ∈ (Txt.join a ys).cps.toList → c ∈ a.cps.toList ∨ ∃ y ∈ ys, c ∈ y.cps.toList := by
  intro ys h
  unfold Txt.join at h
  rw [StrLaws.glued_eq_join] at h
  induction ys with
  | nil => cases h
  | cons x r ih =>
    cases r with
    | nil => exact .inr ⟨x, List.mem_cons_self .., h⟩
    | cons y r =>
      have h : c ∈ ((x ++ a) ++ Str.join a (y :: r)).cps.toList := h
      rw [app_list, app_list] at h
      rcases List.mem_append.mp h with h | h
      · rcases List.mem_append.mp h with h | h
        · exact .inr ⟨x, List.mem_cons_self .., h⟩
        · exact .inl h
      · rcases ih h with h | ⟨z, hz, h⟩
        · exact .inl h
        · exact .inr ⟨z, List.mem_cons_of_mem _ hz, h⟩
theorem join_two (a x y : Str) : (Txt.join a [x, y]).cps.toList = x.cps.toList ++ (a.cps.toList ++ y.cps.toList) := by
  unfold Txt.join
  rw [StrLaws.glued_eq_join]
  show ((x ++ a) ++ y).cps.toList = _
  rw [app_list, app_list, List.append_assoc]
theorem numL_head (n : Nat) : TL.numL n = [48] ∨ ∃ c t, TL.numL n = c :: t ∧ c ≠ 48 := by
  induction n using Nat.strongRecOn with
  | _ n ih =>
    by_cases h : n < 10
    · rw [TL.numL_lt h]
      by_cases z : n = 0
      · rw [z]
        exact .inl rfl
      · exact .inr ⟨_, _, rfl, by omega⟩
    · rw [TL.numL_step (by omega)]
      right
      have p : n / 10 ≠ 0 := by omega
      rcases ih (n / 10) (by omega) with e | ⟨c, t, e, z⟩
      · have := TL.numL_val (n / 10)
        rw [e] at this
        exact absurd this.symm p
      · rw [e]
        exact ⟨c, _, rfl, z⟩
theorem num_pr {n : Int} (h0 : 0 ≤ n) (h1 : n ≤ 2000000000000000000000000000000) : Pr 2 (.num n.toNat) (Str.ofString (toString n)).cps.toList := by
  obtain ⟨k, rfl⟩ : ∃ k : Nat, n = (k : Int) := ⟨n.toNat, by omega⟩
  have e : (Str.ofString (toString ((k : Nat) : Int))).cps.toList = TL.numL k := TL.tl_num k
  rw [e]
  exact .num k _ (TL.numL_digits k) (TL.numL_val k) (numL_head k) (TL.numL_len (by decide) (by omega))
/-- a name that a text may hold -/
structure Gn (m : Nat) (y : Str) : Prop where
  lt : ∀ c ∈ y.cps.toList, c ∈ lets.cps.toList
  pos : 1 ≤ y.length
  len : y.length ≤ m
  n1 : ¬ y = "min"
  n2 : ¬ y = "max"
  n3 : ¬ y = "self"
theorem Gn.tx {m : Nat} {y : Str} (g : Gn m y) : Tx m y := ⟨g.len, fun c hc => by have := lets_sign (g.lt c hc); omega⟩
theorem Gn.mono {m n : Nat} {y : Str} (g : Gn m y) (h : m ≤ n) : Gn n y := { g with len := Nat.le_trans g.len h }
theorem Gn.pr {y : Str} (g : Gn 8 y) : Pr 2 (.nam y) y.cps.toList := .nam y g.lt g.pos g.len g.n1 g.n2 g.n3
end Toy
end

section
set_option Elab.async false
set_option linter.all false
set_option maxRecDepth 100000
namespace Toy
open PySem L2 Gd Kt
/-! ### the pen runs on -/
structure Pn (p c : Addr) (ns : List Int) (n : Int) (k : Int) (H H' : Hp) : Prop where
  ex : Ext p H H'
  pen : ∃ n' r', PenAt H' p c ns n' r' ∧ n ≤ n' ∧ n' ≤ n + k
theorem Pn.draw {p c : Addr} {ns : List Int} {n n' r' : Int} {H : Hp} {o : HO} (P : PenAt (upd H p o) p c ns n' r') (a : n ≤ n') {k : Int} (b : n' ≤ n + k) : Pn p c ns n k H (upd H p o) := ⟨Ext.upd _ _ _, n', r', P, a, b⟩
theorem Ext.same {p : Addr} {H H' : Hp} (s : Same H H') : Ext p H H' := fun b o _ e => s b o e
/-- D is none of H's -/
def Nw (p : Addr) (H : Hp) (D : Addr) : Prop := ∀ b o, b ≠ p → H b = some o → b ≠ D
theorem Nw.of {p D : Addr} {H H1 : Hp} (e : Ext p H H1) (h : H1 D = none) : Nw p H D := fun b o n eb z => by
  have := e b o n eb
  rw [z, h] at this
  cases this
theorem Ext.put {p D : Addr} {H H' : Hp} {o : HO} (e : Ext p H H') (n : Nw p H D) : Ext p H (L2.upd H' D o) := fun b u nb eb => by
  rw [upd_ne (n b u nb eb)]
  exact e b u nb eb
theorem PenAt.put {H : Hp} {p c D : Addr} {ns : List Int} {n r : Int} {o : HO} (P : PenAt H p c ns n r) (n1 : p ≠ D) (n2 : c ≠ D) : PenAt (upd H D o) p c ns n r := ⟨by rw [upd_ne n1]; exact P.d, by rw [upd_ne n2]; exact P.l, P.n0, P.nb, P.r0, P.len⟩
/-! pick of a text -/
def spPickS : Sp := fun vs H Q _ => ∃ (p c : Addr) (ns : List Int) (n r : Int) (x : Str), vs = [.ref p, .str x] ∧ PenAt H p c ns n r ∧ n < 900000 ∧ 0 < x.length ∧ x.length ≤ 60000 ∧
  ∀ (d : Nat) (n' r' : Int), d ∈ x.cps.toList → n ≤ n' → n' ≤ n + 1 → PenAt (upd H p (.dK (penD c n' r'))) p c ns n' r' → Q (.str ⟨#[d]⟩) (upd H p (.dK (penD c n' r')))
/-- a gap -/
def Gp (x : Str) : Prop := ∃ g, g ≤ 2 ∧ x.cps.toList = sp g
theorem Gp.tx {x : Str} (h : Gp x) : Tx 2 x := by
  obtain ⟨g, hg, e⟩ := h
  refine ⟨?_, fun c hc => ?_⟩
  · rw [← len_list, e, sp_len]
    exact hg
  · rw [e] at hc
    rw [(List.mem_replicate.mp hc).2]
    decide
abbrev sGap : Stmt := top 45
def spGap : Sp := fun vs H Q _ => ∃ (p c : Addr) (ns : List Int) (n r many : Int), vs = [.ref p, .int many] ∧ PenAt H p c ns n r ∧ n < 800000 ∧ 1 ≤ many ∧ many ≤ 3 ∧
  ∀ (x : Str) (n' r' : Int) (H' : Hp), Gp x → Ext p H H' → PenAt H' p c ns n' r' → n ≤ n' → n' ≤ n + 2 → Q (.str x) H'
abbrev sNames : Stmt := top 43
def spNames : Sp := fun vs H Q _ => ∃ (p c : Addr) (ns : List Int) (n r many : Int), vs = [.ref p, .int many] ∧ PenAt H p c ns n r ∧ n < 800000 ∧ 0 ≤ many ∧ many ≤ 4 ∧
  ∀ (l : Addr) (ws : List Str) (n' r' : Int) (H' : Hp), (∀ y ∈ ws, Gn 7 y) → ws.length ≤ 26 → H' l = some (.lst (ws.map V.str)) → H l = none → Ext p H H' → PenAt H' p c ns n' r' → n ≤ n' → n' ≤ n + 9 → Q (.ref l) H'
structure TxtM (K : PySem.W.Frag) (mg : Str → Option Value) : Prop extends TxtB K mg where
  range : mg "range" = none
  str : mg "str" = none
  isi : mg "isinstance" = none
  tuple : mg "tuple" = none
theorem mod_nat {i k : Int} (hk : 0 < k) : 0 ≤ i % k ∧ i % k < k := ⟨Int.emod_nonneg i (by omega), Int.emod_lt_of_pos i hk⟩
/-- letters alone -/
structure Lt (m : Nat) (x : Str) : Prop where
  len : x.length ≤ m
  ok : ∀ c ∈ x.cps.toList, c ∈ lets.cps.toList
theorem Lt.tx {m : Nat} {x : Str} (h : Lt m x) : Tx m x := ⟨h.len, fun c hc => by have := lets_sign (h.ok c hc); omega⟩
theorem Lt.app {m n : Nat} {x y : Str} (a : Lt m x) (b : Lt n y) : Lt (m + n) (x ++ y) := ⟨(a.tx.app b.tx).len, fun c hc => by
  rw [app_list] at hc
  exact (List.mem_append.mp hc).elim (a.ok c) (b.ok c)⟩
theorem lets_tx : Tx 26 lets := ⟨by decide +kernel, by decide +kernel⟩
section
variable {P : Program} {w : World} {K : PySem.W.Frag} {mg : Str → Option Value} {base : Heap} {f fD fP : Addr} {fd fdD fdP : FuncData}
theorem ok_pickS (F : Fun K "_law_pick" "_law_pick" sPick f fd) (T : TxtB K mg) (Ddraw : Dn K mg "_law_draw" fD fdD ["_law_pen_here", "_law_many"]) (Gdraw : FnOk P w K mg base CX0 2 fD fdD ["_law_pen_here", "_law_many"] spLo) :
    FnOk P w K mg base CX0 3 f fd ["_law_pen_here", "_law_options"] spPickS := by
  refine F.ok scPick (fun vs H Q E h => ?_) (fun cdv A outer s H vs Q E hr h => ?_)
  · obtain ⟨p, c, ns, n, r, x, rfl, _⟩ := h
    rfl
  · obtain ⟨p, c, ns, n, r, x, rfl, S, hn, h0, h1, k⟩ := h
    refine ⟨_, (pss_one (ps_ret (pe_ix ix_str (pv 1) (pe_call Gdraw hr rfl Ddraw.m Ddraw.k Ddraw.b .nil pass0 (pa_cons (pv 0) (pa_cons (pe_callB call_len (by rfl) T.len PySem.boot_len (pa_cons (pv 1) pa_nil)) pa_nil))) (fun _ _ => rfl)))), ?_⟩
    have sl : x.length ≤ sizeLine := Nat.le_trans h1 (by decide)
    have len1 : x.cps.toList.length = x.length := by simp [Str.length]
    refine ⟨_, rfl, _, rfl, _, rfl, _, _, rfl, ⟨sl, rfl⟩, ?_⟩
    refine ⟨p, c, ns, n, r, x.length, rfl, S, by omega, by omega, by omega, fun d n' r' d0 d1 g1 g2 P' => ?_⟩
    have hx : d.toNat < x.cps.toList.length := by omega
    refine ⟨x, d, x.cps.toList[d.toNat], rfl, rfl, sl, ?_, ?_⟩
    · have := atI_nat (List.getElem?_eq_getElem hx)
      rwa [Int.toNat_of_nonneg d0] at this
    · exact k _ n' r' (List.getElem_mem hx) g1 (by omega) P'
theorem scGap : FnScope ["_law_pen_here", "_law_many"] ["_law_pen_here", "_law_many"] (defScope sGap) := ⟨rfl, rfl, rfl, by decide +kernel, rfl, by decide +kernel, by decide +kernel⟩
theorem ok_gap (F : Fun K "_law_gap" "_law_gap" sGap f fd) (Ddraw : Dn K mg "_law_draw" fD fdD ["_law_pen_here", "_law_many"]) (Gdraw : FnOk P w K mg base CX0 2 fD fdD ["_law_pen_here", "_law_many"] spLo)
    (Dpick : Dn K mg "_law_pick" fP fdP ["_law_pen_here", "_law_options"]) (Gpick : FnOk P w K mg base CX0 3 fP fdP ["_law_pen_here", "_law_options"] spPick) : FnOk P w K mg base CX0 4 f fd ["_law_pen_here", "_law_many"] spGap := by
  refine F.ok scGap (fun vs H Q E h => ?_) (fun cdv A outer s H vs Q E hr h => ?_)
  · obtain ⟨p, c, ns, n, r, many, rfl, _⟩ := h
    rfl
  · obtain ⟨p, c, ns, n, r, many, rfl, S, hn, h0, h1, k⟩ := h
    refine ⟨_, pss_one (ps_ret (pe_op op_mulS pe_str (pe_call Gpick hr rfl Dpick.m Dpick.k Dpick.b .nil pass0 (pa_cons (pv 0) (pa_cons (pe_lst (pa_cons pe_int (pa_cons pe_int (pa_cons (pe_call Gdraw (hr.mono (by decide)) rfl Ddraw.m Ddraw.k Ddraw.b .nil pass0 (pa_cons (pv 0) (pa_cons (pv 1) pa_nil))) pa_nil)))) pa_nil))))), ?_⟩
    refine ⟨_, rfl, _, rfl, _, rfl, p, c, ns, n, r, many, rfl, S, h0, by omega, by omega, fun d n1 r1 d0 d1 a1 a2 P1 => ?_⟩
    refine ⟨by show 3 ≤ sizeLine; decide, fun l hl => ?_⟩
    have P2 := P1.grow (same_new (o := .lst [.int 0, .int 0, .int d]) hl)
    refine ⟨p, c, ns, n1, r1, l, _, rfl, P2, by omega, upd_same, (by show 0 < 3; decide), (by show 3 ≤ 60000000; decide), fun v n2 r2 hv b1 b2 P3 => ?_⟩
    obtain ⟨i, rfl, i0, i1⟩ : ∃ i : Int, v = .int i ∧ 0 ≤ i ∧ i ≤ 2 := by
      have hv : v ∈ [V.int 0, V.int 0, V.int d] := hv
      simp only [List.mem_cons, List.not_mem_nil, or_false] at hv
      rcases hv with rfl | rfl | rfl
      · exact ⟨0, rfl, by decide, by decide⟩
      · exact ⟨0, rfl, by decide, by decide⟩
      · exact ⟨d, rfl, d0, by omega⟩
    refine ⟨" ", i, rfl, rfl, by decide +kernel, i0, by omega, ?_⟩
    refine k _ n2 r2 _ ⟨i.toNat, by omega, mul_sp i0⟩ (((Ext.upd p H _).trans (Ext.new hl)).trans (Ext.upd _ _ _)) P3 (by omega) (by omega)
abbrev NNm : List Str := ["_law_pen_here", "_law_many", "_law_letters", "_law_k", "_law_stem", "_law_front", "_law_step", "_law_found", "_law_own", "_law_name"]
theorem scNames : FnScope NNm ["_law_pen_here", "_law_many"] (defScope sNames) := ⟨rfl, rfl, rfl, by decide +kernel, rfl, by decide +kernel, by decide +kernel⟩
theorem ok_names (F : Fun K "_law_names" "_law_names" sNames f fd) (T : TxtM K mg) (Ddraw : Dn K mg "_law_draw" fD fdD ["_law_pen_here", "_law_many"]) (Gdraw : FnOk P w K mg base CX0 2 fD fdD ["_law_pen_here", "_law_many"] spLo)
    (Dpick : Dn K mg "_law_pick" fP fdP ["_law_pen_here", "_law_options"]) (Gpick : FnOk P w K mg base CX0 3 fP fdP ["_law_pen_here", "_law_options"] spPick) (GpickS : FnOk P w K mg base CX0 3 fP fdP ["_law_pen_here", "_law_options"] spPickS) : FnOk P w K mg base CX0 4 f fd ["_law_pen_here", "_law_many"] spNames := by
  refine F.ok scNames (fun vs H Q E h => ?_) (fun cdv A outer s H vs Q E hr h => ?_)
  · obtain ⟨p, c, ns, n, r, many, rfl, _⟩ := h
    rfl
  · obtain ⟨p, c, ns, n, r, many, rfl, S, hn, h0, h1, k⟩ := h
    refine ⟨_, pss_cons (ps_set (i := 2) scNames.nd rfl (Or.inr rfl) pe_str)
      (C8.pss_cut (ps_set (i := 4) scNames.nd rfl (Or.inl rfl) (pe_join pe_str (pe_lc (own := [("_law_k", 3)]) (g := gName 3) rfl scNames.nd (pi_range1 (by rfl) T.range (pa_cons (pe_call Gdraw (hr.mono (by decide)) rfl Ddraw.m Ddraw.k Ddraw.b .nil pass0 (pa_cons (pv 0) (pa_cons pe_int pa_nil))) pa_nil))
          (blkOk_by (own := [("_law_k", 3)]) (N := NNm) (sc := defScope sNames) (by decide +kernel)) (fun _ _ _ _ _ => pg_name (i := 3) scNames.nd rfl (Or.inl rfl)) (fun _ _ _ _ _ => pts_nil)
          (fun _ _ _ _ _ => pe_call GpickS hr rfl Dpick.m Dpick.k Dpick.b .nil pass0 (pa_cons (pv 0) (pa_cons (pv 2) pa_nil))))))
      (C8.pss_cut (ps_par (i := 5) (j := 6) (by rfl) scNames.nd rfl rfl (by decide) rfl rfl (pa_cons (pe_call Gdraw (hr.mono (by decide)) rfl Ddraw.m Ddraw.k Ddraw.b .nil pass0 (pa_cons (pv 0) (pa_cons pe_int pa_nil)))
          (pa_cons (pe_call Gpick hr rfl Dpick.m Dpick.k Dpick.b .nil pass0 (pa_cons (pv 0) (pa_cons (pe_lst (pa_cons pe_int (pa_cons pe_int (pa_cons pe_int (pa_cons pe_int (pa_cons pe_int (pa_cons pe_int (pa_cons pe_int (pa_cons pe_int (pa_cons pe_int (pa_cons pe_int (pa_cons pe_int (pa_cons pe_int pa_nil))))))))))))) pa_nil))) pa_nil)) (by rfl))
      (pss_cons (ps_set (i := 7) scNames.nd rfl (Or.inl rfl) (pe_lst pa_nil))
      (C8.pss_cut (ps_for PassesOwn.never rfl (pi_range1 (by rfl) T.range (pa_cons pe_int pa_nil)) (pg_name (i := 3) scNames.nd rfl (Or.inl rfl))
          (pss_cons (ps_set (i := 8) scNames.nd rfl (Or.inl rfl) (pe_ix ix_str (pv 2) (pe_op op_mod (pe_callTy call_int1 (by rfl) T.int (by decide +kernel) (pa_cons (pe_op op_add (pv 5) (pe_op op_mul (pv 6) (pv 3))) pa_nil)) pe_int) (fun _ _ => rfl)))
          (pss_cons (ps_set (i := 9) scNames.nd rfl (Or.inl rfl) (pe_ix ix_list (pe_lst (pa_cons (pe_op op_add_str (pv 4) (pv 8)) (pa_cons (pe_op op_add_str (pv 8) (pv 4)) pa_nil))) (pe_op op_mod (pe_callB call_len (by rfl) T.len PySem.boot_len (pa_cons (pv 4) pa_nil)) pe_int) (fun _ _ => rfl)))
          (pss_one (ps_if (pt_cmpR op_notIn_seq (pv 9) (pe_tup (pa_cons pe_str (pa_cons pe_str (pa_cons pe_str pa_nil)))) (by rfl)) (pss_one (ps_expr (pe_bm PySem.F.plainAttrs_list PySem.F.slot_list_append PySem.F.type_list_append mt_append (pv 7) (pa_cons (pv 9) pa_nil)))) pss_nil)))))
      (pss_one (ps_ret (pe_slice sl_list (pv 7) po_none (po_some (pv 1))))))))), ?_⟩
    refine ⟨fun σ' H' => ∃ (x : Str) (n1 r1 : Int), σ' = [some (.ref p), some (.int many), some (.str lets), none, some (.str x), none, none, none, none, none] ∧ Lt 6 x ∧ Ext p H H' ∧ PenAt H' p c ns n1 r1 ∧ n ≤ n1 ∧ n1 ≤ n + 7, ?_, ?_⟩
    · refine ⟨⟨_, rfl⟩, _, rfl, p, c, ns, n, r, 7, rfl, S, by decide, by decide, by omega, fun d n1 r1 d0 d1 a1 a2 P1 => ?_⟩
      have e1 : Ext p H (upd H p (.dK (penD c n1 r1))) := Ext.upd _ _ _
      generalize upd H p (.dK (penD c n1 r1)) = H1 at P1 e1 ⊢
      refine ⟨d, rfl, by omega, by omega, fun D hD => ?_⟩
      have nDp : D ≠ p := Ne.symm (ne_of_none P1.d hD)
      have ncD : c ≠ D := ne_of_none P1.l hD
      have nw := Nw.of e1 hD
      refine lc_range (fun i H' => ∃ xs : List Str, H' D = some (.lst (xs.map V.str)) ∧ xs.length = i ∧ (∀ y ∈ xs, Lt 1 y) ∧ Ext p H H' ∧ ∃ n2 r2, PenAt H' p c ns n2 r2 ∧ n ≤ n2 ∧ n2 ≤ n + 1 + i) ?_ (fun i H' hi hP => ?_) (fun H' hP => ?_)
      · exact ⟨[], upd_same, rfl, (fun y hy => by cases hy), e1.trans (Ext.new hD), n1, r1, P1.grow (same_new hD), a1, by omega⟩
      · obtain ⟨xs, hx, hl, ht, ex, n2, r2, P2, b1, b2⟩ := hP
        refine ⟨rfl, _, rfl, _, rfl, p, c, ns, n2, r2, lets, rfl, P2, by omega, by decide +kernel, by decide +kernel, fun e n3 r3 he c1 c2 P3 => ?_⟩
        have hx3 : upd H' p (.dK (penD c n3 r3)) D = some (.lst (xs.map V.str)) := by
          rw [upd_ne nDp]
          exact hx
        refine ⟨_, hx3, by rw [List.length_map, hl]; exact Nat.lt_of_le_of_lt (m := 7) (by omega) (by decide), xs ++ [⟨#[e]⟩], ?_, by rw [List.length_append, hl]; rfl, ?_, ?_, n3, r3, ?_, by omega, by omega⟩
        · rw [upd_same, List.map_append]
          rfl
        · intro y hy
          rcases List.mem_append.mp hy with hy | hy
          · exact ht y hy
          · rw [List.mem_singleton.mp hy]
            exact ⟨Nat.le_refl _, fun c hc => by rw [List.mem_singleton.mp hc]; exact he⟩
        · exact (ex.trans (Ext.upd p H' (.dK (penD c n3 r3)))).put nw
        · exact P3.put (Ne.symm nDp) ncD
      · obtain ⟨xs, hx, hl, ht, ex, n2, r2, P2, b1, b2⟩ := hP
        have t0 : Tx 0 ("" : Str) := ⟨by decide +kernel, by decide +kernel⟩
        have tj := Tx.join t0 (fun y hy => (ht y hy).tx)
        have tl : Lt 6 (Txt.join "" xs) := ⟨(tj.mono (by omega)).len, fun c hc => by
          rcases join_mem hc with z | ⟨y, hy, z⟩
          · have e0 : ("" : Str).cps.toList = [] := by decide +kernel
            rw [e0] at z
            cases z
          · exact (ht y hy).ok c z⟩
        have sz : (xs.map (·.length)).sum + xs.length * ("" : Str).length ≤ 16777216 := by
          have : (xs.map (·.length)).sum ≤ (xs.map (·.length)).length * 1 := sum_le fun a ha => by
            obtain ⟨y, hy, rfl⟩ := List.mem_map.mp ha
            exact (ht y hy).len
          rw [List.length_map] at this
          have e0 : ("" : Str).length = 0 := by decide +kernel
          rw [e0]
          omega
        exact ⟨"", D, xs, rfl, rfl, .inl (SqL.of hx), sz, _, n2, r2, rfl, tl, ex, P2, b1, by omega⟩
    intro σ1 H1 hm
    obtain ⟨x, n1, r1, rfl, tx, ex1, P1, a1, a2⟩ := hm
    refine ⟨fun σ' H' => ∃ (fr st n2 r2 : Int), σ' = [some (.ref p), some (.int many), some (.str lets), none, some (.str x), some (.int fr), some (.int st), none, none, none] ∧ 0 ≤ fr ∧ fr ≤ 25 ∧ 0 ≤ st ∧ st ≤ 25 ∧ Ext p H H' ∧ PenAt H' p c ns n2 r2 ∧ n ≤ n2 ∧ n2 ≤ n + 9, ?_, ?_⟩
    · refine ⟨_, rfl, p, c, ns, n1, r1, 26, rfl, P1, by decide, by decide, by omega, fun d n2 r2 d0 d1 b1 b2 P2 => ?_⟩
      refine ⟨_, rfl, by show 12 ≤ sizeLine; decide, fun l hl => ?_⟩
      refine ⟨p, c, ns, n2, r2, l, _, rfl, P2.grow (same_new hl), by omega, upd_same, (by show 0 < 12; decide), (by show 12 ≤ 60000000; decide), fun v n3 r3 hv c1 c2 P3 => ?_⟩
      obtain ⟨i, rfl, i0, i1⟩ : ∃ i : Int, v = .int i ∧ 0 ≤ i ∧ i ≤ 25 := by
        simp only [List.mem_cons, List.not_mem_nil, or_false] at hv
        rcases hv with rfl | rfl | rfl | rfl | rfl | rfl | rfl | rfl | rfl | rfl | rfl | rfl <;> exact ⟨_, rfl, by decide, by decide⟩
      exact ⟨_, _, rfl, d, i, n3, r3, rfl, d0, by omega, i0, i1, ((ex1.trans (Ext.upd p H1 _)).trans (Ext.new hl)).trans (Ext.upd p _ _), P3, by omega, by omega⟩
    intro σ2 H2 hm
    obtain ⟨fr, st, n2, r2, rfl, f0, f1, s0, s1, ex2, P2, b1, b2⟩ := hm
    refine ⟨by show 0 ≤ sizeLine; decide, fun l hl => ?_⟩
    have npl : p ≠ l := ne_of_none P2.d hl
    have ncl : c ≠ l := ne_of_none P2.l hl
    have nw := Nw.of ex2 hl
    have lnone : H l = none := by
      cases q : H l with
      | none => rfl
      | some o => exact absurd rfl (nw l o (Ne.symm npl) q)
    refine ⟨fun σ' H' => ∃ (o3 o8 o9 : Option V) (ws : List Str), σ' = [some (.ref p), some (.int many), some (.str lets), o3, some (.str x), some (.int fr), some (.int st), some (.ref l), o8, o9] ∧ H' l = some (.lst (ws.map V.str)) ∧ ws.length ≤ 26 ∧ (∀ y ∈ ws, Gn 7 y) ∧ Ext p H H' ∧ PenAt H' p c ns n2 r2, ?_, ?_⟩
    · refine ⟨26, rfl, by decide, by decide, for_range (n := 26) (fun i σ' H' => ∃ (o3 o8 o9 : Option V) (ws : List Str), σ' = [some (.ref p), some (.int many), some (.str lets), o3, some (.str x), some (.int fr), some (.int st), some (.ref l), o8, o9] ∧ H' l = some (.lst (ws.map V.str)) ∧ ws.length ≤ i ∧ (∀ y ∈ ws, Gn 7 y) ∧ Ext p H H' ∧ PenAt H' p c ns n2 r2) ?_ (fun i σ H3 hi hm => ?_) (fun σ H3 hm => hm)⟩
      · exact ⟨none, none, none, [], rfl, upd_same, Nat.zero_le _, (fun y hy => by cases hy), ex2.trans (Ext.new hl), P2.grow (same_new hl)⟩
      · obtain ⟨o3, o8, o9, ws, rfl, hws, hlen, htx, ex3, P3⟩ := hm
        have ll : lets.length = 26 := by decide +kernel
        have ll2 : lets.cps.toList.length = 26 := by decide +kernel
        have md := mod_nat (i := fr + st * (0 + (i : Int))) (k := 26) (by decide)
        have hd : ((fr + st * (0 + (i : Int))) % 26).toNat < lets.cps.toList.length := by omega
        refine ⟨_, rfl, _, rfl, _, rfl, _, rfl, _, _, rfl, rfl, .inl ⟨by omega, by omega⟩, _, _, rfl, rfl, .inl ⟨_, rfl, _, _, rfl, rfl, (show (0 : Int) < 26 by decide), lets, _, lets.cps.toList[((fr + st * (0 + (i : Int))) % 26).toNat], rfl, rfl, by decide +kernel, ?_, ?_⟩⟩
        · have := atI_nat (List.getElem?_eq_getElem hd)
          rwa [Int.toNat_of_nonneg md.1] at this
        have tq : Lt 1 ⟨#[lets.cps.toList[((fr + st * (0 + (i : Int))) % 26).toNat]]⟩ := ⟨Nat.le_refl _, fun c hc => by rw [List.mem_singleton.mp hc]; exact List.getElem_mem hd⟩
        generalize lets.cps.toList[((fr + st * (0 + (i : Int))) % 26).toNat] = q at tq
        have l1 : x.length + (⟨#[q]⟩ : Str).length ≤ sizeLine := Nat.le_trans (Nat.add_le_add tx.len tq.len) (by decide)
        have l2 : (⟨#[q]⟩ : Str).length + x.length ≤ sizeLine := Nat.le_trans (Nat.add_le_add tq.len tx.len) (by decide)
        have ml := mod_nat (i := (x.length : Int)) (k := 2) (by decide)
        refine ⟨_, rfl, _, rfl, _, _, rfl, rfl, l1, _, rfl, _, rfl, _, _, rfl, rfl, l2, by show 2 ≤ sizeLine; decide, fun t ht => ?_⟩
        have nt : ∀ b o, H3 b = some o → b ≠ t := fun b o e => ne_of_none e ht
        obtain ⟨z, ez, tz, pz⟩ : ∃ z, atI [V.str (x ++ ⟨#[q]⟩), V.str (⟨#[q]⟩ ++ x)] ((x.length : Int) % 2) = some (.str z) ∧ Lt 7 z ∧ 1 ≤ z.length := by
          have c2 : ((x.length : Int) % 2) = 0 ∨ ((x.length : Int) % 2) = 1 := by omega
          rcases c2 with e | e <;> rw [e]
          · exact ⟨_, rfl, tx.app tq, by rw [← len_list, app_list, List.length_append]; show 1 ≤ _ + 1; omega⟩
          · exact ⟨_, rfl, ⟨by have := (tq.app tx).len; omega, (tq.app tx).ok⟩, by rw [← len_list, app_list, List.length_append]; show 1 ≤ 1 + _; omega⟩
        refine ⟨_, rfl, _, _, rfl, ⟨Nat.le_trans tx.len (by decide), rfl⟩, _, _, rfl, rfl, (show (0 : Int) < 2 by decide), t, _, _, _, rfl, rfl, SqL.of upd_same, ez, ?_⟩
        have P4 := P3.grow (same_new (o := .lst [.str (x ++ ⟨#[q]⟩), .str (⟨#[q]⟩ ++ x)]) ht)
        have ex4 := ex3.trans (Ext.new (p := p) (o := .lst [.str (x ++ ⟨#[q]⟩), .str (⟨#[q]⟩ ++ x)]) ht)
        have hw4 := same_new (o := .lst [.str (x ++ ⟨#[q]⟩), .str (⟨#[q]⟩ ++ x)]) ht _ _ hws
        generalize upd H3 t (.lst [.str (x ++ ⟨#[q]⟩), .str (⟨#[q]⟩ ++ x)]) = H4 at P4 ex4 hw4 ⊢
        refine ⟨_, rfl, by show 3 ≤ sizeLine; decide, fun u hu => ⟨u, _, rfl, .inr (SqT.of upd_same), rfl, rfl, _, rfl, ?_⟩⟩
        have P5 := P4.grow (same_new (o := .tup [.str "min", .str "max", .str "self"]) hu)
        have ex5 := ex4.trans (Ext.new (p := p) (o := .tup [.str "min", .str "max", .str "self"]) hu)
        have hw5 := same_new (o := .tup [.str "min", .str "max", .str "self"]) hu _ _ hw4
        generalize upd H4 u (.tup [.str "min", .str "max", .str "self"]) = H5 at P5 ex5 hw5 ⊢
        show (if (!(inV (V.str z) [V.str "min", V.str "max", V.str "self"])) = true then _ else _)
        cases hin : inV (V.str z) [V.str "min", V.str "max", V.str "self"] with
        | true => exact iteF ⟨_, _, _, ws, rfl, hw5, by omega, htx, ex5, P5⟩
        | false =>
          refine iteT ⟨_, rfl, .inl ⟨rfl, _, SqL.of hw5⟩, _, rfl, l, _, _, rfl, rfl, hw5, by rw [List.length_map]; exact Nat.lt_of_le_of_lt (m := 26) (by omega) (by decide), _, _, _, ws ++ [z], rfl, ?_, ?_, ?_, ex5.put nw, P5.put npl ncl⟩
          · rw [upd_same, List.map_append]
            rfl
          · rw [List.length_append, List.length_singleton]
            omega
          · intro y hy
            rcases List.mem_append.mp hy with hy | hy
            · exact htx y hy
            · rw [List.mem_singleton.mp hy]
              exact ⟨tz.ok, pz, tz.len, fun e => by rw [e] at hin; exact absurd hin (by decide +kernel), fun e => by rw [e] at hin; exact absurd hin (by decide +kernel), fun e => by rw [e] at hin; exact absurd hin (by decide +kernel)⟩
    intro σ3 H3 hm
    obtain ⟨o3, o8, o9, ws, rfl, hws, hlen, htx, ex3, P3⟩ := hm
    refine ⟨_, rfl, _, rfl, _, rfl, l, _, rfl, SqL.of hws, fun t ht => ?_⟩
    have ec : cutV (ws.map V.str) none (some many) = (ws.take (HT.sIx ws.length ws.length (some many))).map V.str := by
      unfold cutV
      rw [List.length_map]
      show ((ws.map V.str).drop 0).take (_ - 0) = _
      rw [List.drop_zero, Nat.sub_zero, List.map_take]
    rw [ec]
    refine k t _ n2 r2 _ (fun y hy => htx y (List.mem_of_mem_take hy)) ?_ upd_same ?_ (ex3.trans (Ext.new ht)) (P3.grow (same_new ht)) (by omega) (by omega)
    · rw [List.length_take]
      omega
    · cases q : H t with
      | none => rfl
      | some o =>
        have ntp : t ≠ p := Ne.symm (ne_of_none P3.d ht)
        have := ex3 t o ntp q
        rw [ht] at this
        cases this
end
end Toy
end

section
set_option Elab.async false
set_option linter.all false
set_option maxRecDepth 100000
namespace Toy
open PySem L2 Gd Kt
/-! ### trees -/
abbrev sTree : Stmt := top 44
def signs : List Str := ["+", "-", "*", "//", "min", "max"]
inductive TreeAt (H : Hp) (ws : List Str) : Nat → Tr → Addr → Prop
  | num {d : Nat} {a : Addr} (n : Int) (h0 : 0 ≤ n) (h1 : n ≤ 2000000000000000000000000000000) (h : H a = some (.tup [.str "number", .int n])) : TreeAt H ws d (.num n.toNat) a
  | nam {d : Nat} {a : Addr} (y : Str) (t : y ∈ ws) (h : H a = some (.tup [.str "name", .str y])) : TreeAt H ws d (.nam y) a
  | neg {d : Nat} {a b : Addr} {t : Tr} (h : H a = some (.tup [.str "minus", .ref b])) (u : TreeAt H ws d t b) : TreeAt H ws (d + 1) (.neg t) a
  | bin {d : Nat} {a b c : Addr} {l r : Tr} (s : Str) (hs : s ∈ signs) (h : H a = some (.tup [.str s, .ref b, .ref c])) (t : TreeAt H ws d l b) (u : TreeAt H ws d r c) : TreeAt H ws (d + 1) (.bin s l r) a
theorem TreeAt.grow {H H' : Hp} {ws : List Str} {d : Nat} {tr : Tr} {a : Addr} (t : TreeAt H ws d tr a) (k : ∀ b xs, H b = some (.tup xs) → H' b = some (.tup xs)) : TreeAt H' ws d tr a := by
  induction t with
  | num n h0 h1 h => exact .num n h0 h1 (k _ _ h)
  | nam y t h => exact .nam y t (k _ _ h)
  | neg h t ih => exact .neg (k _ _ h) ih
  | bin s hs h t u ih1 ih2 => exact .bin s hs (k _ _ h) ih1 ih2
theorem TreeAt.ext {H H' : Hp} {ws : List Str} {d : Nat} {tr : Tr} {a p c : Addr} {ns : List Int} {n r : Int} (t : TreeAt H ws d tr a) (e : Ext p H H') (P : PenAt H p c ns n r) : TreeAt H' ws d tr a :=
  t.grow fun b xs h => e b _ (fun z => by
    rw [z, P.d] at h
    cases h) h
def tb : Nat → Int
  | 0 => 0
  | m + 1 => 2 * tb m + 20
def spTree : Nat → Sp
  | 0 => fun _ _ _ _ => False
  | m + 1 => fun vs H Q _ => ∃ (p c l : Addr) (ns : List Int) (n r deep : Int) (ws : List Str), vs = [.ref p, .int deep, .ref l] ∧ PenAt H p c ns n r ∧ n + tb (m + 1) < 700000 ∧ 0 ≤ deep ∧ deep ≤ m ∧ H l = some (.lst (ws.map V.str)) ∧ (∀ y ∈ ws, Tx 8 y) ∧ ws.length ≤ 26 ∧
    ∀ (t : Addr) (n' r' : Int) (H' : Hp), (∃ tr, TreeAt H' ws m tr t) → Ext p H H' → PenAt H' p c ns n' r' → n ≤ n' → n' ≤ n + tb (m + 1) → Q (.ref t) H'
theorem tb_nn : ∀ m, 0 ≤ tb m
  | 0 => by decide
  | m + 1 => by
    have := tb_nn m
    show 0 ≤ 2 * tb m + 20
    omega
theorem strs_dp {K : PySem.W.Frag} {H : Hp} (ws : List Str) : DpAll K H (ws.map V.str) (ws.map PyData.str) := dps_strs ws
theorem strs_lay : ∀ ws : List Str, (∀ y ∈ ws, Tx 8 y) → PyData.canLayAll0 (ws.map PyData.str) = true ∧ PyData.depthAll (ws.map PyData.str) = 0
  | [], _ => ⟨by simp [PyData.canLayAll0], by simp [PyData.depthAll]⟩
  | y :: ws, h => by
    obtain ⟨h1, h2⟩ := strs_lay ws fun z hz => h z (List.mem_cons_of_mem _ hz)
    have ok : PyData.strOk y = true := by
      unfold PyData.strOk
      rw [← Array.all_toList, List.all_eq_true]
      intro c hc
      exact decide_eq_true (Nat.lt_trans ((h y (List.mem_cons_self ..)).ok c hc) (by decide))
    refine ⟨?_, ?_⟩
    · simp [PyData.canLayAll0, PyData.canLay0, ok, h1]
    · simp [PyData.depthAll, PyData.depth, h2]
theorem strs_shaped {ws : List Str} (h : ∀ y ∈ ws, Tx 8 y) : SeqAt.shaped (.list (ws.map PyData.str)) = true := by
  obtain ⟨h1, h2⟩ := strs_lay ws h
  simp [SeqAt.shaped, PyData.canLay0, PyData.depth, h1, h2]
theorem strs_eqv (ws : List Str) : PyData.eqv (.list (ws.map PyData.str)) (.list []) = ws.isEmpty := by
  cases ws with
  | nil => simp [PyData.eqv, PyData.eqvAll]
  | cons b bs => simp [PyData.eqv, PyData.eqvAll]
theorem ten30 : (10 : Int) ^ (30 : Int).toNat = 1000000000000000000000000000000 := by decide +kernel
theorem CPa : CPow 10 30 := ⟨by decide, by decide, by decide⟩
section
variable {P : Program} {w : World} {K : PySem.W.Frag} {mg : Str → Option Value} {base : Heap} {f fD fP fG : Addr} {fd fdD fdP fdG : FuncData}
abbrev NTr : List Str := ["_law_pen_here", "_law_deep", "_law_words", "_law_way", "_law_sign"]
abbrev psTr : List Str := ["_law_pen_here", "_law_deep", "_law_words"]
theorem scTree : FnScope NTr psTr (defScope sTree) := ⟨rfl, rfl, rfl, by decide +kernel, rfl, by decide +kernel, by decide +kernel⟩
theorem ok_tree (F : Fun K "_law_tree" "_law_tree" sTree f fd) (T : TxtM K mg) (DT : Dn K mg "_law_tree" f fd psTr)
    (Ddraw : Dn K mg "_law_draw" fD fdD ["_law_pen_here", "_law_many"]) (Gdraw : FnOk P w K mg base CX0 2 fD fdD ["_law_pen_here", "_law_many"] spLo)
    (Dpick : Dn K mg "_law_pick" fP fdP ["_law_pen_here", "_law_options"]) (Gpick : FnOk P w K mg base CX0 3 fP fdP ["_law_pen_here", "_law_options"] spPick)
    (Dgreat : Dn K mg "_law_great" fG fdG ["_law_pen_here", "_law_most"]) (Ggreat : FnOk P w K mg base CX0 7 fG fdG ["_law_pen_here", "_law_most"] spGreat) :
    ∀ m : Nat, m ≤ 5 → FnOk P w K mg base CX0 (m + 8) f fd psTr (spTree m) := by
  intro m
  induction m with
  | zero => exact fun _ => F.ok scTree (fun _ _ _ _ h => h.elim) (fun _ _ _ _ _ _ _ _ _ h => h.elim)
  | succ m ih =>
    intro hm
    have ih := ih (by omega)
    refine F.ok scTree (fun vs H Q E h => ?_) (fun cdv A outer s H vs Q E hr h => ?_)
    · obtain ⟨p, c, l, ns, n, r, deep, ws, rfl, _⟩ := h
      rfl
    · obtain ⟨p, c, l, ns, n, r, deep, ws, rfl, S, hn, h0, h1, hl, htx, hlen, k⟩ := h
      have hr2 : Room 2 _ := hr.mono (by omega)
      have hr3 : Room 3 _ := hr.mono (by omega)
      have hr7 : Room 7 _ := hr.mono (by omega)
      refine ⟨_, C8.pss_cut (ps_set (i := 3) scTree.nd rfl (Or.inl rfl) (pe_ifExp (pt_cmpR op_gt (pv 1) pe_int (nomark _)) (pe_call Gdraw hr2 rfl Ddraw.m Ddraw.k Ddraw.b .nil pass0 (pa_cons (pv 0) (pa_cons pe_int pa_nil))) (pe_call Gdraw hr2 rfl Ddraw.m Ddraw.k Ddraw.b .nil pass0 (pa_cons (pv 0) (pa_cons pe_int pa_nil)))))
        (C8.pss_cut (ps_if (PW.pt (pw_or (pt_cmpR op_lt (pv 3) pe_int (nomark _)) (pw_or1 (PW.pt (pw_and (pt_cmpR op_lt (pv 3) pe_int (nomark _)) (pw_and1 (pt_cmpR (op_eqD hr.units) (pv 2) (pe_lst pa_nil) (nomark _))))))))
            (pss_one (ps_ret (pe_tup (pa_cons pe_str (pa_cons (pe_call Gpick hr3 rfl Dpick.m Dpick.k Dpick.b .nil pass0 (pa_cons (pv 0) (pa_cons (pe_lst (pa_cons (pe_call Gdraw hr2 rfl Ddraw.m Ddraw.k Ddraw.b .nil pass0 (pa_cons (pv 0) (pa_cons pe_int pa_nil)))
              (pa_cons (pe_call Gdraw hr2 rfl Ddraw.m Ddraw.k Ddraw.b .nil pass0 (pa_cons (pv 0) (pa_cons pe_int pa_nil))) (pa_cons (pe_callB call_abs (by rfl) T.abs (by decide +kernel) (pa_cons (pe_call Ggreat hr7 rfl Dgreat.m Dgreat.k Dgreat.b .nil pass0 (pa_cons (pv 0) (pa_cons (pe_op op_add (pe_op op_pow pe_int pe_int) pe_int) pa_nil))) pa_nil)) pa_nil)))) pa_nil))) pa_nil))))) pss_nil)
        (C8.pss_cut (ps_if (pt_cmpR op_lt (pv 3) pe_int (nomark _)) (pss_one (ps_ret (pe_tup (pa_cons pe_str (pa_cons (pe_call Gpick hr3 rfl Dpick.m Dpick.k Dpick.b .nil pass0 (pa_cons (pv 0) (pa_cons (pv 2) pa_nil))) pa_nil))))) pss_nil)
        (C8.pss_cut (ps_if (pt_cmpR op_eq (pv 3) pe_int (nomark _)) (pss_one (ps_ret (pe_tup (pa_cons pe_str (pa_cons (pe_call ih hr rfl DT.m DT.k DT.b .nil pass0 (pa_cons (pv 0) (pa_cons (pe_op op_sub (pv 1) pe_int) (pa_cons (pv 2) pa_nil)))) pa_nil))))) pss_nil)
        (C8.pss_cut (ps_set (i := 4) scTree.nd rfl (Or.inl rfl) (pe_ix ix_list (pe_lst (pa_cons pe_str (pa_cons pe_str (pa_cons pe_str (pa_cons pe_str (pa_cons pe_str (pa_cons pe_str (pa_cons pe_str (pa_cons pe_str (pa_cons pe_str pa_nil)))))))))) (pe_op op_sub (pv 3) pe_int) (fun _ _ => rfl)))
        (pss_one (ps_ret (pe_tup (pa_cons (pv 4) (pa_cons (pe_call ih hr rfl DT.m DT.k DT.b .nil pass0 (pa_cons (pv 0) (pa_cons (pe_op op_sub (pv 1) pe_int) (pa_cons (pv 2) pa_nil))))
          (pa_cons (pe_call ih hr rfl DT.m DT.k DT.b .nil pass0 (pa_cons (pv 0) (pa_cons (pe_op op_sub (pv 1) pe_int) (pa_cons (pv 2) pa_nil)))) pa_nil)))))))))), ?_⟩
      have tbn := tb_nn m
      have tbe : tb (m + 1) = 2 * tb m + 20 := rfl
      refine ⟨fun σ' H' => ∃ (way n1 r1 : Int), σ' = [some (.ref p), some (.int deep), some (.ref l), some (.int way), none] ∧ 0 ≤ way ∧ way < 14 ∧ (4 ≤ way → 0 < deep) ∧ Ext p H H' ∧ PenAt H' p c ns n1 r1 ∧ n ≤ n1 ∧ n1 ≤ n + 1 ∧ H' l = some (.lst (ws.map V.str)), ?_, ?_⟩
      · refine ⟨_, rfl, _, _, rfl, rfl, _, rfl, ?_⟩
        by_cases c1 : (0 : Int) < deep
        · rw [decide_eq_true c1]
          refine iteT ⟨_, rfl, p, c, ns, n, r, 14, rfl, S, by decide, by decide, by omega, fun d n1 r1 d0 d1 a1 a2 P1 => ?_⟩
          exact ⟨d, n1, r1, rfl, d0, d1, fun _ => c1, Ext.upd p H _, P1, a1, by omega, by rw [upd_ne (S.ne hl)]; exact hl⟩
        · rw [decide_eq_false c1]
          refine iteF ⟨_, rfl, p, c, ns, n, r, 4, rfl, S, by decide, by decide, by omega, fun d n1 r1 d0 d1 a1 a2 P1 => ?_⟩
          exact ⟨d, n1, r1, rfl, d0, by omega, fun z => by omega, Ext.upd p H _, P1, a1, by omega, by rw [upd_ne (S.ne hl)]; exact hl⟩
      intro σ1 H1 hmm
      obtain ⟨way, n1, r1, rfl, w0, w1, wd, ex1, P1, a1, a2, hl1⟩ := hmm
      -- a number
      have number : ∀ (H2 : Hp), Ext p H H2 → PenAt H2 p c ns n1 r1 → tTup (tCons (tC (.str "number")) (tCons (tCall spPick [] E0 (tCons (tVar 0) (tCons (tLst (tCons (tCall spLo [] E0 (tCons (tVar 0) (tCons (tC (.int 3)) tNil))) (tCons (tCall spLo [] E0 (tCons (tVar 0) (tCons (tC (.int 30)) tNil)))
          (tCons (tCB (fun xs H Q => ∃ i, xs = [.int i] ∧ Q (.int (if i < 0 then -i else i)) H) (tCons (tCall spGreat [] E0 (tCons (tVar 0) (tCons (tOp (rI0 fun i j => V.int (i + j)) (tOp (rI CPow fun i j => .int (i ^ j.toNat)) (tC (.int 10)) (tC (.int 30))) (tC (.int 2))) tNil))) tNil)) tNil)))) tNil))) tNil))
          ([some (.ref p), some (.int deep), some (.ref l), some (.int way), none] : L2.St) H2 Q := by
        intro H2 ex2 P2
        refine ⟨_, rfl, _, rfl, p, c, ns, n1, r1, 3, rfl, P2, by decide, by decide, by omega, fun d n2 r2 d0 d1 b1 b2 P3 => ?_⟩
        have ex3 := ex2.trans (Ext.upd p H2 (.dK (penD c n2 r2)))
        generalize upd H2 p (.dK (penD c n2 r2)) = H3 at P3 ex3 ⊢
        refine ⟨_, rfl, p, c, ns, n2, r2, 30, rfl, P3, by decide, by decide, by omega, fun e n3 r3 e0 e1 c1 c2 P4 => ?_⟩
        have ex4 := ex3.trans (Ext.upd p H3 (.dK (penD c n3 r3)))
        generalize upd H3 p (.dK (penD c n3 r3)) = H4 at P4 ex4 ⊢
        refine ⟨_, rfl, _, _, rfl, rfl, CPa, _, _, rfl, rfl, p, c, ns, n3, r3, _, rfl, P4, by omega, by rw [ten30]; decide, by rw [ten30]; decide, fun t n4 r4 H5 t0 t1 f1 f2 x5 P5 => ?_⟩
        rw [ten30] at t0 t1
        have ex5 := ex4.trans x5
        refine ⟨_, rfl, by show 3 ≤ sizeLine; decide, fun ll hll => ?_⟩
        have P6 := P5.grow (same_new (o := .lst [.int d, .int e, .int (if t < 0 then -t else t)]) hll)
        have ex6 := ex5.trans (Ext.new (p := p) (o := .lst [.int d, .int e, .int (if t < 0 then -t else t)]) hll)
        refine ⟨p, c, ns, n4, r4, ll, _, rfl, P6, by omega, upd_same, (by show 0 < 3; decide), (by show 3 ≤ 60000000; decide), fun v n5 r5 hv g1 g2 P7 => ?_⟩
        have ex7 := ex6.trans (Ext.upd p _ (.dK (penD c n5 r5)))
        generalize upd (upd H5 ll (.lst [.int d, .int e, .int (if t < 0 then -t else t)])) p (.dK (penD c n5 r5)) = H7 at P7 ex7 ⊢
        obtain ⟨i, rfl, i0, i1⟩ : ∃ i : Int, v = .int i ∧ 0 ≤ i ∧ i ≤ 2000000000000000000000000000000 := by
          simp only [List.mem_cons, List.not_mem_nil, or_false] at hv
          rcases hv with rfl | rfl | rfl
          · exact ⟨d, rfl, d0, by omega⟩
          · exact ⟨e, rfl, e0, by omega⟩
          · refine ⟨_, rfl, ?_, ?_⟩
            · split <;> omega
            · split <;> omega
        refine ⟨by show 2 ≤ sizeLine; decide, fun a ha => ?_⟩
        exact k a n5 r5 _ ⟨_, .num i i0 i1 upd_same⟩ (ex7.trans (Ext.new ha)) (P7.grow (same_new ha)) (by omega) (by omega)
      refine ⟨fun σ' H' => σ' = [some (.ref p), some (.int deep), some (.ref l), some (.int way), none] ∧ 2 ≤ way ∧ (way < 4 → ws ≠ []) ∧ Ext p H H' ∧ PenAt H' p c ns n1 r1 ∧ H' l = some (.lst (ws.map V.str)), ?_, ?_⟩
      · refine ⟨_, rfl, _, _, rfl, rfl, _, rfl, ?_⟩
        by_cases c1 : way < 2
        · rw [decide_eq_true c1]
          exact iteT (iteT (number _ ex1 P1))
        · rw [decide_eq_false c1]
          refine iteF ⟨_, rfl, _, _, rfl, rfl, _, rfl, ?_⟩
          by_cases c2 : way < 4
          · rw [decide_eq_true c2]
            refine iteT ⟨_, rfl, by show 0 ≤ sizeLine; decide, fun e0 he0 => ?_⟩
            have hl2 := same_new (o := .lst []) he0 _ _ hl1
            have ex2 := ex1.trans (Ext.new (p := p) (o := .lst []) he0)
            have P2 := P1.grow (same_new (o := .lst []) he0)
            refine ⟨_, .list [], .lst (SqL.of hl2) (strs_dp ws), .lst (SqL.of upd_same) .nil, strs_shaped htx, by decide +kernel, _, rfl, ?_⟩
            rw [strs_eqv]
            cases ws with
            | nil => exact iteT (number _ ex2 P2)
            | cons y ys => exact iteF ⟨rfl, by omega, fun _ z => (by cases z), ex2, P2, hl2⟩
          · rw [decide_eq_false c2]
            exact iteF (iteF ⟨rfl, by omega, fun z => absurd z c2, ex1, P1, hl1⟩)
      clear number
      intro σ2 H2 hm2
      obtain ⟨rfl, w2, wne, ex2, P2, hl2⟩ := hm2
      refine ⟨fun σ' H' => σ' = [some (.ref p), some (.int deep), some (.ref l), some (.int way), none] ∧ 4 ≤ way ∧ H' = H2, ?_, ?_⟩
      · refine ⟨_, rfl, _, _, rfl, rfl, _, rfl, ?_⟩
        by_cases c1 : way < 4
        · rw [decide_eq_true c1]
          have ne := wne c1
          have hpos : 0 < (ws.map V.str).length := by
            rw [List.length_map]
            exact List.length_pos_iff.mpr ne
          refine iteT ⟨_, rfl, _, rfl, p, c, ns, n1, r1, l, _, rfl, P2, by omega, hl2, hpos, by rw [List.length_map]; omega, fun v n3 r3 hv b1 b2 P3 => ?_⟩
          obtain ⟨y, hy, rfl⟩ := List.mem_map.mp hv
          have ex3 := ex2.trans (Ext.upd p H2 (.dK (penD c n3 r3)))
          generalize upd H2 p (.dK (penD c n3 r3)) = H3 at P3 ex3 ⊢
          refine ⟨by show 2 ≤ sizeLine; decide, fun a ha => ?_⟩
          exact k a n3 r3 _ ⟨_, .nam y hy upd_same⟩ (ex3.trans (Ext.new ha)) (P3.grow (same_new ha)) (by omega) (by omega)
        · rw [decide_eq_false c1]
          exact iteF ⟨rfl, by omega, rfl⟩
      intro σ3 H3 hm3
      obtain ⟨rfl, w4, rfl⟩ := hm3
      have dpos := wd w4
      obtain ⟨m', rfl⟩ : ∃ m', m = m' + 1 := ⟨m - 1, by omega⟩
      have nlp : l ≠ p := S.ne hl
      refine ⟨fun σ' H' => σ' = [some (.ref p), some (.int deep), some (.ref l), some (.int way), none] ∧ 5 ≤ way ∧ H' = H3, ?_, ?_⟩
      · refine ⟨_, rfl, rfl, _, rfl, ?_⟩
        rw [show decide (V.int way = V.int 4) = decide (way = 4) from by
          by_cases h : way = 4
          · subst h
            simp
          · rw [decide_eq_false h]
            exact decide_eq_false fun z => h (by cases z; rfl)]
        by_cases c1 : way = 4
        · rw [decide_eq_true c1]
          refine iteT ⟨_, rfl, _, rfl, _, _, rfl, rfl, _, rfl, p, c, l, ns, n1, r1, deep - 1, ws, rfl, P2, by omega, by omega, by omega, hl2, htx, hlen, fun t n' r' H' ht x' P' f1 f2 => ?_⟩
          refine ⟨by show 2 ≤ sizeLine; decide, fun a ha => ?_⟩
          obtain ⟨tr, ht⟩ := ht
          refine k a n' r' _ ⟨_, .neg upd_same (ht.grow fun b xs h => same_new ha _ _ h)⟩ ((ex2.trans x').trans (Ext.new ha)) (P'.grow (same_new ha)) (by omega) (by omega)
        · rw [decide_eq_false c1]
          exact iteF ⟨rfl, by omega, rfl⟩
      intro σ4 H4 hm4
      obtain ⟨rfl, w5, rfl⟩ := hm4
      refine ⟨fun σ' H' => ∃ sg, σ' = [some (.ref p), some (.int deep), some (.ref l), some (.int way), some (.str sg)] ∧ sg ∈ signs ∧ Ext p H4 H' ∧ PenAt H' p c ns n1 r1 ∧ H' l = some (.lst (ws.map V.str)), ?_, ?_⟩
      · refine ⟨by show 9 ≤ sizeLine; decide, fun t ht => ?_⟩
        have hw : way = 5 ∨ way = 6 ∨ way = 7 ∨ way = 8 ∨ way = 9 ∨ way = 10 ∨ way = 11 ∨ way = 12 ∨ way = 13 := by omega
        obtain ⟨sg, e, hs⟩ : ∃ sg, atI [V.str "+", V.str "+", V.str "-", V.str "-", V.str "*", V.str "*", V.str "//", V.str "min", V.str "max"] (way - 5) = some (.str sg) ∧ sg ∈ signs := by
          rcases hw with rfl | rfl | rfl | rfl | rfl | rfl | rfl | rfl | rfl <;> exact ⟨_, rfl, by decide +kernel⟩
        exact ⟨_, rfl, _, _, rfl, rfl, t, _, _, _, rfl, rfl, SqL.of upd_same, e, sg, rfl, hs, Ext.new ht, P2.grow (same_new ht), same_new ht _ _ hl2⟩
      intro σ5 H5 hm5
      obtain ⟨sg, rfl, hs, ex5, P5, hl5⟩ := hm5
      refine ⟨_, rfl, _, rfl, _, rfl, _, _, rfl, rfl, _, rfl, p, c, l, ns, n1, r1, deep - 1, ws, rfl, P5, by omega, by omega, by omega, hl5, htx, hlen, fun t n6 r6 H6 ht x6 P6 f1 f2 => ?_⟩
      refine ⟨_, rfl, _, rfl, _, _, rfl, rfl, _, rfl, p, c, l, ns, n6, r6, deep - 1, ws, rfl, P6, by omega, by omega, by omega, x6 _ _ nlp hl5, htx, hlen, fun u n7 r7 H7 hu x7 P7 f3 f4 => ?_⟩
      refine ⟨by show 3 ≤ sizeLine; decide, fun a ha => ?_⟩
      obtain ⟨tr1, ht⟩ := ht
      obtain ⟨tr2, hu⟩ := hu
      have ht7 := ht.ext x7 P6
      exact k a n7 r7 _ ⟨_, .bin sg hs upd_same (ht7.grow fun b xs h => same_new ha _ _ h) (hu.grow fun b xs h => same_new ha _ _ h)⟩ ((((ex2.trans ex5).trans x6).trans x7).trans (Ext.new ha)) (P7.grow (same_new ha)) (by omega) (by omega)
end
end Toy
end

section
set_option Elab.async false
set_option linter.all false
set_option maxRecDepth 100000
namespace Toy
open PySem L2 Gd Kt
/-! ### texts of trees -/
/-- a text with gaps around -/
def Pad (t : Tr) (y : Str) : Prop := ∃ g1 g2 l, g1 ≤ 2 ∧ g2 ≤ 2 ∧ Pr 0 t l ∧ y.cps.toList = sp g1 ++ (l ++ sp g2)
def PadsT (a b : Tr) : Nat → List Str → Prop
  | 0, ys => ys = []
  | 1, ys => ∃ q, ys = [q] ∧ Pad a q
  | _ + 2, ys => ∃ q u, ys = [q, u] ∧ Pad a q ∧ Pad b u
theorem pad_of {t : Tr} {x y z : Str} (h1 : Gp x) (h : Pr 0 t y.cps.toList) (h2 : Gp z) : Pad t (x ++ y ++ z) := by
  obtain ⟨g1, a1, e1⟩ := h1
  obtain ⟨g2, a2, e2⟩ := h2
  refine ⟨g1, g2, _, a1, a2, h, ?_⟩
  rw [app_list, app_list, e1, e2, List.append_assoc]
def owOf (sg : Str) : Nat := if inV (V.str sg) [V.str "*", V.str "//"] = true then 1 else 0
theorem pr_ops {sg : Str} (hs : sg ∈ signs) (hm : inV (V.str sg) [V.str "min", V.str "max"] = false) {a b : Tr} {x1 y1 y2 x2 : Str} (h1 : Gp y1) (h2 : Gp y2) (ha : Pr (owOf sg) a x1.cps.toList) (hb : Pr (owOf sg + 1) b x2.cps.toList) :
    Pr (owOf sg) (.bin sg a b) (x1 ++ (y1 ++ sg ++ y2) ++ x2).cps.toList := by
  obtain ⟨g1, a1, e1⟩ := h1
  obtain ⟨g2, a2, e2⟩ := h2
  have e : (x1 ++ (y1 ++ sg ++ y2) ++ x2).cps.toList = x1.cps.toList ++ (sp g1 ++ (sg.cps.toList ++ (sp g2 ++ x2.cps.toList))) := by
    rw [app_list, app_list, app_list, app_list, e1, e2]
    simp only [List.append_assoc]
  rw [e]
  simp only [signs, List.mem_cons, List.not_mem_nil, or_false] at hs
  rcases hs with rfl | rfl | rfl | rfl | rfl | rfl
  · have : owOf "+" = 0 := by decide +kernel
    rw [this] at ha hb ⊢
    rw [show ("+" : Str).cps.toList = [43] by decide +kernel, show ("+" : Str) = sgn 43 by decide +kernel]
    exact .sum 43 g1 g2 (by decide) (by omega) (by omega) ha hb
  · have : owOf "-" = 0 := by decide +kernel
    rw [this] at ha hb ⊢
    rw [show ("-" : Str).cps.toList = [45] by decide +kernel, show ("-" : Str) = sgn 45 by decide +kernel]
    exact .sum 45 g1 g2 (by decide) (by omega) (by omega) ha hb
  · have : owOf "*" = 1 := by decide +kernel
    rw [this] at ha hb ⊢
    rw [show ("*" : Str).cps.toList = [42] by decide +kernel]
    exact .mul g1 g2 (by omega) (by omega) ha hb
  · have : owOf "//" = 1 := by decide +kernel
    rw [this] at ha hb ⊢
    rw [show ("//" : Str).cps.toList = [47, 47] by decide +kernel]
    exact .div g1 g2 (by omega) (by omega) ha hb
  · exact absurd hm (by decide +kernel)
  · exact absurd hm (by decide +kernel)
theorem pr_brk {k : Nat} {t : Tr} {y1 y2 x : Str} (h1 : Gp y1) (h2 : Gp y2) (h : Pr k t x.cps.toList) : Pr 2 t (("(" : Str) ++ y1 ++ x ++ y2 ++ (")" : Str)).cps.toList := by
  obtain ⟨g1, a1, e1⟩ := h1
  obtain ⟨g2, a2, e2⟩ := h2
  have e : (("(" : Str) ++ y1 ++ x ++ y2 ++ (")" : Str)).cps.toList = 40 :: (sp g1 ++ (x.cps.toList ++ (sp g2 ++ [41]))) := by
    rw [app_list, app_list, app_list, app_list, e1, e2, show ("(" : Str).cps.toList = [40] by decide +kernel, show (")" : Str).cps.toList = [41] by decide +kernel]
    simp only [List.append_assoc, List.cons_append, List.nil_append]
  rw [e]
  exact .brk g1 g2 (by omega) (by omega) h
theorem pr_two {sg : Str} (hm : inV (V.str sg) [V.str "min", V.str "max"] = true) {a b : Tr} {y1 : Str} {ys : List Str} (h1 : Gp y1) (h : PadsT a b 2 ys) : Pr 2 (.bin sg a b) (sg ++ y1 ++ ("(" : Str) ++ Txt.join "," ys ++ (")" : Str)).cps.toList := by
  obtain ⟨g, a1, e1⟩ := h1
  obtain ⟨q, u, rfl, ⟨g1, g2, l, b1, b2, pl, eq⟩, ⟨g3, g4, m, b3, b4, pm, eu⟩⟩ := h
  have e : (sg ++ y1 ++ ("(" : Str) ++ Txt.join "," [q, u] ++ (")" : Str)).cps.toList = sg.cps.toList ++ (sp g ++ (40 :: (sp g1 ++ (l ++ (sp g2 ++ (44 :: (sp g3 ++ (m ++ (sp g4 ++ [41]))))))))) := by
    rw [app_list, app_list, app_list, app_list, join_two, e1, eq, eu, show ("(" : Str).cps.toList = [40] by decide +kernel, show (")" : Str).cps.toList = [41] by decide +kernel, show ("," : Str).cps.toList = [44] by decide +kernel]
    simp only [List.append_assoc, List.cons_append, List.nil_append]
  rw [e]
  have hw : sg = "min" ∨ sg = "max" := by
    rw [in_mm] at hm
    exact of_decide_eq_true hm
  exact .two sg g g1 g2 g3 g4 hw (by omega) (by omega) (by omega) (by omega) (by omega) pl pm
abbrev sTxt : Stmt := top 46
theorem num_tx {n : Int} (h0 : 0 ≤ n) (h1 : n ≤ 2000000000000000000000000000000) : Tx 31 (toString n : String) ∧ n.natAbs.log2 < 1920 := by
  obtain ⟨k, rfl⟩ : ∃ k : Nat, n = (k : Int) := ⟨n.toNat, by omega⟩
  have e : (Str.ofString (toString ((k : Nat) : Int))).cps.toList = TL.numL k := TL.tl_num k
  refine ⟨⟨?_, fun c hc => ?_⟩, ?_⟩
  · have l := TL.numL_len (n := k) (k := 31) (by decide) (by omega)
    rw [← e] at l
    simpa [Str.length] using l
  · rw [e] at hc
    have := TL.numL_digits k c hc
    omega
  · refine Nat.lt_of_le_of_lt (m := 200) ?_ (by decide)
    have hk : ((k : Int)).natAbs < 2 ^ 201 := by
      have : ((k : Int)).natAbs = k := rfl
      omega
    by_cases z : ((k : Int)).natAbs = 0
    · rw [z]
      decide
    · have := (Nat.log2_lt z).mpr hk
      omega
theorem sg_no : ∀ sg ∈ signs, inV (.str sg) [V.str "number", V.str "name"] = false := by decide +kernel
theorem sg_minus : ∀ sg ∈ signs, decide (sg = "minus") = false := by decide +kernel
theorem sg_len : ∀ sg ∈ signs, sg.length ≤ 3 ∧ ∀ c ∈ sg.cps.toList, c < 200 := by decide +kernel
def call_str_any_r : List V → Hp → VK → Prop := fun xs H Q => (∃ i, xs = [.int i] ∧ i.natAbs.log2 < 1920 ∧ Q (.str (toString i)) H) ∨ (∃ a, xs = [.str a] ∧ Q (.str a) H)
theorem call_str_any {X : Cx} : CallR X (.type "str") call_str_any_r := by
  intro pins s σ H xs us Q I r h
  rcases h with h | h
  · exact call_str_int pins s σ H xs us Q I r h
  · exact SkE.call_str_str pins s σ H xs us Q I r h
def xb : Nat → Int
  | 0 => 0
  | m + 1 => 2 * xb m + 20
def lb : Nat → Nat
  | 0 => 50
  | m + 1 => 2 * lb m + 40
theorem xb_nn : ∀ m, 0 ≤ xb m
  | 0 => by decide
  | m + 1 => by
    have := xb_nn m
    show 0 ≤ 2 * xb m + 20
    omega
theorem lb_50 : ∀ m, 50 ≤ lb m
  | 0 => by decide
  | m + 1 => by
    have := lb_50 m
    show 50 ≤ 2 * lb m + 40
    omega
theorem lb_le : ∀ m, m ≤ 5 → lb m ≤ 3000 := by decide
def spTxt : Nat → Sp
  | 0 => fun _ _ _ _ => False
  | m + 1 => fun vs H Q _ => ∃ (p c a : Addr) (ns : List Int) (n r level many : Int), ∃ (ws : List Str) (tr : Tr) (lvn : Nat), vs = [.ref p, .ref a, .int level, .int many] ∧ level = (lvn : Int) ∧ lvn ≤ 2 ∧ (∀ y ∈ ws, Gn 8 y) ∧ PenAt H p c ns n r ∧ n + xb (m + 1) < 700000 ∧ 1 ≤ many ∧ many ≤ 3 ∧ TreeAt H ws m tr a ∧
    ∀ (x : Str) (n' r' : Int) (H' : Hp), Tx (lb m) x ∧ Pr lvn tr x.cps.toList → Ext p H H' → PenAt H' p c ns n' r' → n ≤ n' → n' ≤ n + xb (m + 1) → Q (.str x) H'
section
variable {P : Program} {w : World} {K : PySem.W.Frag} {mg : Str → Option Value} {base : Heap} {f fD fG : Addr} {fd fdD fdG : FuncData}
abbrev NTx : List Str := ["_law_pen_here", "_law_tree_here", "_law_level", "_law_many", "_law_text", "_law_own", "_law_parts", "_law_sign", "_law_part"]
abbrev psTx : List Str := ["_law_pen_here", "_law_tree_here", "_law_level", "_law_many"]
theorem scTxt : FnScope NTx psTx (defScope sTxt) := ⟨rfl, rfl, rfl, by decide +kernel, rfl, by decide +kernel, by decide +kernel⟩
theorem ok_txt (F : Fun K "_law_text_of" "_law_text_of" sTxt f fd) (T : TxtM K mg) (DT : Dn K mg "_law_text_of" f fd psTx)
    (Ddraw : Dn K mg "_law_draw" fD fdD ["_law_pen_here", "_law_many"]) (Gdraw : FnOk P w K mg base CX0 2 fD fdD ["_law_pen_here", "_law_many"] spLo)
    (Dgap : Dn K mg "_law_gap" fG fdG ["_law_pen_here", "_law_many"]) (Ggap : FnOk P w K mg base CX0 4 fG fdG ["_law_pen_here", "_law_many"] spGap) :
    ∀ m : Nat, m ≤ 5 → FnOk P w K mg base CX0 (m + 5) f fd psTx (spTxt m) := by
  intro m
  induction m with
  | zero => exact fun _ => F.ok scTxt (fun _ _ _ _ h => h.elim) (fun _ _ _ _ _ _ _ _ _ h => h.elim)
  | succ m ih =>
    intro hm
    have ih := ih (by omega)
    refine F.ok scTxt (fun vs H Q E h => ?_) (fun cdv A outer s H vs Q E hr h => ?_)
    · obtain ⟨p, c, a, ns, n, r, level, many, ws, tr, lvn, rfl, _⟩ := h
      rfl
    · obtain ⟨p, c, a, ns, n, r, level, many, ws, tr, lvn, rfl, hlv, hl2, hgn, S, hn, h0, h1, ht, k⟩ := h
      have hr2 : Room 2 _ := hr.mono (by omega)
      have hr4 : Room 4 _ := hr.mono (by omega)
      refine ⟨_, C8.pss_cut (ps_if (pt_cmpR op_in_seq (pe_ix ix_tup (pv 1) pe_int (fun _ _ => rfl)) (pe_tup (pa_cons pe_str (pa_cons pe_str pa_nil))) (by rfl))
          (pss_one (ps_par (i := 4) (j := 5) (by rfl) scTxt.nd rfl rfl (by decide) rfl rfl (pa_cons (pe_callTy call_str_any (by rfl) T.str (by decide +kernel) (pa_cons (pe_ix ix_tup (pv 1) pe_int (fun _ _ => rfl)) pa_nil)) (pa_cons pe_int pa_nil)) (by rfl)))
          (pss_one (ps_if (pt_cmpR op_eq (pe_ix ix_tup (pv 1) pe_int (fun _ _ => rfl)) pe_str (nomark _))
            (pss_one (ps_par (i := 4) (j := 5) (by rfl) scTxt.nd rfl rfl (by decide) rfl rfl (pa_cons (pe_op op_add_str (pe_op op_add_str pe_str (pe_call Ggap hr4 rfl Dgap.m Dgap.k Dgap.b .nil pass0 (pa_cons (pv 0) (pa_cons (pv 3) pa_nil))))
              (pe_call ih hr rfl DT.m DT.k DT.b .nil pass0 (pa_cons (pv 0) (pa_cons (pe_ix ix_tup (pv 1) pe_int (fun _ _ => rfl)) (pa_cons pe_int (pa_cons (pv 3) pa_nil)))))) (pa_cons pe_int pa_nil)) (by rfl)))
            (pss_one (ps_if (pt_cmpR op_in_seq (pe_ix ix_tup (pv 1) pe_int (fun _ _ => rfl)) (pe_tup (pa_cons pe_str (pa_cons pe_str pa_nil))) (by rfl))
              (C8.pss_cut (ps_setLc (i := 6) (own := [("_law_part", 8)]) (g := gName 8) (by rfl) scTxt.nd rfl rfl (sw_true rfl rfl rfl (by decide +kernel)) (pi_tup (pe_slice sl_tup (pv 1) (po_some pe_int) po_none)) (blkOk_by (own := [("_law_part", 8)]) (N := NTx) (sc := defScope sTxt) (by decide +kernel))
                  (fun _ _ _ _ _ => pg_name (i := 8) scTxt.nd rfl (Or.inl rfl)) (fun _ _ _ _ _ => pts_nil)
                  (fun _ _ _ _ _ => pe_op op_add_str (pe_op op_add_str (pe_call Ggap hr4 rfl Dgap.m Dgap.k Dgap.b .nil pass0 (pa_cons (pv 0) (pa_cons (pv 3) pa_nil))) (pe_call ih hr rfl DT.m DT.k DT.b .nil pass0 (pa_cons (pv 0) (pa_cons (pv 8) (pa_cons pe_int (pa_cons (pv 3) pa_nil))))))
                    (pe_call Ggap hr4 rfl Dgap.m Dgap.k Dgap.b .nil pass0 (pa_cons (pv 0) (pa_cons (pv 3) pa_nil)))))
              (pss_one (ps_par (i := 4) (j := 5) (by rfl) scTxt.nd rfl rfl (by decide) rfl rfl (pa_cons (pe_op op_add_str (pe_op op_add_str (pe_op op_add_str (pe_op op_add_str (pe_ix ix_tup (pv 1) pe_int (fun _ _ => rfl)) (pe_call Ggap hr4 rfl Dgap.m Dgap.k Dgap.b .nil pass0 (pa_cons (pv 0) (pa_cons (pv 3) pa_nil)))) pe_str) (pe_join pe_str (pv 6))) pe_str) (pa_cons pe_int pa_nil)) (by rfl))))
              (pss_cons (ps_set (i := 5) scTxt.nd rfl (Or.inl rfl) (pe_callTy call_int1 (by rfl) T.int (by decide +kernel) (pa_cons (pe_cmpR op_in_seq (pe_ix ix_tup (pv 1) pe_int (fun _ _ => rfl)) (pe_tup (pa_cons pe_str (pa_cons pe_str pa_nil))) (by rfl)) pa_nil)))
              (C8.pss_cut (ps_set (i := 7) scTxt.nd rfl (Or.inl rfl) (pe_op op_add_str (pe_op op_add_str (pe_call Ggap hr4 rfl Dgap.m Dgap.k Dgap.b .nil pass0 (pa_cons (pv 0) (pa_cons (pv 3) pa_nil))) (pe_ix ix_tup (pv 1) pe_int (fun _ _ => rfl))) (pe_call Ggap hr4 rfl Dgap.m Dgap.k Dgap.b .nil pass0 (pa_cons (pv 0) (pa_cons (pv 3) pa_nil)))))
              (pss_one (ps_set (i := 4) scTxt.nd rfl (Or.inl rfl) (pe_op op_add_str (pe_op op_add_str (pe_call ih hr rfl DT.m DT.k DT.b .nil pass0 (pa_cons (pv 0) (pa_cons (pe_ix ix_tup (pv 1) pe_int (fun _ _ => rfl)) (pa_cons (pv 5) (pa_cons (pv 3) pa_nil))))) (pv 7))
                (pe_call ih hr rfl DT.m DT.k DT.b .nil pass0 (pa_cons (pv 0) (pa_cons (pe_ix ix_tup (pv 1) pe_int (fun _ _ => rfl)) (pa_cons (pe_op op_add (pv 5) pe_int) (pa_cons (pv 3) pa_nil)))))))))))))))
        (pss_cons (ps_if (PW.pt (pw_or (pt_cmpR op_lt (pv 5) (pv 2) (nomark _)) (pw_or1 (pt_cmpR op_eq (pe_call Gdraw hr2 rfl Ddraw.m Ddraw.k Ddraw.b .nil pass0 (pa_cons (pv 0) (pa_cons pe_int pa_nil))) pe_int (nomark _)))))
            (pss_one (ps_ret (pe_op op_add_str (pe_op op_add_str (pe_op op_add_str (pe_op op_add_str pe_str (pe_call Ggap hr4 rfl Dgap.m Dgap.k Dgap.b .nil pass0 (pa_cons (pv 0) (pa_cons (pv 3) pa_nil)))) (pv 4)) (pe_call Ggap hr4 rfl Dgap.m Dgap.k Dgap.b .nil pass0 (pa_cons (pv 0) (pa_cons (pv 3) pa_nil)))) pe_str))) pss_nil)
        (pss_one (ps_ret (pv 4)))), ?_⟩
      have xbn := xb_nn m
      have xbe : xb (m + 1) = 2 * xb m + 20 := rfl
      have l50 := lb_50 m
      have l3000 := lb_le m (by omega)
      have sz : sizeLine = 16777216 := by decide
      -- a gap
      have gap : ∀ (σ : L2.St) (H1 : Hp) (n1 r1 : Int) (R : VK), PenAt H1 p c ns n1 r1 → n1 < 800000 → (∀ (x : Str) (n' r' : Int) (H' : Hp), Gp x → Ext p H1 H' → PenAt H' p c ns n' r' → n1 ≤ n' → n' ≤ n1 + 2 → R (.str x) H') → spGap [.ref p, .int many] H1 R E0 :=
        fun σ H1 n1 r1 R g1 g2 g3 => ⟨p, c, ns, n1, r1, many, rfl, g1, g2, h0, h1, g3⟩
      refine ⟨fun σ' H' => ∃ (o6 o7 : Option V) (x : Str) (own n1 r1 : Int), σ' = [some (.ref p), some (.ref a), some (.int level), some (.int many), some (.str x), some (.int own), o6, o7, none] ∧ x.length + 6 ≤ lb m ∧ (∀ c ∈ x.cps.toList, c < 200) ∧ (∃ j : Nat, own = (j : Int) ∧ j ≤ 2 ∧ Pr j tr x.cps.toList) ∧ Ext p H H' ∧ PenAt H' p c ns n1 r1 ∧ n ≤ n1 ∧ n1 ≤ n + 2 * xb m + 14, ?_, ?_⟩
      · cases ht with
        | num v v0 v1 ha =>
          refine ⟨_, rfl, a, _, _, _, rfl, rfl, .inl (.inl ha), rfl, by show 2 ≤ sizeLine; decide, fun t htt => ⟨t, _, rfl, .inr (SqT.of upd_same), rfl, rfl, _, rfl, ?_⟩⟩
          have s1 := same_new (o := .tup [.str "number", .str "name"]) htt
          show (if (inV (V.str "number") [V.str "number", V.str "name"]) = true then _ else _)
          rw [show inV (V.str "number") [V.str "number", V.str "name"] = true by decide +kernel]
          obtain ⟨tn, lg⟩ := num_tx v0 v1
          refine iteT ⟨_, rfl, a, _, _, _, rfl, rfl, .inl (.inl (s1 _ _ ha)), rfl, .inl ⟨v, rfl, lg, _, _, rfl, none, none, _, 2, n, r, rfl, ?_, tn.ok, ⟨2, rfl, by decide, num_pr v0 v1⟩, Ext.same s1, S.grow s1, by omega, by omega⟩⟩
          have := tn.len
          omega
        | nam y hy ha =>
          have ty := (hgn y hy).tx
          refine ⟨_, rfl, a, _, _, _, rfl, rfl, .inl (.inl ha), rfl, by show 2 ≤ sizeLine; decide, fun t htt => ⟨t, _, rfl, .inr (SqT.of upd_same), rfl, rfl, _, rfl, ?_⟩⟩
          have s1 := same_new (o := .tup [.str "number", .str "name"]) htt
          show (if (inV (V.str "name") [V.str "number", V.str "name"]) = true then _ else _)
          rw [show inV (V.str "name") [V.str "number", V.str "name"] = true by decide +kernel]
          refine iteT ⟨_, rfl, a, _, _, _, rfl, rfl, .inl (.inl (s1 _ _ ha)), rfl, .inr ⟨y, rfl, _, _, rfl, none, none, y, 2, n, r, rfl, ?_, ty.ok, ⟨2, rfl, by decide, (hgn y hy).pr⟩, Ext.same s1, S.grow s1, by omega, by omega⟩⟩
          have := ty.len
          omega
        | @neg d _ b tn ha tt =>
          have xd : xb (d + 1) = 2 * xb d + 20 := rfl
          have ld : lb (d + 1) = 2 * lb d + 40 := rfl
          refine ⟨_, rfl, a, _, _, _, rfl, rfl, .inl (.inl ha), rfl, by show 2 ≤ sizeLine; decide, fun t htt => ⟨t, _, rfl, .inr (SqT.of upd_same), rfl, rfl, _, rfl, ?_⟩⟩
          have s1 := same_new (o := .tup [.str "number", .str "name"]) htt
          show (if (inV (V.str "minus") [V.str "number", V.str "name"]) = true then _ else _)
          rw [show inV (V.str "minus") [V.str "number", V.str "name"] = false by decide +kernel]
          have ha1 := s1 _ _ ha
          have S1 := S.grow s1
          have e1 : Ext p H _ := Ext.same s1
          have t1 := tt.grow fun b xs h => s1 _ _ h
          generalize upd H t (.tup [.str "number", .str "name"]) = H1 at ha1 S1 e1 t1 ⊢
          have nap : a ≠ p := fun z => by
            rw [z, S1.d] at ha1
            cases ha1
          refine iteF ⟨_, rfl, a, _, _, _, rfl, rfl, .inl (.inl ha1), rfl, rfl, _, rfl, ?_⟩
          rw [show decide (V.str "minus" = V.str "minus") = true from decide_eq_true rfl]
          refine iteT ⟨_, rfl, _, rfl, p, c, ns, n, r, many, rfl, S1, by omega, h0, h1, fun x1 n2 r2 H2 tx1 e2 P2 b1 b2 => ?_⟩
          obtain ⟨gg, hgg, egg⟩ := id tx1
          have tx1 := Gp.tx tx1
          have tm : Tx 1 ("-" : Str) := ⟨by decide +kernel, by decide +kernel⟩
          have ta := tm.app tx1
          refine ⟨_, _, rfl, rfl, by have := tm.len; have := tx1.len; omega, _, rfl, _, rfl, a, _, _, _, rfl, rfl, .inl (.inl (e2 _ _ nap ha1)), rfl, _, rfl, ?_⟩
          refine ⟨p, c, b, ns, n2, r2, 2, many, ws, tn, 2, rfl, rfl, by decide, hgn, P2, by omega, h0, h1, t1.ext e2 S1, fun x2 n3 r3 H3 tx2 e3 P3 b3 b4 => ?_⟩
          obtain ⟨tx2, pr2⟩ := tx2
          have pz : Pr 2 (.neg tn) ((("-" : Str) ++ x1) ++ x2).cps.toList := by
            rw [app_list, app_list, egg, show ("-" : Str).cps.toList = [45] by decide +kernel, List.append_assoc]
            exact .neg gg (by omega) pr2
          have tz := ta.app tx2
          refine ⟨_, _, rfl, rfl, by have := ta.len; have := tx2.len; omega, _, _, rfl, none, none, _, 2, n3, r3, rfl, ?_, tz.ok, ⟨2, rfl, by decide, pz⟩, (e1.trans e2).trans e3, P3, by omega, by omega⟩
          have := tz.len
          omega
        | @bin d _ b e trl trr sg hs ha t1 t2 =>
          have xd : xb (d + 1) = 2 * xb d + 20 := rfl
          have ld : lb (d + 1) = 2 * lb d + 40 := rfl
          have xdn := xb_nn d
          have g1 : inV (.str sg) [V.str "number", V.str "name"] = false := sg_no sg hs
          have g2 : decide (V.str sg = V.str "minus") = false := by
            rw [str_dec2]
            exact sg_minus sg hs
          have tsg : Tx 3 sg := ⟨(sg_len sg hs).1, (sg_len sg hs).2⟩
          have tsg3 : sg.length ≤ 3 := tsg.len
          refine ⟨_, rfl, a, _, _, _, rfl, rfl, .inl (.inl ha), rfl, by show 2 ≤ sizeLine; decide, fun t htt => ⟨t, _, rfl, .inr (SqT.of upd_same), rfl, rfl, _, rfl, ?_⟩⟩
          have s1 := same_new (o := .tup [.str "number", .str "name"]) htt
          show (if (inV (V.str sg) [V.str "number", V.str "name"]) = true then _ else _)
          rw [g1]
          have ha1 := s1 _ _ ha
          have S1 := S.grow s1
          have e1 : Ext p H _ := Ext.same s1
          generalize upd H t (.tup [.str "number", .str "name"]) = H1 at ha1 S1 e1 ⊢
          refine iteF ⟨_, rfl, a, _, _, _, rfl, rfl, .inl (.inl ha1), rfl, rfl, _, rfl, ?_⟩
          rw [g2]
          refine iteF ⟨_, rfl, a, _, _, _, rfl, rfl, .inl (.inl ha1), rfl, by show 2 ≤ sizeLine; decide, fun t3 htt3 => ⟨t3, _, rfl, .inr (SqT.of upd_same), rfl, rfl, _, rfl, ?_⟩⟩
          have s2 := same_new (o := .tup [.str "min", .str "max"]) htt3
          have ha2 := s2 _ _ ha1
          have S2 := S1.grow s2
          have e2 : Ext p H _ := e1.trans (Ext.same s2)
          show (if (inV (V.str sg) [V.str "min", V.str "max"]) = true then _ else _)
          generalize upd H1 t3 (.tup [.str "min", .str "max"]) = H2 at ha2 S2 e2 ⊢
          have nap : a ≠ p := fun z => by
            rw [z, S2.d] at ha2
            cases ha2
          cases hmm : inV (V.str sg) [V.str "min", V.str "max"] with
          | true =>
            refine iteT ⟨fun σ' H' => ∃ (D : Addr) (ys : List Str) (n3 r3 : Int), σ' = [some (.ref p), some (.ref a), some (.int level), some (.int many), none, none, some (.ref D), none, none] ∧ H' D = some (.lst (ys.map V.str)) ∧ ys.length = 2 ∧ (∀ y ∈ ys, Tx (lb d + 4) y) ∧ PadsT trl trr 2 ys ∧ Ext p H H' ∧ PenAt H' p c ns n3 r3 ∧ n ≤ n3 ∧ n3 ≤ n + 2 * (xb (d + 1) + 4), ?_, ?_⟩
            · refine ⟨_, rfl, _, rfl, a, _, rfl, .inl (.inl ha2), (fun z => by cases z.1), fun t4 ht4 => ⟨t4, rfl, ⟨_, SqT.of upd_same⟩, fun D hD => ?_⟩⟩
              have s3 := same_new (o := .tup (cutV [V.str sg, V.ref b, V.ref e] (some 1) none)) ht4
              have e3 := e2.trans (Ext.same (p := p) s3)
              have S3 := S2.grow s3
              have hq : upd H2 t4 (.tup (cutV [V.str sg, V.ref b, V.ref e] (some 1) none)) t4 = some (.tup [V.ref b, V.ref e]) := upd_same
              generalize upd H2 t4 (.tup (cutV [V.str sg, V.ref b, V.ref e] (some 1) none)) = H3 at e3 S3 hq hD ⊢
              have npD : p ≠ D := ne_of_none S3.d hD
              have ncD : c ≠ D := ne_of_none S3.l hD
              have n4D : t4 ≠ D := ne_of_none hq hD
              have n4p : t4 ≠ p := fun z => by
                rw [z, S3.d] at hq
                cases hq
              have nw := Nw.of e3 hD
              refine lc_tup (xs := [V.ref b, V.ref e]) (fun i H' => ∃ (ys : List Str) (n3 r3 : Int), H' D = some (.lst (ys.map V.str)) ∧ ys.length = i ∧ (∀ y ∈ ys, Tx (lb d + 4) y) ∧ PadsT trl trr i ys ∧ Ext p H H' ∧ H' t4 = some (.tup [V.ref b, V.ref e]) ∧ PenAt H' p c ns n3 r3 ∧ n ≤ n3 ∧ n3 ≤ n + (i : Int) * (xb (d + 1) + 4)) ?_ (fun i H' _ hP => ?_) (fun i y H' hy hP => ?_) (fun H' hP => ?_)
              · exact ⟨[], n, r, upd_same, rfl, (fun y hy => by cases hy), rfl, e3.put nw, by rw [upd_ne n4D]; exact hq, S3.put npD ncD, by omega, by rw [show ((0 : Nat) : Int) = 0 from rfl, Int.zero_mul]; omega⟩
              · obtain ⟨ys, n3, r3, _, _, _, _, _, h4, _⟩ := hP
                exact .inl (.inl h4)
              · obtain ⟨ys, n3, r3, hD', hlen, hty, pads, ex', h4, P', f1, f2⟩ := hP
                obtain ⟨z, trz, rfl, tz, hi2, pst⟩ : ∃ z trz, y = .ref z ∧ TreeAt H' ws d trz z ∧ i < 2 ∧ ∀ q, Pad trz q → PadsT trl trr (i + 1) (ys ++ [q]) := by
                  match i, hy with
                  | 0, hy => exact ⟨b, trl, (Option.some.inj hy).symm, t1.ext ex' S, by decide, fun q hq => by
                    have : ys = [] := pads
                    rw [this]
                    exact ⟨q, rfl, hq⟩⟩
                  | 1, hy => exact ⟨e, trr, (Option.some.inj hy).symm, t2.ext ex' S, by decide, fun q hq => by
                    obtain ⟨q0, rfl, h0⟩ := pads
                    exact ⟨q0, q, rfl, h0, hq⟩⟩
                  | i + 2, hy => cases hy
                have fi : (i : Int) * (xb (d + 1) + 4) ≤ 1 * (xb (d + 1) + 4) := Int.mul_le_mul_of_nonneg_right (by omega) (by omega)
                refine ⟨rfl, _, rfl, _, rfl, p, c, ns, n3, r3, many, rfl, P', by omega, h0, h1, fun x1 n4 r4 H4 tx1 e4 P4 b1 b2 => ?_⟩
                have gp1 := tx1
                have tx1 := Gp.tx tx1
                refine ⟨_, rfl, _, rfl, _, rfl, ?_⟩
                refine ⟨p, c, z, ns, n4, r4, 0, many, ws, trz, 0, rfl, rfl, by decide, hgn, P4, by omega, h0, h1, tz.ext e4 P', fun x2 n5 r5 H5 tx2 e5 P5 b3 b4 => ?_⟩
                obtain ⟨tx2, pr2⟩ := tx2
                have ta := tx1.app tx2
                refine ⟨_, _, rfl, rfl, by have := tx1.len; have := tx2.len; omega, _, rfl, _, rfl, p, c, ns, n5, r5, many, rfl, P5, by omega, h0, h1, fun x3 n6 r6 H6 tx3 e6 P6 b5 b6 => ?_⟩
                have pq := pst _ (pad_of gp1 pr2 tx3)
                have tx3 := Gp.tx tx3
                have tb := ta.app tx3
                have ex6 := (e4.trans e5).trans e6
                have hD6 := ex6 _ _ (Ne.symm npD) hD'
                refine ⟨_, _, rfl, rfl, by have := ta.len; have := tx3.len; omega, _, hD6, by rw [List.length_map]; omega, ys ++ [x1 ++ x2 ++ x3], n6, r6, ?_, by rw [List.length_append, hlen]; rfl, ?_, pq, (ex'.trans ex6).put nw, ?_, P6.put npD ncD, by omega, ?_⟩
                · rw [upd_same, List.map_append]
                  rfl
                · intro y hy'
                  rcases List.mem_append.mp hy' with hy' | hy'
                  · exact hty y hy'
                  · rw [List.mem_singleton.mp hy']
                    exact tb.mono (by omega)
                · rw [upd_ne n4D]
                  exact ex6 _ _ n4p h4
                · have q : ((i + 1 : Nat) : Int) * (xb (d + 1) + 4) = (i : Int) * (xb (d + 1) + 4) + (xb (d + 1) + 4) := by
                    rw [Int.natCast_add, Int.add_mul]
                    show _ + 1 * _ = _
                    rw [Int.one_mul]
                  rw [q]
                  omega
              · obtain ⟨ys, n3, r3, hD', hlen, hty, pads, ex', h4, P', f1, f2⟩ := hP
                exact ⟨D, ys, n3, r3, rfl, hD', hlen, hty, pads, ex', P', f1, f2⟩
            intro σ3 H3 hm3
            obtain ⟨D, ys, n3, r3, rfl, hD', hlen, hty, pads, ex', P', f1, f2⟩ := hm3
            have ha3 := ex' a _ nap ha
            have nDp : D ≠ p := P'.ne hD'
            refine ⟨_, rfl, a, _, _, _, rfl, rfl, .inl (.inl ha3), rfl, _, rfl, _, rfl, p, c, ns, n3, r3, many, rfl, P', by omega, h0, h1, fun x1 n4 r4 H4 tx1 e4 P4 b1 b2 => ?_⟩
            have gp1 := tx1
            have tx1 := Gp.tx tx1
            have pz := pr_two hmm gp1 pads
            have q1 := tsg.app tx1
            have to : Tx 1 ("(" : Str) := ⟨by decide +kernel, by decide +kernel⟩
            have tc : Tx 1 (")" : Str) := ⟨by decide +kernel, by decide +kernel⟩
            have tk : Tx 1 ("," : Str) := ⟨by decide +kernel, by decide +kernel⟩
            have q2 := q1.app to
            have tj := Tx.join tk hty
            have q3 := q2.app tj
            have q4 := q3.app tc
            rw [hlen] at q3 q4 tj
            have sj : (ys.map (·.length)).sum + ys.length * ("," : Str).length ≤ 16777216 := by
              have : (ys.map (·.length)).sum ≤ (ys.map (·.length)).length * (lb d + 4) := sum_le fun a ha => by
                obtain ⟨y, hy, rfl⟩ := List.mem_map.mp ha
                exact (hty y hy).len
              rw [List.length_map, hlen] at this
              have e0 : ("," : Str).length = 1 := by decide +kernel
              rw [e0, hlen]
              omega
            refine ⟨_, _, rfl, rfl, by have := tx1.len; omega, _, _, rfl, rfl, by have := q1.len; have := to.len; omega, ⟨_, rfl⟩, _, rfl, ",", D, ys, rfl, rfl, .inl (SqL.of (e4 _ _ nDp hD')), sj, _, _, rfl, rfl, by have := q2.len; have := tj.len; omega, _, _, rfl, rfl, by have := q3.len; have := tc.len; omega, _, _, rfl, _, _, _, 2, n4, r4, rfl, ?_, q4.ok, ⟨2, rfl, by decide, pz⟩, ex'.trans e4, P4, by omega, by omega⟩
            have := q4.len
            omega
          | false =>
            refine iteF ⟨_, rfl, a, _, _, _, rfl, rfl, .inl (.inl ha2), rfl, by show 2 ≤ sizeLine; decide, fun t4 htt4 => ⟨t4, _, rfl, .inr (SqT.of upd_same), rfl, rfl, .inr ⟨_, rfl, ?_⟩⟩⟩
            have s3 := same_new (o := .tup [.str "*", .str "//"]) htt4
            have ha3 := s3 _ _ ha2
            have S3 := S2.grow s3
            have e3 : Ext p H _ := e2.trans (Ext.same s3)
            generalize upd H2 t4 (.tup [.str "*", .str "//"]) = H3 at ha3 S3 e3 ⊢
            refine ⟨fun σ' H' => ∃ (ow : Nat) (sx : Str) (n3 r3 : Int), σ' = [some (.ref p), some (.ref a), some (.int level), some (.int many), none, some (.int ow), none, some (.str sx), none] ∧ Tx 7 sx ∧ (ow = owOf sg ∧ ∃ y1 y2, Gp y1 ∧ Gp y2 ∧ sx = y1 ++ sg ++ y2) ∧ Ext p H H' ∧ PenAt H' p c ns n3 r3 ∧ n ≤ n3 ∧ n3 ≤ n + 4, ?_, ?_⟩
            · refine ⟨_, rfl, _, rfl, p, c, ns, n, r, many, rfl, S3, by omega, h0, h1, fun x1 n4 r4 H4 tx1 e4 P4 b1 b2 => ?_⟩
              have gp1 := tx1
              have tx1 := Gp.tx tx1
              refine ⟨_, rfl, a, _, _, _, rfl, rfl, .inl (.inl (e4 _ _ nap ha3)), rfl, _, _, rfl, rfl, by have := tx1.len; omega, _, rfl, _, rfl, p, c, ns, n4, r4, many, rfl, P4, by omega, h0, h1, fun x2 n5 r5 H5 tx2 e5 P5 b3 b4 => ?_⟩
              have gp2 := tx2
              have tx2 := Gp.tx tx2
              have q1 := tx1.app tsg
              have q2 := q1.app tx2
              refine ⟨_, _, rfl, rfl, by have := q1.len; have := tx2.len; omega, owOf sg, _, n5, r5, ?_, q2.mono (by decide), ⟨rfl, x1, x2, gp1, gp2, rfl⟩, (e3.trans e4).trans e5, P5, by omega, by omega⟩
              unfold owOf
              cases inV (V.str sg) [V.str "*", V.str "//"] <;> rfl
            intro σ4 H4 hm4
            obtain ⟨ow, sx, n3, r3, rfl, tsx, ⟨how, y1, y2, gy1, gy2, hsx⟩, ex4, P4, f1, f2⟩ := hm4
            have how1 : ow ≤ 1 := by
              rw [how]
              unfold owOf
              split <;> decide
            have ha4 := ex4 a _ nap ha
            refine ⟨_, rfl, _, rfl, a, _, _, _, rfl, rfl, .inl (.inl ha4), rfl, _, rfl, _, rfl, ?_⟩
            refine ⟨p, c, b, ns, n3, r3, (ow : Int), many, ws, trl, ow, rfl, rfl, by omega, hgn, P4, by omega, h0, h1, t1.ext ex4 S, fun x1 n5 r5 H5 tx1 e5 P5 b1 b2 => ?_⟩
            obtain ⟨tx1, pr1⟩ := tx1
            have q1 := tx1.app tsx
            refine ⟨_, rfl, _, _, rfl, rfl, by have := tx1.len; have := tsx.len; omega, _, rfl, _, rfl, a, _, _, _, rfl, rfl, .inl (.inl (e5 _ _ nap ha4)), rfl, _, rfl, _, _, rfl, rfl, _, rfl, ?_⟩
            refine ⟨p, c, e, ns, n5, r5, (ow : Int) + 1, many, ws, trr, ow + 1, rfl, rfl, by omega, hgn, P5, by omega, h0, h1, t2.ext (ex4.trans e5) S, fun x2 n6 r6 H6 tx2 e6 P6 b3 b4 => ?_⟩
            obtain ⟨tx2, pr2⟩ := tx2
            have pz : Pr ow (.bin sg trl trr) (x1 ++ sx ++ x2).cps.toList := by
              rw [how] at pr1 pr2 ⊢
              rw [hsx]
              exact pr_ops hs hmm gy1 gy2 pr1 pr2
            have q2 := q1.app tx2
            refine ⟨_, _, rfl, rfl, by have := q1.len; have := tx2.len; omega, _, _, _, (ow : Int), n6, r6, rfl, ?_, q2.ok, ⟨ow, rfl, by omega, pz⟩, (ex4.trans e5).trans e6, P6, by omega, by omega⟩
            have := q2.len
            omega
      intro σ1 H1 hm1
      obtain ⟨o6, o7, x, own, n1, r1, rfl, xl, xo, ⟨j, hj, hj2, prx⟩, ex1, P1, f1, f2⟩ := hm1
      have to : Tx 1 ("(" : Str) := ⟨by decide +kernel, by decide +kernel⟩
      have tc : Tx 1 (")" : Str) := ⟨by decide +kernel, by decide +kernel⟩
      have wrap : ∀ (H2 : Hp) (n2 r2 : Int), Ext p H H2 → PenAt H2 p c ns n2 r2 → n ≤ n2 → n2 ≤ n + 2 * xb m + 15 →
          tOp (fun x y H Q => ∃ i j, x = .str i ∧ y = .str j ∧ i.length + j.length ≤ sizeLine ∧ Q (.str (i ++ j)) H) (tOp (fun x y H Q => ∃ i j, x = .str i ∧ y = .str j ∧ i.length + j.length ≤ sizeLine ∧ Q (.str (i ++ j)) H) (tOp (fun x y H Q => ∃ i j, x = .str i ∧ y = .str j ∧ i.length + j.length ≤ sizeLine ∧ Q (.str (i ++ j)) H)
            (tOp (fun x y H Q => ∃ i j, x = .str i ∧ y = .str j ∧ i.length + j.length ≤ sizeLine ∧ Q (.str (i ++ j)) H) (tC (.str "(")) (tCall spGap [] E0 (tCons (tVar 0) (tCons (tVar 3) tNil)))) (tVar 4)) (tCall spGap [] E0 (tCons (tVar 0) (tCons (tVar 3) tNil)))) (tC (.str ")"))
            ([some (.ref p), some (.ref a), some (.int level), some (.int many), some (.str x), some (.int own), o6, o7, none] : L2.St) H2 Q := by
        intro H2 n2 r2 e2 P2 g1 g2
        refine ⟨_, rfl, _, rfl, p, c, ns, n2, r2, many, rfl, P2, by omega, h0, h1, fun x1 n3 r3 H3 tx1 e3 P3 b1 b2 => ?_⟩
        have gp1 := tx1
        have tx1 := Gp.tx tx1
        have q1 := to.app tx1
        have q2 := q1.app (show Tx x.length x from ⟨Nat.le_refl _, xo⟩)
        refine ⟨_, _, rfl, rfl, by have := to.len; have := tx1.len; omega, _, rfl, _, _, rfl, rfl, by have := q1.len; omega, _, rfl, _, rfl, p, c, ns, n3, r3, many, rfl, P3, by omega, h0, h1, fun x2 n4 r4 H4 tx2 e4 P4 b3 b4 => ?_⟩
        have gp2 := tx2
        have tx2 := Gp.tx tx2
        have q3 := q2.app tx2
        have q4 := q3.app tc
        refine ⟨_, _, rfl, rfl, by have := q2.len; have := tx2.len; omega, _, _, rfl, rfl, by have := q3.len; have := tc.len; omega, ?_⟩
        exact k _ n4 r4 _ ⟨q4.mono (by omega), .weak hl2 (pr_brk gp1 gp2 prx)⟩ ((e2.trans e3).trans e4) P4 (by omega) (by omega)
      refine ⟨_, rfl, _, rfl, _, _, rfl, rfl, _, rfl, ?_⟩
      by_cases c1 : own < level
      · rw [decide_eq_true c1]
        exact iteT (iteT (wrap H1 n1 r1 ex1 P1 f1 (by omega)))
      · rw [decide_eq_false c1]
        refine iteF ⟨_, rfl, p, c, ns, n1, r1, 12, rfl, P1, by decide, by decide, by omega, fun dd n2 r2 d0 d1 b1 b2 P2 => ?_⟩
        have ex2 := ex1.trans (Ext.upd p H1 (.dK (penD c n2 r2)))
        generalize upd H1 p (.dK (penD c n2 r2)) = H2 at P2 ex2 ⊢
        refine ⟨rfl, _, rfl, ?_⟩
        cases decide (V.int dd = V.int 0) with
        | true => exact iteT (wrap H2 n2 r2 ex2 P2 (by omega) (by omega))
        | false => exact iteF ⟨_, rfl, k x n2 r2 _ ⟨⟨by omega, xo⟩, .weak (by omega) prx⟩ ex2 P2 (by omega) (by omega)⟩
end
end Toy
end

section
set_option Elab.async false
set_option linter.all false
set_option maxRecDepth 100000
namespace Toy
open PySem L2 Gd Kt
/-! ### formulas -/
abbrev sForm : Stmt := top 47
theorem TreeAt.mono {H : Hp} {ws : List Str} {d : Nat} {tr : Tr} {a : Addr} (t : TreeAt H ws d tr a) : ∀ {e : Nat}, d ≤ e → TreeAt H ws e tr a := by
  induction t with
  | num n h0 h1 h => exact fun _ => .num n h0 h1 h
  | nam y t h => exact fun _ => .nam y t h
  | neg h t ih =>
    intro e he
    obtain ⟨e, rfl⟩ : ∃ e', e = e' + 1 := ⟨e - 1, by omega⟩
    exact .neg h (ih (by omega))
  | bin s hs h t u ih1 ih2 =>
    intro e he
    obtain ⟨e, rfl⟩ : ∃ e', e = e' + 1 := ⟨e - 1, by omega⟩
    exact .bin s hs h (ih1 (by omega)) (ih2 (by omega))
def spTxtU : Sp := fun vs H Q E => ∃ m, m ≤ 4 ∧ spTxt (m + 1) vs H Q E
/-- a text with gaps around, of up to a hundred signs -/
def PadF (t : Tr) (x : Str) : Prop := ∃ g1 g2 l, g1 ≤ 2 ∧ g2 ≤ 2 ∧ Pr 0 t l ∧ x.cps.toList = sp g1 ++ (l ++ sp g2)
def spForm : Sp := fun vs H Q _ => ∃ (p c l : Addr) (ns : List Int) (n r deep : Int) (ws : List Str), vs = [.ref p, .int deep, .ref l] ∧ PenAt H p c ns n r ∧ n < 600000 ∧ 0 ≤ deep ∧ deep ≤ 4 ∧ H l = some (.lst (ws.map V.str)) ∧ (∀ y ∈ ws, Gn 8 y) ∧ ws.length ≤ 26 ∧
  ∀ (q : Addr) (t : Addr) (x : Str) (n' r' : Int) (H' : Hp), H' q = some (.tup [.ref t, .str x]) → (Tx 100 x ∧ ∃ tr, TreeAt H' ws 4 tr t ∧ PadF tr x) → Ext p H H' → PenAt H' p c ns n' r' → n ≤ n' → n' ≤ n + 5000 → Q (.ref q) H'
theorem padF_of {t : Tr} {x y z : Str} (h1 : Gp x) (h : Pr 0 t y.cps.toList) (h2 : Gp z) : PadF t (x ++ y ++ z) := pad_of h1 h h2
theorem padF_pr {t : Tr} {y : Str} (h : Pr 0 t y.cps.toList) : PadF t y := ⟨0, 0, _, by decide, by decide, h, by simp [sp]⟩
theorem tree_tup {H : Hp} {ws : List Str} {d : Nat} {tr : Tr} {a : Addr} (t : TreeAt H ws d tr a) : ∃ xs, H a = some (.tup xs) := by
  cases t with
  | num n h0 h1 h => exact ⟨_, h⟩
  | nam y t h => exact ⟨_, h⟩
  | neg h t => exact ⟨_, h⟩
  | bin s hs h t u => exact ⟨_, h⟩
def formW (ws : List Str) (p c l : Addr) (ns : List Int) (n deep many : Int) (H : Hp) (k : Nat) : L2.St → Hp → Prop := fun σ' H' => ∃ (t : Addr) (tr : Tr) (x : Str) (d : Nat) (n3 r3 : Int), σ' = [some (.ref p), some (.int deep), some (.ref l), some (.ref t), some (.int many), some (.str x)] ∧ Tx 1404 x ∧ (TreeAt H' ws d tr t ∧ PadF tr x) ∧ d ≤ 4 ∧ (k = d + 1 ∨ (k = 0 ∧ x.length ≤ 100)) ∧ Ext p H H' ∧ PenAt H' p c ns n3 r3 ∧ n ≤ n3 ∧ n3 ≤ n + 1300 + (5 - (k : Int)) * 620
theorem kt_int : kitB "int" "tuple" = some false := by decide +kernel
theorem kt_str : kitB "str" "tuple" = some false := by decide +kernel
theorem kt_tup : kitB "tuple" "tuple" = some true := by decide +kernel
section
variable {P : Program} {w : World} {K : PySem.W.Frag} {mg : Str → Option Value} {base : Heap} {f fP fG fT fX : Addr} {fd fdP fdG fdT fdX : FuncData}
theorem txt_u (G : ∀ m, m ≤ 4 → FnOk P w K mg base CX0 (m + 6) fX fdX psTx (spTxt (m + 1))) : FnOk P w K mg base CX0 10 fX fdX psTx spTxtU :=
  ⟨fun vs H Q E ⟨m, hm, h⟩ => (G m hm).len vs H Q E h, fun A outer s H a us vs Q E hr e b r ⟨m, hm, h⟩ => (G m hm).run A outer s H a us vs Q E (hr.mono (by omega)) e b r h⟩
abbrev NFo : List Str := ["_law_pen_here", "_law_deep", "_law_words", "_law_tree_here", "_law_many", "_law_text"]
theorem scForm : FnScope NFo psTr (defScope sForm) := ⟨rfl, rfl, rfl, by decide +kernel, rfl, by decide +kernel, by decide +kernel⟩
theorem ok_form (F : Fun K "_law_formula" "_law_formula" sForm f fd) (T : TxtM K mg)
    (Dpick : Dn K mg "_law_pick" fP fdP ["_law_pen_here", "_law_options"]) (Gpick : FnOk P w K mg base CX0 3 fP fdP ["_law_pen_here", "_law_options"] spPick)
    (Dgap : Dn K mg "_law_gap" fG fdG ["_law_pen_here", "_law_many"]) (Ggap : FnOk P w K mg base CX0 4 fG fdG ["_law_pen_here", "_law_many"] spGap)
    (DT : Dn K mg "_law_tree" fT fdT psTr) (GT : FnOk P w K mg base CX0 13 fT fdT psTr (spTree 5))
    (DX : Dn K mg "_law_text_of" fX fdX psTx) (GX : FnOk P w K mg base CX0 10 fX fdX psTx spTxtU) : FnOk P w K mg base CX0 14 f fd psTr spForm := by
  refine F.ok scForm (fun vs H Q E h => ?_) (fun cdv A outer s H vs Q E hr h => ?_)
  · obtain ⟨p, c, l, ns, n, r, deep, ws, rfl, _⟩ := h
    rfl
  · obtain ⟨p, c, l, ns, n, r, deep, ws, rfl, S, hn, h0, h1, hl, htx, hlen, k⟩ := h
    have hr3 : Room 3 _ := hr.mono (by decide)
    have hr4 : Room 4 _ := hr.mono (by decide)
    have hr10 : Room 10 _ := hr.mono (by decide)
    refine ⟨_, C8.pss_cut (ps_par (i := 3) (j := 4) (by rfl) scForm.nd rfl rfl (by decide) rfl rfl (pa_cons (pe_call GT hr rfl DT.m DT.k DT.b .nil pass0 (pa_cons (pv 0) (pa_cons (pv 1) (pa_cons (pv 2) pa_nil))))
          (pa_cons (pe_call Gpick hr3 rfl Dpick.m Dpick.k Dpick.b .nil pass0 (pa_cons (pv 0) (pa_cons (pe_lst (pa_cons pe_int (pa_cons pe_int pa_nil))) pa_nil))) pa_nil)) (by rfl))
      (C8.pss_cut (ps_set (i := 5) scForm.nd rfl (Or.inl rfl) (pe_op op_add_str (pe_op op_add_str (pe_call Ggap hr4 rfl Dgap.m Dgap.k Dgap.b .nil pass0 (pa_cons (pv 0) (pa_cons (pv 4) pa_nil)))
          (pe_call GX hr10 rfl DX.m DX.k DX.b .nil pass0 (pa_cons (pv 0) (pa_cons (pv 3) (pa_cons pe_int (pa_cons (pv 4) pa_nil)))))) (pe_call Ggap hr4 rfl Dgap.m Dgap.k Dgap.b .nil pass0 (pa_cons (pv 0) (pa_cons (pv 4) pa_nil)))))
      (C8.pss_cut (ps_while PassesOwn.never (pt_cmpR op_gt (pe_callB call_len (by rfl) T.len PySem.boot_len (pa_cons (pv 5) pa_nil)) pe_int (nomark _))
          (C8.pss_cut (ps_set (i := 3) scForm.nd rfl (Or.inl rfl) (pe_ifExp (pt_val (pe_callB call_isi (by rfl) T.isi (by decide +kernel) (pa_cons (pe_ix ix_tup (pv 3) pe_int (fun _ _ => rfl)) (pa_cons (pe_bltn (by rfl) T.tuple (by decide +kernel) (v := .ty "tuple") rfl) pa_nil))))
              (pe_ix ix_tup (pv 3) pe_int (fun _ _ => rfl)) (pe_tup (pa_cons pe_str (pa_cons pe_int pa_nil)))))
          (pss_one (ps_set (i := 5) scForm.nd rfl (Or.inl rfl) (pe_call GX hr10 rfl DX.m DX.k DX.b .nil pass0 (pa_cons (pv 0) (pa_cons (pv 3) (pa_cons pe_int (pa_cons pe_int pa_nil)))))))))
      (pss_one (ps_ret (pe_tup (pa_cons (pv 3) (pa_cons (pv 5) pa_nil))))))), ?_⟩
    have tb5 : tb 5 = 620 := by decide
    have xb5 : xb 5 = 620 := by decide
    have sz : sizeLine = 16777216 := by decide
    refine ⟨fun σ' H' => ∃ (t : Addr) (many n1 r1 : Int), σ' = [some (.ref p), some (.int deep), some (.ref l), some (.ref t), some (.int many), none] ∧ 1 ≤ many ∧ many ≤ 3 ∧ (∃ tr, TreeAt H' ws 4 tr t) ∧ Ext p H H' ∧ PenAt H' p c ns n1 r1 ∧ n ≤ n1 ∧ n1 ≤ n + 621, ?_, ?_⟩
    · refine ⟨_, rfl, _, rfl, _, rfl, p, c, l, ns, n, r, deep, ws, rfl, S, by rw [tb5]; omega, h0, h1, hl, (fun y hy => (htx y hy).tx), hlen, fun t n1 r1 H1 ht e1 P1 a1 a2 => ?_⟩
      rw [tb5] at a2
      refine ⟨_, rfl, by show 2 ≤ sizeLine; decide, fun q hq => ?_⟩
      have P2 := P1.grow (same_new (o := .lst [.int 1, .int 3]) hq)
      have e2 := e1.trans (Ext.new (p := p) (o := .lst [.int 1, .int 3]) hq)
      obtain ⟨tr, ht⟩ := ht
      have t2 := ht.grow fun b xs h => same_new (o := .lst [.int 1, .int 3]) hq _ _ h
      refine ⟨p, c, ns, n1, r1, q, _, rfl, P2, by omega, upd_same, (by show 0 < 2; decide), (by show 2 ≤ 60000000; decide), fun v n2 r2 hv b1 b2 P3 => ?_⟩
      have t3 := t2.ext (Ext.upd p _ (.dK (penD c n2 r2))) P2
      have e3 := e2.trans (Ext.upd p _ (.dK (penD c n2 r2)))
      simp only [List.mem_cons, List.not_mem_nil, or_false] at hv
      rcases hv with rfl | rfl
      · exact ⟨_, _, rfl, t, 1, n2, r2, rfl, by decide, by decide, ⟨tr, t3⟩, e3, P3, by omega, by omega⟩
      · exact ⟨_, _, rfl, t, 3, n2, r2, rfl, by decide, by decide, ⟨tr, t3⟩, e3, P3, by omega, by omega⟩
    intro σ1 H1 hm1
    obtain ⟨t, many, n1, r1, rfl, m0, m1, ⟨tr, ht⟩, e1, P1, a1, a2⟩ := hm1
    refine ⟨fun σ' H' => ∃ (x : Str) (n2 r2 : Int), σ' = [some (.ref p), some (.int deep), some (.ref l), some (.ref t), some (.int many), some (.str x)] ∧ Tx 1404 x ∧ (TreeAt H' ws 4 tr t ∧ PadF tr x) ∧ Ext p H H' ∧ PenAt H' p c ns n2 r2 ∧ n ≤ n2 ∧ n2 ≤ n + 1300, ?_, ?_⟩
    · refine ⟨_, rfl, _, rfl, p, c, ns, n1, r1, many, rfl, P1, by omega, m0, m1, fun x1 n2 r2 H2 tx1 e2 P2 b1 b2 => ?_⟩
      have gp1 := tx1
      have tx1 := Gp.tx tx1
      refine ⟨_, rfl, _, rfl, _, rfl, 4, Nat.le_refl _, p, c, t, ns, n2, r2, 0, many, ws, tr, 0, rfl, rfl, by decide, htx, P2, by rw [xb5]; omega, m0, m1, ht.ext e2 P1, fun x2 n3 r3 H3 tx2 e3 P3 b3 b4 => ?_⟩
      rw [xb5] at b4
      obtain ⟨tx2, pr2⟩ := tx2
      have l4 : lb 4 = 1400 := by decide
      rw [l4] at tx2
      have q1 := tx1.app tx2
      refine ⟨_, _, rfl, rfl, by have := tx1.len; have := tx2.len; omega, _, rfl, _, rfl, p, c, ns, n3, r3, many, rfl, P3, by omega, m0, m1, fun x3 n4 r4 H4 tx3 e4 P4 b5 b6 => ?_⟩
      have pf := padF_of gp1 pr2 tx3
      have tx3 := Gp.tx tx3
      have q2 := q1.app tx3
      exact ⟨_, _, rfl, rfl, by have := q1.len; have := tx3.len; omega, _, n4, r4, rfl, q2.mono (by decide), ⟨ht.ext ((e2.trans e3).trans e4) P1, pf⟩, ((e1.trans e2).trans e3).trans e4, P4, by omega, by omega⟩
    intro σ2 H2 hm2
    obtain ⟨x, n2, r2, rfl, tx, ht2, e2, P2, a3, a4⟩ := hm2
    refine ⟨fun σ' H' => ∃ (t : Addr) (x : Str) (n3 r3 : Int), σ' = [some (.ref p), some (.int deep), some (.ref l), some (.ref t), some (.int many), some (.str x)] ∧ (Tx 100 x ∧ ∃ tr, TreeAt H' ws 4 tr t ∧ PadF tr x) ∧ Ext p H H' ∧ PenAt H' p c ns n3 r3 ∧ n ≤ n3 ∧ n3 ≤ n + 5000, ?_, ?_⟩
    · refine ⟨formW ws p c l ns n deep many H, ⟨5, t, tr, x, 4, n2, r2, rfl, tx, ht2, by decide, .inl rfl, e2, P2, a3, by omega⟩, ?_⟩
      intro kk σ' H3 hW
      obtain ⟨t, tr, x, d, n3, r3, rfl, tx, ⟨ht, pf⟩, hd, hk, e3, P3, b1, b2⟩ := hW
      have ht0 := ht
      have pf0 := pf
      refine ⟨_, rfl, _, _, rfl, ⟨by have := tx.len; omega, rfl⟩, _, _, rfl, rfl, _, rfl, ?_⟩
      by_cases c1 : (100 : Int) < (x.length : Int)
      · rw [decide_eq_true c1]
        obtain rfl : kk = d + 1 := hk.elim id fun z => by omega
        refine iteT ⟨fun σ' H' => ∃ k', k' < d + 1 ∧ formW ws p c l ns n deep many H k' σ' H', fun _ _ z => z, ?_⟩
        refine ⟨fun σ' H' => ∃ t', σ' = [some (.ref p), some (.int deep), some (.ref l), some (.ref t'), some (.int many), some (.str x)] ∧ ((∃ d' tr', d = d' + 1 ∧ TreeAt H' ws d' tr' t') ∨ ∃ tr', TreeAt H' ws 0 tr' t') ∧ Ext p H H' ∧ PenAt H' p c ns n3 r3, ?_, ?_⟩
        · cases ht with
          | num v v0 v1 ha =>
            refine ⟨_, rfl, t, _, _, _, rfl, rfl, .inl (.inl ha), rfl, .int v, _, _, _, false, rfl, .ty "tuple", .base (.int v), kit_ty kt_int, _, rfl, ?_⟩
            refine iteF ⟨by show 2 ≤ sizeLine; decide, fun q hq => ⟨q, rfl, .inr ⟨_, .num 7 (by decide) (by decide) upd_same⟩, e3.trans (Ext.new hq), P3.grow (same_new hq)⟩⟩
          | nam y ty ha =>
            refine ⟨_, rfl, t, _, _, _, rfl, rfl, .inl (.inl ha), rfl, .str y, _, _, _, false, rfl, .ty "tuple", .base (.str y), kit_ty kt_str, _, rfl, ?_⟩
            refine iteF ⟨by show 2 ≤ sizeLine; decide, fun q hq => ⟨q, rfl, .inr ⟨_, .num 7 (by decide) (by decide) upd_same⟩, e3.trans (Ext.new hq), P3.grow (same_new hq)⟩⟩
          | @neg d' _ b tn ha tt =>
            obtain ⟨xs, hb⟩ := tree_tup tt
            refine ⟨_, rfl, t, _, _, _, rfl, rfl, .inl (.inl ha), rfl, .ref b, _, _, _, true, rfl, .ty "tuple", .base (.tup hb), kit_ty kt_tup, _, rfl, ?_⟩
            exact iteT ⟨_, rfl, t, _, _, _, rfl, rfl, .inl (.inl ha), rfl, b, rfl, .inl ⟨d', _, rfl, tt⟩, e3, P3⟩
          | @bin d' _ b e trl trr sg hs ha t1 t2 =>
            obtain ⟨xs, hb⟩ := tree_tup t1
            refine ⟨_, rfl, t, _, _, _, rfl, rfl, .inl (.inl ha), rfl, .ref b, _, _, _, true, rfl, .ty "tuple", .base (.tup hb), kit_ty kt_tup, _, rfl, ?_⟩
            exact iteT ⟨_, rfl, t, _, _, _, rfl, rfl, .inl (.inl ha), rfl, b, rfl, .inl ⟨d', _, rfl, t1⟩, e3, P3⟩
        intro σ4 H4 hm4
        obtain ⟨t', rfl, hd', e4, P4⟩ := hm4
        refine ⟨_, rfl, _, rfl, ?_⟩
        rcases hd' with ⟨d', tr', rfl, ht'⟩ | ⟨tr', ht'⟩
        · refine ⟨4, Nat.le_refl _, p, c, t', ns, n3, r3, 0, 1, ws, tr', 0, rfl, rfl, by decide, htx, P4, by rw [xb5]; omega, by decide, by decide, ht'.mono (show d' ≤ 4 by omega), fun x2 n5 r5 H5 tx2 e5 P5 b3 b4 => ?_⟩
          obtain ⟨tx2, pr2⟩ := tx2
          rw [xb5] at b4
          have l4 : lb 4 = 1400 := by decide
          rw [l4] at tx2
          refine ⟨d' + 1, by omega, t', tr', x2, d', n5, r5, rfl, tx2.mono (by decide), ⟨ht'.ext e5 P4, padF_pr pr2⟩, by omega, .inl rfl, e4.trans e5, P5, by omega, by omega⟩
        · have xb1 : xb (0 + 1) = 20 := by decide
          have l0 : lb 0 = 50 := by decide
          refine ⟨0, by decide, p, c, t', ns, n3, r3, 0, 1, ws, tr', 0, rfl, rfl, by decide, htx, P4, by rw [xb1]; omega, by decide, by decide, ht', fun x2 n5 r5 H5 tx2 e5 P5 b3 b4 => ?_⟩
          obtain ⟨tx2, pr2⟩ := tx2
          rw [xb1] at b4
          rw [l0] at tx2
          refine ⟨0, by omega, t', tr', x2, 0, n5, r5, rfl, tx2.mono (by decide), ⟨ht'.ext e5 P4, padF_pr pr2⟩, by decide, .inr ⟨rfl, by have := tx2.len; omega⟩, e4.trans e5, P5, by omega, by omega⟩
      · rw [decide_eq_false c1]
        exact iteF ⟨t, x, n3, r3, rfl, ⟨⟨by omega, tx.ok⟩, tr, ht0.mono hd, pf0⟩, e3, P3, b1, by omega⟩
    intro σ3 H3 hm3
    obtain ⟨t, x, n3, r3, rfl, tx, e3, P3, b1, b2⟩ := hm3
    refine ⟨_, rfl, _, rfl, by show 2 ≤ sizeLine; decide, fun q hq => ?_⟩
    exact k q t x n3 r3 _ upd_same ⟨tx.1, tx.2.choose, tx.2.choose_spec.1.grow fun b xs h => same_new hq _ _ h, tx.2.choose_spec.2⟩ (e3.trans (Ext.new hq)) (P3.grow (same_new hq)) b1 b2
end
end Toy
end

section
set_option Elab.async false
set_option linter.all false
set_option maxRecDepth 100000
namespace Toy
open PySem PySem.Spec PyProof.Rows L2 Gd Kt
/-! ### results and operations -/
inductive Rs where
  | val (n : Int)
  | bad (w : Str)
def TEN : Int := 1000000000000000000000000000000
def lim (n : Int) : Rs := if -TEN ≤ n ∧ n ≤ TEN then .val n else .bad "range"
def negR : Rs → Rs
  | .val n => .val (-n)
  | .bad w => .bad w
def tot (sg : Str) (x y : Int) : Int := if sg = "+" then x + y else if sg = "-" then x - y else if sg = "*" then x * y else if sg = "min" then (if y < x then y else x) else (if y > x then y else x)
def comb (sg : Str) (l r : Rs) : Rs := match l with
  | .bad w => .bad w
  | .val x => match r with
    | .bad w => .bad w
    | .val y => if sg = "//" then (if y = 0 then .bad "zero" else lim (x.fdiv y)) else lim (tot sg x y)
/-- a result at an address -/
def RsAt (H : Hp) (a : Addr) : Rs → Prop
  | .val n => H a = some (.tup [.str "value", .int n]) ∧ -TEN ≤ n ∧ n ≤ TEN
  | .bad w => H a = some (.tup [.str "failed", .str w]) ∧ (w = "zero" ∨ w = "range")
theorem RsAt.grow {H H' : Hp} {a : Addr} {r : Rs} (h : RsAt H a r) (k : ∀ b xs, H b = some (.tup xs) → H' b = some (.tup xs)) : RsAt H' a r := by
  cases r with
  | val n => exact ⟨k _ _ h.1, h.2⟩
  | bad w => exact ⟨k _ _ h.1, h.2⟩
def CDivG (_ j : Int) : Prop := j ≠ 0 ∧ j.natAbs.log2 < 9000
theorem op_fdivG {X : Cx} : OpR X (binaryOp .FloorDiv) (rI CDivG fun i j => .int (i.fdiv j)) := opI fun i j _ _ _ _ _ hc q => floordiv_int hc.1 q (.inl (PyProof.noPylong_of_log2 hc.2))
abbrev sWithin : Stmt := top 12
abbrev sResOf : Stmt := top 22
abbrev sComb : Stmt := top 23
abbrev sTot : Stmt := top 24
def spWithin : Sp := fun vs H Q _ => ∃ n : Int, vs = [.int n] ∧ Q (.bl (decide (-TEN ≤ n ∧ n ≤ TEN))) H
def spResOf : Sp := fun vs H Q _ => ∃ n : Int, vs = [.int n] ∧ ∀ a H', Same H H' → RsAt H' a (lim n) → Q (.ref a) H'
def spTot : Sp := fun vs H Q _ => ∃ (sg : Str) (x y : Int), vs = [.str sg, .int x, .int y] ∧ -TEN ≤ x ∧ x ≤ TEN ∧ -TEN ≤ y ∧ y ≤ TEN ∧ Q (.int (tot sg x y)) H
def spComb : Sp := fun vs H Q _ => ∃ (sg : Str) (a b : Addr) (l r : Rs), vs = [.str sg, .ref a, .ref b] ∧ RsAt H a l ∧ RsAt H b r ∧ ∀ d H', Same H H' → RsAt H' d (comb sg l r) → Q (.ref d) H'
theorem lim_at {H : Hp} {n : Int} {Q : VK} (k : ∀ a H', Same H H' → RsAt H' a (lim n) → Q (.ref a) H') :
    (if decide (-TEN ≤ n ∧ n ≤ TEN) = true then (2 ≤ sizeLine ∧ ∀ p, H p = none → Q (.ref p) (upd H p (.tup [.str "value", .int n]))) else (2 ≤ sizeLine ∧ ∀ p, H p = none → Q (.ref p) (upd H p (.tup [.str "failed", .str "range"])))) := by
  by_cases c : -TEN ≤ n ∧ n ≤ TEN
  · rw [if_pos (decide_eq_true c)]
    refine ⟨by decide, fun p hp => k p _ (same_new hp) ?_⟩
    unfold lim
    rw [if_pos c]
    exact ⟨upd_same, c.1, c.2⟩
  · rw [if_neg (by simpa using c)]
    refine ⟨by decide, fun p hp => k p _ (same_new hp) ?_⟩
    unfold lim
    rw [if_neg c]
    exact ⟨upd_same, .inr rfl⟩
theorem ten_bits {n : Int} (h1 : -TEN ≤ n) (h2 : n ≤ TEN) : n.natAbs < 2 ^ 100 := by
  have e : TEN = 1000000000000000000000000000000 := rfl
  rw [e] at h1 h2
  omega
section
variable {P : Program} {w : World} {K : PySem.W.Frag} {mg : Str → Option Value} {base : Heap} {f f1 f2 f3 : Addr} {fd fd1 fd2 fd3 : FuncData}
theorem scWi : FnScope ["number"] ["number"] (defScope sWithin) := ⟨rfl, rfl, rfl, by decide +kernel, rfl, by decide +kernel, by decide +kernel⟩
theorem ok_within (F : Fun K "is_within" "is_within" sWithin f fd) (lm : ∃ t, mg "LIMIT" = some (.int TEN t)) : FnOk P w K mg base CX0 1 f fd ["number"] spWithin := by
  refine F.ok scWi (fun vs H Q E h => ?_) (fun cdv A outer s H vs Q E hr h => ?_)
  · obtain ⟨n, rfl, _⟩ := h
    rfl
  · obtain ⟨n, rfl, k⟩ := h
    obtain ⟨t, hL⟩ := lm
    refine ⟨_, pss_one (ps_ret (pe_chain op_le op_le (pe_un un_neg (pe_glob (v := .int TEN) (by rfl) hL ⟨_, rfl⟩)) (pv 0) (pe_glob (v := .int TEN) (by rfl) hL ⟨_, rfl⟩))), ?_⟩
    refine ⟨_, rfl, _, rfl, _, _, rfl, rfl, _, rfl, ?_⟩
    by_cases c1 : -TEN ≤ n
    · rw [if_pos (decide_eq_true c1)]
      refine ⟨_, _, rfl, rfl, ?_⟩
      rw [show decide (-TEN ≤ n ∧ n ≤ TEN) = decide (n ≤ TEN) from by simp [c1]] at k
      exact k
    · rw [if_neg (by simpa using c1)]
      rw [show decide (-TEN ≤ n ∧ n ≤ TEN) = false from by simp [c1]] at k
      exact k
theorem scRes : FnScope ["number"] ["number"] (defScope sResOf) := ⟨rfl, rfl, rfl, by decide +kernel, rfl, by decide +kernel, by decide +kernel⟩
theorem ok_resOf (F : Fun K "result_of" "result_of" sResOf f fd) (D1 : Dn K mg "is_within" f1 fd1 ["number"]) (G1 : FnOk P w K mg base CX0 1 f1 fd1 ["number"] spWithin) : FnOk P w K mg base CX0 2 f fd ["number"] spResOf := by
  refine F.ok scRes (fun vs H Q E h => ?_) (fun cdv A outer s H vs Q E hr h => ?_)
  · obtain ⟨n, rfl, _⟩ := h
    rfl
  · obtain ⟨n, rfl, k⟩ := h
    refine ⟨_, pss_one (ps_ret (pe_ifExp (pt_val (pe_call G1 hr rfl D1.m D1.k D1.b .nil pass0 (pa_cons (pv 0) pa_nil))) (pe_tup (pa_cons pe_str (pa_cons (pv 0) pa_nil))) (pe_tup (pa_cons pe_str (pa_cons pe_str pa_nil))))), ?_⟩
    refine ⟨_, rfl, n, rfl, _, rfl, ?_⟩
    have h := lim_at (H := H) (n := n) (Q := Q) k
    by_cases c : decide (-TEN ≤ n ∧ n ≤ TEN) = true
    · rw [if_pos c] at h
      rw [c]
      exact iteT ⟨_, rfl, h⟩
    · rw [if_neg c] at h
      rw [show decide (-TEN ≤ n ∧ n ≤ TEN) = false by simpa using c]
      exact iteF h
theorem scTot : FnScope ["sign", "one", "other"] ["sign", "one", "other"] (defScope sTot) := ⟨rfl, rfl, rfl, by decide +kernel, rfl, by decide +kernel, by decide +kernel⟩
theorem ok_tot (F : Fun K "total_of" "total_of" sTot f fd) (T : TxtB K mg) : FnOk P w K mg base CX0 1 f fd ["sign", "one", "other"] spTot := by
  refine F.ok scTot (fun vs H Q E h => ?_) (fun cdv A outer s H vs Q E hr h => ?_)
  · obtain ⟨sg, x, y, rfl, _⟩ := h
    rfl
  · obtain ⟨sg, x, y, rfl, x0, x1, y0, y1, k⟩ := h
    refine ⟨_, pss_cons (ps_if (pt_cmpR op_eq (pv 0) pe_str (nomark _)) (pss_one (ps_ret (pe_op op_add (pv 1) (pv 2)))) pss_nil)
      (pss_cons (ps_if (pt_cmpR op_eq (pv 0) pe_str (nomark _)) (pss_one (ps_ret (pe_op op_sub (pv 1) (pv 2)))) pss_nil)
      (pss_cons (ps_if (pt_cmpR op_eq (pv 0) pe_str (nomark _)) (pss_one (ps_ret (pe_op op_mulW (pv 1) (pv 2)))) pss_nil)
      (pss_one (ps_ret (pe_ifExp (pt_cmpR op_eq (pv 0) pe_str (nomark _)) (pe_callB (call_min2 (by rfl)) (by rfl) T.min (by decide +kernel) (pa_cons (pv 1) (pa_cons (pv 2) pa_nil)))
        (pe_callB (call_max2 (by rfl)) (by rfl) T.max (by decide +kernel) (pa_cons (pv 1) (pa_cons (pv 2) pa_nil)))))))), ?_⟩
    refine ⟨_, rfl, rfl, _, rfl, ?_⟩
    rw [str_dec2]
    unfold tot at k
    by_cases c1 : sg = "+"
    · rw [decide_eq_true c1]
      rw [if_pos c1] at k
      exact iteT ⟨_, rfl, _, rfl, _, _, rfl, rfl, k⟩
    rw [decide_eq_false c1]
    rw [if_neg c1] at k
    refine iteF ⟨_, rfl, rfl, _, rfl, ?_⟩
    rw [str_dec2]
    by_cases c2 : sg = "-"
    · rw [decide_eq_true c2]
      rw [if_pos c2] at k
      exact iteT ⟨_, rfl, _, rfl, _, _, rfl, rfl, k⟩
    rw [decide_eq_false c2]
    rw [if_neg c2] at k
    refine iteF ⟨_, rfl, rfl, _, rfl, ?_⟩
    rw [str_dec2]
    by_cases c3 : sg = "*"
    · rw [decide_eq_true c3]
      rw [if_pos c3] at k
      exact iteT ⟨_, rfl, _, rfl, _, _, rfl, rfl, wide_mul (ten_bits x0 x1) (ten_bits y0 y1) (by decide) (by decide) (by decide), k⟩
    rw [decide_eq_false c3]
    rw [if_neg c3] at k
    refine iteF ⟨_, rfl, rfl, _, rfl, ?_⟩
    rw [str_dec2]
    by_cases c4 : sg = "min"
    · rw [decide_eq_true c4]
      rw [if_pos c4] at k
      exact iteT ⟨_, rfl, _, rfl, _, _, rfl, k⟩
    rw [decide_eq_false c4]
    rw [if_neg c4] at k
    exact iteF ⟨_, rfl, _, rfl, _, _, rfl, k⟩
abbrev NCo : List Str := ["sign", "left", "right", "one", "other"]
theorem scComb : FnScope NCo ["sign", "left", "right"] (defScope sComb) := ⟨rfl, rfl, rfl, by decide +kernel, rfl, by decide +kernel, by decide +kernel⟩
theorem ok_comb (F : Fun K "combined" "combined" sComb f fd) (D1 : Dn K mg "result_of" f1 fd1 ["number"]) (G1 : FnOk P w K mg base CX0 2 f1 fd1 ["number"] spResOf)
    (D2 : Dn K mg "total_of" f2 fd2 ["sign", "one", "other"]) (G2 : FnOk P w K mg base CX0 1 f2 fd2 ["sign", "one", "other"] spTot) : FnOk P w K mg base CX0 3 f fd ["sign", "left", "right"] spComb := by
  refine F.ok scComb (fun vs H Q E h => ?_) (fun cdv A outer s H vs Q E hr h => ?_)
  · obtain ⟨sg, a, b, l, r, rfl, _⟩ := h
    rfl
  · obtain ⟨sg, a, b, l, r, rfl, ha, hb, k⟩ := h
    have hr1 : Room 1 _ := hr.mono (by decide)
    refine ⟨_, pss_cons (ps_if (pt_cmpR op_eq (pe_ix ix_tup (pv 1) pe_int (fun _ _ => rfl)) pe_str (nomark _)) (pss_one (ps_ret (pv 1))) pss_nil)
      (pss_cons (ps_if (pt_cmpR op_eq (pe_ix ix_tup (pv 2) pe_int (fun _ _ => rfl)) pe_str (nomark _)) (pss_one (ps_ret (pv 2))) pss_nil)
      (pss_cons (ps_par (i := 3) (j := 4) (by rfl) scComb.nd rfl rfl (by decide) rfl rfl (pa_cons (pe_ix ix_tup (pv 1) pe_int (fun _ _ => rfl)) (pa_cons (pe_ix ix_tup (pv 2) pe_int (fun _ _ => rfl)) pa_nil)) (by rfl))
      (pss_cons (ps_if (pt_cmpR op_eq (pv 0) pe_str (nomark _)) (pss_one (ps_ret (pe_ifExp (pt_cmpR op_eq (pv 4) pe_int (nomark _)) (pe_tup (pa_cons pe_str (pa_cons pe_str pa_nil)))
          (pe_call G1 hr rfl D1.m D1.k D1.b .nil pass0 (pa_cons (pe_op op_fdivG (pv 3) (pv 4)) pa_nil))))) pss_nil)
      (pss_one (ps_ret (pe_call G1 hr rfl D1.m D1.k D1.b .nil pass0 (pa_cons (pe_call G2 hr1 rfl D2.m D2.k D2.b .nil pass0 (pa_cons (pv 0) (pa_cons (pv 3) (pa_cons (pv 4) pa_nil)))) pa_nil))))))), ?_⟩
    cases l with
    | bad w =>
      refine ⟨_, rfl, a, _, _, _, rfl, rfl, .inl (.inl ha.1), rfl, rfl, _, rfl, ?_⟩
      rw [show decide (V.str "failed" = V.str "failed") = true from decide_eq_true rfl]
      exact iteT ⟨_, rfl, k a H (Same.refl _) ha⟩
    | val x =>
      obtain ⟨ha, x0, x1⟩ := ha
      refine ⟨_, rfl, a, _, _, _, rfl, rfl, .inl (.inl ha), rfl, rfl, _, rfl, ?_⟩
      rw [show decide (V.str "value" = V.str "failed") = false by decide +kernel]
      cases r with
      | bad w =>
        refine iteF ⟨_, rfl, b, _, _, _, rfl, rfl, .inl (.inl hb.1), rfl, rfl, _, rfl, ?_⟩
        rw [show decide (V.str "failed" = V.str "failed") = true from decide_eq_true rfl]
        exact iteT ⟨_, rfl, k b H (Same.refl _) hb⟩
      | val y =>
        obtain ⟨hb, y0, y1⟩ := hb
        refine iteF ⟨_, rfl, b, _, _, _, rfl, rfl, .inl (.inl hb), rfl, rfl, _, rfl, ?_⟩
        rw [show decide (V.str "value" = V.str "failed") = false by decide +kernel]
        refine iteF ⟨_, rfl, a, _, _, _, rfl, rfl, .inl (.inl ha), rfl, _, rfl, b, _, _, _, rfl, rfl, .inl (.inl hb), rfl, _, _, rfl, ?_⟩
        refine ⟨_, rfl, rfl, _, rfl, ?_⟩
        rw [str_dec2]
        by_cases c : sg = "//"
        · rw [decide_eq_true c]
          refine iteT ⟨_, rfl, rfl, _, rfl, ?_⟩
          by_cases z : y = 0
          · rw [show decide (V.int y = V.int 0) = true by rw [z]; simp]
            refine iteT ⟨by show 2 ≤ sizeLine; decide, fun p hp => k p _ (same_new hp) ?_⟩
            show RsAt _ _ (if sg = "//" then (if y = 0 then Rs.bad "zero" else lim (x.fdiv y)) else lim (tot sg x y))
            rw [if_pos c, if_pos z]
            exact ⟨upd_same, .inl rfl⟩
          · rw [show decide (V.int y = V.int 0) = false from decide_eq_false fun q => z (by cases q; rfl)]
            refine iteF ⟨_, rfl, _, rfl, _, _, rfl, rfl, ⟨z, ?_⟩, _, rfl, fun d H' s hd => k d H' s ?_⟩
            · have := PySem.Flt.log2_lt_of (by decide) (ten_bits y0 y1)
              omega
            · show RsAt _ _ (if sg = "//" then (if y = 0 then Rs.bad "zero" else lim (x.fdiv y)) else lim (tot sg x y))
              rw [if_pos c, if_neg z]
              exact hd
        · rw [decide_eq_false c]
          refine iteF ⟨_, rfl, _, rfl, _, rfl, sg, x, y, rfl, x0, x1, y0, y1, _, rfl, fun d H' s hd => k d H' s ?_⟩
          show RsAt _ _ (if sg = "//" then (if y = 0 then Rs.bad "zero" else lim (x.fdiv y)) else lim (tot sg x y))
          rw [if_neg c]
          exact hd
end
end Toy
end

section
set_option Elab.async false
set_option linter.all false
set_option maxRecDepth 100000
namespace Toy
open PySem PySem.Spec PyProof.Rows L2 Gd Kt
/-! ### evaluated -/
def exec (env : Str → Rs) : List Ins → List Rs → Option (List Rs)
  | [], st => some st
  | .int n :: cs, st => exec env cs (lim n :: st)
  | .par y :: cs, st => exec env cs (env y :: st)
  | .op w :: cs, st => if w = "minus" then (match st with
      | r :: t => exec env cs (negR r :: t)
      | [] => none) else match st with
      | r :: l :: t => exec env cs (comb w l r :: t)
      | _ => none
def evT (env : Str → Rs) : Tr → Rs
  | .num n => lim n
  | .nam y => env y
  | .neg t => negR (evT env t)
  | .bin s a b => comb s (evT env a) (evT env b)
def Tr.ok : Tr → Prop
  | .num _ => True
  | .nam _ => True
  | .neg t => t.ok
  | .bin s a b => s ∈ signs ∧ a.ok ∧ b.ok
theorem exec_post (env : Str → Rs) : ∀ (t : Tr) (cs : List Ins) (st : List Rs), t.ok → exec env (post t ++ cs) st = exec env cs (evT env t :: st)
  | .num n, cs, st, _ => rfl
  | .nam y, cs, st, _ => rfl
  | .neg t, cs, st, h => by
    show exec env ((post t ++ [.op "minus"]) ++ cs) st = _
    rw [List.append_assoc, exec_post env t _ _ h]
    show (if ("minus" : Str) = "minus" then _ else _) = _
    rw [if_pos rfl]
    rfl
  | .bin s a b, cs, st, h => by
    show exec env ((post a ++ post b ++ [.op s]) ++ cs) st = _
    rw [List.append_assoc, List.append_assoc, exec_post env a _ _ h.2.1, exec_post env b _ _ h.2.2]
    have n : ¬ s = "minus" := fun e => by
      have := sg_minus s h.1
      rw [e] at this
      exact absurd this (by decide +kernel)
    show (if s = "minus" then _ else _) = _
    rw [if_neg n]
    rfl
theorem exec_op (env : Str → Rs) (w : Str) (cs : List Ins) (st : List Rs) : exec env (.op w :: cs) st = if w = "minus" then (match st with
      | r :: t => exec env cs (negR r :: t)
      | [] => none) else match st with
      | r :: l :: t => exec env cs (comb w l r :: t)
      | _ => none := rfl
inductive RsAll (H : Hp) : List Addr → List Rs → Prop
  | nil : RsAll H [] []
  | cons {a : Addr} {r : Rs} {as : List Addr} {st : List Rs} (h : RsAt H a r) (t : RsAll H as st) : RsAll H (a :: as) (r :: st)
theorem RsAll.grow {H H' : Hp} {as : List Addr} {st : List Rs} (h : RsAll H as st) (k : ∀ b xs, H b = some (.tup xs) → H' b = some (.tup xs)) : RsAll H' as st := by
  induction h with
  | nil => exact .nil
  | cons h t ih => exact .cons (h.grow k) ih
def stk (as : List Addr) : List V := as.reverse.map V.ref
theorem stk_cons (a : Addr) (as : List Addr) : stk (a :: as) = stk as ++ [V.ref a] := by
  unfold stk
  rw [List.reverse_cons, List.map_append]
  rfl
theorem stk_len (as : List Addr) : (stk as).length = as.length := by simp [stk]
theorem stk_last (a : Addr) (as : List Addr) : (stk (a :: as))[(stk (a :: as)).length - 1]? = some (.ref a) := by
  rw [stk_cons, List.length_append, List.length_singleton, Nat.add_sub_cancel, List.getElem?_concat_length]
theorem stk_drop (a : Addr) (as : List Addr) : (stk (a :: as)).dropLast = stk as := by
  rw [stk_cons, List.dropLast_concat]
def EnvAt (H : Hp) (kvs : List (Key × V)) (env : Str → Rs) (ps : List Str) : Prop := ∀ y ∈ ps, ∃ b, valV kvs (Sum.inr y : Key) = some (.ref b) ∧ RsAt H b (env y)
theorem put_keep {H : Hp} {D : Addr} {xs : List V} {o : HO} (h : H D = some (.lst xs)) : ∀ b ys, H b = some (.tup ys) → upd H D o b = some (.tup ys) := fun b ys e => by
  rw [upd_ne (fun z => by rw [z, h] at e; cases e)]
  exact e
section
variable {P : Program} {w : World} {K : PySem.W.Frag} {mg : Str → Option Value} {base : Heap} {f f1 f2 f3 : Addr} {fd fd1 fd2 fd3 : FuncData}
end
end Toy
end

section
set_option Elab.async false
set_option linter.all false
set_option maxRecDepth 100000
namespace Toy
open PySem PySem.Spec PyProof.Rows L2 Gd Kt
/-! ### a formula's questions -/
/-- the names that are read and not known -/
def lackOf (kvs : List (Key × V)) (ps : List Str) : List Str := ps.filter fun y => !(valV kvs (Sum.inr y : Key)).isSome
section
variable {P : Program} {w : World} {K : PySem.W.Frag} {mg : Str → Option Value} {base : Heap} {C : Addr} {f f1 f2 f3 : Addr} {fd fd1 fd2 fd3 : FuncData}
theorem lack_snoc (kvs : List (Key × V)) (ps : List Str) (y : Str) : lackOf kvs (ps ++ [y]) = lackOf kvs ps ++ (if (!(valV kvs (Sum.inr y : Key)).isSome) = true then [y] else []) := by
  unfold lackOf
  rw [List.filter_append, List.filter_cons, List.filter_nil]
end
end Toy
end

section
set_option Elab.async false
set_option linter.all false
set_option maxRecDepth 100000
namespace Toy
open PySem PySem.Spec PyProof.Rows L2 Gd Kt
/-! ### what the law's tree reads -/
abbrev sReads : Stmt := top 48
def readsT : Tr → List Str
  | .num _ => []
  | .nam y => [y]
  | .neg t => readsT t
  | .bin _ a b => readsT a ++ readsT b
theorem pars_post : ∀ t : Tr, pars (post t) = readsT t
  | .num n => rfl
  | .nam y => rfl
  | .neg t => by
    show pars (post t ++ [.op "minus"]) = _
    rw [pars_op, pars_post t]
    rfl
  | .bin s a b => by
    show pars (post a ++ post b ++ [.op s]) = _
    rw [pars_op]
    show List.filterMap _ _ = _
    rw [List.filterMap_append]
    have e1 := pars_post a
    have e2 := pars_post b
    unfold pars at e1 e2
    rw [e1, e2]
    rfl
theorem reads_len {H : Hp} {ws : List Str} {d : Nat} {t : Tr} {a : Addr} (h : TreeAt H ws d t a) : (readsT t).length ≤ 2 ^ d := by
  induction h with
  | num n h0 h1 h => exact Nat.zero_le _
  | nam y t h => exact Nat.one_le_two_pow
  | @neg d _ _ _ h t ih => exact Nat.le_trans ih (Nat.pow_le_pow_right (by decide) (by omega))
  | @bin d _ _ _ l r s hs h t u ih1 ih2 =>
    show (readsT l ++ readsT r).length ≤ _
    rw [List.length_append, Nat.pow_succ]
    omega
def spReads : Nat → Sp
  | 0 => fun _ _ _ _ => False
  | m + 1 => fun vs H Q _ => ∃ (a : Addr) (ws : List Str) (t : Tr), vs = [.ref a] ∧ TreeAt H ws m t a ∧ m ≤ 4 ∧
    ∀ (l : Addr) (H' : Hp), Same H H' → H l = none → H' l = some (.lst ((readsT t).map V.str)) → Q (.ref l) H'
abbrev NRe : List Str := ["_law_tree_here", "_law_found", "_law_part"]
theorem scReads : FnScope NRe ["_law_tree_here"] (defScope sReads) := ⟨rfl, rfl, rfl, by decide +kernel, rfl, by decide +kernel, by decide +kernel⟩
theorem tree_parts {H : Hp} {ws : List Str} {d : Nat} {t : Tr} {a : Addr} (h : TreeAt H ws d t a) : (∃ y, t = .nam y ∧ H a = some (.tup [.str "name", .str y])) ∨
    ∃ (s0 : Str) (xs : List V) (rs : List (List Str)), H a = some (.tup (.str s0 :: xs)) ∧ decide (s0 = "name") = false ∧ xs.length = rs.length ∧ readsT t = rs.flatten ∧
      ∀ (i : Nat) (x : V), xs[i]? = some x → (∃ n, x = V.int n ∧ rs[i]? = some []) ∨ (∃ b t' d', x = V.ref b ∧ d = d' + 1 ∧ TreeAt H ws d' t' b ∧ rs[i]? = some (readsT t')) := by
  cases h with
  | num n h0 h1 h =>
    refine .inr ⟨"number", [.int n], [[]], h, by decide +kernel, rfl, rfl, fun i x hx => ?_⟩
    match i, hx with
    | 0, hx => exact .inl ⟨n, (Option.some.inj hx).symm, rfl⟩
    | i + 1, hx => cases hx
  | nam y t h => exact .inl ⟨y, rfl, h⟩
  | @neg d _ b t h u =>
    refine .inr ⟨"minus", [.ref b], [readsT t], h, by decide +kernel, rfl, by simp [readsT], fun i x hx => ?_⟩
    match i, hx with
    | 0, hx => exact .inr ⟨b, t, d, (Option.some.inj hx).symm, rfl, u, rfl⟩
    | i + 1, hx => cases hx
  | @bin d _ b c l r s hs h t u =>
    have hn : decide (s = "name") = false := by
      have : ∀ sg ∈ signs, decide (sg = "name") = false := by decide +kernel
      exact this s hs
    refine .inr ⟨s, [.ref b, .ref c], [readsT l, readsT r], h, hn, rfl, by simp [readsT], fun i x hx => ?_⟩
    match i, hx with
    | 0, hx => exact .inr ⟨b, l, d, (Option.some.inj hx).symm, rfl, t, rfl⟩
    | 1, hx => exact .inr ⟨c, r, d, (Option.some.inj hx).symm, rfl, u, rfl⟩
    | i + 2, hx => cases hx
section
variable {P : Program} {w : World} {K : PySem.W.Frag} {mg : Str → Option Value} {base : Heap} {f : Addr} {fd : FuncData}
theorem ok_reads (F : Fun K "_law_reads" "_law_reads" sReads f fd) (T : TxtM K mg) (DT : Dn K mg "_law_reads" f fd ["_law_tree_here"]) :
    ∀ m : Nat, FnOk P w K mg base CX0 (m + 1) f fd ["_law_tree_here"] (spReads m) := by
  intro m
  induction m with
  | zero => exact F.ok scReads (fun _ _ _ _ h => h.elim) (fun _ _ _ _ _ _ _ _ _ h => h.elim)
  | succ m ih =>
    refine F.ok scReads (fun vs H Q E h => ?_) (fun cdv A outer s H vs Q E hr h => ?_)
    · obtain ⟨a, ws, t, rfl, _⟩ := h
      rfl
    · obtain ⟨a, ws, t, rfl, ht, hm4, k⟩ := h
      refine ⟨_, pss_cons (ps_if (pt_cmpR op_eq (pe_ix ix_tup (pv 0) pe_int (fun _ _ => rfl)) pe_str (nomark _)) (pss_one (ps_ret (pe_lst (pa_cons (pe_ix ix_tup (pv 0) pe_int (fun _ _ => rfl)) pa_nil)))) pss_nil)
        (pss_cons (ps_set (i := 1) scReads.nd rfl (Or.inl rfl) (pe_lst pa_nil))
        (C8.pss_cut (ps_for PassesOwn.never rfl (pi_tup (pe_slice sl_tup (pv 0) (po_some pe_int) po_none)) (pg_name (i := 2) scReads.nd rfl (Or.inl rfl))
          (pss_one (ps_if (pt_val (pe_callB call_isi (by rfl) T.isi (by decide +kernel) (pa_cons (pv 2) (pa_cons (pe_bltn (by rfl) T.tuple (by decide +kernel) (v := .ty "tuple") rfl) pa_nil))))
            (pss_one (ps_expr (pe_bm PySem.F.plainAttrs_list PySem.F.slot_list_extend PySem.F.type_list_extend mt_extend (pv 1) (pa_cons (pe_call ih hr rfl DT.m DT.k DT.b .nil pass0 (pa_cons (pv 2) pa_nil)) pa_nil)))) pss_nil)))
        (pss_one (ps_ret (pv 1))))), ?_⟩
      have sz : sizeLine = 16777216 := by decide
      have rl := reads_len ht
      have rl16 : (readsT t).length ≤ 16 := Nat.le_trans rl (Nat.pow_le_pow_right (by decide) hm4 : 2 ^ m ≤ 2 ^ 4)
      rcases tree_parts ht with ⟨y, rfl, ha⟩ | ⟨s0, xs, rs, ha, hn, hlen, hrs, hparts⟩
      · refine ⟨_, rfl, a, _, _, _, rfl, rfl, .inl (.inl ha), rfl, rfl, _, rfl, ?_⟩
        rw [show decide (V.str "name" = V.str "name") = true from decide_eq_true rfl]
        refine iteT ⟨_, rfl, a, _, _, _, rfl, rfl, .inl (.inl ha), rfl, by show 1 ≤ sizeLine; decide, fun l hl => ?_⟩
        exact k l _ (same_new hl) hl upd_same
      · refine ⟨_, rfl, a, _, _, V.str s0, rfl, rfl, .inl (.inl ha), atI_nat (j := 0) rfl, rfl, _, rfl, ?_⟩
        rw [str_dec2, hn]
        refine iteF ⟨by show 0 ≤ sizeLine; decide, fun D hD => ?_⟩
        have s0' : Same H (upd H D (.lst [])) := same_new hD
        have hD0 : upd H D (.lst []) D = some (.lst []) := upd_same
        have ne0 : ∀ b o, H b = some o → b ≠ D := fun b o e => ne_of_none e hD
        generalize upd H D (.lst []) = H0 at s0' hD0 ⊢
        refine ⟨fun σ' H' => ∃ o2, σ' = [some (.ref a), some (.ref D), o2] ∧ H' D = some (.lst ((readsT t).map V.str)) ∧ Same H H', ?_, ?_⟩
        · refine ⟨_, rfl, _, rfl, a, _, rfl, .inl (.inl (s0' _ _ ha)), (fun z => by cases z.1), fun q hq => ⟨q, rfl, ⟨_, .inl (.inl upd_same)⟩, ?_⟩⟩
          have ec : cutV (V.str s0 :: xs) (some 1) none = xs := by
            unfold cutV
            have e1 : HT.sIx (V.str s0 :: xs).length 0 (some (1 : Int)) = 1 := by
              rw [show (1 : Int) = ((1 : Nat) : Int) from rfl, HT.sIx_nat, List.length_cons]
              omega
            have e2 : HT.sIx (V.str s0 :: xs).length (V.str s0 :: xs).length none = (V.str s0 :: xs).length := rfl
            rw [e1, e2, List.length_cons, Nat.add_sub_cancel]
            show List.take xs.length xs = xs
            exact List.take_length ..
          rw [ec]
          have s1 : Same H0 (upd H0 q (.tup xs)) := same_new hq
          have hq1 : upd H0 q (.tup xs) q = some (.tup xs) := upd_same
          have nqD : q ≠ D := fun z => by rw [z, hD0] at hq; cases hq
          generalize upd H0 q (.tup xs) = H1 at s1 hq1 ⊢
          refine for_tup (xs := xs) (fun i σ' H' => ∃ o2, σ' = [some (.ref a), some (.ref D), o2] ∧ H' D = some (.lst (((rs.take i).flatten).map V.str)) ∧ ∀ b o, b ≠ D → H1 b = some o → H' b = some o) ⟨none, rfl, s1 _ _ hD0, fun b o _ e => e⟩ (fun i σ' H' _ hh => ?_) (fun i x σ' H' hx hh => ?_) (fun σ' H' hh => ?_)
          · obtain ⟨o2, rfl, h1, h2⟩ := hh
            exact .inl (.inl (h2 _ _ nqD hq1))
          · obtain ⟨o2, rfl, h1, h2⟩ := hh
            have sm : Same H H' := fun b o e => h2 b o (ne0 b o e) (s1 _ _ (s0' _ _ e))
            have hil : i < rs.length := by
              rw [← hlen]
              exact (List.getElem?_eq_some_iff.mp hx).1
            have tk : ∀ r, rs[i]? = some r → (rs.take (i + 1)).flatten = (rs.take i).flatten ++ r := fun r hr' => by
              rw [List.take_succ, hr']
              simp
            rcases hparts i x hx with ⟨n, rfl, hr0⟩ | ⟨b, t', d', rfl, rfl, ht', hr0⟩
            · refine ⟨_, rfl, .int n, _, _, _, false, rfl, .ty "tuple", .base (.int n), kit_ty kt_int, _, rfl, iteF ⟨_, rfl, ?_, h2⟩⟩
              rw [tk _ hr0, List.append_nil]
              exact h1
            · have ht2 := ht'.grow fun b xs e => sm b _ e
              obtain ⟨ys, hb⟩ := tree_tup ht2
              refine ⟨_, rfl, .ref b, _, _, _, true, rfl, .ty "tuple", .base (.tup hb), kit_ty kt_tup, _, rfl, iteT ?_⟩
              refine ⟨_, rfl, .inl ⟨rfl, _, SqL.of h1⟩, _, rfl, b, ws, t', rfl, ht2, by omega, fun l H2 s2 hl hl2 => ?_⟩
              refine ⟨D, l, _, _, rfl, rfl, s2 _ _ h1, hl2, ?_, _, rfl, ?_, fun b o nb e => by rw [upd_ne nb]; exact s2 _ _ (h2 b o nb e)⟩
              · have q1 : ((rs.take (i + 1)).flatten).length ≤ (readsT t).length := by
                  rw [hrs]
                  have := congrArg (fun z : List (List Str) => z.flatten.length) (List.take_append_drop (i + 1) rs)
                  simp only [List.flatten_append, List.length_append] at this
                  omega
                rw [tk _ hr0, List.length_append] at q1
                rw [List.length_map, List.length_map]
                omega
              · rw [upd_same, tk _ hr0, List.map_append]
          · obtain ⟨o2, rfl, h1, h2⟩ := hh
            rw [hlen, List.take_length, ← hrs] at h1
            exact ⟨o2, rfl, h1, fun b o e => h2 b o (ne0 b o e) (s1 _ _ (s0' _ _ e))⟩
        intro σ1 H1 hm1
        obtain ⟨o2, rfl, h1, h2⟩ := hm1
        exact ⟨_, rfl, k D H1 h2 hD h1⟩
end
end Toy
end

section
set_option Elab.async false
set_option linter.all false
set_option maxRecDepth 100000
namespace Toy
open PySem PySem.Spec PyProof.Rows L2 Gd Kt
/-! ### drawn results -/
abbrev sResults : Stmt := top 51
/-- a dict of results: an entry for each of the names, its keys among them -/
structure ResD (H : Hp) (D : Addr) (kvs : List (Key × V)) (ws : List Str) (env : Str → Rs) : Prop where
  at_ : H D = some (.dK kvs)
  all : ∀ y ∈ ws, ∃ b, valV kvs (Sum.inr y : Key) = some (.ref b) ∧ RsAt H b (env y)
  own : ∀ k v, valV kvs k = some v → ∃ y, y ∈ ws ∧ k = Sum.inr y
  few : kvs.length ≤ ws.length
  ent : ∀ q ∈ kvs, ∃ (y : Str) (b : Addr) (r : Rs), y ∈ ws ∧ q = ((Sum.inr y : Key), V.ref b) ∧ RsAt H b r
theorem mem_putK {kvs : List (Key × V)} {k : Key} {v : V} {q : Key × V} (h : q ∈ putK kvs k v) : q = (k, v) ∨ q ∈ kvs := by
  unfold putK at h
  split at h
  · obtain ⟨a, ha, e⟩ := List.mem_map.mp h
    split at e
    · rename_i c
      left
      rw [← e, c]
    · right
      rw [← e]
      exact ha
  · rcases List.mem_append.mp h with h | h
    · exact .inr h
    · exact .inl (List.mem_singleton.mp h)
def spResults : Sp := fun vs H Q _ => ∃ (p c l : Addr) (ns : List Int) (n r : Int) (ws : List Str), vs = [.ref p, .ref l] ∧ PenAt H p c ns n r ∧ n < 600000 ∧ H l = some (.lst (ws.map V.str)) ∧ ws.length ≤ 26 ∧
  ∀ (D : Addr) (kvs : List (Key × V)) (env : Str → Rs) (n' r' : Int) (H' : Hp), ResD H' D kvs ws env → H D = none → Ext p H H' → PenAt H' p c ns n' r' → n ≤ n' → n' ≤ n + 26 * 22 → Q (.ref D) H'
abbrev NRs : List Str := ["_law_pen_here", "_law_words", "_law_found", "_law_word", "_law_some"]
theorem scResults : FnScope NRs ["_law_pen_here", "_law_words"] (defScope sResults) := ⟨rfl, rfl, rfl, by decide +kernel, rfl, by decide +kernel, by decide +kernel⟩
/-- all but the pen and a list stand -/
def ExtS (p s : Addr) (H H' : Hp) : Prop := ∀ b o, b ≠ p → b ≠ s → H b = some o → H' b = some o
theorem PenAt.ne_refs {H : Hp} {p c s a : Addr} {ns : List Int} {n r : Int} {xs : List V} (P : PenAt H p c ns n r) (h : H s = some (.lst (V.ref a :: xs))) : c ≠ s := fun z => by
  have e := P.l
  rw [z, h] at e
  injection e with e
  injection e with e
  cases ns with
  | nil => cases e
  | cons x r =>
    injection e with e _
    cases e
theorem PenAt.tup_keep {H : Hp} {p c : Addr} {ns : List Int} {n r : Int} (P : PenAt H p c ns n r) {b : Addr} {xs : List V} (h : H b = some (.tup xs)) (n' r' : Int) : upd H p (.dK (penD c n' r')) b = some (.tup xs) := by
  rw [upd_ne (fun z => by rw [z, P.d] at h; cases h)]
  exact h
section
variable {P : Program} {w : World} {K : PySem.W.Frag} {mg : Str → Option Value} {base : Heap} {f fA fG fP : Addr} {fd fdA fdG fdP : FuncData}
theorem ok_results (F : Fun K "_law_results" "_law_results" sResults f fd)
    (Daround : Dn K mg "_law_around" fA fdA ["_law_pen_here", "_law_most"]) (Garound : FnOk P w K mg base CX0 6 fA fdA ["_law_pen_here", "_law_most"] spAround)
    (Dgreat : Dn K mg "_law_great" fG fdG ["_law_pen_here", "_law_most"]) (Ggreat : FnOk P w K mg base CX0 7 fG fdG ["_law_pen_here", "_law_most"] spGreat)
    (Dpick : Dn K mg "_law_pick" fP fdP ["_law_pen_here", "_law_options"]) (Gpick : FnOk P w K mg base CX0 3 fP fdP ["_law_pen_here", "_law_options"] spPick) :
    FnOk P w K mg base CX0 8 f fd ["_law_pen_here", "_law_words"] spResults := by
  refine F.ok scResults (fun vs H Q E h => ?_) (fun cdv A outer s H vs Q E hr h => ?_)
  · obtain ⟨p, c, l, ns, n, r, ws, rfl, _⟩ := h
    rfl
  · obtain ⟨p, c, l, ns, n, r, ws, rfl, S, hn, hl, hlen, k⟩ := h
    have hr5 : Room 6 _ := hr.mono (by decide)
    have hr3 : Room 3 _ := hr.mono (by decide)
    have hu := hu_of hr
    have sz : sizeLine = 16777216 := by decide
    refine ⟨_, pss_cons (ps_set (i := 2) scResults.nd rfl (Or.inl rfl) pe_dnewK)
      (C8.pss_cut (ps_for PassesOwn.never rfl (pi_list (pv 1)) (pg_name (i := 3) scResults.nd rfl (Or.inl rfl))
        (C8.pss_cut (ps_set (i := 4) scResults.nd rfl (Or.inl rfl) (pe_lst (pa_cons (pe_tup (pa_cons pe_str (pa_cons (pe_call Garound hr5 rfl Daround.m Daround.k Daround.b .nil pass0 (pa_cons (pv 0) (pa_cons pe_int pa_nil))) pa_nil)))
            (pa_cons (pe_tup (pa_cons pe_str (pa_cons (pe_call Garound hr5 rfl Daround.m Daround.k Daround.b .nil pass0 (pa_cons (pv 0) (pa_cons pe_int pa_nil))) pa_nil)))
            (pa_cons (pe_tup (pa_cons pe_str (pa_cons (pe_call Ggreat hr rfl Dgreat.m Dgreat.k Dgreat.b .nil pass0 (pa_cons (pv 0) (pa_cons (pe_op op_pow pe_int pe_int) pa_nil))) pa_nil))) pa_nil)))))
        (C8.pss_cut (ps_expr (pe_bm PySem.F.plainAttrs_list PySem.F.slot_list_append PySem.F.type_list_append mt_append (pv 4) (pa_cons (pe_tup (pa_cons pe_str (pa_cons (pe_call Gpick hr3 rfl Dpick.m Dpick.k Dpick.b .nil pass0 (pa_cons (pv 0) (pa_cons (pe_lst (pa_cons pe_str (pa_cons pe_str pa_nil))) pa_nil))) pa_nil))) pa_nil)))
        (pss_one (ps_dput hu (pv 2) (pv 3) (pe_ix ix_list (pv 4) (pe_call Gpick hr3 rfl Dpick.m Dpick.k Dpick.b .nil pass0 (pa_cons (pv 0) (pa_cons (pe_lst (pa_cons pe_int (pa_cons pe_int (pa_cons pe_int (pa_cons pe_int (pa_cons pe_int (pa_cons pe_int (pa_cons pe_int (pa_cons pe_int (pa_cons pe_int pa_nil)))))))))) pa_nil))) (fun _ _ => rfl)) rfl)))))
      (pss_one (ps_ret (pv 2)))), ?_⟩
    refine fun D hD => ?_
    have npD : p ≠ D := ne_of_none S.d hD
    have ncD : c ≠ D := ne_of_none S.l hD
    have nlD : l ≠ D := ne_of_none hl hD
    have nlp : l ≠ p := fun z => by rw [z, S.d] at hl; cases hl
    have nw : Nw p H D := Nw.of (fun b o _ e => e) hD
    refine ⟨fun σ' H' => ∃ (o3 o4 : Option V) (kvs : List (Key × V)) (env : Str → Rs) (n1 r1 : Int), σ' = [some (.ref p), some (.ref l), some (.ref D), o3, o4] ∧ ResD H' D kvs ws env ∧ Ext p H H' ∧ PenAt H' p c ns n1 r1 ∧ n ≤ n1 ∧ n1 ≤ n + 26 * 22, ?_, ?_⟩
    · have hl0 := same_new (o := .dK []) hD _ _ hl
      refine ⟨_, rfl, l, rfl, ⟨_, SqL.of hl0⟩, for_list (xs := ws.map V.str) (fun i σ' H' => ∃ (o3 o4 : Option V) (kvs : List (Key × V)) (env : Str → Rs) (n1 r1 : Int), σ' = [some (.ref p), some (.ref l), some (.ref D), o3, o4] ∧ ResD H' D kvs (ws.take i) env ∧ Ext p H H' ∧ PenAt H' p c ns n1 r1 ∧ n ≤ n1 ∧ n1 ≤ n + i * 22)
        ⟨none, none, [], fun _ => .bad "", n, r, rfl, ⟨upd_same, (fun y hy => by simp at hy), (fun k v e => by cases e), by simp, fun q hq => by cases hq⟩, Ext.new hD, S.grow (same_new hD), Int.le_refl _, by omega⟩ (fun i σ' H' _ hh => ?_) (fun i x σ' H' hx hh => ?_) (fun σ' H' hh => ?_)⟩
      · obtain ⟨o3, o4, kvs, env, n1, r1, rfl, R, ex, P1, a1, a2⟩ := hh
        exact SqL.of (ex l _ nlp hl)
      · obtain ⟨o3, o4, kvs, env, n1, r1, rfl, R, ex, P1, a1, a2⟩ := hh
        obtain ⟨y, hy, rfl⟩ : ∃ y, ws[i]? = some y ∧ V.str y = x := by
          rw [List.getElem?_map] at hx
          cases q : ws[i]? with
          | none => rw [q] at hx; cases hx
          | some a => rw [q] at hx; exact ⟨a, rfl, Option.some.inj hx⟩
        have hi : i < ws.length := (List.getElem?_eq_some_iff.mp hy).1
        have tk : ws.take (i + 1) = ws.take i ++ [y] := by rw [List.take_succ, hy]; rfl
        have tup1 : ∀ {H1 : Hp}, Ext p H' H1 → ∀ b xs, H' b = some (.tup xs) → H1 b = some (.tup xs) := fun e b xs h => e b _ (fun z => by rw [z, P1.d] at h; cases h) h
        refine ⟨fun σ1 H1 => ∃ (s t1 t2 t3 : Addr) (k1 k2 k3 n2 r2 : Int), σ1 = [some (.ref p), some (.ref l), some (.ref D), some (.str y), some (.ref s)] ∧ H' s = none ∧ H1 s = some (.lst [.ref t1, .ref t2, .ref t3]) ∧ RsAt H1 t1 (.val k1) ∧ RsAt H1 t2 (.val k2) ∧ RsAt H1 t3 (.val k3) ∧
          Ext p H' H1 ∧ PenAt H1 p c ns n2 r2 ∧ n1 ≤ n2 ∧ n2 ≤ n1 + 19, ?_, ?_⟩
        · refine ⟨_, rfl, p, c, ns, n1, r1, 12, rfl, P1, by omega, by decide, by decide, fun k1 n2 r2 d0 d1 b1 b2 P2 => ?_⟩
          have e2 := Ext.upd p H' (.dK (penD c n2 r2))
          generalize upd H' p (.dK (penD c n2 r2)) = H2 at P2 e2 ⊢
          refine ⟨by show 2 ≤ sizeLine; decide, fun t1 ht1 => ?_⟩
          have P3 := P2.grow (same_new (o := .tup [.str "value", .int k1]) ht1)
          have e3 := e2.trans (Ext.new (p := p) (o := .tup [.str "value", .int k1]) ht1)
          have q1 : upd H2 t1 (.tup [.str "value", .int k1]) t1 = some (.tup [.str "value", .int k1]) := upd_same
          generalize upd H2 t1 (.tup [.str "value", .int k1]) = H3 at P3 e3 q1 ⊢
          refine ⟨_, rfl, p, c, ns, n2, r2, 3, rfl, P3, by omega, by decide, by decide, fun k2 n3 r3 d2 d3 b3 b4 P4 => ?_⟩
          have e4 := e3.trans (Ext.upd p H3 (.dK (penD c n3 r3)))
          have q1 := P3.tup_keep q1 n3 r3
          generalize upd H3 p (.dK (penD c n3 r3)) = H4 at P4 e4 q1 ⊢
          refine ⟨by show 2 ≤ sizeLine; decide, fun t2 ht2 => ?_⟩
          have P5 := P4.grow (same_new (o := .tup [.str "value", .int k2]) ht2)
          have e5 := e4.trans (Ext.new (p := p) (o := .tup [.str "value", .int k2]) ht2)
          have q1 := same_new (o := .tup [.str "value", .int k2]) ht2 _ _ q1
          have q2 : upd H4 t2 (.tup [.str "value", .int k2]) t2 = some (.tup [.str "value", .int k2]) := upd_same
          generalize upd H4 t2 (.tup [.str "value", .int k2]) = H5 at P5 e5 q1 q2 ⊢
          refine ⟨_, rfl, _, _, rfl, rfl, CPa, p, c, ns, n3, r3, _, rfl, P5, by omega, by rw [ten30]; decide, by rw [ten30]; decide, fun k3 n4 r4 H6 d4 d5 b5 b6 e6 P6 => ?_⟩
          rw [ten30] at d4 d5
          have n1p : t1 ≠ p := fun z => by rw [z, P5.d] at q1; cases q1
          have n2p : t2 ≠ p := fun z => by rw [z, P5.d] at q2; cases q2
          have q1 := e6 _ _ n1p q1
          have q2 := e6 _ _ n2p q2
          refine ⟨by show 2 ≤ sizeLine; decide, fun t3 ht3 => ?_⟩
          have P7 := P6.grow (same_new (o := .tup [.str "value", .int k3]) ht3)
          have e7 := (e5.trans e6).trans (Ext.new (p := p) (o := .tup [.str "value", .int k3]) ht3)
          have q1 := same_new (o := .tup [.str "value", .int k3]) ht3 _ _ q1
          have q2 := same_new (o := .tup [.str "value", .int k3]) ht3 _ _ q2
          have q3 : upd H6 t3 (.tup [.str "value", .int k3]) t3 = some (.tup [.str "value", .int k3]) := upd_same
          generalize upd H6 t3 (.tup [.str "value", .int k3]) = H7 at P7 e7 q1 q2 q3 ⊢
          refine ⟨by show 3 ≤ sizeLine; decide, fun s hs => ?_⟩
          have ss := same_new (o := .lst [.ref t1, .ref t2, .ref t3]) hs
          have T1 : TEN = 1000000000000000000000000000000 := rfl
          have hs0 : H' s = none := by
            cases q : H' s with
            | none => rfl
            | some o =>
              have : s ≠ p := fun z => by rw [z, P7.d] at hs; cases hs
              rw [e7 s o this q] at hs
              cases hs
          exact ⟨s, t1, t2, t3, k1, k2, k3, n4, r4, rfl, hs0, upd_same, ⟨ss _ _ q1, by rw [T1]; omega, by rw [T1]; omega⟩, ⟨ss _ _ q2, by rw [T1]; omega, by rw [T1]; omega⟩, ⟨ss _ _ q3, by rw [T1]; omega, by rw [T1]; omega⟩, e7.trans (Ext.new hs), P7.grow ss, by omega, by omega⟩
        intro σ1 H1 hm1
        obtain ⟨s, t1, t2, t3, k1, k2, k3, n2, r2, rfl, hs0, hs, q1, q2, q3, e1, P2, b1, b2⟩ := hm1
        refine ⟨fun σ2 H2 => ∃ (ts : List Addr) (n3 r3 : Int), σ2 = [some (.ref p), some (.ref l), some (.ref D), some (.str y), some (.ref s)] ∧ H2 s = some (.lst (ts.map V.ref)) ∧ ts.length = 4 ∧ (∀ t ∈ ts, ∃ q, RsAt H2 t q) ∧ ExtS p s H' H2 ∧ PenAt H2 p c ns n3 r3 ∧ n1 ≤ n3 ∧ n3 ≤ n1 + 20, ?_, ?_⟩
        · refine ⟨_, rfl, .inl ⟨rfl, _, SqL.of hs⟩, _, rfl, by show 2 ≤ sizeLine; decide, fun m hm => ?_⟩
          have P3 := P2.grow (same_new (o := .lst [.str "zero", .str "range"]) hm)
          have s3 := same_new (o := .lst [.str "zero", .str "range"]) hm
          have hm1 : upd H1 m (.lst [.str "zero", .str "range"]) m = some (.lst [.str "zero", .str "range"]) := upd_same
          generalize upd H1 m (.lst [.str "zero", .str "range"]) = H3 at P3 s3 hm1 ⊢
          refine ⟨p, c, ns, n2, r2, m, _, rfl, P3, by omega, hm1, (by show 0 < 2; decide), (by show 2 ≤ 60000000; decide), fun v n3 r3 hv c1 c2 P4 => ?_⟩
          obtain ⟨w, rfl, hw⟩ : ∃ w : Str, v = V.str w ∧ (w = "zero" ∨ w = "range") := by
            simp only [List.mem_cons, List.not_mem_nil, or_false] at hv
            rcases hv with rfl | rfl
            · exact ⟨_, rfl, .inl rfl⟩
            · exact ⟨_, rfl, .inr rfl⟩
          have e4 : Ext p H1 (upd H3 p (.dK (penD c n3 r3))) := (Ext.same s3).trans (Ext.upd p H3 _)
          generalize upd H3 p (.dK (penD c n3 r3)) = H4 at P4 e4 ⊢
          refine ⟨by show 2 ≤ sizeLine; decide, fun t4 ht4 => ?_⟩
          have nsp : s ≠ p := fun z => by rw [z, P2.d] at hs; cases hs
          have P5 := P4.grow (same_new (o := .tup [.str "failed", .str w]) ht4)
          have e5 := e4.trans (Ext.new (p := p) (o := .tup [.str "failed", .str w]) ht4)
          have q4 : upd H4 t4 (.tup [.str "failed", .str w]) t4 = some (.tup [.str "failed", .str w]) := upd_same
          generalize upd H4 t4 (.tup [.str "failed", .str w]) = H5 at P5 e5 q4 ⊢
          have hs5 := e5 s _ nsp hs
          have tk5 : ∀ b xs, H1 b = some (.tup xs) → H5 b = some (.tup xs) := fun b xs h => e5 b _ (fun z => by rw [z, P2.d] at h; cases h) h
          refine ⟨s, _, _, rfl, rfl, hs5, by show 3 < sizeLine; decide, [t1, t2, t3, t4], n3, r3, rfl, upd_same, rfl, ?_, ?_, P5.put (Ne.symm nsp) (P5.ne_refs hs5), by omega, by omega⟩
          · intro t ht
            have kp := put_keep (o := .lst ([V.ref t1, V.ref t2, V.ref t3] ++ [V.ref t4])) hs5
            simp only [List.mem_cons, List.not_mem_nil, or_false] at ht
            rcases ht with rfl | rfl | rfl | rfl
            · exact ⟨_, (q1.grow tk5).grow kp⟩
            · exact ⟨_, (q2.grow tk5).grow kp⟩
            · exact ⟨_, (q3.grow tk5).grow kp⟩
            · exact ⟨.bad w, kp _ _ q4, hw⟩
          · intro b o nb ns' e
            rw [upd_ne ns']
            exact e5 b o nb (e1 b o nb e)
        intro σ2 H2 hm2
        obtain ⟨ts, n3, r3, rfl, hs2, hts, hall, e2, P3, c1, c2⟩ := hm2
        obtain ⟨t0, tr, rfl⟩ : ∃ t0 tr, ts = t0 :: tr := by
          cases ts with
          | nil => cases hts
          | cons a r => exact ⟨a, r, rfl⟩
        have nsp : s ≠ p := fun z => by rw [z, P3.d] at hs2; cases hs2
        have nsD : D ≠ s := ne_of_none R.at_ hs0
        refine ⟨_, rfl, _, rfl, by show 9 ≤ sizeLine; decide, fun m hm => ?_⟩
        have P4 := P3.grow (same_new (o := .lst [.int 0, .int 0, .int 0, .int 1, .int 1, .int 1, .int 2, .int 2, .int 3]) hm)
        have s4 := same_new (o := .lst [.int 0, .int 0, .int 0, .int 1, .int 1, .int 1, .int 2, .int 2, .int 3]) hm
        have hm1 : upd H2 m (.lst [.int 0, .int 0, .int 0, .int 1, .int 1, .int 1, .int 2, .int 2, .int 3]) m = some (.lst [.int 0, .int 0, .int 0, .int 1, .int 1, .int 1, .int 2, .int 2, .int 3]) := upd_same
        generalize upd H2 m (.lst [.int 0, .int 0, .int 0, .int 1, .int 1, .int 1, .int 2, .int 2, .int 3]) = H3 at P4 s4 hm1 ⊢
        refine ⟨p, c, ns, n3, r3, m, _, rfl, P4, by omega, hm1, (by show 0 < 9; decide), (by show 9 ≤ 60000000; decide), fun v n4 r4 hv f1 f2 P5 => ?_⟩
        obtain ⟨j, rfl, hj⟩ : ∃ j : Nat, v = V.int (j : Int) ∧ j < 4 := by
          simp only [List.mem_cons, List.not_mem_nil, or_false] at hv
          rcases hv with rfl | rfl | rfl | rfl | rfl | rfl | rfl | rfl | rfl
          · exact ⟨0, rfl, by decide⟩
          · exact ⟨0, rfl, by decide⟩
          · exact ⟨0, rfl, by decide⟩
          · exact ⟨1, rfl, by decide⟩
          · exact ⟨1, rfl, by decide⟩
          · exact ⟨1, rfl, by decide⟩
          · exact ⟨2, rfl, by decide⟩
          · exact ⟨2, rfl, by decide⟩
          · exact ⟨3, rfl, by decide⟩
        have e5 : Ext p H2 (upd H3 p (.dK (penD c n4 r4))) := (Ext.same s4).trans (Ext.upd p H3 _)
        generalize upd H3 p (.dK (penD c n4 r4)) = H5 at P5 e5 ⊢
        have hs5 := e5 s _ nsp hs2
        have hj2 : j < (t0 :: tr).length := by omega
        have hD5 : H5 D = some (.dK kvs) := e5 D _ (Ne.symm npD) (e2 D _ (Ne.symm npD) nsD R.at_)
        have tk5 : ∀ b xs, H' b = some (.tup xs) → b ≠ s → H5 b = some (.tup xs) := fun b xs h ns' => by
          have nb : b ≠ p := fun z => by rw [z, P1.d] at h; cases h
          exact e5 b _ nb (e2 b _ nb ns' h)
        obtain ⟨q, hq⟩ := hall _ (List.getElem_mem hj2)
        have hq5 : RsAt H5 (t0 :: tr)[j] q := hq.grow fun b xs h => e5 b _ (fun z => by rw [z, P3.d] at h; cases h) h
        refine ⟨s, _, _, V.ref (t0 :: tr)[j], rfl, rfl, SqL.of hs5, atI_nat (by rw [List.getElem?_map, List.getElem?_eq_getElem hj2]; rfl), ?_⟩
        refine ⟨_, rfl, _, rfl, D, _, rfl, DPut.k (k := (Sum.inr y : Key)) hD5 (Nat.lt_of_le_of_lt (m := 26) (by have := R.few; rw [List.length_take] at this; omega) (by decide)), ?_⟩
        refine ⟨_, _, putK kvs (Sum.inr y : Key) (.ref (t0 :: tr)[j]), fun z => if z = y then q else env z, n4, r4, rfl, ?_, ?_, P5.put npD ncD, by omega, ?_⟩
        · have kp : ∀ b xs, H5 b = some (.tup xs) → upd H5 D (.dK (putK kvs (Sum.inr y : Key) (.ref (t0 :: tr)[j]))) b = some (.tup xs) := fun b xs h => by
            rw [upd_ne (fun z => by rw [z, hD5] at h; cases h)]
            exact h
          have up5 : ∀ b u, RsAt H' b u → RsAt H5 b u := fun b u rb => by
            have nbs : ∀ xs, H' b = some (.tup xs) → b ≠ s := fun xs h => ne_of_none h hs0
            cases u with
            | val u => exact ⟨tk5 _ _ rb.1 (nbs _ rb.1), rb.2⟩
            | bad u => exact ⟨tk5 _ _ rb.1 (nbs _ rb.1), rb.2⟩
          refine ⟨upd_same, fun z hz => ?_, fun kk v hv => ?_, ?_, fun qe hqe => ?_⟩
          · rw [valV_put]
            by_cases c : z = y
            · rw [if_pos (by rw [c]), if_pos c]
              exact ⟨_, rfl, hq5.grow kp⟩
            · rw [if_neg (fun e => c (Sum.inr.inj e)), if_neg c]
              rw [tk] at hz
              have hz' : z ∈ ws.take i := by
                rcases List.mem_append.mp hz with hz | hz
                · exact hz
                · exact absurd (List.mem_singleton.mp hz) c
              obtain ⟨b, hb, rb⟩ := R.all z hz'
              refine ⟨b, hb, ?_⟩
              have rb5 : RsAt H5 b (env z) := by
                have nbs : ∀ xs, H' b = some (.tup xs) → b ≠ s := fun xs h => ne_of_none h hs0
                cases hz2 : env z with
                | val u =>
                  rw [hz2] at rb
                  exact ⟨tk5 _ _ rb.1 (nbs _ rb.1), rb.2⟩
                | bad u =>
                  rw [hz2] at rb
                  exact ⟨tk5 _ _ rb.1 (nbs _ rb.1), rb.2⟩
              exact rb5.grow kp
          · rw [valV_put] at hv
            by_cases c : kk = Sum.inr y
            · exact ⟨y, by rw [tk]; exact List.mem_append_right _ (List.mem_singleton_self _), c⟩
            · rw [if_neg c] at hv
              obtain ⟨z, hz, e⟩ := R.own kk v hv
              exact ⟨z, by rw [tk]; exact List.mem_append_left _ hz, e⟩
          · have h1 := length_putK kvs (Sum.inr y : Key) (.ref (t0 :: tr)[j])
            have h2 := R.few
            rw [tk, List.length_append, List.length_singleton]
            omega
          · rcases mem_putK hqe with rfl | hqe
            · exact ⟨y, _, q, by rw [tk]; exact List.mem_append_right _ (List.mem_singleton_self _), rfl, hq5.grow kp⟩
            · obtain ⟨z, b, r, hz, rfl, rb⟩ := R.ent qe hqe
              exact ⟨z, b, r, by rw [tk]; exact List.mem_append_left _ hz, rfl, (up5 b r rb).grow kp⟩
        · refine Ext.put ?_ nw
          intro b o nb e
          have e3 := ex b o nb e
          exact e5 b o nb (e2 b o nb (ne_of_none e3 hs0) e3)
        · have : ((i + 1 : Nat) : Int) * 22 = (i : Int) * 22 + 22 := by omega
          omega
      · obtain ⟨o3, o4, kvs, env, n1, r1, rfl, R, ex, P1, a1, a2⟩ := hh
        rw [List.length_map] at R a2
        rw [List.take_length] at R
        exact ⟨o3, o4, kvs, env, n1, r1, rfl, R, ex, P1, a1, by omega⟩
    intro σ1 H1 hm
    obtain ⟨o3, o4, kvs, env, n1, r1, rfl, R, ex, P1, a1, a2⟩ := hm
    exact ⟨_, rfl, k D kvs env n1 r1 H1 R hD ex P1 a1 a2⟩
end
end Toy
end

section
set_option Elab.async false
set_option linter.all false
set_option maxRecDepth 100000
/-! d.update(another dict). -/
namespace Gd
open PySem PySem.Spec PyProof.Rows L2
def rUpd : V → List V → Hp → VK → Prop := fun x vs H Q => ∃ a b kvs more, x = .ref a ∧ vs = [.ref b] ∧ a ≠ b ∧ H a = some (.dK kvs) ∧ H b = some (.dK more) ∧ kvs.length + more.length ≤ 1000 ∧ Q .non (upd H a (.dK (mergeK kvs more)))
section
variable {X : Cx}
theorem mt_update : MtM X "dict.update" rUpd := by
  intro pins s σ H x vs v us Q I rx rv h
  obtain ⟨a, b, kvs, more, rfl, rfl, ne, ha, hb, hz, q⟩ := h
  cases rx
  obtain ⟨u, rfl, ru⟩ := rv.one
  cases ru
  obtain ⟨_, hs1, ws, rel1, dd1⟩ := dk_of I.hok ha
  obtain ⟨_, hs2, ms, rel2, dd2⟩ := dk_of I.hok hb
  have l1 : ws.length = kvs.length := (Paired.length rel1).symm
  have l2 : ms.length = more.length := (Paired.length rel2).symm
  have hm : (mergeK kvs more).length ≤ sizeLine := Nat.le_trans (L2.length_mergeK more kvs) (Nat.le_trans hz (by decide))
  refine call_meetsIn F.slot_dict_update dd1.typeIs F.entry_dict_update (F.args_dict_update_2 _ _) (meets_dict_update (mixKind X.prog X.w) a b ne hs2) ⟨ws, ms, dd1, dd2, by rw [l1, l2]; exact Nat.le_trans hz (by decide), fun h' dd' _ hs => ?_⟩
  have he : ∃ q, h'.get? a = some q := let ⟨q, _, _, hq, _⟩ := dd'; ⟨q, hq⟩
  exact ⟨.non, _, d_write I (by rw [ha]; exact True.intro) hs he (dk_new hm hs1 (KV.merge rel2 rel1) dd'), rfl, q⟩
end
end Gd
end

section
set_option Elab.async false
set_option linter.all false
set_option maxRecDepth 100000
namespace Toy
open PySem PySem.Spec PyProof.Rows L2 Gd Kt
/-! ### the law's exact value of one operation -/
abbrev sExact : Stmt := top 49
def exv (sg : Str) (x y : Int) : Int := if sg = "minus" then 0 - x else if sg = "//" then (if y = 0 then 0 else x.fdiv y) else tot sg x y
def exSigns : List Str := "minus" :: signs
def spEx : Nat → Sp
  | 0 => fun _ _ _ _ => False
  | m + 1 => fun vs H Q _ => ∃ (a e : Addr), vs = [.ref a, .ref e] ∧ ((∃ n, H a = some (.tup [.str "number", .int n]) ∧ Q (.int n) H) ∨
    (m = 1 ∧ ∃ (sg : Str) (b c : Addr) (x y : Int), (H a = some (.tup [.str sg, .ref b, .ref c]) ∨ (H a = some (.tup [.str sg, .ref b]) ∧ c = b)) ∧ sg ∈ exSigns ∧ H b = some (.tup [.str "number", .int x]) ∧ H c = some (.tup [.str "number", .int y]) ∧
      -TEN ≤ x ∧ x ≤ TEN ∧ -TEN ≤ y ∧ y ≤ TEN ∧ ∀ H', Same H H' → Q (.int (exv sg x y)) H'))
abbrev NEx : List Str := ["_law_tree_here", "_law_values_here", "_law_one", "_law_other", "_law_some"]
abbrev psEx : List Str := ["_law_tree_here", "_law_values_here"]
theorem scExact : FnScope NEx psEx (defScope sExact) := ⟨rfl, rfl, rfl, by decide +kernel, rfl, by decide +kernel, by decide +kernel⟩
theorem ex_no : ∀ sg ∈ exSigns, decide (sg = "number") = false ∧ decide (sg = "name") = false := by decide +kernel
def l1 (x y : Int) : List (Key × V) := [(Sum.inr "minus", .int (0 - x)), (Sum.inr "+", .int (x + y)), (Sum.inr "-", .int (x - y)), (Sum.inr "*", .int (x * y))]
def l2 (x y : Int) : List (Key × V) := [(Sum.inr "min", .int (if y < x then y else x)), (Sum.inr "max", .int (if y > x then y else x)), (Sum.inr "//", .int (if y = 0 then 0 else x.fdiv y))]
theorem ex_val {sg : Str} {x y : Int} (h : sg ∈ exSigns) : valV (mergeK (mergeK [] (l1 x y)) (l2 x y)) (Sum.inr sg : Key) = some (.int (exv sg x y)) := by
  have e : mergeK (mergeK [] (l1 x y)) (l2 x y) = l1 x y ++ l2 x y := rfl
  rw [e]
  simp only [exSigns, signs, List.mem_cons, List.not_mem_nil, or_false] at h
  rcases h with rfl | rfl | rfl | rfl | rfl | rfl | rfl <;> rfl
section
variable {P : Program} {w : World} {K : PySem.W.Frag} {mg : Str → Option Value} {base : Heap} {f : Addr} {fd : FuncData}
theorem ok_exact (F : Fun K "_law_exact" "_law_exact" sExact f fd) (T : TxtM K mg) (DT : Dn K mg "_law_exact" f fd psEx) :
    ∀ m : Nat, FnOk P w K mg base CX0 (m + 1) f fd psEx (spEx m) := by
  intro m
  induction m with
  | zero => exact F.ok scExact (fun _ _ _ _ h => h.elim) (fun _ _ _ _ _ _ _ _ _ h => h.elim)
  | succ m ih =>
    refine F.ok scExact (fun vs H Q E h => ?_) (fun cdv A outer s H vs Q E hr h => ?_)
    · obtain ⟨a, e, rfl, _⟩ := h
      rfl
    · obtain ⟨a, e, rfl, hh⟩ := h
      have hu := hu_of hr
      refine ⟨_, pss_cons (ps_if (pt_cmpR op_eq (pe_ix ix_tup (pv 0) pe_int (fun _ _ => rfl)) pe_str (nomark _)) (pss_one (ps_ret (pe_ix ix_tup (pv 0) pe_int (fun _ _ => rfl)))) pss_nil)
        (pss_cons (ps_if (pt_cmpR op_eq (pe_ix ix_tup (pv 0) pe_int (fun _ _ => rfl)) pe_str (nomark _)) (pss_one (ps_ret (pe_dget hu (pv 1) (pe_ix ix_tup (pv 0) pe_int (fun _ _ => rfl)) (fun _ _ => rfl)))) pss_nil)
        (C8.pss_cut (ps_par (i := 2) (j := 3) (by rfl) scExact.nd rfl rfl (by decide) rfl rfl (pa_cons (pe_call ih hr rfl DT.m DT.k DT.b .nil pass0 (pa_cons (pe_ix ix_tup (pv 0) pe_int (fun _ _ => rfl)) (pa_cons (pv 1) pa_nil)))
            (pa_cons (pe_call ih hr rfl DT.m DT.k DT.b .nil pass0 (pa_cons (pe_ix ix_tup (pv 0) (pe_un un_neg pe_int) (fun _ _ => rfl)) (pa_cons (pv 1) pa_nil))) pa_nil)) (by rfl))
        (C8.pss_cut (ps_set (i := 4) scExact.nd rfl (Or.inl rfl) (pe_disp (pps_cons pe_str (pe_op op_sub pe_int (pv 2)) (pps_cons pe_str (pe_op op_add (pv 2) (pv 3)) (pps_cons pe_str (pe_op op_sub (pv 2) (pv 3)) (pps_cons pe_str (pe_op op_mulW (pv 2) (pv 3)) pps_nil)))) (by rfl) (by rfl) (fun z => by cases z) (by decide)))
        (C8.pss_cut (ps_expr (pe_bm PySem.F.plainAttrs_dict PySem.F.slot_dict_update PySem.F.type_dict_update mt_update (pv 4) (pa_cons (pe_disp (pps_cons pe_str (pe_callB (call_min2 (by rfl)) (by rfl) T.min (by decide +kernel) (pa_cons (pv 2) (pa_cons (pv 3) pa_nil)))
            (pps_cons pe_str (pe_callB (call_max2 (by rfl)) (by rfl) T.max (by decide +kernel) (pa_cons (pv 2) (pa_cons (pv 3) pa_nil))) (pps_cons pe_str (pe_ifExp (pt_cmpR op_ne (pv 3) pe_int (nomark _)) (pe_op op_fdivG (pv 2) (pv 3)) pe_int) pps_nil))) (by rfl) (by rfl) (fun z => by cases z) (by decide)) pa_nil)))
        (pss_one (ps_ret (pe_dget hu (pv 4) (pe_ix ix_tup (pv 0) pe_int (fun _ _ => rfl)) (fun _ _ => rfl)))))))), ?_⟩
      rcases hh with ⟨n, ha, k⟩ | ⟨rfl, sg, b, c, x, y, ha, hsg, hb, hc, x0, x1, y0, y1, k⟩
      · refine ⟨_, rfl, a, _, _, _, rfl, rfl, .inl (.inl ha), rfl, rfl, _, rfl, ?_⟩
        rw [show decide (V.str "number" = V.str "number") = true from decide_eq_true rfl]
        exact iteT ⟨_, rfl, a, _, _, _, rfl, rfl, .inl (.inl ha), rfl, k⟩
      · obtain ⟨g1, g2⟩ := ex_no sg hsg
        obtain ⟨xs, ha', e0, e1, e2⟩ : ∃ xs, H a = some (.tup xs) ∧ atI xs 0 = some (.str sg) ∧ atI xs 1 = some (.ref b) ∧ atI xs (-1) = some (.ref c) := by
          rcases ha with ha | ⟨ha, rfl⟩
          · exact ⟨_, ha, rfl, rfl, rfl⟩
          · exact ⟨_, ha, rfl, rfl, rfl⟩
        refine ⟨_, rfl, a, _, _, _, rfl, rfl, .inl (.inl ha'), e0, rfl, _, rfl, ?_⟩
        rw [str_dec2, g1]
        refine iteF ⟨_, rfl, a, _, _, _, rfl, rfl, .inl (.inl ha'), e0, rfl, _, rfl, ?_⟩
        rw [str_dec2, g2]
        refine iteF ⟨fun σ' H' => σ' = [some (.ref a), some (.ref e), some (.int x), some (.int y), none] ∧ H' = H, ?_, ?_⟩
        · refine ⟨_, rfl, a, _, _, _, rfl, rfl, .inl (.inl ha'), e1, _, rfl, b, e, rfl, .inl ⟨x, hb, ?_⟩⟩
          refine ⟨_, rfl, _, rfl, a, _, _, _, rfl, rfl, .inl (.inl ha'), e2, _, rfl, c, e, rfl, .inl ⟨y, hc, ?_⟩⟩
          exact ⟨_, _, rfl, rfl, rfl⟩
        intro σ1 H1 hm
        obtain ⟨rfl, rfl⟩ := hm
        refine ⟨fun σ' H' => ∃ D, σ' = [some (.ref a), some (.ref e), some (.int x), some (.int y), some (.ref D)] ∧ H' D = some (.dK (mergeK [] (l1 x y))) ∧ H1 D = none ∧ Same H1 H', ?_, ?_⟩
        · refine fun p hp => ⟨_, rfl, _, _, rfl, rfl, _, rfl, _, rfl, _, _, rfl, rfl, _, rfl, _, rfl, _, _, rfl, rfl, _, rfl, _, rfl, _, _, rfl, rfl, wide_mul (ten_bits x0 x1) (ten_bits y0 y1) (by decide) (by decide) (by decide), upd_same, l1 x y, rfl, (by show 4 ≤ 15; decide), ?_⟩
          rw [upd_upd]
          exact ⟨p, rfl, upd_same, hp, same_new hp⟩
        intro σ2 H2 hm2
        obtain ⟨D, rfl, hD, hDn, s2⟩ := hm2
        refine ⟨fun σ' H' => σ' = [some (.ref a), some (.ref e), some (.int x), some (.int y), some (.ref D)] ∧ H' D = some (.dK (mergeK (mergeK [] (l1 x y)) (l2 x y))) ∧ Same H1 H', ?_, ?_⟩
        · refine ⟨_, rfl, .inr (.inr (.inl ⟨rfl, .inl ⟨_, hD⟩⟩)), fun p hp => ⟨_, rfl, _, rfl, _, _, rfl, _, rfl, _, rfl, _, _, rfl, _, rfl, rfl, _, rfl, ?_⟩⟩
          have npD : D ≠ p := ne_of_none hD hp
          have fin : ∀ v : Int, v = (if y = 0 then 0 else x.fdiv y) → (upd H2 p (.dK [])) p = some (.dK []) ∧ ∃ kvs : List (Key × V), [(V.str "min", V.int (if y < x then y else x)), (V.str "max", V.int (if y > x then y else x)), (V.str "//", V.int v)] = kvs.map (fun kv => (kV kv.1, kv.2)) ∧ kvs.length ≤ 15 ∧
              rUpd (.ref D) [.ref p] (upd (upd H2 p (.dK [])) p (.dK (mergeK [] kvs))) (fun v H' => [some (.ref a), some (.ref e), some (.int x), some (.int y), some (.ref D)] = [some (V.ref a), some (.ref e), some (.int x), some (.int y), some (.ref D)] ∧ H' D = some (.dK (mergeK (mergeK [] (l1 x y)) (l2 x y))) ∧ Same H1 H') := by
            rintro v rfl
            refine ⟨upd_same, l2 x y, rfl, (by show 3 ≤ 15; decide), ?_⟩
            rw [upd_upd]
            refine ⟨D, p, _, _, rfl, rfl, npD, by rw [upd_ne npD]; exact hD, upd_same, ?_, rfl, ?_, fun b o h => ?_⟩
            · have := L2.length_mergeK (l1 x y) []
              have := L2.length_mergeK (l2 x y) []
              have e1 : (l1 x y).length = 4 := rfl
              have e2 : (l2 x y).length = 3 := rfl
              simp only [List.length_nil] at *
              omega
            · rw [upd_same]
              rfl
            · have nD : b ≠ D := ne_of_none h hDn
              rw [upd_ne nD]
              exact same_new hp _ _ (s2 _ _ h)
          by_cases z : y = 0
          · rw [show (!decide (V.int y = V.int 0)) = false by rw [z]; simp]
            exact iteF (fin 0 (by rw [if_pos z]))
          · rw [show (!decide (V.int y = V.int 0)) = true by rw [decide_eq_false (fun q => z (by cases q; rfl))]; rfl]
            refine iteT ⟨_, rfl, _, rfl, _, _, rfl, rfl, ⟨z, ?_⟩, fin _ (by rw [if_neg z])⟩
            have := PySem.Flt.log2_lt_of (by decide) (ten_bits y0 y1)
            omega
        intro σ3 H3 hm3
        obtain ⟨rfl, hD3, s3⟩ := hm3
        have hv : valV (mergeK (mergeK [] (l1 x y)) (l2 x y)) (Sum.inr sg : Key) = some (.int (exv sg x y)) := ex_val hsg
        have dg : DGet H3 D (.str sg) (some (.int (exv sg x y))) := by
          have := DGet.k (k := (Sum.inr sg : Key)) hD3
          rwa [hv] at this
        exact ⟨_, rfl, _, rfl, a, _, _, _, rfl, rfl, .inl (.inl (s3 _ _ ha')), e0, D, _, rfl, dg, k H3 s3⟩
end
end Toy
end

section
set_option Elab.async false
set_option linter.all false
set_option maxRecDepth 100000
namespace Toy
open PySem PySem.Spec PyProof.Rows L2 Gd Kt
/-! ### the law's worth of a tree -/
abbrev sWorth : Stmt := top 50
def spWorth : Nat → Sp
  | 0 => fun _ _ _ _ => False
  | m + 1 => fun vs H Q _ => ∃ (a e : Addr) (ws : List Str) (t : Tr) (kvs : List (Key × V)) (env : Str → Rs), vs = [.ref a, .ref e] ∧ TreeAt H ws m t a ∧ H e = some (.dK kvs) ∧ EnvAt H kvs env (readsT t) ∧
    ∀ (b : Addr) (H' : Hp), Same H H' → RsAt H' b (evT env t) → Q (.ref b) H'
abbrev NWo : List Str := ["_law_tree_here", "_law_results_here", "_law_parts", "_law_wrong", "_law_made", "_law_value", "_law_part"]
abbrev psWo : List Str := ["_law_tree_here", "_law_results_here"]
theorem scWorth : FnScope NWo psWo (defScope sWorth) := ⟨rfl, rfl, rfl, by decide +kernel, rfl, by decide +kernel, by decide +kernel⟩
/-- a part: as a result, its number of any size -/
def PtAt (H : Hp) (b : Addr) : Rs → Prop
  | .val n => H b = some (.tup [.str "value", .int n])
  | .bad w => H b = some (.tup [.str "failed", .str w]) ∧ (w = "zero" ∨ w = "range")
theorem RsAt.pt {H : Hp} {b : Addr} {r : Rs} (h : RsAt H b r) : PtAt H b r := by
  cases r with
  | val n => exact h.1
  | bad w => exact h
theorem PtAt.grow {H H' : Hp} {b : Addr} {r : Rs} (h : PtAt H b r) (k : Same H H') : PtAt H' b r := by
  cases r with
  | val n => exact k _ _ h
  | bad w => exact ⟨k _ _ h.1, h.2⟩
/-- the parts of a tree -/
inductive Parts (H : Hp) (env : Str → Rs) : Tr → List (Addr × Rs) → Prop
  | num {n : Nat} {b : Addr} (h : PtAt H b (.val n)) : Parts H env (.num n) [(b, .val n)]
  | neg {t : Tr} {b : Addr} (h : RsAt H b (evT env t)) : Parts H env (.neg t) [(b, evT env t)]
  | bin {s : Str} {l r : Tr} {b c : Addr} (hs : s ∈ signs) (h : RsAt H b (evT env l)) (h2 : RsAt H c (evT env r)) : Parts H env (.bin s l r) [(b, evT env l), (c, evT env r)]
theorem RsAt.same {H H' : Hp} {b : Addr} {r : Rs} (h : RsAt H b r) (k : Same H H') : RsAt H' b r := h.grow fun b xs e => k b _ e
theorem Parts.grow {H H' : Hp} {env : Str → Rs} {t : Tr} {ps : List (Addr × Rs)} (h : Parts H env t ps) (k : Same H H') : Parts H' env t ps := by
  cases h with
  | num h => exact .num (h.grow k)
  | neg h => exact .neg (h.same k)
  | bin hs h h2 => exact .bin hs (h.same k) (h2.same k)
theorem Parts.at_ {H : Hp} {env : Str → Rs} {t : Tr} {ps : List (Addr × Rs)} (h : Parts H env t ps) : ∀ q ∈ ps, PtAt H q.1 q.2 := by
  cases h with
  | num h =>
    intro q hq
    rw [List.mem_singleton.mp hq]
    exact h
  | neg h =>
    intro q hq
    rw [List.mem_singleton.mp hq]
    exact h.pt
  | bin hs h h2 =>
    intro q hq
    simp only [List.mem_cons, List.not_mem_nil, or_false] at hq
    rcases hq with rfl | rfl
    · exact h.pt
    · exact h2.pt
def isBad : Rs → Bool
  | .bad _ => true
  | .val _ => false
def bads (ps : List (Addr × Rs)) : List (Addr × Rs) := ps.filter fun q => isBad q.2
theorem bads_snoc (ps : List (Addr × Rs)) (q : Addr × Rs) : bads (ps ++ [q]) = bads ps ++ (if isBad q.2 = true then [q] else []) := by
  unfold bads
  rw [List.filter_append, List.filter_cons, List.filter_nil]
/-- a part that failed is what the tree gives -/
theorem bad_is {H : Hp} {env : Str → Rs} {t : Tr} {ps : List (Addr × Rs)} (h : Parts H env t ps) {q : Addr × Rs} {r : List (Addr × Rs)} (e : bads ps = q :: r) : RsAt H q.1 (evT env t) := by
  cases h with
  | num h => cases e
  | @neg t b h =>
    show RsAt H q.1 (negR (evT env t))
    cases hz : evT env t with
    | val n =>
      rw [hz] at e
      cases e
    | bad w =>
      rw [hz] at e h
      cases e
      exact h
  | @bin s l r b c hs h h2 =>
    show RsAt H q.1 (comb s (evT env l) (evT env r))
    cases hz : evT env l with
    | bad w =>
      rw [hz] at e h
      cases e
      exact h
    | val n =>
      cases hz2 : evT env r with
      | val m =>
        rw [hz, hz2] at e
        cases e
      | bad w =>
        rw [hz, hz2] at e
        rw [hz2] at h2
        cases e
        exact h2
theorem Parts.short {H : Hp} {env : Str → Rs} {t : Tr} {ps : List (Addr × Rs)} (h : Parts H env t ps) : ps.length ≤ 2 := by
  cases h with
  | num h => show 1 ≤ 2; decide
  | neg h => show 1 ≤ 2; decide
  | bin hs h h2 => show 2 ≤ 2; decide
def bd : Rs → PyData
  | .bad w => .tuple [.str "failed", .str w]
  | .val _ => .none
theorem bads_dp {K : PySem.W.Frag} {H : Hp} : ∀ {ps : List (Addr × Rs)}, (∀ q ∈ ps, PtAt H q.1 q.2) → DpAll K H ((bads ps).map fun q => V.ref q.1) ((bads ps).map fun q => bd q.2)
  | [], _ => .nil
  | (b, .val n) :: ps, h => by
    show DpAll K H ((bads ps).map fun q => V.ref q.1) ((bads ps).map fun q => bd q.2)
    exact bads_dp fun q hq => h q (List.mem_cons_of_mem _ hq)
  | (b, .bad w) :: ps, h => by
    show DpAll K H (V.ref b :: (bads ps).map fun q => V.ref q.1) (.tuple [.str "failed", .str w] :: (bads ps).map fun q => bd q.2)
    have hw := h (b, .bad w) (List.mem_cons_self ..)
    exact .cons (.tup (SqT.of hw.1) (.cons (.str _) (.cons (.str _) .nil))) (bads_dp fun q hq => h q (List.mem_cons_of_mem _ hq))
theorem bd_shape : ∀ l : List Rs, (∀ r ∈ l, ∃ w, r = .bad w ∧ (w = "zero" ∨ w = "range")) → l.length ≤ 2 → SeqAt.shaped (.list (l.map bd)) = true ∧ (!PyData.eqv (.list (l.map bd)) (.list [])) = !l.isEmpty
  | [], _, _ => ⟨by decide +kernel, by decide +kernel⟩
  | [r], h, _ => by
    obtain ⟨w, rfl, hw⟩ := h r (by simp)
    rcases hw with rfl | rfl <;> exact ⟨by decide +kernel, by decide +kernel⟩
  | [r, u], h, _ => by
    obtain ⟨w, rfl, hw⟩ := h r (by simp)
    obtain ⟨w2, rfl, hw2⟩ := h u (by simp)
    rcases hw with rfl | rfl <;> rcases hw2 with rfl | rfl <;> exact ⟨by decide +kernel, by decide +kernel⟩
  | _ :: _ :: _ :: _, _, h => by simp at h
theorem bads_data {H : Hp} {ps : List (Addr × Rs)} (h : ∀ q ∈ ps, PtAt H q.1 q.2) (h2 : ps.length ≤ 2) : SeqAt.shaped (.list ((bads ps).map fun q => bd q.2)) = true ∧ (!PyData.eqv (.list ((bads ps).map fun q => bd q.2)) (.list [])) = !(bads ps).isEmpty := by
  have g := bd_shape ((bads ps).map (·.2)) (fun r hr => by
    obtain ⟨q, hq, rfl⟩ := List.mem_map.mp hr
    have hq2 := List.mem_filter.mp hq
    have hp := h q hq2.1
    cases hz : q.2 with
    | val n =>
      rw [hz] at hq2
      cases hq2.2
    | bad w =>
      rw [hz] at hp
      exact ⟨w, rfl, hp.2⟩) (by
    rw [List.length_map]
    exact Nat.le_trans (List.length_filter_le ..) h2)
  rw [List.map_map] at g
  have e : ((bads ps).map (·.2)).isEmpty = (bads ps).isEmpty := by cases bads ps <;> rfl
  rw [e] at g
  exact g
theorem comb_exv {s : Str} (hs : s ∈ signs) {x y : Int} : comb s (.val x) (.val y) = (if s = "//" ∧ y = 0 then Rs.bad "zero" else lim (exv s x y)) := by
  have hm : ¬ s = "minus" := fun e => by
    have := sg_minus s hs
    rw [e] at this
    exact absurd this (by decide +kernel)
  show (if s = "//" then (if y = 0 then Rs.bad "zero" else lim (x.fdiv y)) else lim (tot s x y)) = _
  unfold exv
  rw [if_neg hm]
  by_cases c : s = "//"
  · rw [if_pos c, if_pos c]
    by_cases z : y = 0
    · rw [if_pos z, if_pos ⟨c, z⟩]
    · rw [if_neg z, if_neg z, if_neg (fun q => z q.2)]
  · rw [if_neg c, if_neg c, if_neg (fun q => c q.1)]
inductive NumAll (H : Hp) : List Addr → List Int → Prop
  | nil : NumAll H [] []
  | cons {a : Addr} {n : Int} {as : List Addr} {ns : List Int} (h : H a = some (.tup [.str "number", .int n])) (t : NumAll H as ns) : NumAll H (a :: as) (n :: ns)
theorem NumAll.grow {H H' : Hp} {as : List Addr} {ns : List Int} (h : NumAll H as ns) (k : ∀ b xs, H b = some (.tup xs) → H' b = some (.tup xs)) : NumAll H' as ns := by
  induction h with
  | nil => exact .nil
  | cons h t ih => exact .cons (k _ _ h) ih
theorem numAll_len {H : Hp} {as : List Addr} {ns : List Int} (h : NumAll H as ns) : as.length = ns.length := by
  induction h with
  | nil => rfl
  | cons h t ih => simp [ih]
theorem numAll_snoc {H : Hp} {as : List Addr} {ns : List Int} {a : Addr} {n : Int} (h : NumAll H as ns) (g : H a = some (.tup [.str "number", .int n])) : NumAll H (as ++ [a]) (ns ++ [n]) := by
  induction h with
  | nil => exact .cons g .nil
  | cons h t ih => exact .cons h ih
theorem cut_head (x : V) (xs : List V) : cutV (x :: xs) none (some 1) = [x] := by
  unfold cutV
  have e1 : HT.sIx (x :: xs).length (x :: xs).length (some (1 : Int)) = 1 := by
    rw [show (1 : Int) = ((1 : Nat) : Int) from rfl, HT.sIx_nat, List.length_cons]
    omega
  have e2 : HT.sIx (x :: xs).length 0 none = 0 := rfl
  rw [e1, e2]
  rfl
theorem cut_tail (x : V) (xs : List V) : cutV (x :: xs) (some 1) none = xs := by
  unfold cutV
  have e1 : HT.sIx (x :: xs).length 0 (some (1 : Int)) = 1 := by
    rw [show (1 : Int) = ((1 : Nat) : Int) from rfl, HT.sIx_nat, List.length_cons]
    omega
  have e2 : HT.sIx (x :: xs).length (x :: xs).length none = (x :: xs).length := rfl
  rw [e1, e2, List.length_cons, Nat.add_sub_cancel]
  show List.take xs.length xs = xs
  exact List.take_length ..
theorem rsAll_len {H : Hp} {as : List Addr} {st : List Rs} (h : RsAll H as st) : as.length = st.length := by
  induction h with
  | nil => rfl
  | cons h t ih => simp [ih]
theorem rsAll_snoc {H : Hp} {as : List Addr} {st : List Rs} {a : Addr} {r : Rs} (h : RsAll H as st) (g : RsAt H a r) : RsAll H (as ++ [a]) (st ++ [r]) := by
  induction h with
  | nil => exact .cons g .nil
  | cons h t ih => exact .cons h ih
section
variable {P : Program} {w : World} {K : PySem.W.Frag} {mg : Str → Option Value} {base : Heap} {f fE : Addr} {fd fdE : FuncData}
set_option maxHeartbeats 1000000 in
theorem ok_worth (F : Fun K "_law_worth" "_law_worth" sWorth f fd) (T : TxtM K mg) (DT : Dn K mg "_law_worth" f fd psWo) (DE : Dn K mg "_law_exact" fE fdE psEx) (GE : FnOk P w K mg base CX0 3 fE fdE psEx (spEx 2)) :
    ∀ m : Nat, FnOk P w K mg base CX0 (m + 4) f fd psWo (spWorth m) := by
  intro m
  induction m with
  | zero => exact F.ok scWorth (fun _ _ _ _ h => h.elim) (fun _ _ _ _ _ _ _ _ _ h => h.elim)
  | succ m ih =>
    refine F.ok scWorth (fun vs H Q E h => ?_) (fun cdv A outer s H vs Q E hr h => ?_)
    · obtain ⟨a, e, ws, t, kvs, env, rfl, _⟩ := h
      rfl
    · obtain ⟨a, e, ws, t, kvs, env, rfl, ht, he, henv, k⟩ := h
      have hu := hu_of hr
      have hr3 : Room 3 _ := hr.mono (by omega)
      refine ⟨_, pss_cons (ps_if (pt_cmpR op_eq (pe_ix ix_tup (pv 0) pe_int (fun _ _ => rfl)) pe_str (nomark _)) (pss_one (ps_ret (pe_dget hu (pv 1) (pe_ix ix_tup (pv 0) pe_int (fun _ _ => rfl)) (fun _ _ => rfl)))) pss_nil)
        (pss_cons (ps_set (i := 2) scWorth.nd rfl (Or.inl rfl) (pe_lst (pa_cons (pe_tup (pa_cons pe_str (pa_cons (pe_ix ix_tup (pv 0) pe_int (fun _ _ => rfl)) pa_nil))) pa_nil)))
        (C8.pss_cut (ps_if (pt_cmpR op_ne (pe_ix ix_tup (pv 0) pe_int (fun _ _ => rfl)) pe_str (nomark _))
          (pss_one (ps_setLc (i := 2) (own := [("_law_part", 6)]) (g := gName 6) (by rfl) scWorth.nd rfl rfl (sw_true rfl rfl rfl (by decide +kernel)) (pi_tup (pe_slice sl_tup (pv 0) (po_some pe_int) po_none)) (blkOk_by (own := [("_law_part", 6)]) (N := NWo) (sc := defScope sWorth) (by decide +kernel))
            (fun _ _ _ _ _ => pg_name (i := 6) scWorth.nd rfl (Or.inl rfl)) (fun _ _ _ _ _ => pts_nil) (fun _ _ _ _ _ => pe_call ih hr rfl DT.m DT.k DT.b .nil pass0 (pa_cons (pv 6) (pa_cons (pv 1) pa_nil))))) pss_nil)
        (C8.pss_cut (ps_setLc (i := 3) (own := [("_law_part", 6)]) (g := gName 6) (by rfl) scWorth.nd rfl rfl (sw_true rfl rfl rfl (by decide +kernel)) (pi_list (pv 2)) (blkOk_by (own := [("_law_part", 6)]) (N := NWo) (sc := defScope sWorth) (by decide +kernel))
            (fun _ _ _ _ _ => pg_name (i := 6) scWorth.nd rfl (Or.inl rfl)) (fun _ _ _ _ _ => pts_one (pt_cmpR op_eq (pe_ix (r := L2.rIxT K) ix_tup (pv 6) pe_int (fun _ _ => rfl)) pe_str (nomark _))) (fun _ _ _ _ _ => pv 6))
        (C8.pss_cut (ps_if (pt_cmpR (op_neD hr.units) (pv 3) (pe_lst pa_nil) (nomark _)) (pss_one (ps_ret (pe_ix ix_list (pv 3) pe_int (fun _ _ => rfl)))) pss_nil)
        (C8.pss_cut (ps_if (PW.pt (pw_and (pt_cmpR op_eq (pe_ix ix_tup (pv 0) pe_int (fun _ _ => rfl)) pe_str (nomark _)) (pw_and1 (pt_cmpR op_eq (pe_ix ix_tup (pe_ix ix_list (pv 2) pe_int (fun _ _ => rfl)) pe_int (fun _ _ => rfl)) pe_int (nomark _)))))
            (pss_one (ps_ret (pe_tup (pa_cons pe_str (pa_cons pe_str pa_nil))))) pss_nil)
        (C8.pss_cut (ps_set (i := 4) scWorth.nd rfl (Or.inl rfl) (pe_callTy call_tuple_of (by rfl) T.tuple (by decide +kernel) (pa_cons (pe_lc (own := [("_law_part", 6)]) (g := gName 6) rfl scWorth.nd (pi_list (pv 2)) (blkOk_by (own := [("_law_part", 6)]) (N := NWo) (sc := defScope sWorth) (by decide +kernel))
            (fun _ _ _ _ _ => pg_name (i := 6) scWorth.nd rfl (Or.inl rfl)) (fun _ _ _ _ _ => pts_nil) (fun _ _ _ _ _ => pe_tup (pa_cons pe_str (pa_cons (pe_ix (r := L2.rIxT K) ix_tup (pv 6) pe_int (fun _ _ => rfl)) pa_nil)))) pa_nil)))
        (C8.pss_cut (ps_set (i := 5) scWorth.nd rfl (Or.inl rfl) (pe_ifExp (pt_cmpR op_eq (pe_ix ix_tup (pv 0) pe_int (fun _ _ => rfl)) pe_str (nomark _)) (pe_ix ix_tup (pe_ix ix_list (pv 2) pe_int (fun _ _ => rfl)) pe_int (fun _ _ => rfl))
            (pe_call GE hr3 rfl DE.m DE.k DE.b .nil pass0 (pa_cons (pe_op op_catT (pe_slice sl_tup (pv 0) po_none (po_some pe_int)) (pv 4)) (pa_cons pe_dnewK pa_nil)))))
        (pss_one (ps_ret (pe_ifExp (pt_cmpR op_le (pe_callB call_abs (by rfl) T.abs (by decide +kernel) (pa_cons (pv 5) pa_nil)) (pe_op op_pow pe_int pe_int) (nomark _)) (pe_tup (pa_cons pe_str (pa_cons (pv 5) pa_nil))) (pe_tup (pa_cons pe_str (pa_cons pe_str pa_nil))))))))))))), ?_⟩
      have T1 : TEN = 1000000000000000000000000000000 := rfl
      have sz : sizeLine = 16777216 := by decide
      -- the name
      by_cases hnm : ∃ y, t = .nam y
      · obtain ⟨y, rfl⟩ := hnm
        cases ht with
        | nam y hy ha =>
          obtain ⟨b, hb, rb⟩ := henv y (List.mem_singleton_self _)
          have dg : DGet H e (.str y) (some (.ref b)) := by
            have := DGet.k (k := (Sum.inr y : Key)) he
            rwa [hb] at this
          refine ⟨_, rfl, a, _, _, _, rfl, rfl, .inl (.inl ha), rfl, rfl, _, rfl, ?_⟩
          rw [show decide (V.str "name" = V.str "name") = true from decide_eq_true rfl]
          exact iteT ⟨_, rfl, _, rfl, a, _, _, _, rfl, rfl, .inl (.inl ha), rfl, e, _, rfl, dg, k b H (Same.refl _) rb⟩
      -- its head, its parts
      obtain ⟨s0, xs, v1, ha, hn0, hx1, hshape⟩ : ∃ (s0 : Str) (xs : List V) (v1 : V), H a = some (.tup (.str s0 :: xs)) ∧ decide (s0 = "name") = false ∧ xs[0]? = some v1 ∧
          ((∃ n : Nat, t = .num n ∧ s0 = "number" ∧ xs = [.int n] ∧ n ≤ 2000000000000000000000000000000) ∨ (decide (s0 = "number") = false ∧ ∃ (d : Nat) (ch : List (Addr × Tr)), m = d + 1 ∧ xs = ch.map (fun q => V.ref q.1) ∧ ch.length ≤ 2 ∧ (∀ q ∈ ch, TreeAt H ws d q.2 q.1 ∧ ∀ y ∈ readsT q.2, y ∈ readsT t) ∧
            ((∃ b u, s0 = "minus" ∧ t = .neg u ∧ ch = [(b, u)]) ∨ ∃ b c l r, s0 ∈ signs ∧ t = .bin s0 l r ∧ ch = [(b, l), (c, r)]))) := by
        cases ht with
        | num n h0 h1 h => exact ⟨"number", _, _, h, by decide +kernel, rfl, .inl ⟨n.toNat, rfl, rfl, by rw [Int.toNat_of_nonneg h0], by omega⟩⟩
        | nam y hy h => exact absurd ⟨y, rfl⟩ hnm
        | @neg d _ b u h v =>
          refine ⟨"minus", _, _, h, by decide +kernel, rfl, .inr ⟨by decide +kernel, d, [(b, u)], rfl, rfl, by show 1 ≤ 2; decide, fun q hq => ?_, .inl ⟨b, u, rfl, rfl, rfl⟩⟩⟩
          rw [List.mem_singleton.mp hq]
          exact ⟨v, fun y hy => hy⟩
        | @bin d _ b c l r s hs h u v =>
          have hh : ∀ sg ∈ signs, decide (sg = "name") = false ∧ decide (sg = "number") = false := by decide +kernel
          refine ⟨s, _, _, h, (hh s hs).1, rfl, .inr ⟨(hh s hs).2, d, [(b, l), (c, r)], rfl, rfl, by show 2 ≤ 2; decide, fun q hq => ?_, .inr ⟨b, c, l, r, hs, rfl, rfl⟩⟩⟩
          simp only [List.mem_cons, List.not_mem_nil, or_false] at hq
          rcases hq with rfl | rfl
          · exact ⟨u, fun y hy => List.mem_append_left _ hy⟩
          · exact ⟨v, fun y hy => List.mem_append_right _ hy⟩
      have e0 : atI (V.str s0 :: xs) 0 = some (.str s0) := atI_nat (j := 0) rfl
      have e1 : atI (V.str s0 :: xs) 1 = some v1 := atI_nat (j := 1) (by rw [List.getElem?_cons_succ]; exact hx1)
      refine ⟨_, rfl, a, _, _, _, rfl, rfl, .inl (.inl ha), e0, rfl, _, rfl, ?_⟩
      rw [str_dec2, hn0]
      refine iteF ⟨_, rfl, a, _, _, _, rfl, rfl, .inl (.inl ha), e1, by show 2 ≤ sizeLine; decide, fun t0 ht0 => ?_⟩
      have s1 : Same H (upd H t0 (.tup [.str "value", v1])) := same_new ht0
      have ht1 : upd H t0 (.tup [.str "value", v1]) t0 = some (.tup [.str "value", v1]) := upd_same
      generalize upd H t0 (.tup [.str "value", v1]) = H1 at s1 ht1 ⊢
      refine ⟨by show 1 ≤ sizeLine; decide, fun D0 hD0 => ?_⟩
      have s2 : Same H1 (upd H1 D0 (.lst [.ref t0])) := same_new hD0
      have hD1 : upd H1 D0 (.lst [.ref t0]) D0 = some (.lst [.ref t0]) := upd_same
      have ht2 := s2 _ _ ht1
      have s12 := s1.trans s2
      generalize upd H1 D0 (.lst [.ref t0]) = H2 at s2 hD1 ht2 s12 ⊢
      refine ⟨fun σ' H' => ∃ (D : Addr) (ps : List (Addr × Rs)), σ' = [some (.ref a), some (.ref e), some (.ref D), none, none, none, none] ∧ H' D = some (.lst (ps.map fun q => V.ref q.1)) ∧ Parts H' env t ps ∧ Same H H', ?_, ?_⟩
      · refine ⟨_, rfl, a, _, _, _, rfl, rfl, .inl (.inl (s12 _ _ ha)), e0, rfl, _, rfl, ?_⟩
        rw [str_dec2]
        rcases hshape with ⟨n, rfl, rfl, rfl, hn⟩ | ⟨hs0, d, ch, rfl, rfl, hch2, hch, hform⟩
        · rw [show (!decide (("number" : Str) = "number")) = false by decide +kernel]
          cases hx1
          exact iteF ⟨D0, [(t0, .val n)], rfl, hD1, .num ht2, s12⟩
        · rw [hs0]
          refine iteT ⟨_, rfl, _, rfl, a, _, rfl, .inl (.inl (s12 _ _ ha)), (fun z => by cases z.1), fun q0 hq0 => ⟨q0, rfl, ⟨_, .inl (.inl upd_same)⟩, fun D hD => ?_⟩⟩
          rw [cut_tail] at hD ⊢
          have s3 : Same H (upd H2 q0 (.tup (ch.map fun q => V.ref q.1))) := s12.trans (same_new hq0)
          have hq1 : upd H2 q0 (.tup (ch.map fun q => V.ref q.1)) q0 = some (.tup (ch.map fun q => V.ref q.1)) := upd_same
          generalize upd H2 q0 (.tup (ch.map fun q => V.ref q.1)) = H3 at s3 hq1 hD ⊢
          have nq : q0 ≠ D := ne_of_none hq1 hD
          refine lc_tup (xs := ch.map fun q => V.ref q.1) (fun i H' => ∃ bs : List Addr, H' D = some (.lst (bs.map V.ref)) ∧ RsAll H' bs ((ch.take i).map fun q => evT env q.2) ∧ ∀ b o, b ≠ D → H3 b = some o → H' b = some o) ?_ (fun i H' _ hP => ?_) (fun i x H' hx hP => ?_) (fun H' hP => ?_)
          · exact ⟨[], upd_same, .nil, fun b o nb h => by rw [upd_ne nb]; exact h⟩
          · obtain ⟨bs, h1, h2, h3⟩ := hP
            exact .inl (.inl (h3 _ _ nq hq1))
          · obtain ⟨bs, h1, h2, h3⟩ := hP
            have sm : Same H H' := fun b o h => h3 b o (ne_of_none (s3 b o h) hD) (s3 b o h)
            have hi : i < ch.length := by
              have := (List.getElem?_eq_some_iff.mp hx).1
              rwa [List.length_map] at this
            have hx' : x = V.ref ch[i].1 := by
              rw [List.getElem?_map, List.getElem?_eq_getElem hi] at hx
              exact (Option.some.inj hx).symm
            subst hx'
            obtain ⟨g1, g2⟩ := hch _ (List.getElem_mem hi)
            have tk : (ch.take (i + 1)).map (fun q => evT env q.2) = (ch.take i).map (fun q => evT env q.2) ++ [evT env ch[i].2] := by
              rw [List.take_succ, List.getElem?_eq_getElem hi, List.map_append]
              rfl
            have bl : bs.length ≤ i := by
              have := rsAll_len h2
              rw [List.length_map, List.length_take] at this
              omega
            refine ⟨rfl, _, rfl, _, rfl, ch[i].1, e, ws, ch[i].2, kvs, env, rfl, g1.grow fun b xs h => sm b _ h, sm _ _ he, fun y hy => ?_, fun b H4 s4 rb => ?_⟩
            · obtain ⟨b, hb, rb⟩ := henv y (g2 y hy)
              exact ⟨b, hb, rb.same sm⟩
            · have h14 := s4 _ _ h1
              refine ⟨_, h14, by rw [List.length_map]; omega, bs ++ [b], by rw [upd_same, List.map_append]; rfl, ?_, fun b' o nb h => by rw [upd_ne nb]; exact s4 _ _ (h3 b' o nb h)⟩
              rw [tk]
              exact rsAll_snoc ((h2.grow fun b xs h => s4 b _ h).grow (put_keep h14)) (rb.grow (put_keep h14))
          · obtain ⟨bs, h1, h2, h3⟩ := hP
            have sm : Same H H' := fun b o h => h3 b o (ne_of_none (s3 b o h) hD) (s3 b o h)
            rw [List.length_map, List.take_length] at h2
            rcases hform with ⟨b, u, rfl, rfl, rfl⟩ | ⟨b, c, l, r, hsg, rfl, rfl⟩
            · cases h2 with
              | cons g1 g2 =>
                cases g2
                exact ⟨D, [(_, evT env u)], rfl, h1, .neg g1, sm⟩
            · cases h2 with
              | cons g1 g2 =>
                cases g2 with
                | cons g2 g3 =>
                  cases g3
                  exact ⟨D, [(_, evT env l), (_, evT env r)], rfl, h1, .bin hsg g1 g2, sm⟩
      intro σ3 H3 hm3
      obtain ⟨D, ps, rfl, hD, hps, s3⟩ := hm3
      have hat := hps.at_
      have hps2 := hps.short
      refine ⟨fun σ' H' => ∃ (D3 : Addr), σ' = [some (.ref a), some (.ref e), some (.ref D), some (.ref D3), none, none, none] ∧ H' D3 = some (.lst ((bads ps).map fun q => V.ref q.1)) ∧ Same H3 H', ?_, ?_⟩
      · refine ⟨_, rfl, D, rfl, ⟨_, SqL.of hD⟩, fun D3 hD3 => ?_⟩
        have nD : D ≠ D3 := ne_of_none hD hD3
        refine lc_list (xs := ps.map fun q => V.ref q.1) (fun i H' => H' D3 = some (.lst ((bads (ps.take i)).map fun q => V.ref q.1)) ∧ ∀ b o, b ≠ D3 → H3 b = some o → H' b = some o) ?_ (fun i H' _ hP => ?_) (fun i x H' hx hP => ?_) (fun H' hP => ?_)
        · exact ⟨upd_same, fun b o nb h => by rw [upd_ne nb]; exact h⟩
        · exact SqL.of (hP.2 _ _ nD hD)
        · obtain ⟨h1, h3⟩ := hP
          have sm : Same H3 H' := fun b o h => h3 b o (ne_of_none h hD3) h
          have hi : i < ps.length := by
            have := (List.getElem?_eq_some_iff.mp hx).1
            rwa [List.length_map] at this
          have hx' : x = V.ref ps[i].1 := by
            rw [List.getElem?_map, List.getElem?_eq_getElem hi] at hx
            exact (Option.some.inj hx).symm
          subst hx'
          have tk : ps.take (i + 1) = ps.take i ++ [ps[i]] := by
            rw [List.take_succ, List.getElem?_eq_getElem hi]
            rfl
          have bl : (bads (ps.take i)).length ≤ 2 := by
            have := List.length_filter_le (fun q : Addr × Rs => isBad q.2) (ps.take i)
            have q2 : (ps.take i).length ≤ ps.length := List.length_take_le' ..
            unfold bads
            omega
          have hq := (hat _ (List.getElem_mem hi)).grow sm
          rw [tk, bads_snoc]
          cases hz : ps[i].2 with
          | val n =>
            rw [hz] at hq
            refine ⟨rfl, _, rfl, _, _, _, _, rfl, rfl, .inl (.inl hq), rfl, rfl, _, rfl, ?_⟩
            rw [show decide (V.str "value" = V.str "failed") = false by decide +kernel]
            refine iteF ⟨?_, h3⟩
            rw [show (if isBad (Rs.val n) = true then [ps[i]] else []) = [] from rfl, List.append_nil]
            exact h1
          | bad w =>
            rw [hz] at hq
            refine ⟨rfl, _, rfl, _, _, _, _, rfl, rfl, .inl (.inl hq.1), rfl, rfl, _, rfl, ?_⟩
            rw [show decide (V.str "failed" = V.str "failed") = true from decide_eq_true rfl]
            refine iteT ⟨_, rfl, _, h1, by rw [List.length_map]; omega, ?_, fun b o nb h => by rw [upd_ne nb]; exact h3 b o nb h⟩
            rw [show (if isBad (Rs.bad w) = true then [ps[i]] else []) = [ps[i]] from rfl, upd_same, List.map_append]
            rfl
        · obtain ⟨h1, h3⟩ := hP
          rw [List.length_map, List.take_length] at h1
          exact ⟨D3, rfl, h1, fun b o h => h3 b o (ne_of_none h hD3) h⟩
      intro σ4 H4 hm4
      obtain ⟨D3, rfl, hD3, s4⟩ := hm4
      have hps4 := hps.grow s4
      have s04 := s3.trans s4
      have hD4 := s4 _ _ hD
      refine ⟨fun σ' H' => σ' = [some (.ref a), some (.ref e), some (.ref D), some (.ref D3), none, none, none] ∧ bads ps = [] ∧ Same H4 H', ?_, ?_⟩
      · refine ⟨_, rfl, by show 0 ≤ sizeLine; decide, fun z hz => ?_⟩
        have s5 := same_new (o := .lst []) hz
        obtain ⟨g1, g2⟩ := bads_data (ps := ps) (fun q hq => hat q hq) hps2
        refine ⟨.list ((bads ps).map fun q => bd q.2), .list [], .lst (SqL.of (s5 _ _ hD3)) (bads_dp (fun q hq => ((hat q hq).grow s4).grow s5)), .lst (SqL.of upd_same) .nil, g1, by decide +kernel, _, rfl, ?_⟩
        rw [g2]
        cases hb : bads ps with
        | nil => exact iteF ⟨rfl, rfl, s5⟩
        | cons q r =>
          have h3 := s5 _ _ hD3
          rw [hb] at h3
          exact iteT ⟨_, rfl, D3, _, _, V.ref q.1, rfl, rfl, SqL.of h3, atI_nat (j := 0) rfl, k q.1 _ (s04.trans s5) ((bad_is hps4 hb).same s5)⟩
      intro σ5 H5 hm5
      obtain ⟨rfl, hnb, s5⟩ := hm5
      have hps5 := hps4.grow s5
      have s05 := s04.trans s5
      have hD5 := s5 _ _ hD4
      have ha5 := s05 _ _ ha
      obtain ⟨vs, hvs, hval, hcase⟩ : ∃ vs : List (Addr × Int), ps = vs.map (fun q => (q.1, Rs.val q.2)) ∧ (∀ q ∈ vs, H5 q.1 = some (.tup [.str "value", .int q.2])) ∧
          ((∃ (n : Nat) (b : Addr), t = .num n ∧ s0 = "number" ∧ vs = [(b, (n : Int))] ∧ (n : Int) ≤ 2000000000000000000000000000000) ∨
            (decide (s0 = "number") = false ∧ ∃ x y, s0 ∈ exSigns ∧ ((∃ b c, vs = [(b, x), (c, y)]) ∨ ((∃ b, vs = [(b, x)]) ∧ y = x ∧ s0 = "minus")) ∧ -TEN ≤ x ∧ x ≤ TEN ∧ -TEN ≤ y ∧ y ≤ TEN ∧
              evT env t = (if s0 = "//" ∧ y = 0 then .bad "zero" else lim (exv s0 x y)))) := by
        rcases hshape with ⟨n, rfl, rfl, _, hn⟩ | ⟨hs0, d, ch, _, _, _, _, hform⟩
        · cases hps5 with
          | @num n b h => exact ⟨[(b, (n : Int))], rfl, fun q hq => by rw [List.mem_singleton.mp hq]; exact h, .inl ⟨n, b, rfl, rfl, rfl, by omega⟩⟩
        · rcases hform with ⟨b0, u, rfl, rfl, _⟩ | ⟨b0, c0, l, r, hsg, rfl, _⟩
          · cases hps5 with
            | @neg t b h =>
              cases hz : evT env u with
              | bad w =>
                rw [hz] at hnb
                cases hnb
              | val x =>
                rw [hz] at h
                refine ⟨[(b, x)], rfl, fun q hq => by rw [List.mem_singleton.mp hq]; exact h.1, .inr ⟨hs0, x, x, by decide +kernel, .inr ⟨⟨b, rfl⟩, rfl, rfl⟩, h.2.1, h.2.2, h.2.1, h.2.2, ?_⟩⟩
                show negR (evT env u) = _
                rw [hz, if_neg (fun z => absurd z.1 (by decide +kernel))]
                show Rs.val (-x) = lim (exv "minus" x x)
                have e2 : exv "minus" x x = 0 - x := rfl
                rw [e2]
                unfold lim
                have h1 := h.2.1
                have h2 := h.2.2
                rw [if_pos (by omega), Int.zero_sub]
          · cases hps5 with
            | @bin s l r b c hs h h2 =>
              cases hz : evT env l with
              | bad w =>
                rw [hz] at hnb
                cases hnb
              | val x =>
                cases hz2 : evT env r with
                | bad w =>
                  rw [hz, hz2] at hnb
                  cases hnb
                | val y =>
                  rw [hz] at h
                  rw [hz2] at h2
                  refine ⟨[(b, x), (c, y)], rfl, fun q hq => ?_, .inr ⟨hs0, x, y, List.mem_cons_of_mem _ hs, .inl ⟨b, c, rfl⟩, h.2.1, h.2.2, h2.2.1, h2.2.2, ?_⟩⟩
                  · simp only [List.mem_cons, List.not_mem_nil, or_false] at hq
                    rcases hq with rfl | rfl
                    · exact h.1
                    · exact h2.1
                  · show comb s0 (evT env l) (evT env r) = _
                    rw [hz, hz2]
                    exact comb_exv hs
      have hD5' : H5 D = some (.lst (vs.map fun q => V.ref q.1)) := by
        rw [hD5, hvs, List.map_map]
        rfl
      clear hat hps2 hps hps4 hps5 hnb hD3 hD hD4
      refine ⟨fun σ' H' => σ' = [some (.ref a), some (.ref e), some (.ref D), some (.ref D3), none, none, none] ∧ H' = H5 ∧ ¬ (s0 = "//" ∧ ∃ x, (vs.map (·.2)) = [x, 0]), ?_, ?_⟩
      · refine ⟨_, rfl, a, _, _, _, rfl, rfl, .inl (.inl ha5), e0, rfl, _, rfl, ?_⟩
        rw [str_dec2]
        by_cases c1 : s0 = "//"
        · rw [decide_eq_true c1]
          obtain ⟨x, y, b, c, rfl, hev⟩ : ∃ x y b c, vs = [(b, x), (c, y)] ∧ evT env t = (if s0 = "//" ∧ y = 0 then .bad "zero" else lim (exv s0 x y)) := by
            rcases hcase with ⟨n, b, _, h0, _⟩ | ⟨_, x, y, _, hv2, _, _, _, _, hev⟩
            · rw [c1] at h0
              exact absurd h0 (by decide +kernel)
            · rcases hv2 with ⟨b, c, rfl⟩ | ⟨_, _, h0⟩
              · exact ⟨x, y, b, c, rfl, hev⟩
              · rw [c1] at h0
                exact absurd h0 (by decide +kernel)
          have hc := hval (c, y) (by simp)
          refine iteT ⟨_, rfl, D, _, _, V.ref c, rfl, rfl, SqL.of hD5', rfl, c, _, _, _, rfl, rfl, .inl (.inl hc), rfl, rfl, _, rfl, ?_⟩
          by_cases z : y = 0
          · rw [show decide (V.int y = V.int 0) = true by rw [z]; simp]
            refine iteT ⟨by show 2 ≤ sizeLine; decide, fun p hp => k p _ (s05.trans (same_new hp)) ?_⟩
            rw [hev, if_pos ⟨c1, z⟩]
            exact ⟨upd_same, .inl rfl⟩
          · rw [show decide (V.int y = V.int 0) = false from decide_eq_false fun q => z (by cases q; rfl)]
            refine iteF ⟨rfl, rfl, fun h => ?_⟩
            obtain ⟨_, x', h⟩ := h
            injection h with _ h
            injection h with h _
            exact z h
        · rw [decide_eq_false c1]
          exact iteF (iteF ⟨rfl, rfl, fun h => c1 h.1⟩)
      intro σ6 H6 hm6
      obtain ⟨rfl, rfl, hnz⟩ := hm6
      refine ⟨fun σ' H' => ∃ (M : Addr) (bs : List Addr), σ' = [some (.ref a), some (.ref e), some (.ref D), some (.ref D3), some (.ref M), none, none] ∧ H' M = some (.tup (bs.map V.ref)) ∧ NumAll H' bs (vs.map (·.2)) ∧ Same H6 H', ?_, ?_⟩
      · refine ⟨_, rfl, D, rfl, ⟨_, SqL.of hD5'⟩, fun L hL => ?_⟩
        have nD : D ≠ L := ne_of_none hD5' hL
        refine lc_list (xs := vs.map fun q => V.ref q.1) (fun i H' => ∃ bs : List Addr, H' L = some (.lst (bs.map V.ref)) ∧ NumAll H' bs ((vs.take i).map (·.2)) ∧ ∀ b o, b ≠ L → H6 b = some o → H' b = some o) ?_ (fun i H' _ hP => ?_) (fun i x H' hx hP => ?_) (fun H' hP => ?_)
        · exact ⟨[], upd_same, .nil, fun b o nb h => by rw [upd_ne nb]; exact h⟩
        · obtain ⟨bs, h1, h2, h3⟩ := hP
          exact SqL.of (h3 _ _ nD hD5')
        · obtain ⟨bs, h1, h2, h3⟩ := hP
          have hi : i < vs.length := by
            have := (List.getElem?_eq_some_iff.mp hx).1
            rwa [List.length_map] at this
          have hx' : x = V.ref vs[i].1 := by
            rw [List.getElem?_map, List.getElem?_eq_getElem hi] at hx
            exact (Option.some.inj hx).symm
          subst hx'
          have tk : (vs.take (i + 1)).map (·.2) = (vs.take i).map (·.2) ++ [vs[i].2] := by
            rw [List.take_succ, List.getElem?_eq_getElem hi, List.map_append]
            rfl
          have hq0 := hval _ (List.getElem_mem hi)
          have hq := h3 _ _ (ne_of_none hq0 hL) hq0
          have vl : vs.length ≤ 2 := by
            rcases hcase with ⟨_, _, _, _, rfl, _⟩ | ⟨_, _, _, _, ⟨_, _, rfl⟩ | ⟨⟨_, rfl⟩, _, _⟩, _⟩
            · show 1 ≤ 2; decide
            · show 2 ≤ 2; decide
            · show 1 ≤ 2; decide
          have bl : bs.length ≤ i := by
            have := numAll_len h2
            rw [List.length_map, List.length_take] at this
            omega
          refine ⟨rfl, _, rfl, _, _, _, _, rfl, rfl, .inl (.inl hq), rfl, by show 2 ≤ sizeLine; decide, fun p hp => ?_⟩
          have s7 := same_new (o := .tup [.str "number", .int vs[i].2]) hp
          have h17 := s7 _ _ h1
          refine ⟨_, h17, by rw [List.length_map]; omega, bs ++ [p], by rw [upd_same, List.map_append]; rfl, ?_, fun b o nb h => by rw [upd_ne nb]; exact s7 _ _ (h3 b o nb h)⟩
          rw [tk]
          exact numAll_snoc ((h2.grow fun b xs h => s7 b _ h).grow (put_keep h17)) (put_keep h17 _ _ upd_same)
        · obtain ⟨bs, h1, h2, h3⟩ := hP
          rw [List.length_map, List.take_length] at h2
          refine ⟨L, _, rfl, .inl ⟨SqL.of h1, fun M hM => ⟨M, bs, rfl, upd_same, h2.grow fun b xs h => same_new hM b _ h, fun b o h => same_new hM b o (h3 b o (ne_of_none h hL) h)⟩⟩⟩
      intro σ7 H7 hm7
      obtain ⟨M, bs, rfl, hM, hnum, s7⟩ := hm7
      have s07 := s05.trans s7
      have ha7 := s07 _ _ ha
      have hD7 := s7 _ _ hD5'
      refine ⟨fun σ' H' => ∃ v : Int, σ' = [some (.ref a), some (.ref e), some (.ref D), some (.ref D3), some (.ref M), some (.int v), none] ∧ evT env t = lim v ∧ Same H H', ?_, ?_⟩
      · refine ⟨_, rfl, a, _, _, _, rfl, rfl, .inl (.inl ha7), e0, rfl, _, rfl, ?_⟩
        rw [str_dec2]
        rcases hcase with ⟨n, b, rfl, rfl, rfl, hn⟩ | ⟨hs0, x, y, hex, hv2, x0, x1, y0, y1, hev⟩
        · rw [show decide (("number" : Str) = "number") = true from decide_eq_true rfl]
          have hb := s7 _ _ (hval (b, (n : Int)) (by simp))
          exact iteT ⟨_, rfl, D, _, _, V.ref b, rfl, rfl, SqL.of hD7, rfl, b, _, _, _, rfl, rfl, .inl (.inl hb), rfl, (n : Int), rfl, rfl, s07⟩
        · rw [hs0]
          refine iteF ⟨_, rfl, _, rfl, a, _, rfl, .inl (.inl ha7), ?_, fun p hp => ?_⟩
          · intro z
            have h := z.2
            match xs, hx1, h with
            | [], hx1, _ => cases hx1
            | u :: r, _, h => cases h
          rw [cut_head]
          have s8 := s07.trans (same_new (o := .tup [V.str s0]) hp)
          have hp1 : upd H7 p (.tup [V.str s0]) p = some (.tup [V.str s0]) := upd_same
          have hM8 := same_new (o := .tup [V.str s0]) hp _ _ hM
          have hn8 := hnum.grow fun b xs h => same_new (o := .tup [V.str s0]) hp b _ h
          generalize upd H7 p (.tup [V.str s0]) = H8 at s8 hp1 hM8 hn8 ⊢
          have bne : bs ≠ [] := fun z => by
            rw [z] at hn8
            have := numAll_len hn8
            rcases hv2 with ⟨_, _, rfl⟩ | ⟨⟨_, rfl⟩, _, _⟩ <;> cases this
          have bl : bs.length ≤ 2 := by
            have := numAll_len hn8
            rcases hv2 with ⟨_, _, rfl⟩ | ⟨⟨_, rfl⟩, _, _⟩
            · have : bs.length = 2 := this; omega
            · have : bs.length = 1 := this; omega
          refine ⟨_, rfl, p, M, _, _, rfl, rfl, .inl (.inl hp1), .inl (.inl hM8), (fun z => by cases z), by rw [List.length_map]; show 1 + _ ≤ _; omega, (fun z => absurd (List.map_eq_nil_iff.mp z) bne), fun _ q hq => ?_⟩
          have s9 := s8.trans (same_new (o := .tup ([V.str s0] ++ bs.map V.ref)) hq)
          have hq1 : upd H8 q (.tup ([V.str s0] ++ bs.map V.ref)) q = some (.tup (.str s0 :: bs.map V.ref)) := upd_same
          have hn9 := hn8.grow fun b xs h => same_new (o := .tup ([V.str s0] ++ bs.map V.ref)) hq b _ h
          generalize upd H8 q (.tup ([V.str s0] ++ bs.map V.ref)) = H9 at s9 hq1 hn9 ⊢
          refine fun z hz => ?_
          have s10 := s9.trans (same_new (o := .dK []) hz)
          have hq10 := same_new (o := .dK []) hz _ _ hq1
          have hn10 := hn9.grow fun b xs h => same_new (o := .dK []) hz b _ h
          generalize upd H9 z (.dK []) = H10 at s10 hq10 hn10 ⊢
          have hnz' : ¬ (s0 = "//" ∧ y = 0) ∨ (∃ b, vs = [(b, x)]) := by
            rcases hv2 with ⟨b, c, rfl⟩ | ⟨hb, _, _⟩
            · exact .inl fun h => hnz ⟨h.1, x, by rw [← h.2]; rfl⟩
            · exact .inr hb
          have hfin : evT env t = lim (exv s0 x y) := by
            rw [hev, if_neg]
            intro h
            rcases hv2 with ⟨b, c, rfl⟩ | ⟨_, _, hm⟩
            · exact hnz ⟨h.1, x, by rw [← h.2]; rfl⟩
            · rw [hm] at h
              exact absurd h.1 (by decide +kernel)
          rcases hv2 with ⟨b, c, rfl⟩ | ⟨⟨b, rfl⟩, hyx, hm⟩
          · cases hn10 with
            | @cons b' _ bs' _ g1 g2 =>
              cases g2 with
              | @cons c' _ bs' _ g2 g3 =>
                cases g3
                exact ⟨q, z, rfl, .inr ⟨rfl, s0, b', c', x, y, .inl hq10, hex, g1, g2, x0, x1, y0, y1, fun H11 s11 => ⟨_, rfl, hfin, s10.trans s11⟩⟩⟩
          · cases hn10 with
            | @cons b' _ bs' _ g1 g2 =>
              cases g2
              subst hyx
              exact ⟨q, z, rfl, .inr ⟨rfl, s0, b', b', y, y, .inr ⟨hq10, rfl⟩, hex, g1, g1, x0, x1, y0, y1, fun H11 s11 => ⟨_, rfl, hfin, s10.trans s11⟩⟩⟩
      intro σ8 H8 hm8
      obtain ⟨v, rfl, hv, s8⟩ := hm8
      refine ⟨_, rfl, v, rfl, _, _, rfl, rfl, CPa, _, _, rfl, rfl, _, rfl, ?_⟩
      rw [ten30]
      have lm := lim_at (H := H8) (n := v) (Q := Q) (fun b H' s9 rb => k b H' (s8.trans s9) (by rw [hv]; exact rb))
      by_cases c : -TEN ≤ v ∧ v ≤ TEN
      · rw [if_pos (decide_eq_true c)] at lm
        rw [T1] at c
        rw [show decide ((if v < 0 then -v else v) ≤ 1000000000000000000000000000000) = true from decide_eq_true (by split <;> omega)]
        exact iteT ⟨_, rfl, lm⟩
      · rw [if_neg (by simpa using c)] at lm
        rw [T1] at c
        rw [show decide ((if v < 0 then -v else v) ≤ 1000000000000000000000000000000) = false from decide_eq_false (by split <;> omega)]
        exact iteF lm
end
end Toy
end

section
set_option Elab.async false
set_option linter.all false
set_option maxRecDepth 100000
namespace Toy
open PySem PySem.Spec PyProof.Rows L2 Gd Kt
/-! ### how a formula depends on a parameter -/
abbrev dF : Str := "free"
abbrev dL : Str := "linear"
abbrev dO : Str := "other"
abbrev sDep : Stmt := top 29
abbrev sDepB : Stmt := top 30
def depB (w l r : Str) : Str := if l = dF ∧ r = dF then dF else if l = dO ∨ r = dO then dO else if w = "+" ∨ w = "-" then dL else if w = "*" ∧ (l = dF ∨ r = dF) then dL else dO
def spDepB : Sp := fun vs H Q _ => ∃ w l r : Str, vs = [.str w, .str l, .str r] ∧ ∀ H', Same H H' → Q (.str (depB w l r)) H'
structure TxtS (K : PySem.W.Frag) (mg : Str → Option Value) : Prop where
  fr : ∃ t, mg "FREE" = some (.str dF t)
  ln : ∃ t, mg "LINEAR" = some (.str dL t)
  ot : ∃ t, mg "OTHER" = some (.str dO t)
def dexec (nm : Str) : List Ins → List Str → Option (List Str)
  | [], st => some st
  | .int _ :: cs, st => dexec nm cs (dF :: st)
  | .par y :: cs, st => dexec nm cs ((if y = nm then dL else dF) :: st)
  | .op w :: cs, st => if w = "minus" then dexec nm cs st else match st with
      | r :: l :: t => dexec nm cs (depB w l r :: t)
      | _ => none
theorem dexec_op (nm w : Str) (cs : List Ins) (st : List Str) : dexec nm (.op w :: cs) st = if w = "minus" then dexec nm cs st else match st with
      | r :: l :: t => dexec nm cs (depB w l r :: t)
      | _ => none := rfl
def depT (nm : Str) : Tr → Str
  | .num _ => dF
  | .nam y => if y = nm then dL else dF
  | .neg t => depT nm t
  | .bin s a b => depB s (depT nm a) (depT nm b)
theorem dexec_post (nm : Str) : ∀ (t : Tr) (cs : List Ins) (st : List Str), t.ok → dexec nm (post t ++ cs) st = dexec nm cs (depT nm t :: st)
  | .num n, cs, st, _ => rfl
  | .nam y, cs, st, _ => rfl
  | .neg t, cs, st, h => by
    show dexec nm ((post t ++ [.op "minus"]) ++ cs) st = _
    rw [List.append_assoc, dexec_post nm t _ _ h]
    show (if ("minus" : Str) = "minus" then _ else _) = _
    rw [if_pos rfl]
    rfl
  | .bin s a b, cs, st, h => by
    show dexec nm ((post a ++ post b ++ [.op s]) ++ cs) st = _
    rw [List.append_assoc, List.append_assoc, dexec_post nm a _ _ h.2.1, dexec_post nm b _ _ h.2.2]
    have n : ¬ s = "minus" := fun e => by
      have := sg_minus s h.1
      rw [e] at this
      exact absurd this (by decide +kernel)
    show (if s = "minus" then _ else _) = _
    rw [if_neg n]
    rfl
def strsV (st : List Str) : List V := st.reverse.map V.str
theorem strsV_cons (a : Str) (as : List Str) : strsV (a :: as) = strsV as ++ [V.str a] := by
  unfold strsV
  rw [List.reverse_cons, List.map_append]
  rfl
theorem strsV_len (as : List Str) : (strsV as).length = as.length := by simp [strsV]
theorem strsV_last (a : Str) (as : List Str) : (strsV (a :: as))[(strsV (a :: as)).length - 1]? = some (.str a) := by
  rw [strsV_cons, List.length_append, List.length_singleton, Nat.add_sub_cancel, List.getElem?_concat_length]
theorem strsV_drop (a : Str) (as : List Str) : (strsV (a :: as)).dropLast = strsV as := by
  rw [strsV_cons, List.dropLast_concat]
def spDep : Sp := fun vs H Q _ => ∃ (tc aK : Addr) (as : List Addr) (cs : List Ins) (kvs : List (Key × V)) (nm r : Str), vs = [.ref tc, .ref aK] ∧ H tc = some (.tup (as.map V.ref)) ∧ InsAll H as cs ∧ cs.length ≤ 1000 ∧
  H aK = some (.dK kvs) ∧ (∀ y : Str, valV kvs (Sum.inr y : Key) = if y = nm then some (.str dL) else none) ∧ dexec nm cs [] = some [r] ∧ ∀ H', Same H H' → Q (.str r) H'
theorem scDepB : FnScope ["sign", "left", "right"] ["sign", "left", "right"] (defScope sDepB) := ⟨rfl, rfl, rfl, by decide +kernel, rfl, by decide +kernel, by decide +kernel⟩
abbrev NDp : List Str := ["code", "known", "stack", "kind", "what", "right", "left"]
theorem scDep : FnScope NDp ["code", "known"] (defScope sDep) := ⟨rfl, rfl, rfl, by decide +kernel, rfl, by decide +kernel, by decide +kernel⟩
theorem in2 (x a b : Str) : inV (.str x) [.str a, .str b] = decide (x = a ∨ x = b) := by
  unfold inV
  simp only [List.any_cons, List.any_nil, Bool.or_false]
  show (decide (a = x) || decide (b = x)) = _
  by_cases c1 : x = a
  · simp [c1]
  · by_cases c2 : x = b
    · simp [c2]
    · have d1 : ¬ a = x := fun e => c1 e.symm
      have d2 : ¬ b = x := fun e => c2 e.symm
      simp [c1, c2, d1, d2]
section
variable {P : Program} {w : World} {K : PySem.W.Frag} {mg : Str → Option Value} {base : Heap} {f f1 : Addr} {fd fd1 : FuncData}
theorem ok_depB (F : Fun K "dependence_of_both" "dependence_of_both" sDepB f fd) (T : TxtS K mg) : FnOk P w K mg base CX0 1 f fd ["sign", "left", "right"] spDepB := by
  obtain ⟨tF, mF⟩ := T.fr
  obtain ⟨tL, mL⟩ := T.ln
  obtain ⟨tO, mO⟩ := T.ot
  refine F.ok scDepB (fun vs H Q E h => ?_) (fun cdv A outer s H vs Q E hr h => ?_)
  · obtain ⟨w, l, r, rfl, _⟩ := h
    rfl
  · obtain ⟨sg, l, r, rfl, k⟩ := h
    refine ⟨_, C8.pss_cut (ps_if (PW.pt (pw_and (pt_cmpR op_eq (pv 1) (pe_glob (v := .str dF) (by rfl) mF ⟨_, rfl⟩) (nomark _)) (pw_and1 (pt_cmpR op_eq (pv 2) (pe_glob (v := .str dF) (by rfl) mF ⟨_, rfl⟩) (nomark _))))) (pss_one (ps_ret (pe_glob (v := .str dF) (by rfl) mF ⟨_, rfl⟩))) pss_nil)
      (C8.pss_cut (ps_if (pt_cmpR op_in_seq (pe_glob (v := .str dO) (by rfl) mO ⟨_, rfl⟩) (pe_tup (pa_cons (pv 1) (pa_cons (pv 2) pa_nil))) (by rfl)) (pss_one (ps_ret (pe_glob (v := .str dO) (by rfl) mO ⟨_, rfl⟩))) pss_nil)
      (C8.pss_cut (ps_if (pt_cmpR op_in_seq (pv 0) (pe_tup (pa_cons pe_str (pa_cons pe_str pa_nil))) (by rfl)) (pss_one (ps_ret (pe_glob (v := .str dL) (by rfl) mL ⟨_, rfl⟩))) pss_nil)
      (pss_one (ps_ret (pe_ifExp (PW.pt (pw_and (pt_cmpR op_eq (pv 0) pe_str (nomark _)) (pw_and1 (pt_cmpR op_in_seq (pe_glob (v := .str dF) (by rfl) mF ⟨_, rfl⟩) (pe_tup (pa_cons (pv 1) (pa_cons (pv 2) pa_nil))) (by rfl))))) (pe_glob (v := .str dL) (by rfl) mL ⟨_, rfl⟩) (pe_glob (v := .str dO) (by rfl) mO ⟨_, rfl⟩)))))), ?_⟩
    refine ⟨fun σ' H' => σ' = [some (.str sg), some (.str l), some (.str r)] ∧ H' = H ∧ ¬ (l = dF ∧ r = dF), ?_, ?_⟩
    · refine ⟨_, rfl, rfl, _, rfl, ?_⟩
      rw [str_dec2]
      by_cases c1 : l = dF
      · rw [decide_eq_true c1]
        refine iteT ⟨_, rfl, rfl, _, rfl, ?_⟩
        rw [str_dec2]
        by_cases c2 : r = dF
        · rw [decide_eq_true c2]
          refine iteT ?_
          have := k H (Same.refl _)
          unfold depB at this
          rw [if_pos ⟨c1, c2⟩] at this
          exact this
        · rw [decide_eq_false c2]
          exact iteF ⟨rfl, rfl, fun h => c2 h.2⟩
      · rw [decide_eq_false c1]
        exact iteF (iteF ⟨rfl, rfl, fun h => c1 h.1⟩)
    intro σ1 H1 hm1
    obtain ⟨rfl, rfl, n1⟩ := hm1
    refine ⟨fun σ' H' => σ' = [some (.str sg), some (.str l), some (.str r)] ∧ Same H1 H' ∧ ¬ (l = dO ∨ r = dO), ?_, ?_⟩
    · refine ⟨_, rfl, _, rfl, by show 2 ≤ sizeLine; decide, fun p hp => ⟨p, _, rfl, .inr (SqT.of upd_same), rfl, rfl, _, rfl, ?_⟩⟩
      show (if inV (V.str dO) [V.str l, V.str r] = true then _ else _)
      rw [in2]
      by_cases c : l = dO ∨ r = dO
      · have c' : dO = l ∨ dO = r := c.imp Eq.symm Eq.symm
        rw [decide_eq_true c']
        refine iteT ?_
        have := k _ (same_new (o := .tup [.str l, .str r]) hp)
        unfold depB at this
        rw [if_neg n1, if_pos c] at this
        exact this
      · have c' : ¬ (dO = l ∨ dO = r) := fun h => c (h.imp Eq.symm Eq.symm)
        rw [decide_eq_false c']
        exact iteF ⟨rfl, same_new hp, c⟩
    intro σ2 H2 hm2
    obtain ⟨rfl, s2, n2⟩ := hm2
    refine ⟨fun σ' H' => σ' = [some (.str sg), some (.str l), some (.str r)] ∧ Same H1 H' ∧ ¬ (sg = "+" ∨ sg = "-"), ?_, ?_⟩
    · refine ⟨_, rfl, by show 2 ≤ sizeLine; decide, fun p hp => ⟨p, _, rfl, .inr (SqT.of upd_same), rfl, rfl, _, rfl, ?_⟩⟩
      show (if inV (V.str sg) [V.str "+", V.str "-"] = true then _ else _)
      rw [in2]
      by_cases c : sg = "+" ∨ sg = "-"
      · rw [decide_eq_true c]
        refine iteT ?_
        have := k _ (s2.trans (same_new (o := .tup [.str "+", .str "-"]) hp))
        unfold depB at this
        rw [if_neg n1, if_neg n2, if_pos c] at this
        exact this
      · rw [decide_eq_false c]
        exact iteF ⟨rfl, s2.trans (same_new hp), c⟩
    intro σ3 H3 hm3
    obtain ⟨rfl, s3, n3⟩ := hm3
    refine ⟨_, rfl, rfl, _, rfl, ?_⟩
    rw [str_dec2]
    by_cases c1 : sg = "*"
    · rw [decide_eq_true c1]
      refine iteT ⟨_, rfl, _, rfl, by show 2 ≤ sizeLine; decide, fun p hp => ⟨p, _, rfl, .inr (SqT.of upd_same), rfl, rfl, _, rfl, ?_⟩⟩
      show (if inV (V.str dF) [V.str l, V.str r] = true then _ else _)
      rw [in2]
      have := k _ (s3.trans (same_new (o := .tup [.str l, .str r]) hp))
      unfold depB at this
      rw [if_neg n1, if_neg n2, if_neg n3] at this
      by_cases c : l = dF ∨ r = dF
      · have c' : dF = l ∨ dF = r := c.imp Eq.symm Eq.symm
        rw [decide_eq_true c']
        rw [if_pos ⟨c1, c⟩] at this
        exact iteT this
      · have c' : ¬ (dF = l ∨ dF = r) := fun h => c (h.imp Eq.symm Eq.symm)
        rw [decide_eq_false c']
        rw [if_neg (fun h => c h.2)] at this
        exact iteF this
    · rw [decide_eq_false c1]
      have := k _ s3
      unfold depB at this
      rw [if_neg n1, if_neg n2, if_neg n3, if_neg (fun h => c1 h.1)] at this
      exact iteF (iteF this)
theorem ok_dep (F : Fun K "dependence_of" "dependence_of" sDep f fd) (T : TxtS K mg) (D1 : Dn K mg "dependence_of_both" f1 fd1 ["sign", "left", "right"]) (G1 : FnOk P w K mg base CX0 1 f1 fd1 ["sign", "left", "right"] spDepB) : FnOk P w K mg base CX0 2 f fd ["code", "known"] spDep := by
  obtain ⟨tF, mF⟩ := T.fr
  refine F.ok scDep (fun vs H Q E h => ?_) (fun cdv A outer s H vs Q E hr h => ?_)
  · obtain ⟨tc, aK, as, cs, kvs, nm, r, rfl, _⟩ := h
    rfl
  · obtain ⟨tc, aK, as0, cs, kvs, nm, r, rfl, htc, hins, hcl, haK, hkn, hex, k⟩ := h
    have hu := hu_of hr
    have sz : sizeLine = 16777216 := by decide
    refine ⟨_, pss_cons (ps_set (i := 2) scDep.nd rfl (Or.inl rfl) (pe_lst pa_nil))
      (C8.pss_cut (ps_for PassesOwn.never rfl (pi_tup (pv 0)) (pg_tup (by rfl) (pgs_cons (pg_name (i := 3) scDep.nd rfl (Or.inl rfl)) (pgs_cons (pg_name (i := 4) scDep.nd rfl (Or.inl rfl)) pgs_nil)))
        (pss_one (ps_if (pt_cmpR op_ne (pv 3) pe_str (nomark _))
          (pss_one (ps_expr (pe_bm PySem.F.plainAttrs_list PySem.F.slot_list_append PySem.F.type_list_append mt_append (pv 2) (pa_cons (pe_ifExp (pt_cmpR op_eq (pv 3) pe_str (nomark _)) (pe_dget2 hu (pv 1) (pv 4) (pe_glob (v := .str dF) (by rfl) mF ⟨_, rfl⟩) ⟨by rfl, by rfl, by rfl, by rfl⟩) (pe_glob (v := .str dF) (by rfl) mF ⟨_, rfl⟩)) pa_nil))))
          (pss_one (ps_if (pt_cmpR op_ne (pv 4) pe_str (nomark _))
            (pss_cons (ps_set (i := 5) scDep.nd rfl (Or.inl rfl) (pe_bm0 PySem.F.plainAttrs_list PySem.F.slot_list_pop PySem.F.type_list_pop mt_pop (pv 2)))
            (pss_cons (ps_set (i := 6) scDep.nd rfl (Or.inl rfl) (pe_bm0 PySem.F.plainAttrs_list PySem.F.slot_list_pop PySem.F.type_list_pop mt_pop (pv 2)))
            (pss_one (ps_expr (pe_bm PySem.F.plainAttrs_list PySem.F.slot_list_append PySem.F.type_list_append mt_append (pv 2) (pa_cons (pe_call G1 hr rfl D1.m D1.k D1.b .nil pass0 (pa_cons (pv 4) (pa_cons (pv 6) (pa_cons (pv 5) pa_nil)))) pa_nil)))))) pss_nil)))))
      (pss_one (ps_ret (pe_ix ix_list (pv 2) pe_int (fun _ _ => rfl))))), ?_⟩
    refine ⟨by show 0 ≤ sizeLine; decide, fun D hD => ?_⟩
    have s0 : Same H (upd H D (.lst [])) := same_new hD
    have hD0 : upd H D (.lst []) D = some (.lst []) := upd_same
    generalize upd H D (.lst []) = H0 at s0 hD0 ⊢
    have keepH : ∀ {H' : Hp}, (∀ b o, b ≠ D → H0 b = some o → H' b = some o) → Same H H' := fun kp b o e => kp b o (ne_of_none e hD) (s0 b o e)
    have htc0 := s0 _ _ htc
    refine ⟨fun σ' H' => ∃ (o3 o4 o5 o6 : Option V), σ' = [some (.ref tc), some (.ref aK), some (.ref D), o3, o4, o5, o6] ∧ H' D = some (.lst [.str r]) ∧ Same H H', ?_, ?_⟩
    · refine ⟨_, rfl, tc, rfl, ⟨_, .inl (.inl htc0)⟩, for_tup (xs := as0.map V.ref) (fun i σ' H' => ∃ (st : List Str) (o3 o4 o5 o6 : Option V), σ' = [some (.ref tc), some (.ref aK), some (.ref D), o3, o4, o5, o6] ∧ H' D = some (.lst (strsV st)) ∧ st.length ≤ i ∧
          dexec nm (cs.drop i) st = some [r] ∧ ∀ b o, b ≠ D → H0 b = some o → H' b = some o) ⟨[], none, none, none, none, rfl, hD0, Nat.le_refl _, hex, fun b o _ e => e⟩ (fun i σ' H' _ hh => ?_) (fun i u σ' H' hu2 hh => ?_) (fun σ' H' hh => ?_)⟩
      · obtain ⟨st, o3, o4, o5, o6, rfl, hD', hlen, hx, kp⟩ := hh
        exact .inl (.inl (keepH kp _ _ htc))
      · obtain ⟨st, o3, o4, o5, o6, rfl, hD', hlen, hx, kp⟩ := hh
        have sm := keepH kp
        have hi : i < as0.length := by
          have := (List.getElem?_eq_some_iff.mp hu2).1
          rwa [List.length_map] at this
        have il := hins.len
        obtain ⟨c, hc, ha⟩ := ins_get hins (List.getElem?_eq_getElem hi)
        have hu3 : u = .ref as0[i] := by
          rw [List.getElem?_map, List.getElem?_eq_getElem hi] at hu2
          exact (Option.some.inj hu2).symm
        subst hu3
        have hcd : cs.drop i = c :: cs.drop (i + 1) := by
          obtain ⟨hl, e⟩ := List.getElem?_eq_some_iff.mp hc
          rw [List.drop_eq_getElem_cons hl, e]
        rw [hcd] at hx
        have alen : st.length < sizeLine := by omega
        have push : ∀ {a : Str} {H2 : Hp} {st' : List Str} {o3 o4 o5 o6 : Option V}, st'.length ≤ i → (∀ b o, b ≠ D → H0 b = some o → H2 b = some o) → dexec nm (cs.drop (i + 1)) (a :: st') = some [r] →
            ∃ (st : List Str) (p3 p4 p5 p6 : Option V), ([some (.ref tc), some (.ref aK), some (.ref D), o3, o4, o5, o6] : L2.St) = [some (.ref tc), some (.ref aK), some (.ref D), p3, p4, p5, p6] ∧ (upd H2 D (.lst (strsV st' ++ [V.str a]))) D = some (.lst (strsV st)) ∧ st.length ≤ i + 1 ∧
            dexec nm (cs.drop (i + 1)) st = some [r] ∧ ∀ b o, b ≠ D → H0 b = some o → (upd H2 D (.lst (strsV st' ++ [V.str a]))) b = some o := fun {a H2 st' _ _ _ _} h2 h5 h6 =>
          ⟨a :: st', _, _, _, _, rfl, by rw [upd_same, strsV_cons], by simp; omega, h6, fun b o nb e => by rw [upd_ne nb]; exact h5 b o nb e⟩
        cases c with
        | int n =>
          refine ⟨as0[i], _, rfl, .inl (.inl (sm _ _ ha)), rfl, _, _, rfl, _, _, rfl, rfl, ?_⟩
          refine ⟨_, rfl, rfl, _, rfl, ?_⟩
          rw [show (!decide (V.str "integer" = V.str "operation")) = true by decide +kernel]
          refine iteT ⟨_, rfl, .inl ⟨rfl, _, SqL.of hD'⟩, _, rfl, rfl, _, rfl, ?_⟩
          rw [show decide (V.str "integer" = V.str "parameter") = false by decide +kernel]
          exact iteF ⟨D, _, _, rfl, rfl, hD', by rw [strsV_len]; exact alen, push hlen kp hx⟩
        | par y =>
          refine ⟨as0[i], _, rfl, .inl (.inl (sm _ _ ha)), rfl, _, _, rfl, _, _, rfl, rfl, ?_⟩
          refine ⟨_, rfl, rfl, _, rfl, ?_⟩
          rw [show (!decide (V.str "parameter" = V.str "operation")) = true by decide +kernel]
          refine iteT ⟨_, rfl, .inl ⟨rfl, _, SqL.of hD'⟩, _, rfl, rfl, _, rfl, ?_⟩
          rw [show decide (V.str "parameter" = V.str "parameter") = true from decide_eq_true rfl]
          have dg : DGet H' aK (.str y) (if y = nm then some (.str dL) else none) := by
            have := DGet.k (k := (Sum.inr y : Key)) (sm _ _ haK)
            rwa [hkn y] at this
          refine iteT ⟨_, rfl, aK, rfl, .inl ⟨_, .inl (sm _ _ haK)⟩, _, rfl, _, dg, ?_⟩
          have hx : dexec nm (cs.drop (i + 1)) ((if y = nm then dL else dF) :: st) = some [r] := hx
          by_cases c : y = nm
          · rw [if_pos c] at hx ⊢
            exact ⟨D, _, _, rfl, rfl, hD', by rw [strsV_len]; exact alen, push hlen kp hx⟩
          · rw [if_neg c] at hx ⊢
            exact ⟨D, _, _, rfl, rfl, hD', by rw [strsV_len]; exact alen, push hlen kp hx⟩
        | op w =>
          refine ⟨as0[i], _, rfl, .inl (.inl (sm _ _ ha)), rfl, _, _, rfl, _, _, rfl, rfl, ?_⟩
          refine ⟨_, rfl, rfl, _, rfl, ?_⟩
          rw [show (!decide (V.str "operation" = V.str "operation")) = false by decide +kernel]
          refine iteF ⟨_, rfl, rfl, _, rfl, ?_⟩
          rw [str_dec2]
          rw [dexec_op] at hx
          by_cases c1 : w = "minus"
          · rw [if_pos c1] at hx
            rw [decide_eq_true c1]
            exact iteF ⟨st, _, _, _, _, rfl, hD', by omega, hx, kp⟩
          · rw [if_neg c1] at hx
            rw [decide_eq_false c1]
            cases st with
            | nil => cases hx
            | cons a st =>
              cases st with
              | nil => cases hx
              | cons a2 st =>
                have hlen' : st.length ≤ i := by simp at hlen; omega
                refine iteT ⟨_, rfl, .inl ⟨rfl, _, SqL.of hD'⟩, D, _, _, rfl, rfl, hD', strsV_last a (a2 :: st), ?_⟩
                rw [strsV_drop]
                have hD1 : upd H' D (.lst (strsV (a2 :: st))) D = some (.lst (strsV (a2 :: st))) := upd_same
                refine ⟨_, rfl, .inl ⟨rfl, _, SqL.of hD1⟩, D, _, _, rfl, rfl, hD1, strsV_last a2 st, ?_⟩
                rw [strsV_drop, upd_upd]
                have hD2 : upd H' D (.lst (strsV st)) D = some (.lst (strsV st)) := upd_same
                have kp1 : ∀ b o, b ≠ D → H0 b = some o → upd H' D (.lst (strsV st)) b = some o := fun b o nb e => by
                  rw [upd_ne nb]
                  exact kp b o nb e
                refine ⟨_, rfl, .inl ⟨rfl, _, SqL.of hD2⟩, _, rfl, _, rfl, _, rfl, w, a2, a, rfl, fun H2 s2 => ⟨D, _, _, rfl, rfl, s2 _ _ hD2, by rw [strsV_len]; omega, ?_⟩⟩
                exact push hlen' (fun b o nb e => s2 _ _ (kp1 b o nb e)) hx
      · obtain ⟨st, o3, o4, o5, o6, rfl, hD', hlen, hx, kp⟩ := hh
        rw [List.length_map, hins.len, List.drop_length] at hx
        have hx : some st = some [r] := hx
        injection hx with hx
        subst hx
        exact ⟨o3, o4, o5, o6, rfl, hD', keepH kp⟩
    intro σ1 H1 hm
    obtain ⟨o3, o4, o5, o6, rfl, hD1, s1⟩ := hm
    exact ⟨_, rfl, D, _, _, _, rfl, rfl, SqL.of hD1, rfl, k H1 s1⟩
end
end Toy
end

section
set_option Elab.async false
set_option linter.all false
set_option maxRecDepth 100000
namespace Toy
open PySem PySem.Spec PyProof.Rows L2 Gd Kt
/-! ### the errors: NotLinear, Failed, UnknownName -/
abbrev kn : Str := "name"
abbrev kw : Str := "word"
abbrev sInitNot : Stmt := inClass (top 3) 0
abbrev sInitFail : Stmt := inClass (top 4) 0
abbrev sInitUnk : Stmt := inClass (top 5) 0
structure TxtK (K : PySem.W.Frag) (mg : Str → Option Value) : Prop where
  ke : mg "KeyError" = none
  vV : PySem.W.findCls K (.type "KeyError") (.type "type") "__init__" = some (.val (.builtin "KeyError.__init__"))
structure TxtA (K : PySem.W.Frag) (mg : Str → Option Value) : Prop where
  ae : mg "ArithmeticError" = none
  vV : PySem.W.findCls K (.type "ArithmeticError") (.type "type") "__init__" = some (.val (.builtin "ArithmeticError.__init__"))
def spErr (g : Str) (C : Addr) : Sp := fun vs H Q _ => ∃ a v, vs = [.ref a, v] ∧ H a = some (exo a C none) ∧ ∀ dx, H dx = none → dx ≠ a → Q .non (upd (upd H dx (exd dx [(g, v)])) a (exo a C (some dx)))
/-- an error of the class at C leaves, its field g is v; all that was tracked stands -/
def RzE (g : Str) (H : Hp) (E : XK) (C : Addr) (v : V) : Prop := ∀ d H', H d = none → Same H H' → H' d = some (.xd [(g, v)]) → E (.ref C) (some d) H'
theorem RzE.grow {g : Str} {H H1 : Hp} {E : XK} {C : Addr} {v : V} (e : Same H H1) (h : RzE g H E C v) : RzE g H1 E C v := fun d H' n s => h d H' (e.free n) (e.trans s)
theorem rzE_made {g : Str} {H : Hp} {E : XK} {C : Addr} {v : V} (h : RzE g H E C v) : ∀ a, H a = none → spErr g C (.ref a :: ([v] ++ [])) (upd H a (exo a C none))
    (fun u H2 => u = .non ∧ ∃ (d : Addr) (fs : List (Str × V)), H2 a = some (exo a C (some d)) ∧ H2 d = some (exd d fs) ∧ H d = none ∧ E (.ref C) (some d) (upd (del H2 a) d (.xd fs))) (fun _ _ _ => False) := by
  intro a na
  refine ⟨a, v, rfl, upd_same, fun dx hd ne => ⟨rfl, dx, [(g, v)], upd_same, by rw [upd_ne ne, upd_same], ?_, ?_⟩⟩
  · rw [upd_ne ne] at hd
    exact hd
  · rw [upd_ne ne] at hd
    refine h dx _ hd (fun b o e => ?_) upd_same
    have ba := ne_of_none e na
    have bd := ne_of_none e hd
    rw [upd_ne bd, del_ne ba, upd_ne ba, upd_ne bd, upd_ne ba]
    exact e
section
variable {P : Program} {w : World} {K : PySem.W.Frag} {mg : Str → Option Value} {base : Heap} {C f : Addr} {fd : FuncData}
theorem scIN : FnScope ["self", "name"] ["self", "name"] (defScope sInitNot) := ⟨rfl, rfl, rfl, by decide +kernel, rfl, by decide +kernel, by decide +kernel⟩
theorem scIA : FnScope ["self", "word"] ["self", "word"] (defScope sInitFail) := ⟨rfl, rfl, rfl, by decide +kernel, rfl, by decide +kernel, by decide +kernel⟩
theorem scIU : FnScope ["self", "name"] ["self", "name"] (defScope sInitUnk) := ⟨rfl, rfl, rfl, by decide +kernel, rfl, by decide +kernel, by decide +kernel⟩
theorem ok_initN (F : Fun K "__init__" "NotLinear.__init__" sInitNot f fd) (T : TxtV K mg) (O : OexC K C) (nv : PySem.W.findIn K (.ref C) kn = some none) : FnOk P w K mg base CX0 1 f fd ["self", "name"] (spErr kn C) := by
  refine F.ok scIN (fun vs H Q E h => ?_) (fun cdv A outer s H vs Q E hr h => ?_)
  · obtain ⟨a, v, rfl, _⟩ := h
    rfl
  · obtain ⟨a, v, rfl, ha, k⟩ := h
    refine ⟨_, pss_cons (ps_expr (pe_veinit (by rfl) T.ve T.vV (pa_cons (pv 0) (pa_cons pe_str pa_nil)))) (pss_one (ps_ost (pv 0) (pv 1))), ?_⟩
    exact ⟨_, rfl, a, C, _, rfl, (by decide), O, ha, _, rfl, _, rfl, a, C, rfl, O, nv, .inl ⟨ha, k⟩⟩
theorem ok_initA (F : Fun K "__init__" "Failed.__init__" sInitFail f fd) (T : TxtA K mg) (O : OexA K C) (nv : PySem.W.findIn K (.ref C) kw = some none) : FnOk P w K mg base CX0 1 f fd ["self", "word"] (spErr kw C) := by
  refine F.ok scIA (fun vs H Q E h => ?_) (fun cdv A outer s H vs Q E hr h => ?_)
  · obtain ⟨a, v, rfl, _⟩ := h
    rfl
  · obtain ⟨a, v, rfl, ha, k⟩ := h
    refine ⟨_, pss_cons (ps_expr (pe_aeinit (by rfl) T.ae T.vV (pa_cons (pv 0) (pa_cons pe_str pa_nil)))) (pss_one (ps_osa (pv 0) (pv 1))), ?_⟩
    exact ⟨_, rfl, a, C, _, rfl, (by decide), O, ha, _, rfl, _, rfl, a, C, rfl, O, nv, ha, k⟩
theorem ok_initU (F : Fun K "__init__" "UnknownName.__init__" sInitUnk f fd) (T : TxtK K mg) (O : OexK K C) (nv : PySem.W.findIn K (.ref C) kn = some none) : FnOk P w K mg base CX0 1 f fd ["self", "name"] (spErr kn C) := by
  refine F.ok scIU (fun vs H Q E h => ?_) (fun cdv A outer s H vs Q E hr h => ?_)
  · obtain ⟨a, v, rfl, _⟩ := h
    rfl
  · obtain ⟨a, v, rfl, ha, k⟩ := h
    refine ⟨_, pss_cons (ps_expr (pe_keinit (by rfl) T.ke T.vV (pa_cons (pv 0) (pa_cons pe_str pa_nil)))) (pss_one (ps_osk (pv 0) (pv 1))), ?_⟩
    exact ⟨_, rfl, a, C, _, rfl, (by decide), O, ha, _, rfl, _, rfl, a, C, rfl, O, nv, ha, k⟩
/-- what raising one asks -/
structure NotT (P : Program) (w : World) (K : PySem.W.Frag) (mg : Str → Option Value) (base : Heap) (C : Addr) : Prop where
  ex : ∃ fI fd, OexC K C ∧ mg "NotLinear" = some (.ref C) ∧ PySem.W.findIn K (.ref C) "__init__" = some (some (.ref fI)) ∧ PySem.W.typeIn K (.ref fI) = some (.type "function") ∧ Binds K fd ["self", "name"] [] ∧ FnOk P w K mg base CX0 1 fI fd ["self", "name"] (spErr kn C)
structure FailT (P : Program) (w : World) (K : PySem.W.Frag) (mg : Str → Option Value) (base : Heap) (C : Addr) : Prop where
  ex : ∃ fI fd, OexA K C ∧ mg "Failed" = some (.ref C) ∧ PySem.W.findIn K (.ref C) "__init__" = some (some (.ref fI)) ∧ PySem.W.typeIn K (.ref fI) = some (.type "function") ∧ Binds K fd ["self", "word"] [] ∧ FnOk P w K mg base CX0 1 fI fd ["self", "word"] (spErr kw C)
structure UnkT (P : Program) (w : World) (K : PySem.W.Frag) (mg : Str → Option Value) (base : Heap) (C : Addr) : Prop where
  ex : ∃ fI fd, OexK K C ∧ mg "UnknownName" = some (.ref C) ∧ PySem.W.findIn K (.ref C) "__init__" = some (some (.ref fI)) ∧ PySem.W.typeIn K (.ref fI) = some (.type "function") ∧ Binds K fd ["self", "name"] [] ∧ FnOk P w K mg base CX0 1 fI fd ["self", "name"] (spErr kn C)
end
/-! ### parts of a line -/
structure Sl where
  d : Bool
  s : Int
  r : Int
def SlAt (H : Hp) (a : Addr) (p : Sl) : Prop := H a = some (.tup [.bl p.d, .int p.s, .int p.r])
inductive SlR where
  | bad (w : Str)
  | ok (p : Sl)
def freeR : Rs → SlR
  | .val n => .ok ⟨false, 0, n⟩
  | .bad w => .bad w
def cbP (w : Str) (l r : Sl) : Option SlR := if l.d = false ∧ r.d = false then some (freeR (comb w (.val l.r) (.val r.r))) else if w = "*" then (if l.d = true ∧ r.d = true then none else some (.ok ⟨true, l.s * r.r + r.s * l.r, l.r * r.r⟩)) else
  if w = "+" ∨ w = "-" then some (.ok ⟨true, tot w l.s r.s, tot w l.r r.r⟩) else none
structure SlOk (k : Nat) (p : Sl) : Prop where
  fr : p.d = false → p.s = 0 ∧ -TEN ≤ p.r ∧ p.r ≤ TEN
  ln : p.s.natAbs < 2 ^ k ∧ p.r.natAbs < 2 ^ k
abbrev sFree : Stmt := top 32
abbrev sCbP : Stmt := top 33
/-- a result: a part at an address, or Failed leaves with the word -/
def SlDone (CA : Addr) (H : Hp) (Q : VK) (E : XK) : SlR → Prop
  | .ok p => ∀ b H', Same H H' → SlAt H' b p → Q (.ref b) H'
  | .bad v => RzE kw H E CA (.str v)
theorem SlDone.grow {CA : Addr} {H H1 : Hp} {Q : VK} {E : XK} {r : SlR} (s : Same H H1) (h : SlDone CA H Q E r) : SlDone CA H1 Q E r := by
  cases r with
  | ok p => exact fun b H' s2 hb => h b H' (s.trans s2) hb
  | bad v => exact RzE.grow s h
def spFree (CA : Addr) : Sp := fun vs H Q E => ∃ (a : Addr) (r : Rs), vs = [.ref a] ∧ RsAt H a r ∧ SlDone CA H Q E (freeR r)
def spTotB : Sp := fun vs H Q _ => ∃ (sg : Str) (x y : Int), vs = [.str sg, .int x, .int y] ∧ (sg = "+" ∨ sg = "-") ∧ Q (.int (tot sg x y)) H
def spCbP (CA : Addr) : Sp := fun vs H Q E => ∃ (sg : Str) (a b : Addr) (l r : Sl) (k : Nat) (o : SlR), vs = [.str sg, .ref a, .ref b] ∧ SlAt H a l ∧ SlAt H b r ∧ SlOk k l ∧ SlOk k r ∧ 100 ≤ k ∧ k ≤ 400000 ∧ cbP sg l r = some o ∧ SlDone CA H Q E o
theorem scFree : FnScope ["result", "word", "number"] ["result"] (defScope sFree) := ⟨rfl, rfl, rfl, by decide +kernel, rfl, by decide +kernel, by decide +kernel⟩
abbrev NCb : List Str := ["sign", "left", "right", "left_depends", "left_slope", "left_rest", "right_depends", "right_slope", "right_rest"]
theorem scCbP : FnScope NCb ["sign", "left", "right"] (defScope sCbP) := ⟨rfl, rfl, rfl, by decide +kernel, rfl, by decide +kernel, by decide +kernel⟩
section
variable {P : Program} {w : World} {K : PySem.W.Frag} {mg : Str → Option Value} {base : Heap} {CA f f1 f2 f3 : Addr} {fd fd1 fd2 fd3 : FuncData}
theorem ok_totB (F : Fun K "total_of" "total_of" sTot f fd) (T : TxtB K mg) : FnOk P w K mg base CX0 1 f fd ["sign", "one", "other"] spTotB := by
  refine F.ok scTot (fun vs H Q E h => ?_) (fun cdv A outer s H vs Q E hr h => ?_)
  · obtain ⟨sg, x, y, rfl, _⟩ := h
    rfl
  · obtain ⟨sg, x, y, rfl, hs, k⟩ := h
    refine ⟨_, pss_cons (ps_if (pt_cmpR op_eq (pv 0) pe_str (nomark _)) (pss_one (ps_ret (pe_op op_add (pv 1) (pv 2)))) pss_nil)
      (pss_cons (ps_if (pt_cmpR op_eq (pv 0) pe_str (nomark _)) (pss_one (ps_ret (pe_op op_sub (pv 1) (pv 2)))) pss_nil)
      (pss_cons (ps_if (pt_cmpR op_eq (pv 0) pe_str (nomark _)) (pss_one (ps_ret (pe_op op_mulW (pv 1) (pv 2)))) pss_nil)
      (pss_one (ps_ret (pe_ifExp (pt_cmpR op_eq (pv 0) pe_str (nomark _)) (pe_callB (call_min2 (by rfl)) (by rfl) T.min (by decide +kernel) (pa_cons (pv 1) (pa_cons (pv 2) pa_nil))) (pe_callB (call_max2 (by rfl)) (by rfl) T.max (by decide +kernel) (pa_cons (pv 1) (pa_cons (pv 2) pa_nil)))))))), ?_⟩
    rcases hs with rfl | rfl
    · refine ⟨_, rfl, rfl, _, rfl, ?_⟩
      rw [show decide (V.str "+" = V.str "+") = true from decide_eq_true rfl]
      exact iteT ⟨_, rfl, _, rfl, _, _, rfl, rfl, k⟩
    · refine ⟨_, rfl, rfl, _, rfl, ?_⟩
      rw [show decide (V.str "-" = V.str "+") = false by decide +kernel]
      refine iteF ⟨_, rfl, rfl, _, rfl, ?_⟩
      rw [show decide (V.str "-" = V.str "-") = true from decide_eq_true rfl]
      exact iteT ⟨_, rfl, _, rfl, _, _, rfl, rfl, k⟩
theorem ok_free (F : Fun K "free_part" "free_part" sFree f fd) (U : FailT P w K mg base CA) : FnOk P w K mg base (L2.CX P w) 3 f fd ["result"] (spFree CA) := by
  obtain ⟨fI, fdI, O, mU, iC, tI, bI, GI⟩ := U.ex
  refine F.okX scFree (fun vs H Q E h => ?_) (fun cdv A outer s H vs Q E hr h => ?_)
  · obtain ⟨a, r, rfl, _⟩ := h
    rfl
  · obtain ⟨a, r, rfl, ha, k⟩ := h
    have hr2 : Room (1 + 1) _ := hr.mono (by decide)
    refine ⟨_, pss_cons (ps_asg (pv 0) (pg_tup (by rfl) (pgs_cons (pg_name (i := 1) scFree.nd rfl (Or.inl rfl)) (pgs_cons (pg_name (i := 2) scFree.nd rfl (Or.inl rfl)) pgs_nil))))
      (pss_cons (ps_if (pt_cmpR op_eq (pv 1) pe_str (nomark _)) (pss_one (ps_raise rfl (takes_of rfl rfl rfl rfl) (pmk_oea O iC tI GI hr2 bI .nil pass0 (by rfl) mU (pa_cons (pv 2) pa_nil)))) pss_nil)
      (pss_one (ps_ret (pe_tup (pa_cons pe_bl (pa_cons pe_int (pa_cons (pv 2) pa_nil))))))), ?_⟩
    cases r with
    | val n =>
      refine ⟨_, rfl, a, _, rfl, .inl (.inl ha.1), rfl, _, _, rfl, _, _, rfl, rfl, _, rfl, rfl, _, rfl, ?_⟩
      rw [show decide (V.str "value" = V.str "failed") = false by decide +kernel]
      exact iteF ⟨_, rfl, by show 3 ≤ sizeLine; decide, fun p hp => k p _ (same_new hp) upd_same⟩
    | bad w =>
      refine ⟨_, rfl, a, _, rfl, .inl (.inl ha.1), rfl, _, _, rfl, _, _, rfl, rfl, _, rfl, rfl, _, rfl, ?_⟩
      rw [show decide (V.str "failed" = V.str "failed") = true from decide_eq_true rfl]
      exact iteT ⟨_, rfl, (by show 1 ≤ 1000; decide), rzE_made k⟩
theorem mul_bits {x y : Int} {k : Nat} (hx : x.natAbs < 2 ^ k) (hy : y.natAbs < 2 ^ k) (h1 : 100 ≤ k) (h2 : k ≤ 400000) : CMulW x y := wide_mul hx hy (by omega) (by omega) (by omega)
theorem ok_cbP (F : Fun K "combined_parts" "combined_parts" sCbP f fd) (D1 : Dn K mg "free_part" f1 fd1 ["result"]) (G1 : FnOk P w K mg base (L2.CX P w) 3 f1 fd1 ["result"] (spFree CA))
    (D2 : Dn K mg "combined" f2 fd2 ["sign", "left", "right"]) (G2 : FnOk P w K mg base CX0 3 f2 fd2 ["sign", "left", "right"] spComb)
    (D3 : Dn K mg "total_of" f3 fd3 ["sign", "one", "other"]) (G3 : FnOk P w K mg base CX0 1 f3 fd3 ["sign", "one", "other"] spTotB) : FnOk P w K mg base (L2.CX P w) 4 f fd ["sign", "left", "right"] (spCbP CA) := by
  refine F.okX scCbP (fun vs H Q E h => ?_) (fun cdv A outer s H vs Q E hr h => ?_)
  · obtain ⟨sg, a, b, l, r, k, o, rfl, _⟩ := h
    rfl
  · obtain ⟨sg, a, b, l, r, kk, o, rfl, ha, hb, okl, okr, k1, k2, ho, k⟩ := h
    have hr1 : Room 1 _ := hr.mono (by decide)
    refine ⟨_, pss_cons (ps_asg (pv 1) (pg_tup (by rfl) (pgs_cons (pg_name (i := 3) scCbP.nd rfl (Or.inl rfl)) (pgs_cons (pg_name (i := 4) scCbP.nd rfl (Or.inl rfl)) (pgs_cons (pg_name (i := 5) scCbP.nd rfl (Or.inl rfl)) pgs_nil)))))
      (pss_cons (ps_asg (pv 2) (pg_tup (by rfl) (pgs_cons (pg_name (i := 6) scCbP.nd rfl (Or.inl rfl)) (pgs_cons (pg_name (i := 7) scCbP.nd rfl (Or.inl rfl)) (pgs_cons (pg_name (i := 8) scCbP.nd rfl (Or.inl rfl)) pgs_nil)))))
      (C8.pss_cut (ps_if (PW.pt (pw_and (pt_not (pt_val (pv 3))) (pw_and1 (pt_not (pt_val (pv 6))))))
          (pss_one (ps_ret (pe_call G1 hr rfl D1.m D1.k D1.b .nil (passes_call (E := E) (W := fun cls d _ H => E cls d H) (takes_of rfl rfl rfl rfl) (fun _ _ _ _ h => h)) (pa_cons (pe_call G2 hr rfl D2.m D2.k D2.b .nil pass0 (pa_cons (pv 0) (pa_cons (pe_tup (pa_cons pe_str (pa_cons (pv 5) pa_nil))) (pa_cons (pe_tup (pa_cons pe_str (pa_cons (pv 8) pa_nil))) pa_nil)))) pa_nil)))) pss_nil)
      (pss_cons (ps_if (pt_cmpR op_eq (pv 0) pe_str (nomark _)) (pss_one (ps_ret (pe_tup (pa_cons pe_bl (pa_cons (pe_op op_add (pe_op op_mulW (pv 4) (pv 8)) (pe_op op_mulW (pv 7) (pv 5))) (pa_cons (pe_op op_mulW (pv 5) (pv 8)) pa_nil)))))) pss_nil)
      (pss_one (ps_ret (pe_tup (pa_cons pe_bl (pa_cons (pe_call G3 hr1 rfl D3.m D3.k D3.b .nil pass0 (pa_cons (pv 0) (pa_cons (pv 4) (pa_cons (pv 7) pa_nil)))) (pa_cons (pe_call G3 hr1 rfl D3.m D3.k D3.b .nil pass0 (pa_cons (pv 0) (pa_cons (pv 5) (pa_cons (pv 8) pa_nil)))) pa_nil))))))))), ?_⟩
    refine ⟨_, rfl, a, _, rfl, .inl (.inl ha), rfl, _, _, rfl, _, _, rfl, _, _, rfl, rfl, ?_⟩
    refine ⟨_, rfl, b, _, rfl, .inl (.inl hb), rfl, _, _, rfl, _, _, rfl, _, _, rfl, rfl, ?_⟩
    refine ⟨fun σ' H' => σ' = [some (.str sg), some (.ref a), some (.ref b), some (.bl l.d), some (.int l.s), some (.int l.r), some (.bl r.d), some (.int r.s), some (.int r.r)] ∧ H' = H ∧ ¬ (l.d = false ∧ r.d = false), ?_, ?_⟩
    · refine ⟨_, rfl, _, rfl, ?_⟩
      cases hld : l.d with
      | true => exact iteF (iteF ⟨rfl, rfl, fun h => by cases h.1⟩)
      | false =>
        refine iteT ⟨_, rfl, _, rfl, ?_⟩
        cases hrd : r.d with
        | true => exact iteF ⟨rfl, rfl, fun h => by cases h.2⟩
        | false =>
          unfold cbP at ho
          rw [if_pos ⟨hld, hrd⟩] at ho
          injection ho with ho
          subst ho
          refine iteT ⟨_, rfl, _, rfl, by show 2 ≤ sizeLine; decide, fun p hp => ⟨_, rfl, by show 2 ≤ sizeLine; decide, fun q hq => ?_⟩⟩
          have s1 := same_new (o := .tup [.str "value", .int l.r]) hp
          have s2 := same_new (o := .tup [.str "value", .int r.r]) hq
          exact ⟨sg, p, q, .val l.r, .val r.r, rfl, ⟨s2 _ _ upd_same, (okl.fr hld).2.1, (okl.fr hld).2.2⟩, ⟨upd_same, (okr.fr hrd).2.1, (okr.fr hrd).2.2⟩, fun d H' s3 rd => ⟨d, _, rfl, rd, SlDone.grow ((s1.trans s2).trans s3) k⟩⟩
    intro σ1 H1 hm1
    obtain ⟨rfl, rfl, nb⟩ := hm1
    unfold cbP at ho
    rw [if_neg nb] at ho
    refine ⟨_, rfl, rfl, _, rfl, ?_⟩
    rw [str_dec2]
    by_cases c : sg = "*"
    · rw [decide_eq_true c]
      rw [if_pos c] at ho
      split at ho
      · cases ho
      · injection ho with ho
        subst ho
        exact iteT ⟨_, rfl, _, rfl, _, _, rfl, rfl, mul_bits okl.ln.1 okr.ln.2 k1 k2, _, rfl, _, rfl, _, _, rfl, rfl, mul_bits okr.ln.1 okl.ln.2 k1 k2, _, _, rfl, rfl, _, rfl, _, rfl, _, _, rfl, rfl, mul_bits okl.ln.2 okr.ln.2 k1 k2, by show 3 ≤ sizeLine; decide, fun p hp => k p _ (same_new hp) upd_same⟩
    · rw [decide_eq_false c]
      rw [if_neg c] at ho
      split at ho
      · rename_i hpm
        injection ho with ho
        subst ho
        exact iteF ⟨_, rfl, _, rfl, _, rfl, sg, l.s, r.s, rfl, hpm, _, rfl, _, rfl, _, rfl, sg, l.r, r.r, rfl, hpm, by show 3 ≤ sizeLine; decide, fun p hp => k p _ (same_new hp) upd_same⟩
      · cases ho
end
end Toy
end

section
set_option Elab.async false
set_option linter.all false
set_option maxRecDepth 100000
namespace Toy
open PySem PySem.Spec PyProof.Rows L2 Gd Kt
/-! ### slope and rest -/
abbrev sSar : Stmt := top 31
inductive SlE where
  | bad (w : Str)
  | ok (st : List Sl)
def sexec (nm : Str) (env : Str → Rs) : List Ins → List Sl → Option SlE
  | [], st => some (.ok st)
  | .int n :: cs, st => match freeR (lim n) with
    | .ok p => sexec nm env cs (p :: st)
    | .bad w => some (.bad w)
  | .par y :: cs, st => match (if y = nm then SlR.ok ⟨true, 1, 0⟩ else freeR (env y)) with
    | .ok p => sexec nm env cs (p :: st)
    | .bad w => some (.bad w)
  | .op w :: cs, st => if w = "minus" then (match st with
      | p :: t => sexec nm env cs (⟨p.d, -p.s, -p.r⟩ :: t)
      | [] => none) else match st with
      | r :: l :: t => (match cbP w l r with
        | some (.ok p) => sexec nm env cs (p :: t)
        | some (.bad v) => some (.bad v)
        | none => none)
      | _ => none
theorem sexec_int (nm : Str) (env : Str → Rs) (n : Int) (cs : List Ins) (st : List Sl) : sexec nm env (.int n :: cs) st = match freeR (lim n) with
    | .ok p => sexec nm env cs (p :: st)
    | .bad w => some (.bad w) := rfl
theorem sexec_par (nm : Str) (env : Str → Rs) (y : Str) (cs : List Ins) (st : List Sl) : sexec nm env (.par y :: cs) st = match (if y = nm then SlR.ok ⟨true, 1, 0⟩ else freeR (env y)) with
    | .ok p => sexec nm env cs (p :: st)
    | .bad w => some (.bad w) := rfl
theorem sexec_op (nm : Str) (env : Str → Rs) (w : Str) (cs : List Ins) (st : List Sl) : sexec nm env (.op w :: cs) st = if w = "minus" then (match st with
      | p :: t => sexec nm env cs (⟨p.d, -p.s, -p.r⟩ :: t)
      | [] => none) else match st with
      | r :: l :: t => (match cbP w l r with
        | some (.ok p) => sexec nm env cs (p :: t)
        | some (.bad v) => some (.bad v)
        | none => none)
      | _ => none := rfl
def negL : SlR → SlR
  | .ok p => .ok ⟨p.d, -p.s, -p.r⟩
  | .bad w => .bad w
def slT (nm : Str) (env : Str → Rs) : Tr → Option SlR
  | .num n => some (freeR (lim n))
  | .nam y => some (if y = nm then .ok ⟨true, 1, 0⟩ else freeR (env y))
  | .neg t => (slT nm env t).map negL
  | .bin s a b => match slT nm env a with
    | none => none
    | some (.bad w) => some (.bad w)
    | some (.ok l) => match slT nm env b with
      | none => none
      | some (.bad w) => some (.bad w)
      | some (.ok r) => cbP s l r
theorem sexec_post (nm : Str) (env : Str → Rs) : ∀ (t : Tr) (cs : List Ins) (st : List Sl) (o : SlR), t.ok → slT nm env t = some o → sexec nm env (post t ++ cs) st = match o with
    | .ok p => sexec nm env cs (p :: st)
    | .bad w => some (.bad w)
  | .num n, cs, st, o, _, h => by
    injection h with h
    subst h
    rfl
  | .nam y, cs, st, o, _, h => by
    injection h with h
    subst h
    rfl
  | .neg t, cs, st, o, hk, h => by
    show sexec nm env ((post t ++ [.op "minus"]) ++ cs) st = _
    rw [List.append_assoc]
    cases ht : slT nm env t with
    | none =>
      have h : (slT nm env t).map negL = some o := h
      rw [ht] at h
      cases h
    | some q =>
      have h : (slT nm env t).map negL = some o := h
      rw [ht] at h
      injection h with h
      subst h
      rw [sexec_post nm env t _ _ q hk ht]
      cases q with
      | bad w => rfl
      | ok p =>
        show sexec nm env (.op "minus" :: cs) (p :: st) = _
        rw [sexec_op, if_pos rfl]
        rfl
  | .bin s a b, cs, st, o, hk, h => by
    show sexec nm env ((post a ++ post b ++ [.op s]) ++ cs) st = _
    rw [List.append_assoc, List.append_assoc]
    have n : ¬ s = "minus" := fun e => by
      have := sg_minus s hk.1
      rw [e] at this
      exact absurd this (by decide +kernel)
    have h : (match slT nm env a with
      | none => none
      | some (.bad w) => some (.bad w)
      | some (.ok l) => match slT nm env b with
        | none => none
        | some (.bad w) => some (.bad w)
        | some (.ok r) => cbP s l r) = some o := h
    cases ha : slT nm env a with
    | none => rw [ha] at h; cases h
    | some q =>
      rw [ha] at h
      rw [sexec_post nm env a _ _ q hk.2.1 ha]
      cases q with
      | bad w =>
        injection h with h
        subst h
        rfl
      | ok l =>
        dsimp only at h ⊢
        cases hb : slT nm env b with
        | none => rw [hb] at h; cases h
        | some q2 =>
          rw [hb] at h
          rw [sexec_post nm env b _ _ q2 hk.2.2 hb]
          cases q2 with
          | bad w =>
            injection h with h
            subst h
            rfl
          | ok r =>
            dsimp only at h ⊢
            show sexec nm env (.op s :: cs) (r :: l :: st) = _
            rw [sexec_op, if_neg n]
            dsimp only
            rw [h]
            cases o with
            | bad w => rfl
            | ok p => rfl
inductive SlAll (H : Hp) : List Addr → List Sl → Prop
  | nil : SlAll H [] []
  | cons {a : Addr} {p : Sl} {as : List Addr} {st : List Sl} (h : SlAt H a p) (t : SlAll H as st) : SlAll H (a :: as) (p :: st)
theorem SlAll.grow {H H' : Hp} {as : List Addr} {st : List Sl} (h : SlAll H as st) (k : ∀ b xs, H b = some (.tup xs) → H' b = some (.tup xs)) : SlAll H' as st := by
  induction h with
  | nil => exact .nil
  | cons h t ih => exact .cons (k _ _ h) ih
theorem pow_mono {j k : Nat} {x : Nat} (h : x < 2 ^ j) (hj : j ≤ k) : x < 2 ^ k := Nat.lt_of_lt_of_le h (Nat.pow_le_pow_right (by decide) hj)
theorem SlOk.mono {j k : Nat} {p : Sl} (h : SlOk j p) (hj : j ≤ k) : SlOk k p := ⟨h.fr, pow_mono h.ln.1 hj, pow_mono h.ln.2 hj⟩
theorem slOk_val {n : Int} (h1 : -TEN ≤ n) (h2 : n ≤ TEN) {k : Nat} (hk : 100 ≤ k) : SlOk k ⟨false, 0, n⟩ := ⟨fun _ => ⟨rfl, h1, h2⟩, Nat.two_pow_pos k, pow_mono (ten_bits h1 h2) hk⟩
theorem lim_val {n m : Int} (h : lim n = .val m) : -TEN ≤ m ∧ m ≤ TEN := by
  unfold lim at h
  split at h
  · rename_i c
    injection h with h
    subst h
    exact c
  · cases h
theorem comb_val {s : Str} {x y m : Int} (h : comb s (.val x) (.val y) = .val m) : -TEN ≤ m ∧ m ≤ TEN := by
  unfold comb at h
  dsimp only at h
  split at h
  · split at h
    · cases h
    · exact lim_val h
  · exact lim_val h
theorem natAbs_mul_lt {x y : Int} {j k : Nat} (hx : x.natAbs < 2 ^ j) (hy : y.natAbs < 2 ^ k) : (x * y).natAbs < 2 ^ (j + k) := by
  rw [Int.natAbs_mul, Nat.pow_add]
  exact Nat.mul_lt_mul'' hx hy
theorem natAbs_add_lt {x y : Int} {k : Nat} (hx : x.natAbs < 2 ^ k) (hy : y.natAbs < 2 ^ k) : (x + y).natAbs < 2 ^ (k + 1) := by
  have := Int.natAbs_add_le x y
  rw [Nat.pow_succ]
  omega
theorem cbP_ok {w : Str} {l r p : Sl} {k : Nat} (hl : SlOk k l) (hr : SlOk k r) (hk : 100 ≤ k) (h : cbP w l r = some (.ok p)) : SlOk (k + 102) p := by
  unfold cbP at h
  split at h
  · rename_i c
    injection h with h
    cases hc : comb w (.val l.r) (.val r.r) with
    | bad v => rw [hc] at h; cases h
    | val n =>
      rw [hc] at h
      have h : SlR.ok ⟨false, 0, n⟩ = .ok p := h
      injection h with h
      subst h
      have := comb_val hc
      exact slOk_val this.1 this.2 (by omega)
  · rename_i c0
    split at h
    · split at h
      · cases h
      · rename_i c1
        injection h with h
        injection h with h
        subst h
        refine ⟨(fun z => by cases z), ?_⟩
        -- one of them is free
        have one : ∀ {a b : Sl}, a.d = false → SlOk k a → SlOk k b → (a.s * b.r + b.s * a.r).natAbs < 2 ^ (k + 102) ∧ (a.r * b.r).natAbs < 2 ^ (k + 102) := by
          intro a b ad oa ob
          obtain ⟨e0, e1, e2⟩ := oa.fr ad
          have t := ten_bits e1 e2
          rw [e0, Int.zero_mul, Int.zero_add]
          refine ⟨pow_mono (natAbs_mul_lt ob.ln.1 t) (by omega), ?_⟩
          rw [Int.mul_comm]
          exact pow_mono (natAbs_mul_lt ob.ln.2 t) (by omega)
        cases hld : l.d with
        | false => exact one hld hl hr
        | true =>
          cases hrd : r.d with
          | true => exact absurd ⟨hld, hrd⟩ c1
          | false =>
            have := one hrd hr hl
            rw [Int.add_comm (l.s * r.r), Int.mul_comm l.r]
            exact this
    · split at h
      · rename_i c1 c2
        injection h with h
        injection h with h
        subst h
        refine ⟨(fun z => by cases z), ?_⟩
        have two : ∀ {x y : Int}, x.natAbs < 2 ^ k → y.natAbs < 2 ^ k → (tot w x y).natAbs < 2 ^ (k + 102) := by
          intro x y hx hy
          unfold tot
          rcases c2 with rfl | rfl
          · rw [if_pos rfl]
            exact pow_mono (natAbs_add_lt hx hy) (by omega)
          · rw [if_neg (by decide +kernel), if_pos rfl, Int.sub_eq_add_neg]
            exact pow_mono (natAbs_add_lt hx (by rw [Int.natAbs_neg]; exact hy)) (by omega)
        exact ⟨two hl.ln.1 hr.ln.1, two hl.ln.2 hr.ln.2⟩
      · cases h
theorem freeR_ok {r : Rs} {p : Sl} (h : freeR r = .ok p) : ∃ m, r = .val m ∧ p = ⟨false, 0, m⟩ := by
  cases r with
  | val m =>
    have h : SlR.ok ⟨false, 0, m⟩ = .ok p := h
    injection h with h
    exact ⟨m, rfl, h.symm⟩
  | bad w => cases h
def SarDone (CA : Addr) (H : Hp) (Q : VK) (E : XK) : SlE → Prop
  | .ok [p] => ∀ b H', Same H H' → H' b = some (.tup [.int p.s, .int p.r]) → Q (.ref b) H'
  | .bad w => RzE kw H E CA (.str w)
  | _ => False
def spSar (CA : Addr) : Sp := fun vs H Q E => ∃ (tc aR : Addr) (as : List Addr) (cs : List Ins) (kvs : List (Key × V)) (nm : Str) (env : Str → Rs) (res : SlE), vs = [.ref tc, .str nm, .ref aR] ∧ H tc = some (.tup (as.map V.ref)) ∧ InsAll H as cs ∧ cs.length ≤ 1000 ∧
  H aR = some (.dK kvs) ∧ (∀ y ∈ pars cs, ¬ y = nm → ∃ b, valV kvs (Sum.inr y : Key) = some (.ref b) ∧ RsAt H b (env y)) ∧ sexec nm env cs [] = some res ∧ SarDone CA H Q E res
abbrev NSar : List Str := ["code", "name", "results", "stack", "kind", "what", "depends", "slope", "rest", "right", "left"]
theorem scSar : FnScope NSar ["code", "name", "results"] (defScope sSar) := ⟨rfl, rfl, rfl, by decide +kernel, rfl, by decide +kernel, by decide +kernel⟩
section
variable {P : Program} {w : World} {K : PySem.W.Frag} {mg : Str → Option Value} {base : Heap} {CA f f1 f2 f3 : Addr} {fd fd1 fd2 fd3 : FuncData}
set_option maxHeartbeats 1000000 in
theorem ok_sar (F : Fun K "slope_and_rest" "slope_and_rest" sSar f fd) (D1 : Dn K mg "free_part" f1 fd1 ["result"]) (G1 : FnOk P w K mg base (L2.CX P w) 3 f1 fd1 ["result"] (spFree CA))
    (D2 : Dn K mg "result_of" f2 fd2 ["number"]) (G2 : FnOk P w K mg base CX0 2 f2 fd2 ["number"] spResOf)
    (D3 : Dn K mg "combined_parts" f3 fd3 ["sign", "left", "right"]) (G3 : FnOk P w K mg base (L2.CX P w) 4 f3 fd3 ["sign", "left", "right"] (spCbP CA)) : FnOk P w K mg base (L2.CX P w) 5 f fd ["code", "name", "results"] (spSar CA) := by
  refine F.okX scSar (fun vs H Q E h => ?_) (fun cdv A outer s H vs Q E hr h => ?_)
  · obtain ⟨tc, aR, as, cs, kvs, nm, env, res, rfl, _⟩ := h
    rfl
  · obtain ⟨tc, aR, as0, cs, kvs, nm, env, res, rfl, htc, hins, hcl, haR, henv, hex, k⟩ := h
    have hu := hu_of hr
    have hr3 : Room 3 _ := hr.mono (by decide)
    have hr2 : Room 2 _ := hr.mono (by decide)
    have sz : sizeLine = 16777216 := by decide
    refine ⟨_, pss_cons (ps_set (i := 3) scSar.nd rfl (Or.inl rfl) (pe_lst pa_nil))
      (C8.pss_cut (ps_for (passes_of rfl) rfl (pi_tup (pv 0)) (pg_tup (by rfl) (pgs_cons (pg_name (i := 4) scSar.nd rfl (Or.inl rfl)) (pgs_cons (pg_name (i := 5) scSar.nd rfl (Or.inl rfl)) pgs_nil)))
        (pss_one (ps_if (pt_cmpR op_eq (pv 4) pe_str (nomark _))
          (pss_one (ps_expr (pe_bm PySem.F.plainAttrs_list PySem.F.slot_list_append PySem.F.type_list_append mt_append (pv 3) (pa_cons (pe_call G1 hr3 rfl D1.m D1.k D1.b .nil (passes_call (E := E) (W := fun cls d _ H => E cls d H) (takes_of rfl rfl rfl rfl) (fun _ _ _ _ h => h)) (pa_cons (pe_call G2 hr2 rfl D2.m D2.k D2.b .nil pass0 (pa_cons (pv 5) pa_nil)) pa_nil)) pa_nil))))
          (pss_one (ps_if (pt_cmpR op_eq (pv 4) pe_str (nomark _))
            (pss_one (ps_expr (pe_bm PySem.F.plainAttrs_list PySem.F.slot_list_append PySem.F.type_list_append mt_append (pv 3) (pa_cons (pe_ifExp (pt_cmpR op_eq (pv 5) (pv 1) (nomark _)) (pe_tup (pa_cons pe_bl (pa_cons pe_int (pa_cons pe_int pa_nil))))
                (pe_call G1 hr3 rfl D1.m D1.k D1.b .nil (passes_call (E := E) (W := fun cls d _ H => E cls d H) (takes_of rfl rfl rfl rfl) (fun _ _ _ _ h => h)) (pa_cons (pe_dget hu (pv 2) (pv 5) (fun _ _ => rfl)) pa_nil))) pa_nil))))
            (pss_one (ps_if (pt_cmpR op_eq (pv 5) pe_str (nomark _))
              (pss_cons (ps_asg (pe_bm0 PySem.F.plainAttrs_list PySem.F.slot_list_pop PySem.F.type_list_pop mt_pop (pv 3)) (pg_tup (by rfl) (pgs_cons (pg_name (i := 6) scSar.nd rfl (Or.inl rfl)) (pgs_cons (pg_name (i := 7) scSar.nd rfl (Or.inl rfl)) (pgs_cons (pg_name (i := 8) scSar.nd rfl (Or.inl rfl)) pgs_nil)))))
              (pss_one (ps_expr (pe_bm PySem.F.plainAttrs_list PySem.F.slot_list_append PySem.F.type_list_append mt_append (pv 3) (pa_cons (pe_tup (pa_cons (pv 6) (pa_cons (pe_un un_neg (pv 7)) (pa_cons (pe_un un_neg (pv 8)) pa_nil)))) pa_nil)))))
              (pss_cons (ps_set (i := 9) scSar.nd rfl (Or.inl rfl) (pe_bm0 PySem.F.plainAttrs_list PySem.F.slot_list_pop PySem.F.type_list_pop mt_pop (pv 3)))
              (pss_cons (ps_set (i := 10) scSar.nd rfl (Or.inl rfl) (pe_bm0 PySem.F.plainAttrs_list PySem.F.slot_list_pop PySem.F.type_list_pop mt_pop (pv 3)))
              (pss_one (ps_expr (pe_bm PySem.F.plainAttrs_list PySem.F.slot_list_append PySem.F.type_list_append mt_append (pv 3) (pa_cons (pe_call G3 hr rfl D3.m D3.k D3.b .nil (passes_call (E := E) (W := fun cls d _ H => E cls d H) (takes_of rfl rfl rfl rfl) (fun _ _ _ _ h => h)) (pa_cons (pv 5) (pa_cons (pv 10) (pa_cons (pv 9) pa_nil)))) pa_nil)))))))))))))
      (pss_one (ps_ret (pe_slice sl_tup (pe_ix ix_list (pv 3) pe_int (fun _ _ => rfl)) (po_some pe_int) po_none)))), ?_⟩
    refine ⟨by show 0 ≤ sizeLine; decide, fun D hD => ?_⟩
    have s0 : Same H (upd H D (.lst [])) := same_new hD
    have hD0 : upd H D (.lst []) D = some (.lst []) := upd_same
    generalize upd H D (.lst []) = H0 at s0 hD0 ⊢
    have keepH : ∀ {H' : Hp}, (∀ b o, b ≠ D → H0 b = some o → H' b = some o) → Same H H' := fun kp b o e => kp b o (ne_of_none e hD) (s0 b o e)
    have htc0 := s0 _ _ htc
    refine ⟨fun σ' H' => ∃ (a : Addr) (p : Sl) (o4 o5 o6 o7 o8 o9 o10 : Option V), σ' = [some (.ref tc), some (.str nm), some (.ref aR), some (.ref D), o4, o5, o6, o7, o8, o9, o10] ∧ H' D = some (.lst [.ref a]) ∧ SlAt H' a p ∧ Same H H' ∧ res = .ok [p], ?_, ?_⟩
    · refine ⟨_, rfl, tc, rfl, ⟨_, .inl (.inl htc0)⟩, for_tup (xs := as0.map V.ref) (fun i σ' H' => ∃ (as : List Addr) (st : List Sl) (o4 o5 o6 o7 o8 o9 o10 : Option V), σ' = [some (.ref tc), some (.str nm), some (.ref aR), some (.ref D), o4, o5, o6, o7, o8, o9, o10] ∧ H' D = some (.lst (stk as)) ∧ as.length ≤ i ∧ SlAll H' as st ∧ (∀ p ∈ st, SlOk (100 + 102 * i) p) ∧
          sexec nm env (cs.drop i) st = some res ∧ ∀ b o, b ≠ D → H0 b = some o → H' b = some o) ⟨[], [], none, none, none, none, none, none, none, rfl, hD0, Nat.le_refl _, .nil, (fun p hp => by cases hp), hex, fun b o _ e => e⟩ (fun i σ' H' _ hh => ?_) (fun i u σ' H' hu2 hh => ?_) (fun σ' H' hh => ?_)⟩
      · obtain ⟨as, st, o4, o5, o6, o7, o8, o9, o10, rfl, hD', hlen, hall, hok, hx, kp⟩ := hh
        exact .inl (.inl (keepH kp _ _ htc))
      · obtain ⟨as, st, o4, o5, o6, o7, o8, o9, o10, rfl, hD', hlen, hall, hok, hx, kp⟩ := hh
        have sm := keepH kp
        have hi : i < as0.length := by
          have := (List.getElem?_eq_some_iff.mp hu2).1
          rwa [List.length_map] at this
        have il := hins.len
        obtain ⟨c, hc, ha⟩ := ins_get hins (List.getElem?_eq_getElem hi)
        have hu3 : u = .ref as0[i] := by
          rw [List.getElem?_map, List.getElem?_eq_getElem hi] at hu2
          exact (Option.some.inj hu2).symm
        subst hu3
        have hcd : cs.drop i = c :: cs.drop (i + 1) := by
          obtain ⟨hl, e⟩ := List.getElem?_eq_some_iff.mp hc
          rw [List.drop_eq_getElem_cons hl, e]
        rw [hcd] at hx
        have alen : as.length < sizeLine := by omega
        have hokS : ∀ p ∈ st, SlOk (100 + 102 * (i + 1)) p := fun p hp => (hok p hp).mono (by omega)
        have push : ∀ {a : Addr} {q : Sl} {H2 : Hp} {as' : List Addr} {st' : List Sl} {o4 o5 o6 o7 o8 o9 o10 : Option V}, H2 D = some (.lst (stk as')) → as'.length ≤ i → SlAll H2 as' st' → SlAt H2 a q → (∀ p ∈ q :: st', SlOk (100 + 102 * (i + 1)) p) → (∀ b o, b ≠ D → H0 b = some o → H2 b = some o) → sexec nm env (cs.drop (i + 1)) (q :: st') = some res →
            ∃ (as : List Addr) (st : List Sl) (p4 p5 p6 p7 p8 p9 p10 : Option V), ([some (.ref tc), some (.str nm), some (.ref aR), some (.ref D), o4, o5, o6, o7, o8, o9, o10] : L2.St) = [some (.ref tc), some (.str nm), some (.ref aR), some (.ref D), p4, p5, p6, p7, p8, p9, p10] ∧ (upd H2 D (.lst (stk as' ++ [V.ref a]))) D = some (.lst (stk as)) ∧ as.length ≤ i + 1 ∧ SlAll (upd H2 D (.lst (stk as' ++ [V.ref a]))) as st ∧
            (∀ p ∈ st, SlOk (100 + 102 * (i + 1)) p) ∧ sexec nm env (cs.drop (i + 1)) st = some res ∧ ∀ b o, b ≠ D → H0 b = some o → (upd H2 D (.lst (stk as' ++ [V.ref a]))) b = some o := fun {a q H2 as' st' _ _ _ _ _ _ _} h1 h2 h3 h4 h4' h5 h6 =>
          ⟨a :: as', q :: st', _, _, _, _, _, _, _, rfl, by rw [upd_same, stk_cons], by simp; omega, .cons (put_keep h1 _ _ h4) (h3.grow (put_keep h1)), h4', h6, fun b o nb e => by rw [upd_ne nb]; exact h5 b o nb e⟩
        cases c with
        | int n =>
          refine ⟨as0[i], _, rfl, .inl (.inl (sm _ _ ha)), rfl, _, _, rfl, _, _, rfl, rfl, ?_⟩
          refine ⟨_, rfl, rfl, _, rfl, ?_⟩
          rw [show decide (V.str "integer" = V.str "integer") = true from decide_eq_true rfl]
          refine iteT ⟨_, rfl, .inl ⟨rfl, _, SqL.of hD'⟩, _, rfl, n, rfl, fun a H2 s2 ra => ⟨a, lim n, rfl, ra, ?_⟩⟩
          rw [sexec_int] at hx
          cases hf : freeR (lim n) with
          | bad v =>
            rw [hf] at hx
            injection hx with hx
            subst hx
            exact RzE.grow (sm.trans s2) k
          | ok q =>
            rw [hf] at hx
            obtain ⟨m, hm, rfl⟩ := freeR_ok hf
            have hb := lim_val hm
            intro b H3 s3 hb2
            have s23 := s2.trans s3
            refine ⟨D, _, _, rfl, rfl, s23 _ _ hD', by rw [stk_len]; exact alen, ?_⟩
            refine push (s23 _ _ hD') hlen (hall.grow fun b xs e => s23 _ _ e) hb2 (fun p hp => ?_) (fun b o nb e => s23 _ _ (kp b o nb e)) hx
            rcases List.mem_cons.mp hp with rfl | hp
            · exact slOk_val hb.1 hb.2 (by omega)
            · exact hokS p hp
        | par y =>
          have hy : y ∈ pars cs := List.mem_filterMap.mpr ⟨.par y, List.mem_of_getElem? hc, rfl⟩
          refine ⟨as0[i], _, rfl, .inl (.inl (sm _ _ ha)), rfl, _, _, rfl, _, _, rfl, rfl, ?_⟩
          refine ⟨_, rfl, rfl, _, rfl, ?_⟩
          rw [show decide (V.str "parameter" = V.str "integer") = false by decide +kernel]
          refine iteF ⟨_, rfl, rfl, _, rfl, ?_⟩
          rw [show decide (V.str "parameter" = V.str "parameter") = true from decide_eq_true rfl]
          refine iteT ⟨_, rfl, .inl ⟨rfl, _, SqL.of hD'⟩, _, rfl, _, rfl, rfl, _, rfl, ?_⟩
          rw [str_dec2]
          rw [sexec_par] at hx
          by_cases c : y = nm
          · rw [decide_eq_true c]
            rw [if_pos c] at hx
            refine iteT ⟨by show 3 ≤ sizeLine; decide, fun b hb => ?_⟩
            have s3 := same_new (o := .tup [.bl true, .int 1, .int 0]) hb
            refine ⟨D, _, _, rfl, rfl, s3 _ _ hD', by rw [stk_len]; exact alen, ?_⟩
            refine push (s3 _ _ hD') hlen (hall.grow fun b xs e => s3 _ _ e) (show SlAt _ b ⟨true, 1, 0⟩ from upd_same) (fun p hp => ?_) (fun b o nb e => s3 _ _ (kp b o nb e)) hx
            rcases List.mem_cons.mp hp with rfl | hp
            · exact ⟨(fun z => by cases z), pow_mono (j := 1) (by show 1 < 2; decide) (by omega), Nat.two_pow_pos _⟩
            · exact hokS p hp
          · rw [decide_eq_false c]
            rw [if_neg c] at hx
            obtain ⟨b0, hb0, rb0⟩ := henv y hy c
            have dg : DGet H' aR (.str y) (some (.ref b0)) := by
              have := DGet.k (k := (Sum.inr y : Key)) (sm _ _ haR)
              rwa [hb0] at this
            have rb1 := rb0.grow fun b xs e => sm b _ e
            refine iteF ⟨_, rfl, _, rfl, aR, _, rfl, dg, b0, env y, rfl, rb1, ?_⟩
            cases hf : freeR (env y) with
            | bad v =>
              rw [hf] at hx
              injection hx with hx
              subst hx
              exact RzE.grow sm k
            | ok q =>
              rw [hf] at hx
              obtain ⟨m, hm, rfl⟩ := freeR_ok hf
              rw [hm] at rb1
              intro b H3 s3 hb2
              refine ⟨D, _, _, rfl, rfl, s3 _ _ hD', by rw [stk_len]; exact alen, ?_⟩
              refine push (s3 _ _ hD') hlen (hall.grow fun b xs e => s3 _ _ e) hb2 (fun p hp => ?_) (fun b o nb e => s3 _ _ (kp b o nb e)) hx
              rcases List.mem_cons.mp hp with rfl | hp
              · exact slOk_val rb1.2.1 rb1.2.2 (by omega)
              · exact hokS p hp
        | op w =>
          refine ⟨as0[i], _, rfl, .inl (.inl (sm _ _ ha)), rfl, _, _, rfl, _, _, rfl, rfl, ?_⟩
          refine ⟨_, rfl, rfl, _, rfl, ?_⟩
          rw [show decide (V.str "operation" = V.str "integer") = false by decide +kernel]
          refine iteF ⟨_, rfl, rfl, _, rfl, ?_⟩
          rw [show decide (V.str "operation" = V.str "parameter") = false by decide +kernel]
          refine iteF ⟨_, rfl, rfl, _, rfl, ?_⟩
          rw [str_dec2]
          rw [sexec_op] at hx
          by_cases c1 : w = "minus"
          · rw [if_pos c1] at hx
            rw [decide_eq_true c1]
            cases hall with
            | nil => cases hx
            | @cons a q as st h t =>
              have hlen' : as.length ≤ i := by simp at hlen; omega
              have hD1 : upd H' D (.lst (stk as)) D = some (.lst (stk as)) := upd_same
              have kp1 : ∀ b o, b ≠ D → H0 b = some o → upd H' D (.lst (stk as)) b = some o := fun b o nb e => by
                rw [upd_ne nb]
                exact kp b o nb e
              refine iteT ⟨_, rfl, .inl ⟨rfl, _, SqL.of hD'⟩, D, _, _, rfl, rfl, hD', stk_last a as, ?_⟩
              rw [stk_drop]
              have h1 : upd H' D (.lst (stk as)) a = some (.tup [.bl q.d, .int q.s, .int q.r]) := put_keep hD' _ _ h
              have t1 := t.grow (put_keep (o := .lst (stk as)) hD')
              generalize upd H' D (.lst (stk as)) = H1 at hD1 kp1 h1 t1 ⊢
              refine ⟨a, _, rfl, .inl (.inl h1), rfl, _, _, rfl, _, _, rfl, _, _, rfl, rfl, ?_⟩
              refine ⟨_, rfl, .inl ⟨rfl, _, SqL.of hD1⟩, _, rfl, _, rfl, _, rfl, _, rfl, _, rfl, by show 3 ≤ sizeLine; decide, fun b hb => ?_⟩
              have s3 := same_new (o := .tup [.bl q.d, .int (-q.s), .int (-q.r)]) hb
              refine ⟨D, _, _, rfl, rfl, s3 _ _ hD1, by rw [stk_len]; omega, ?_⟩
              refine push (s3 _ _ hD1) hlen' (t1.grow fun b xs e => s3 _ _ e) (show SlAt _ b ⟨q.d, -q.s, -q.r⟩ from upd_same) (fun p hp => ?_) (fun b o nb e => s3 _ _ (kp1 b o nb e)) hx
              rcases List.mem_cons.mp hp with rfl | hp
              · have ok := hokS q (List.mem_cons_self ..)
                refine ⟨fun z => ?_, by rw [Int.natAbs_neg]; exact ok.ln.1, by rw [Int.natAbs_neg]; exact ok.ln.2⟩
                obtain ⟨e0, e1, e2⟩ := ok.fr z
                refine ⟨by rw [e0]; rfl, ?_, ?_⟩
                · show -TEN ≤ -q.r
                  omega
                · show -q.r ≤ TEN
                  omega
              · exact hokS p (List.mem_cons_of_mem _ hp)
          · rw [if_neg c1] at hx
            rw [decide_eq_false c1]
            cases hall with
            | nil => cases hx
            | @cons a q as st h t =>
              cases t with
              | nil => cases hx
              | @cons a2 q2 as st h2 t =>
                have hlen' : as.length ≤ i := by simp at hlen; omega
                refine iteF ⟨_, rfl, .inl ⟨rfl, _, SqL.of hD'⟩, D, _, _, rfl, rfl, hD', stk_last a (a2 :: as), ?_⟩
                rw [stk_drop]
                have hD1 : upd H' D (.lst (stk (a2 :: as))) D = some (.lst (stk (a2 :: as))) := upd_same
                refine ⟨_, rfl, .inl ⟨rfl, _, SqL.of hD1⟩, D, _, _, rfl, rfl, hD1, stk_last a2 as, ?_⟩
                rw [stk_drop, upd_upd]
                have hD2 : upd H' D (.lst (stk as)) D = some (.lst (stk as)) := upd_same
                have kp1 : ∀ b o, b ≠ D → H0 b = some o → upd H' D (.lst (stk as)) b = some o := fun b o nb e => by
                  rw [upd_ne nb]
                  exact kp b o nb e
                have h1 : SlAt (upd H' D (.lst (stk as))) a q := put_keep hD' _ _ h
                have h21 : SlAt (upd H' D (.lst (stk as))) a2 q2 := put_keep hD' _ _ h2
                have t1 := t.grow (put_keep (o := .lst (stk as)) hD')
                have hk := keepH kp1
                generalize upd H' D (.lst (stk as)) = H1 at hD2 kp1 h1 h21 t1 hk ⊢
                dsimp only at hx
                cases ho : cbP w q2 q with
                | none => rw [ho] at hx; cases hx
                | some o =>
                  rw [ho] at hx
                  have ok1 := hok q (List.mem_cons_self ..)
                  have ok2 := hok q2 (List.mem_cons_of_mem _ (List.mem_cons_self ..))
                  refine ⟨_, rfl, .inl ⟨rfl, _, SqL.of hD2⟩, _, rfl, _, rfl, _, rfl, w, a2, a, q2, q, 100 + 102 * i, o, rfl, h21, h1, ok2, ok1, by omega, by omega, ho, ?_⟩
                  cases o with
                  | bad v =>
                    injection hx with hx
                    subst hx
                    exact RzE.grow hk k
                  | ok p =>
                    intro b H3 s3 hb2
                    refine ⟨D, _, _, rfl, rfl, s3 _ _ hD2, by rw [stk_len]; omega, ?_⟩
                    refine push (s3 _ _ hD2) hlen' (t1.grow fun b xs e => s3 _ _ e) hb2 (fun p' hp => ?_) (fun b o nb e => s3 _ _ (kp1 b o nb e)) hx
                    rcases List.mem_cons.mp hp with rfl | hp
                    · exact (cbP_ok ok2 ok1 (by omega) ho).mono (by omega)
                    · exact hokS p' (List.mem_cons_of_mem _ (List.mem_cons_of_mem _ hp))
      · obtain ⟨as, st, o4, o5, o6, o7, o8, o9, o10, rfl, hD', hlen, hall, hok, hx, kp⟩ := hh
        rw [List.length_map, hins.len, List.drop_length] at hx
        have hx : some (SlE.ok st) = some res := hx
        injection hx with hx
        subst hx
        match st, hall, k with
        | [p], .cons h .nil, k => exact ⟨_, p, o4, o5, o6, o7, o8, o9, o10, rfl, hD', h, keepH kp, rfl⟩
        | [], _, k => exact k.elim
        | _ :: _ :: _, _, k => exact k.elim
    intro σ1 H1 hm
    obtain ⟨a, p, o4, o5, o6, o7, o8, o9, o10, rfl, hD1, ra, s1, rfl⟩ := hm
    refine ⟨_, rfl, D, _, _, V.ref a, rfl, rfl, SqL.of hD1, atI_nat (xs := [V.ref a]) (j := 0) rfl, _, rfl, a, _, rfl, .inl (.inl ra), (fun z => by cases z.1), fun q hq => ?_⟩
    rw [cut_tail]
    exact k q _ (s1.trans (same_new hq)) upd_same
end
end Toy
end

section
set_option Elab.async false
set_option linter.all false
set_option maxRecDepth 100000
/-! *d of a dict among the items of a list: its keys. -/
namespace StD
open PySem PySem.W PySem.Spec PyProof.Rows
section
variable {prog : Program} {w : World} {A : Around} {E : Value → Shared → Prop} {s : Shared} {T : String} {d : Addr} {n : Nat} {P : Nat → Value → Prop} {OK : Heap → Prop}
theorem collect_src {Q : List Value → Shared → Prop} (K : KdlSrc prog w T d d n P OK) (hh : A.handled = none) (hok : OK s.heap) (hn : n ≤ sizeLine)
    (hQ : ∀ h' tk acc, (∀ b o, s.heap.get? b = some o → h'.get? b = some o) → ItemsOf P acc n → Q acc.toList { s with heap := h', toks := tk }) : wpAny (model prog w) A (collect (.ref d)) Q E s := by
  have lt := (K.there _ hok).1
  have hSd : s.heap.objs.size ≠ d := fun e => by rw [e] at lt; exact Nat.lt_irrefl _ lt
  unfold collect
  refine wpAny_bind (wpAny_runValue (codeAny_builtin F.entry_proto_collect ?_))
  rw [Around.under_plainId F.plain_proto_collect _]
  show wpAny _ A.in1 (newList [] >>= fun l => again (.builtin "list.__iadd__" ⟨[l, .ref d], []⟩)) _ _ s
  refine wpAny_bind (wpAny_newObj_type ?_)
  refine wpAny_pure ⟨plainId_quiet F.plain_list_iadd _, codeAny_builtin F.entry_list_iadd ?_⟩
  rw [Around.under_plainId F.plain_list_iadd _]
  have hS₁ : (s.heap.push { cls := .type "list", data := .seq ([] : List Value).toArray }).get? s.heap.objs.size = some { cls := .type "list", data := .seq ([] : List Value).toArray } := Heap.get?_push_size _ rfl
  have hok1 : OK (s.heap.push { cls := .type "list", data := .seq ([] : List Value).toArray }) := K.keep _ _ hok fun b _ o e => Heap.get?_push_of_some _ e
  show wpAny _ A.in1 (Builtin.List.listExtendWith (.ref s.heap.objs.size) (.ref d) (.ref s.heap.objs.size)) _ _ _
  have lone : ∀ {h' : Heap}, (∀ b o, b ≠ s.heap.objs.size → (s.heap.push { cls := .type "list", data := .seq ([] : List Value).toArray }).get? b = some o → h'.get? b = some o) → ∀ b o, s.heap.get? b = some o → h'.get? b = some o := fun hk b o e =>
    hk b o (fun z => by rw [z] at e; exact absurd (Heap.lt_size e) (Nat.lt_irrefl _)) (Heap.get?_push_of_some _ e)
  have ext := kdl_extend (s := { s with heap := s.heap.push { cls := .type "list", data := .seq ([] : List Value).toArray } }) (A := A) (prog := prog) (w := w)
    (R := fun r s' => ∃ h' tk acc' c', r = .ok (.ret (.ref s.heap.objs.size)) ∧ s' = { s with heap := h', toks := tk } ∧ (∀ b o, s.heap.get? b = some o → h'.get? b = some o) ∧ h'.get? s.heap.objs.size = some { cls := .type "list", dict := none, data := .seq acc' c', slots := #[] } ∧ ItemsOf P acc' n)
    K hh hok1 s.heap.objs.size hSd hSd (.ref s.heap.objs.size) 0 hS₁ (fun h' tk acc' c' hk hS' hacc => ⟨h', tk, acc', c', rfl, rfl, lone hk, hS', hacc⟩) hn
  have fin : ∀ (r : Result) (s' : Shared), (∃ h' tk acc' c', r = .ok (.ret (.ref s.heap.objs.size)) ∧ s' = { s with heap := h', toks := tk } ∧ (∀ b o, s.heap.get? b = some o → h'.get? b = some o) ∧ h'.get? s.heap.objs.size = some { cls := .type "list", dict := none, data := .seq acc' c', slots := #[] } ∧ ItemsOf P acc' n) →
      ∃ s2, r = .ok (.ret (.ref s.heap.objs.size)) ∧ s' = s2 ∧ wpAny (model prog w) A (load s.heap.objs.size >>= fun o => match o.data with
        | .seq xs _ => pure xs.toList
        | _ => unsupported "internal:collect") Q E s2 := by
    rintro r s' ⟨h', tk, acc', c', rfl, rfl, hk, hS', hacc⟩
    exact ⟨_, rfl, rfl, wpAny_bind (wpAny_load hS' (wpAny_pure (hQ h' tk acc' hk hacc)))⟩
  refine wpAny_mono ext (fun f s' hf => ?_) (fun e s' he => ?_)
  · cases f with
    | done f =>
      obtain ⟨s2, e1, rfl, g⟩ := fin _ _ hf
      injection e1 with e1
      subst e1
      exact g
    | again c' =>
      refine ⟨hf.1, codeAny_mono hf.2 fun r s2 hr => ?_⟩
      obtain ⟨s3, rfl, rfl, g⟩ := fin _ _ hr
      exact g
  · obtain ⟨s2, e1, _⟩ := fin _ _ he
    cases e1
end
end StD
namespace Gd
open PySem PySem.Spec PyProof.Rows L2
section
variable {X : Cx} {pins : List (Addr × Obj)} {σ : L2.St} {H : Hp} {s : Shared}
theorem star_dk {a : Addr} {kvs : List (Key × V)} {E : Value → Shared → Prop} {Q : List Value → Shared → Prop} (hc : X.calm = true) (I : Inv X pins σ H s) (h : H a = some (.dK kvs)) (hQ : ∀ us s', Inv X pins σ H s' → Vals (kvs.map fun kv => kV kv.1) us → Q us s') : PySem.W.StarOf (model X.prog X.w) X.A E (.ref a) Q s := by
  obtain ⟨z, lo, vs, rel, dd⟩ := dk_of I.hok h
  obtain ⟨ep, hat⟩ := dd.dictAt
  have ek : (kvs.map fun kv => kV kv.1) = vs.map fun p => kV p.1 := by
    have e := congrArg (List.map kV) rel.keys
    rw [List.map_map, List.map_map] at e
    exact e
  have col : wpAny (model X.prog X.w) X.A (collect (.ref a)) Q E s := by
    refine StD.collect_src (PySem.W.kdl_dict (knd := mixKind X.prog X.w) (kvs := vs) (ep := ep) lo) (I.ok.hd hc) hat (by rw [← rel.length]; exact z) fun h' tk acc hk hacc => ?_
    have hv : Vals (vs.map fun p => kV p.1) acc.toList := keys_at (by rw [Array.length_toList]; exact hacc.1) fun j v e => hacc.2 j v (by rw [← Array.getElem?_toList]; exact e)
    exact hQ _ _ (I.kept (t' := tk) hk) (by rw [ek]; exact hv)
  unfold PySem.W.StarOf notIterableAtAll
  exact wpAny_bind (wpAny_specialOf dd.typeIs PySem.F.slot_dict_iter.lookup (wpAny_pure ⟨rfl, col⟩))
end
/-- *d in a list of items: the keys of d -/
def tStarD (te : TE) (t : TA) : TA := fun σ H Q => te σ H fun x H1 => ∃ p kvs, x = V.ref p ∧ H1 p = some (.dK kvs) ∧ t σ H1 fun ys H2 => Q ((kvs.map fun kv => kV kv.1) ++ ys) H2
theorem pa_starD {X : Cx} {e : Expr} {es : List Expr} {te : TE} {t : TA} {p : Pos} (hc : X.calm = true) (he : PE X e te) (hr : PA X es t) (hs : starEach (.Starred e p :: es) X.env = (true, eval e X.env) :: starEach es X.env := by rfl) : PA X (.Starred e p :: es) (tStarD te t) := by
  refine ⟨fun pos pins s σ H Q I h => ?_⟩
  refine PySem.W.items_star (thn (he.run pins s σ H _ I h) fun v s1 ⟨y, H1, I1, ry, a, kvs, ey, hx, q⟩ => ?_) hs
  subst ey
  obtain rfl : v = Value.ref a := ry
  refine star_dk hc I1 hx fun us s2 I2 rv => ?_
  exact thn (hr.run pos pins s2 σ H1 _ I2 q) fun ws s3 ⟨vs, H3, I3, r3, q3⟩ => ⟨_, H3, I3, rv.append r3, q3⟩
end Gd
end

section
set_option Elab.async false
set_option linter.all false
set_option maxRecDepth 100000
namespace Toy
open PySem PySem.Spec PyProof.Rows L2 Gd Kt
/-! ### a formula's questions -/
abbrev sMiss : Stmt := inClass (top 36) 2
abbrev sLin : Stmt := inClass (top 36) 4
abbrev sDepM : Stmt := inClass (top 36) 5
def lackW (ws ps : List Str) : List Str := ps.filter fun y => !inV (.str y) (ws.map V.str)
theorem lackW_snoc (ws ps : List Str) (y : Str) : lackW ws (ps ++ [y]) = lackW ws ps ++ (if (!inV (.str y) (ws.map V.str)) = true then [y] else []) := by
  unfold lackW
  rw [List.filter_append, List.filter_cons, List.filter_nil]
theorem flat_strs (ls : List Str) : (ls.map V.str).all flatV = true := by
  rw [List.all_eq_true]
  intro v hv
  obtain ⟨y, _, rfl⟩ := List.mem_map.mp hv
  rfl
def fstV : List Str → V
  | [] => .non
  | y :: _ => .str y
def spMissL (C : Addr) : Sp := fun vs H Q _ => ∃ (p aL : Addr) (x : Str) (cs : List Ins) (ws : List Str), vs = [.ref p, .ref aL] ∧ FmO H p C x cs ∧ (pars cs).length < 64 ∧ H aL = some (.lst (ws.map V.str)) ∧
  ∀ H', Same H H' → Q (fstV (lackW ws (pars cs))) H'
abbrev NMi : List Str := ["self", "known", "missing", "name"]
theorem scMiss : FnScope NMi ["self", "known"] (defScope sMiss) := ⟨rfl, rfl, rfl, by decide +kernel, rfl, by decide +kernel, by decide +kernel⟩
theorem scDepM : FnScope ["self", "known"] ["self", "known"] (defScope sDepM) := ⟨rfl, rfl, rfl, by decide +kernel, rfl, by decide +kernel, by decide +kernel⟩
abbrev NLi : List Str := ["self", "name", "results", "missing"]
theorem scLin : FnScope NLi ["self", "name", "results"] (defScope sLin) := ⟨rfl, rfl, rfl, by decide +kernel, rfl, by decide +kernel, by decide +kernel⟩
theorem FmO.same {H H' : Hp} {p C : Addr} {x : Str} {cs : List Ins} (h : FmO H p C x cs) (s : Same H H') : FmO H' p C x cs := by
  obtain ⟨dx, fs, tc, tr, tn, as, ys, a1, a2, a3, a4, a5, a6, a7, a8, a9, a10, a11⟩ := h
  exact ⟨dx, fs, tc, tr, tn, as, ys, s _ _ a1, a2, a3, a4, a5, s _ _ a6, a7.imp fun a o e => s _ _ e, s _ _ a8, s _ _ a9, a10, a11⟩
def spDepM (C : Addr) : Sp := fun vs H Q _ => ∃ (p aK : Addr) (x : Str) (cs : List Ins) (kvs : List (Key × V)) (nm r : Str), vs = [.ref p, .ref aK] ∧ FmO H p C x cs ∧ cs.length ≤ 1000 ∧
  H aK = some (.dK kvs) ∧ (∀ y : Str, valV kvs (Sum.inr y : Key) = if y = nm then some (.str dL) else none) ∧ dexec nm cs [] = some [r] ∧ ∀ H', Same H H' → Q (.str r) H'
def spLin (C CU CN CA : Addr) : Sp := fun vs H Q E => ∃ (p aR : Addr) (x nm : Str) (cs : List Ins) (kvs : List (Key × V)) (ks : List Str), vs = [.ref p, .str nm, .ref aR] ∧ FmO H p C x cs ∧ (pars cs).length < 64 ∧ cs.length ≤ 1000 ∧ H aR = some (.dK kvs) ∧
  kvs.map (·.1) = ks.map Sum.inr ∧ ks.length ≤ 100 ∧ match lackW (nm :: ks) (pars cs) with
  | y :: _ => RzE kn H E CU (.str y)
  | [] => ∃ r, dexec nm cs [] = some [r] ∧ (r = dO → RzE kn H E CN (.str nm)) ∧ (¬ r = dO → ∃ (env : Str → Rs) (res : SlE), (∀ y ∈ pars cs, ¬ y = nm → ∃ b, valV kvs (Sum.inr y : Key) = some (.ref b) ∧ RsAt H b (env y)) ∧ sexec nm env cs [] = some res ∧ SarDone CA H Q E res)
theorem SarDone.grow {CA : Addr} {H H1 : Hp} {Q : VK} {E : XK} {r : SlE} (s : Same H H1) (h : SarDone CA H Q E r) : SarDone CA H1 Q E r := by
  match r, h with
  | .ok [p], h => exact fun b H' s2 hb => h b H' (s.trans s2) hb
  | .bad v, h => exact RzE.grow s h
theorem one_known (nm : Str) (y : Str) : valV (mergeK [] [((Sum.inr nm : Key), V.str dL)]) (Sum.inr y : Key) = if y = nm then some (.str dL) else none := by
  show valV (putK [] (Sum.inr nm : Key) (V.str dL)) (Sum.inr y) = _
  rw [valV_put]
  by_cases c : y = nm
  · rw [if_pos c, if_pos (by rw [c])]
  · rw [if_neg c, if_neg (fun h => c (Sum.inr.inj h))]
    rfl
section
variable {P : Program} {w : World} {K : PySem.W.Frag} {mg : Str → Option Value} {base : Heap} {C CU CN CA : Addr} {f f1 f2 f3 fM fD fS : Addr} {fd fd1 fd2 fd3 fdM fdD fdS : FuncData}
theorem ok_missL (F : Fun K "first_missing" "Formula.first_missing" sMiss f fd) (T : FmT K C) : FnOk P w K mg base CX0 1 f fd ["self", "known"] (spMissL C) := by
  refine F.ok scMiss (fun vs H Q E h => ?_) (fun cdv A outer s H vs Q E hr h => ?_)
  · obtain ⟨p, aL, x, cs, ws, rfl, _⟩ := h
    rfl
  · obtain ⟨p, aL, x, cs, ws, rfl, ⟨dx, fs, tc, tr, tn, as, ys, hp, hkT, hkC, hkR, hkN, htc, hins, htr, htn, hsr, hyl⟩, hfew, haL, k⟩ := h
    refine ⟨_, C8.pss_cut (ps_setLc (i := 2) (own := [("name", 3)]) (g := gName 3) (by rfl) scMiss.nd rfl rfl (sw_true rfl rfl rfl (by decide +kernel)) (pi_tup (pe_fld (pv 0) rfl)) (blkOk_by (own := [("name", 3)]) (N := NMi) (sc := defScope sMiss) (by decide +kernel))
        (fun _ _ _ _ _ => pg_name (i := 3) scMiss.nd rfl (Or.inl rfl)) (fun _ _ _ _ _ => pts_one (pt_cmpR (r := rIn K true) op_notIn_seq (pv 3) (pv 1) (by rfl))) (fun _ _ _ _ _ => pv 3))
      (pss_one (ps_ret (pe_ifExp (pt_truth (pv 2) (fun _ => rfl)) (pe_ix ix_list (pv 2) pe_int (fun _ _ => rfl)) pe_non))), ?_⟩
    refine ⟨fun σ' H' => ∃ D, σ' = [some (.ref p), some (.ref aL), some (.ref D), none] ∧ H' D = some (.lst ((lackW ws (pars cs)).map V.str)) ∧ Same H H', ?_, ?_⟩
    · refine ⟨_, rfl, p, C, dx, _, _, rfl, hp, T.cl, T.nR, hkR, tr, rfl, ⟨_, .inl (.inl htr)⟩, fun D hD => ?_⟩
      refine lc_tup (xs := (pars cs).map V.str) (fun i H' => H' D = some (.lst ((lackW ws ((pars cs).take i)).map V.str)) ∧ ∀ b o, b ≠ D → H b = some o → H' b = some o) ?_ ?_ ?_ ?_
      · exact ⟨upd_same, fun b o nb e => by rw [upd_ne nb]; exact e⟩
      · intro i H' _ hP
        exact .inl (.inl (hP.2 _ _ (ne_of_none htr hD) htr))
      · intro i y H' hy hP
        obtain ⟨h1, h2⟩ := hP
        obtain ⟨z, hz, rfl⟩ : ∃ z, (pars cs)[i]? = some z ∧ V.str z = y := by
          rw [List.getElem?_map] at hy
          cases q : (pars cs)[i]? with
          | none => rw [q] at hy; cases hy
          | some a => rw [q] at hy; exact ⟨a, rfl, Option.some.inj hy⟩
        have et : (pars cs).take (i + 1) = (pars cs).take i ++ [z] := by rw [List.take_succ, hz]; rfl
        have lp : ((lackW ws ((pars cs).take i)).map V.str).length < sizeLine := by
          rw [List.length_map]
          have := List.length_filter_le (fun y => !inV (.str y) (ws.map V.str)) ((pars cs).take i)
          have q2 : ((pars cs).take i).length ≤ (pars cs).length := List.length_take_le' ..
          exact Nat.lt_of_le_of_lt (m := 64) (by unfold lackW; omega) (by decide)
        have haL' := h2 _ _ (ne_of_none haL hD) haL
        refine ⟨rfl, _, rfl, _, rfl, aL, _, rfl, .inl (SqL.of haL'), rfl, flat_strs ws, _, rfl, ?_⟩
        show (if (!inV (V.str z) (ws.map V.str)) = true then _ else _)
        rw [et, lackW_snoc]
        cases hq : (!inV (V.str z) (ws.map V.str)) with
        | true =>
          refine iteT ⟨_, rfl, _, h1, lp, ?_, fun b o nb e => by rw [upd_ne nb]; exact h2 b o nb e⟩
          rw [upd_same, if_pos rfl, List.map_append]
          rfl
        | false =>
          refine iteF ⟨?_, h2⟩
          rw [if_neg (by decide), List.append_nil]
          exact h1
      · intro H' hP
        obtain ⟨h1, h2⟩ := hP
        rw [List.length_map, List.take_length] at h1
        exact ⟨D, rfl, h1, fun b o e => h2 b o (ne_of_none e hD) e⟩
    intro σ1 H1 hm
    obtain ⟨D, rfl, hD, s1⟩ := hm
    have k1 := k H1 s1
    cases hl : lackW ws (pars cs) with
    | nil =>
      rw [hl] at hD k1
      exact ⟨_, rfl, false, .inl ⟨_, SqL.of hD, rfl⟩, iteF k1⟩
    | cons y r =>
      rw [hl] at hD k1
      refine ⟨_, rfl, true, .inl ⟨_, SqL.of hD, rfl⟩, iteT ⟨_, rfl, D, _, _, V.str y, rfl, rfl, SqL.of hD, ?_, k1⟩⟩
      exact atI_nat (xs := (y :: r).map V.str) (j := 0) rfl
theorem ok_depM (F : Fun K "dependence" "Formula.dependence" sDepM f fd) (T : FmT K C) (D1 : Dn K mg "dependence_of" f1 fd1 ["code", "known"]) (G1 : FnOk P w K mg base CX0 2 f1 fd1 ["code", "known"] spDep) : FnOk P w K mg base CX0 3 f fd ["self", "known"] (spDepM C) := by
  refine F.ok scDepM (fun vs H Q E h => ?_) (fun cdv A outer s H vs Q E hr h => ?_)
  · obtain ⟨p, aK, x, cs, kvs, nm, r, rfl, _⟩ := h
    rfl
  · obtain ⟨p, aK, x, cs, kvs, nm, r, rfl, fm, hcl, haK, hkn, hex, k⟩ := h
    obtain ⟨dx, fs, tc, tr, tn, as, ys, hp, hkT, hkC, hkR, hkN, htc, hins, htr, htn, hsr, hyl⟩ := fm
    refine ⟨_, pss_one (ps_ret (pe_call G1 hr rfl D1.m D1.k D1.b .nil pass0 (pa_cons (pe_fld (pv 0) rfl) (pa_cons (pv 1) pa_nil)))), ?_⟩
    exact ⟨_, rfl, p, C, dx, _, _, rfl, hp, T.cl, T.nC, hkC, _, rfl, tc, aK, as, cs, kvs, nm, r, rfl, htc, hins, hcl, haK, hkn, hex, k⟩
theorem ok_lin (F : Fun K "linear" "Formula.linear" sLin f fd) (T : FmT K C) (TS : TxtS K mg) (U : UnkT P w K mg base CU) (N : NotT P w K mg base CN)
    (MM : Meth K C "first_missing" fM) (BM : Binds K fdM ["self", "known"] []) (GM : FnOk P w K mg base CX0 1 fM fdM ["self", "known"] (spMissL C))
    (MD : Meth K C "dependence" fD) (BD : Binds K fdD ["self", "known"] []) (GD : FnOk P w K mg base CX0 3 fD fdD ["self", "known"] (spDepM C))
    (DS : Dn K mg "slope_and_rest" fS fdS ["code", "name", "results"]) (GS : FnOk P w K mg base (L2.CX P w) 5 fS fdS ["code", "name", "results"] (spSar CA)) : FnOk P w K mg base (L2.CX P w) 6 f fd ["self", "name", "results"] (spLin C CU CN CA) := by
  obtain ⟨fI, fdI, O, mU, iC, tI, bI, GI⟩ := U.ex
  obtain ⟨fJ, fdJ, ON, mN, iN, tN, bN, GN⟩ := N.ex
  obtain ⟨tL, mL⟩ := TS.ln
  obtain ⟨tO, mO⟩ := TS.ot
  refine F.okX scLin (fun vs H Q E h => ?_) (fun cdv A outer s H vs Q E hr h => ?_)
  · obtain ⟨p, aR, x, nm, cs, kvs, ks, rfl, _⟩ := h
    rfl
  · obtain ⟨p, aR, x, nm, cs, kvs, ks, rfl, fm, few, hcl, haR, hks, hkl, k⟩ := h
    have hr1 : Room 1 _ := hr.mono (by decide)
    have hr2 : Room (1 + 1) _ := hr.mono (by decide)
    have hr3 : Room 3 _ := hr.mono (by decide)
    have fm0 := fm
    obtain ⟨dx, fs, tc, tr, tn, as, ys, hp, hkT, hkC, hkR, hkN, htc, hins, _, _, _, _, hkG⟩ := fm0
    refine ⟨_, pss_cons (ps_set (i := 3) scLin.nd rfl (Or.inl rfl) (pe_meth (pv 0) T.cl MM GM hr1 BM .nil pass0 (pa_cons (pe_lst (pa_cons (pv 1) (pa_starD rfl (pv 2) pa_nil))) pa_nil)))
      (pss_cons (ps_if (pt_cmp (pc_notN (pv 3))) (pss_one (ps_raise rfl (takes_of rfl rfl rfl rfl) (pmk_oek O iC tI GI hr2 bI .nil pass0 (by rfl) mU (pa_cons (pv 3) pa_nil)))) pss_nil)
      (pss_cons (ps_if (pt_cmpR op_eq (pe_meth (pv 0) T.cl MD GD hr3 BD .nil pass0 (pa_cons (pe_disp (pps_cons (pv 1) (pe_glob (v := .str dL) (by rfl) mL ⟨_, rfl⟩) pps_nil) (by rfl) (by rfl) (fun z => by cases z) (by decide)) pa_nil)) (pe_glob (v := .str dO) (by rfl) mO ⟨_, rfl⟩) (nomark _))
          (pss_one (ps_raise rfl (takes_of rfl rfl rfl rfl) (pmk_oex ON iN tN GN hr2 bN .nil pass0 (by rfl) mN (pa_cons (pv 1) pa_nil)))) pss_nil)
      (pss_one (ps_ret (pe_call GS hr rfl DS.m DS.k DS.b .nil (passes_call (E := E) (W := fun cls d _ H => E cls d H) (takes_of rfl rfl rfl rfl) (fun _ _ _ _ h => h)) (pa_cons (pe_fld (pv 0) rfl) (pa_cons (pv 1) (pa_cons (pv 2) pa_nil)))))))), ?_⟩
    have ek : (kvs.map fun kv => kV kv.1) = ks.map V.str := by
      have e := congrArg (List.map kV) hks
      rw [List.map_map, List.map_map] at e
      exact e
    refine ⟨_, rfl, p, dx, fs, rfl, hp, hkG _ (by decide +kernel) (by decide +kernel) (by decide +kernel) (by decide +kernel), _, rfl, _, rfl, aR, kvs, rfl, haR, ?_⟩
    rw [ek]
    refine ⟨?_, fun l hl => ?_⟩
    · show (V.str nm :: (ks.map V.str ++ [])).length ≤ sizeLine
      rw [List.append_nil, List.length_cons, List.length_map]
      exact Nat.le_trans (Nat.succ_le_succ hkl) (by decide)
    have sl := same_new (o := .lst (V.str nm :: (ks.map V.str ++ []))) hl
    have hl1 : upd H l (.lst (V.str nm :: (ks.map V.str ++ []))) l = some (.lst ((nm :: ks).map V.str)) := by
      rw [upd_same, List.append_nil]
      rfl
    refine ⟨p, l, x, cs, nm :: ks, rfl, fm.same sl, few, hl1, fun H1 s1 => ?_⟩
    have s1 := sl.trans s1
    cases hlk : lackW (nm :: ks) (pars cs) with
    | cons y r =>
      rw [hlk] at k
      exact ⟨_, rfl, _, rfl, iteT ⟨_, rfl, (by show 1 ≤ 1000; decide), rzE_made (RzE.grow s1 k)⟩⟩
    | nil =>
      rw [hlk] at k
      obtain ⟨r, hd, kO, kS⟩ := k
      refine ⟨_, rfl, _, rfl, iteF ⟨_, rfl, p, dx, fs, rfl, s1 _ _ hp, hkG _ (by decide +kernel) (by decide +kernel) (by decide +kernel) (by decide +kernel), fun d hd0 => ⟨_, rfl, upd_same, [((Sum.inr nm : Key), V.str dL)], rfl, (by show 1 ≤ 15; decide), ?_⟩⟩⟩
      rw [upd_upd]
      have sd := s1.trans (same_new (o := .dK (mergeK [] [((Sum.inr nm : Key), V.str dL)])) hd0)
      refine ⟨p, d, x, cs, _, nm, r, rfl, fm.same sd, hcl, upd_same, one_known nm, hd, fun H2 s2 => ⟨rfl, _, rfl, ?_⟩⟩
      have s12 := sd.trans s2
      rw [str_dec2]
      by_cases c : r = dO
      · rw [decide_eq_true c]
        exact iteT ⟨_, rfl, (by show 1 ≤ 1000; decide), rzE_made (RzE.grow s12 (kO c))⟩
      · rw [decide_eq_false c]
        obtain ⟨env, res, henv, hex, kk⟩ := kS c
        refine iteF ⟨_, rfl, p, C, dx, _, _, rfl, s12 _ _ hp, T.cl, T.nC, hkC, _, rfl, _, rfl, tc, aR, as, cs, kvs, nm, env, res, rfl, s12 _ _ htc, hins.imp fun a o e => s12 _ _ e, hcl, s12 _ _ haR, fun y hy n => ?_, hex, SarDone.grow s12 kk⟩
        obtain ⟨b, hb, rb⟩ := henv y hy n
        exact ⟨b, hb, rb.same s12⟩
end
end Toy
end

section
set_option Elab.async false
set_option linter.all false
set_option maxRecDepth 100000
namespace Toy
open PySem PySem.Spec PyProof.Rows L2 Gd Kt
/-! ### the law's exact value of a tree -/
def exT (vals : Str → Int) : Tr → Int
  | .num n => n
  | .nam y => vals y
  | .neg t => exv "minus" (exT vals t) (exT vals t)
  | .bin s a b => exv s (exT vals a) (exT vals b)
def exB : Nat → Nat
  | 0 => 102
  | m + 1 => 2 * exB m + 2
theorem exB_lo : ∀ m, 102 ≤ exB m
  | 0 => Nat.le_refl _
  | m + 1 => by
    have := exB_lo m
    show 102 ≤ 2 * exB m + 2
    omega
theorem exB_hi : ∀ m, m ≤ 4 → exB m ≤ 2000 := by decide
theorem exB_mono : ∀ {m n : Nat}, m ≤ n → exB m ≤ exB n := by
  intro m n h
  induction h with
  | refl => exact Nat.le_refl _
  | step _ ih =>
    refine Nat.le_trans ih ?_
    show _ ≤ 2 * exB _ + 2
    omega
theorem fdiv_abs {x y : Int} (hy : y ≠ 0) : (x.fdiv y).natAbs ≤ x.natAbs := by
  have key : ∀ {a b : Int}, 0 < b → (a / b).natAbs ≤ a.natAbs := by
    intro a b hb
    by_cases ha : 0 ≤ a
    · have h1 := Int.ediv_nonneg ha (Int.le_of_lt hb)
      have h2 := Int.ediv_le_self b ha
      omega
    · have h1 : a ≤ a / b := by
        rw [Int.le_ediv_iff_mul_le hb]
        have : a * b ≤ a * 1 := Int.mul_le_mul_of_nonpos_left (by omega) (by omega)
        omega
      have h2 : a / b < 0 := Int.ediv_neg_of_neg_of_pos (by omega) hb
      omega
  by_cases h : 0 < y
  · rw [Int.fdiv_eq_ediv_of_nonneg x (Int.le_of_lt h)]
    exact key h
  · have hy' : 0 < -y := by omega
    have e : x.fdiv y = (-x).fdiv (-y) := by
      rw [Int.neg_fdiv_neg]
    rw [e, Int.fdiv_eq_ediv_of_nonneg _ (Int.le_of_lt hy')]
    have := key (a := -x) hy'
    omega
theorem exv_bits {s : Str} (hs : s ∈ exSigns) {x y : Int} {k : Nat} (hk : 1 ≤ k) (hx : x.natAbs < 2 ^ k) (hy : y.natAbs < 2 ^ k) : (exv s x y).natAbs < 2 ^ (2 * k + 2) := by
  have p1 : 2 ^ k ≤ 2 ^ (2 * k + 2) := Nat.pow_le_pow_right (by decide) (by omega)
  have p2 : 2 ^ k + 2 ^ k ≤ 2 ^ (2 * k + 2) := by
    have : 2 ^ k + 2 ^ k = 2 ^ (k + 1) := by rw [Nat.pow_succ]; omega
    rw [this]
    exact Nat.pow_le_pow_right (by decide) (by omega)
  simp only [exSigns, signs, List.mem_cons, List.not_mem_nil, or_false] at hs
  rcases hs with rfl | rfl | rfl | rfl | rfl | rfl | rfl
  · show (0 - x).natAbs < _
    omega
  · show (x + y).natAbs < _
    omega
  · show (x - y).natAbs < _
    omega
  · show (x * y).natAbs < _
    refine Nat.lt_of_lt_of_le (natAbs_mul_lt hx hy) (Nat.pow_le_pow_right (by decide) (by omega))
  · show (if y = 0 then (0 : Int) else x.fdiv y).natAbs < _
    by_cases c : y = 0
    · rw [if_pos c]
      exact Nat.two_pow_pos _
    · rw [if_neg c]
      have := fdiv_abs (x := x) c
      omega
  · show (if y < x then y else x).natAbs < _
    split <;> omega
  · show (if y > x then y else x).natAbs < _
    split <;> omega
theorem exT_bits {H : Hp} {ws : List Str} {m : Nat} {t : Tr} {a : Addr} {vals : Str → Int} (h : TreeAt H ws m t a) : (∀ y ∈ readsT t, (vals y).natAbs < 2 ^ 102) → (exT vals t).natAbs < 2 ^ exB m := by
  induction h with
  | @num d a n h0 h1 h =>
    intro _
    show ((n.toNat : Nat) : Int).natAbs < _
    refine pow_mono (j := 102) ?_ (exB_lo d)
    have e : (2 : Nat) ^ 102 = 5070602400912917605986812821504 := by decide +kernel
    rw [e]
    omega
  | @nam d a y t h =>
    intro hv
    exact pow_mono (hv y (List.mem_singleton_self _)) (exB_lo d)
  | @neg d a b t h u ih =>
    intro hv
    have lo := exB_lo d
    exact exv_bits (by decide +kernel) (by omega) (ih hv) (ih hv)
  | @bin d a b c l r s hs h t u ih1 ih2 =>
    intro hv
    have lo := exB_lo d
    exact exv_bits (List.mem_cons_of_mem _ hs) (by omega) (ih1 fun y hy => hv y (List.mem_append_left _ hy)) (ih2 fun y hy => hv y (List.mem_append_right _ hy))
def spExT : Nat → Sp
  | 0 => fun _ _ _ _ => False
  | m + 1 => fun vs H Q _ => ∃ (a e : Addr) (ws : List Str) (t : Tr) (kvs : List (Key × V)) (vals : Str → Int), vs = [.ref a, .ref e] ∧ TreeAt H ws m t a ∧ m ≤ 4 ∧ H e = some (.dK kvs) ∧ (∀ y ∈ readsT t, valV kvs (Sum.inr y : Key) = some (.int (vals y)) ∧ (vals y).natAbs < 2 ^ 102) ∧
    ∀ H', Same H H' → Q (.int (exT vals t)) H'
section
variable {P : Program} {w : World} {K : PySem.W.Frag} {mg : Str → Option Value} {base : Heap} {f : Addr} {fd : FuncData}
set_option maxHeartbeats 1000000 in
theorem ok_exactT (F : Fun K "_law_exact" "_law_exact" sExact f fd) (T : TxtM K mg) (DT : Dn K mg "_law_exact" f fd psEx) :
    ∀ m : Nat, FnOk P w K mg base CX0 (m + 1) f fd psEx (spExT m) := by
  intro m
  induction m with
  | zero => exact F.ok scExact (fun _ _ _ _ h => h.elim) (fun _ _ _ _ _ _ _ _ _ h => h.elim)
  | succ m ih =>
    refine F.ok scExact (fun vs H Q E h => ?_) (fun cdv A outer s H vs Q E hr h => ?_)
    · obtain ⟨a, e, ws, t, kvs, vals, rfl, _⟩ := h
      rfl
    · obtain ⟨a, e, ws, t, kvs, vals, rfl, ht, hm4, he, hv, k⟩ := h
      have hu := hu_of hr
      refine ⟨_, pss_cons (ps_if (pt_cmpR op_eq (pe_ix ix_tup (pv 0) pe_int (fun _ _ => rfl)) pe_str (nomark _)) (pss_one (ps_ret (pe_ix ix_tup (pv 0) pe_int (fun _ _ => rfl)))) pss_nil)
        (pss_cons (ps_if (pt_cmpR op_eq (pe_ix ix_tup (pv 0) pe_int (fun _ _ => rfl)) pe_str (nomark _)) (pss_one (ps_ret (pe_dget hu (pv 1) (pe_ix ix_tup (pv 0) pe_int (fun _ _ => rfl)) (fun _ _ => rfl)))) pss_nil)
        (C8.pss_cut (ps_par (i := 2) (j := 3) (by rfl) scExact.nd rfl rfl (by decide) rfl rfl (pa_cons (pe_call ih hr rfl DT.m DT.k DT.b .nil pass0 (pa_cons (pe_ix ix_tup (pv 0) pe_int (fun _ _ => rfl)) (pa_cons (pv 1) pa_nil)))
            (pa_cons (pe_call ih hr rfl DT.m DT.k DT.b .nil pass0 (pa_cons (pe_ix ix_tup (pv 0) (pe_un un_neg pe_int) (fun _ _ => rfl)) (pa_cons (pv 1) pa_nil))) pa_nil)) (by rfl))
        (C8.pss_cut (ps_set (i := 4) scExact.nd rfl (Or.inl rfl) (pe_disp (pps_cons pe_str (pe_op op_sub pe_int (pv 2)) (pps_cons pe_str (pe_op op_add (pv 2) (pv 3)) (pps_cons pe_str (pe_op op_sub (pv 2) (pv 3)) (pps_cons pe_str (pe_op op_mulW (pv 2) (pv 3)) pps_nil)))) (by rfl) (by rfl) (fun z => by cases z) (by decide)))
        (C8.pss_cut (ps_expr (pe_bm PySem.F.plainAttrs_dict PySem.F.slot_dict_update PySem.F.type_dict_update mt_update (pv 4) (pa_cons (pe_disp (pps_cons pe_str (pe_callB (call_min2 (by rfl)) (by rfl) T.min (by decide +kernel) (pa_cons (pv 2) (pa_cons (pv 3) pa_nil)))
            (pps_cons pe_str (pe_callB (call_max2 (by rfl)) (by rfl) T.max (by decide +kernel) (pa_cons (pv 2) (pa_cons (pv 3) pa_nil))) (pps_cons pe_str (pe_ifExp (pt_cmpR op_ne (pv 3) pe_int (nomark _)) (pe_op op_fdivG (pv 2) (pv 3)) pe_int) pps_nil))) (by rfl) (by rfl) (fun z => by cases z) (by decide)) pa_nil)))
        (pss_one (ps_ret (pe_dget hu (pv 4) (pe_ix ix_tup (pv 0) pe_int (fun _ _ => rfl)) (fun _ _ => rfl)))))))), ?_⟩
      have split : (∃ n : Int, exT vals t = n ∧ H a = some (.tup [.str "number", .int n])) ∨ (∃ y : Str, t = .nam y ∧ H a = some (.tup [.str "name", .str y])) ∨
          ∃ (sg : Str) (xs : List V) (b c : Addr) (l r : Tr) (d : Nat), H a = some (.tup xs) ∧ atI xs 0 = some (.str sg) ∧ atI xs 1 = some (.ref b) ∧ atI xs (-1) = some (.ref c) ∧ sg ∈ exSigns ∧ m = d + 1 ∧ TreeAt H ws d l b ∧ TreeAt H ws d r c ∧
            (∀ y ∈ readsT l, y ∈ readsT t) ∧ (∀ y ∈ readsT r, y ∈ readsT t) ∧ exT vals t = exv sg (exT vals l) (exT vals r) := by
        cases ht with
        | num n h0 h1 h => exact .inl ⟨n, by show ((n.toNat : Nat) : Int) = n; omega, h⟩
        | nam y hy h => exact .inr (.inl ⟨y, rfl, h⟩)
        | @neg d _ b u h hu => exact .inr (.inr ⟨"minus", _, b, b, u, u, d, h, rfl, rfl, rfl, by decide +kernel, rfl, hu, hu, fun y hy => hy, fun y hy => hy, rfl⟩)
        | @bin d _ b c l r s hs h t1 t2 => exact .inr (.inr ⟨s, _, b, c, l, r, d, h, rfl, rfl, rfl, List.mem_cons_of_mem _ hs, rfl, t1, t2, fun y hy => List.mem_append_left _ hy, fun y hy => List.mem_append_right _ hy, rfl⟩)
      rcases split with ⟨n, en, ha⟩ | ⟨y, rfl, ha⟩ | ⟨sg, xs, b, c, l, r, d, ha', e0, e1, e2, hsg, rfl, htl, htr, rl, rr, hex⟩
      · refine ⟨_, rfl, a, _, _, _, rfl, rfl, .inl (.inl ha), rfl, rfl, _, rfl, ?_⟩
        rw [show decide (V.str "number" = V.str "number") = true from decide_eq_true rfl]
        have k0 := k H (Same.refl _)
        rw [en] at k0
        exact iteT ⟨_, rfl, a, _, _, _, rfl, rfl, .inl (.inl ha), rfl, k0⟩
      · refine ⟨_, rfl, a, _, _, _, rfl, rfl, .inl (.inl ha), rfl, rfl, _, rfl, ?_⟩
        rw [show decide (V.str "name" = V.str "number") = false by decide +kernel]
        refine iteF ⟨_, rfl, a, _, _, _, rfl, rfl, .inl (.inl ha), rfl, rfl, _, rfl, ?_⟩
        rw [show decide (V.str "name" = V.str "name") = true from decide_eq_true rfl]
        have dg : DGet H e (.str y) (some (.int (vals y))) := by
          have := DGet.k (k := (Sum.inr y : Key)) he
          rwa [(hv y (List.mem_singleton_self _)).1] at this
        exact iteT ⟨_, rfl, _, rfl, a, _, _, _, rfl, rfl, .inl (.inl ha), rfl, e, _, rfl, dg, k H (Same.refl _)⟩
      · obtain ⟨g1, g2⟩ := ex_no sg hsg
        rw [hex] at k
        have hvl : ∀ y ∈ readsT l, valV kvs (Sum.inr y : Key) = some (.int (vals y)) ∧ (vals y).natAbs < 2 ^ 102 := fun y hy => hv y (rl y hy)
        have hvr : ∀ y ∈ readsT r, valV kvs (Sum.inr y : Key) = some (.int (vals y)) ∧ (vals y).natAbs < 2 ^ 102 := fun y hy => hv y (rr y hy)
        have hbx := exT_bits htl fun y hy => (hvl y hy).2
        have hby := exT_bits htr fun y hy => (hvr y hy).2
        have lo := exB_lo d
        have hi := exB_hi d (by omega)
        refine ⟨_, rfl, a, _, _, _, rfl, rfl, .inl (.inl ha'), e0, rfl, _, rfl, ?_⟩
        rw [str_dec2, g1]
        refine iteF ⟨_, rfl, a, _, _, _, rfl, rfl, .inl (.inl ha'), e0, rfl, _, rfl, ?_⟩
        rw [str_dec2, g2]
        refine iteF ⟨fun σ' H' => σ' = [some (.ref a), some (.ref e), some (.int (exT vals l)), some (.int (exT vals r)), none] ∧ Same H H', ?_, ?_⟩
        · refine ⟨_, rfl, a, _, _, _, rfl, rfl, .inl (.inl ha'), e1, _, rfl, b, e, ws, l, kvs, vals, rfl, htl, by omega, he, hvl, fun H1 s1 => ?_⟩
          refine ⟨_, rfl, _, rfl, a, _, _, _, rfl, rfl, .inl (.inl (s1 _ _ ha')), e2, _, rfl, c, e, ws, r, kvs, vals, rfl, htr.grow fun b xs h => s1 b _ h, by omega, s1 _ _ he, hvr, fun H2 s2 => ?_⟩
          exact ⟨_, _, rfl, rfl, s1.trans s2⟩
        intro σ0 H0 hm0
        obtain ⟨rfl, s0⟩ := hm0
        replace ha' := s0 _ _ ha'
        replace k : ∀ H', Same H0 H' → Q (.int (exv sg (exT vals l) (exT vals r))) H' := fun H' s => k H' (s0.trans s)
        clear htl htr hvl hvr he hv s0 ht
        generalize exT vals l = x at *
        generalize exT vals r = y at *
        generalize exB d = kb at *
        refine ⟨fun σ' H' => ∃ D, σ' = [some (.ref a), some (.ref e), some (.int x), some (.int y), some (.ref D)] ∧ H' D = some (.dK (mergeK [] (l1 x y))) ∧ H0 D = none ∧ Same H0 H', ?_, ?_⟩
        · refine fun p hp => ⟨_, rfl, _, _, rfl, rfl, _, rfl, _, rfl, _, _, rfl, rfl, _, rfl, _, rfl, _, _, rfl, rfl, _, rfl, _, rfl, _, _, rfl, rfl, wide_mul hbx hby (by omega) (by omega) (by omega), upd_same, l1 x y, rfl, (by show 4 ≤ 15; decide), ?_⟩
          rw [upd_upd]
          exact ⟨p, rfl, upd_same, hp, same_new hp⟩
        intro σ2 H2 hm2
        obtain ⟨D, rfl, hD, hDn, s2⟩ := hm2
        refine ⟨fun σ' H' => σ' = [some (.ref a), some (.ref e), some (.int x), some (.int y), some (.ref D)] ∧ H' D = some (.dK (mergeK (mergeK [] (l1 x y)) (l2 x y))) ∧ Same H0 H', ?_, ?_⟩
        · refine ⟨_, rfl, .inr (.inr (.inl ⟨rfl, .inl ⟨_, hD⟩⟩)), fun p hp => ⟨_, rfl, _, rfl, _, _, rfl, _, rfl, _, rfl, _, _, rfl, _, rfl, rfl, _, rfl, ?_⟩⟩
          have npD : D ≠ p := ne_of_none hD hp
          have fin : ∀ v : Int, v = (if y = 0 then 0 else x.fdiv y) → (upd H2 p (.dK [])) p = some (.dK []) ∧ ∃ kvs : List (Key × V), [(V.str "min", V.int (if y < x then y else x)), (V.str "max", V.int (if y > x then y else x)), (V.str "//", V.int v)] = kvs.map (fun kv => (kV kv.1, kv.2)) ∧ kvs.length ≤ 15 ∧
              rUpd (.ref D) [.ref p] (upd (upd H2 p (.dK [])) p (.dK (mergeK [] kvs))) (fun v H' => [some (.ref a), some (.ref e), some (.int x), some (.int y), some (.ref D)] = [some (V.ref a), some (.ref e), some (.int x), some (.int y), some (.ref D)] ∧ H' D = some (.dK (mergeK (mergeK [] (l1 x y)) (l2 x y))) ∧ Same H0 H') := by
            rintro v rfl
            refine ⟨upd_same, l2 x y, rfl, (by show 3 ≤ 15; decide), ?_⟩
            rw [upd_upd]
            refine ⟨D, p, _, _, rfl, rfl, npD, by rw [upd_ne npD]; exact hD, upd_same, ?_, rfl, ?_, fun b o h => ?_⟩
            · have := L2.length_mergeK (l1 x y) []
              have := L2.length_mergeK (l2 x y) []
              have e1 : (l1 x y).length = 4 := rfl
              have e2 : (l2 x y).length = 3 := rfl
              simp only [List.length_nil] at *
              omega
            · rw [upd_same]
              rfl
            · have nD : b ≠ D := ne_of_none h hDn
              rw [upd_ne nD]
              exact same_new hp _ _ (s2 _ _ h)
          by_cases z : y = 0
          · rw [show (!decide (V.int y = V.int 0)) = false by rw [z]; simp]
            exact iteF (fin 0 (by rw [if_pos z]))
          · rw [show (!decide (V.int y = V.int 0)) = true by rw [decide_eq_false (fun q => z (by cases q; rfl))]; rfl]
            refine iteT ⟨_, rfl, _, rfl, _, _, rfl, rfl, ⟨z, ?_⟩, fin _ (by rw [if_neg z])⟩
            have := PySem.Flt.log2_lt_of (by omega) hby
            omega
        intro σ3 H3 hm3
        obtain ⟨rfl, hD3, s3⟩ := hm3
        have hv : valV (mergeK (mergeK [] (l1 x y)) (l2 x y)) (Sum.inr sg : Key) = some (.int (exv sg x y)) := ex_val hsg
        have dg : DGet H3 D (.str sg) (some (.int (exv sg x y))) := by
          have := DGet.k (k := (Sum.inr sg : Key)) hD3
          rwa [hv] at this
        exact ⟨_, rfl, _, rfl, a, _, _, _, rfl, rfl, .inl (.inl (s3 _ _ ha')), e0, D, _, rfl, dg, k H3 s3⟩
end
end Toy
end

section
set_option Elab.async false
set_option linter.all false
set_option maxRecDepth 100000
namespace Toy
open PySem PySem.Spec PyProof.Rows L2 Gd Kt
/-! ### the law's lines and failures -/
abbrev sLine : Stmt := top 52
abbrev sFails : Stmt := top 53
def readB (nm : Str) (t : Tr) : Bool := decide (nm ∈ readsT t)
def isLine (nm : Str) : Tr → Bool
  | .num _ => true
  | .nam _ => true
  | .neg t => !readB nm t || isLine nm t
  | .bin s a b => !(readB nm a || readB nm b) || (!inV (.str s) [.str "//", .str "min", .str "max"] && (isLine nm a && isLine nm b) && (!decide (s = "*") || (!readB nm a || !readB nm b)))
def fails (nm : Str) (env : Str → Rs) : Tr → List Str
  | .num n => match lim n with
    | .bad w => [w]
    | .val _ => []
  | .nam y => if y = nm then [] else match env y with
    | .bad w => [w]
    | .val _ => []
  | .neg t => if readB nm t = true then fails nm env t else match evT env (.neg t) with
    | .bad w => [w]
    | .val _ => []
  | .bin s a b => if (readB nm a || readB nm b) = true then fails nm env a ++ fails nm env b else match evT env (.bin s a b) with
    | .bad w => [w]
    | .val _ => []
/-! a tree's data -/
def trD : Tr → PyData
  | .num n => .tuple [.str "number", .int n]
  | .nam y => .tuple [.str "name", .str y]
  | .neg t => .tuple [.str "minus", trD t]
  | .bin s a b => .tuple [.str s, trD a, trD b]
theorem tr_dp {K : PySem.W.Frag} {H : Hp} {ws : List Str} {m : Nat} {t : Tr} {a : Addr} (h : TreeAt H ws m t a) : Dp K H (.ref a) (trD t) := by
  induction h with
  | @num d a n h0 h1 h =>
    have e : ((n.toNat : Nat) : Int) = n := by omega
    show Dp K H (.ref a) (.tuple [.str "number", .int ((n.toNat : Nat) : Int)])
    rw [e]
    exact .tup (SqT.of h) (.cons (.str _) (.cons (.int _) .nil))
  | nam y t h => exact .tup (SqT.of h) (.cons (.str _) (.cons (.str _) .nil))
  | neg h t ih => exact .tup (SqT.of h) (.cons (.str _) (.cons ih .nil))
  | bin s hs h t u ih1 ih2 => exact .tup (SqT.of h) (.cons (.str _) (.cons ih1 (.cons ih2 .nil)))
theorem tx_ok {m : Nat} {y : Str} (t : Tx m y) : PyData.strOk y = true := by
  unfold PyData.strOk
  rw [← Array.all_toList, List.all_eq_true]
  intro c hc
  exact decide_eq_true (Nat.lt_trans (t.ok c hc) (by decide))
theorem tr_lay {H : Hp} {ws : List Str} {m : Nat} {t : Tr} {a : Addr} (hw : ∀ y ∈ ws, Tx 8 y) (h : TreeAt H ws m t a) : (trD t).canLay0 = true ∧ (trD t).depth ≤ m + 1 := by
  induction h with
  | num n h0 h1 h => exact ⟨by simp [trD, PyData.canLay0, PyData.canLayAll0]; decide +kernel, by simp [trD, PyData.depth, PyData.depthAll]⟩
  | nam y t h => exact ⟨by simp [trD, PyData.canLay0, PyData.canLayAll0, tx_ok (hw y t)]; decide +kernel, by simp [trD, PyData.depth, PyData.depthAll]⟩
  | neg h t ih =>
    refine ⟨by simp [trD, PyData.canLay0, PyData.canLayAll0, ih.1]; decide +kernel, ?_⟩
    simp only [trD, PyData.depth, PyData.depthAll]
    have := ih.2
    omega
  | bin s hs h t u ih1 ih2 =>
    have so : ∀ sg ∈ signs, PyData.strOk sg = true := by decide +kernel
    refine ⟨by simp [trD, PyData.canLay0, PyData.canLayAll0, ih1.1, ih2.1, so s hs], ?_⟩
    simp only [trD, PyData.depth, PyData.depthAll]
    have := ih1.2
    have := ih2.2
    omega
theorem TreeAt.tx {H : Hp} {ws : List Str} {m : Nat} {t : Tr} {a : Addr} (h : TreeAt H ws m t a) : ∃ xs, H a = some (.tup xs) := tree_tup h
/-- a list of trees -/
inductive TrAll (H : Hp) (ws : List Str) (m : Nat) : List Addr → List Tr → Prop
  | nil : TrAll H ws m [] []
  | cons {a : Addr} {t : Tr} {as : List Addr} {ts : List Tr} (h : TreeAt H ws m t a) (r : TrAll H ws m as ts) : TrAll H ws m (a :: as) (t :: ts)
theorem TrAll.grow {H H' : Hp} {ws : List Str} {m : Nat} {as : List Addr} {ts : List Tr} (h : TrAll H ws m as ts) (k : ∀ b xs, H b = some (.tup xs) → H' b = some (.tup xs)) : TrAll H' ws m as ts := by
  induction h with
  | nil => exact .nil
  | cons h r ih => exact .cons (h.grow k) ih
theorem TrAll.snoc {H : Hp} {ws : List Str} {m : Nat} {as : List Addr} {ts : List Tr} {a : Addr} {t : Tr} (h : TrAll H ws m as ts) (g : TreeAt H ws m t a) : TrAll H ws m (as ++ [a]) (ts ++ [t]) := by
  induction h with
  | nil => exact .cons g .nil
  | cons h r ih => exact .cons h ih
theorem TrAll.dp {K : PySem.W.Frag} {H : Hp} {ws : List Str} {m : Nat} {as : List Addr} {ts : List Tr} (h : TrAll H ws m as ts) : DpAll K H (as.map V.ref) (ts.map trD) := by
  induction h with
  | nil => exact .nil
  | cons h r ih => exact .cons (tr_dp h) ih
theorem TrAll.len {H : Hp} {ws : List Str} {m : Nat} {as : List Addr} {ts : List Tr} (h : TrAll H ws m as ts) : as.length = ts.length := by
  induction h with
  | nil => rfl
  | cons h r ih => simp [ih]
theorem TrAll.shaped {H : Hp} {ws : List Str} {m : Nat} {as : List Addr} {ts : List Tr} (hw : ∀ y ∈ ws, Tx 8 y) (hm : m ≤ 4) (h : TrAll H ws m as ts) : SeqAt.shaped (.list (ts.map trD)) = true := by
  have key : PyData.canLayAll0 (ts.map trD) = true ∧ PyData.depthAll (ts.map trD) ≤ m + 1 := by
    induction h with
    | nil => exact ⟨by simp [PyData.canLayAll0], by simp [PyData.depthAll]⟩
    | cons h r ih =>
      obtain ⟨g1, g2⟩ := tr_lay hw h
      refine ⟨by simp [PyData.canLayAll0, g1, ih.1], ?_⟩
      simp only [List.map_cons, PyData.depthAll]
      have := ih.2
      omega
  unfold SeqAt.shaped
  rw [Bool.and_eq_true]
  refine ⟨by simp only [PyData.canLay0]; exact key.1, decide_eq_true ?_⟩
  simp only [PyData.depth]
  have := key.2
  omega
theorem trs_eqv (ts : List Tr) : (!PyData.eqv (.list (ts.map trD)) (.list [])) = !ts.isEmpty := by
  cases ts with
  | nil => simp [PyData.eqv, PyData.eqvAll]
  | cons b bs => simp [PyData.eqv, PyData.eqvAll]
/-- the parts of a tree that has some: its sign, their places -/
theorem tree_kids {H : Hp} {ws : List Str} {m : Nat} {t : Tr} {a : Addr} (h : TreeAt H ws m t a) : (∃ n, t = .num n ∧ ∃ i : Int, H a = some (.tup [.str "number", .int i])) ∨ (∃ y, t = .nam y ∧ H a = some (.tup [.str "name", .str y])) ∨
    ∃ (sg : Str) (as : List Addr) (ts : List Tr) (d : Nat), H a = some (.tup (.str sg :: as.map V.ref)) ∧ m = d + 1 ∧ TrAll H ws d as ts ∧ as.length ≤ 2 ∧ decide (sg = "name") = false ∧ sg ∈ exSigns ∧
      ((∃ u, t = .neg u ∧ ts = [u] ∧ sg = "minus") ∨ ∃ l r, t = .bin sg l r ∧ ts = [l, r] ∧ sg ∈ signs) := by
  cases h with
  | num n h0 h1 h => exact .inl ⟨_, rfl, n, h⟩
  | nam y t h => exact .inr (.inl ⟨y, rfl, h⟩)
  | @neg d _ b t h u => exact .inr (.inr ⟨"minus", [b], [t], d, h, rfl, .cons u .nil, (by show 1 ≤ 2; decide), by decide +kernel, by decide +kernel, .inl ⟨t, rfl, rfl, rfl⟩⟩)
  | @bin d _ b c l r s hs h t u => exact .inr (.inr ⟨s, [b, c], [l, r], d, h, rfl, .cons t (.cons u .nil), Nat.le_refl _, (ex_no s (List.mem_cons_of_mem _ hs)).2, List.mem_cons_of_mem _ hs, .inr ⟨l, r, rfl, rfl, hs⟩⟩)
def spLine : Nat → Sp
  | 0 => fun _ _ _ _ => False
  | m + 1 => fun vs H Q _ => ∃ (a : Addr) (ws : List Str) (t : Tr) (nm : Str), vs = [.ref a, .str nm] ∧ TreeAt H ws m t a ∧ m ≤ 4 ∧ (∀ y ∈ ws, Tx 8 y) ∧ ∀ H', Same H H' → Q (.bl (isLine nm t)) H'
def spFails : Nat → Sp
  | 0 => fun _ _ _ _ => False
  | m + 1 => fun vs H Q _ => ∃ (a e : Addr) (ws : List Str) (t : Tr) (kvs : List (Key × V)) (env : Str → Rs) (nm : Str), vs = [.ref a, .str nm, .ref e] ∧ TreeAt H ws m t a ∧ m ≤ 4 ∧ H e = some (.dK kvs) ∧ EnvAt H kvs env (readsT t) ∧
    ∀ (l : Addr) (H' : Hp), Same H H' → H l = none → H' l = some (.lst ((fails nm env t).map V.str)) → Q (.ref l) H'
abbrev NLn : List Str := ["_law_tree_here", "_law_word", "_law_part"]
abbrev psLn : List Str := ["_law_tree_here", "_law_word"]
theorem scLine : FnScope NLn psLn (defScope sLine) := ⟨rfl, rfl, rfl, by decide +kernel, rfl, by decide +kernel, by decide +kernel⟩
abbrev NFa : List Str := ["_law_tree_here", "_law_word", "_law_results_here", "_law_found", "_law_failures_here", "_law_part"]
abbrev psFa : List Str := ["_law_tree_here", "_law_word", "_law_results_here"]
theorem scFails : FnScope NFa psFa (defScope sFails) := ⟨rfl, rfl, rfl, by decide +kernel, rfl, by decide +kernel, by decide +kernel⟩
theorem inV_str (y : Str) : ∀ ls : List Str, inV (.str y) (ls.map V.str) = decide (y ∈ ls)
  | [] => by simp [inV]
  | z :: ls => by
    have ih := inV_str y ls
    unfold inV at ih ⊢
    rw [List.map_cons, List.any_cons, ih]
    show (decide (z = y) || _) = _
    by_cases c : z = y
    · simp [c]
    · have c' : ¬ y = z := fun e => c e.symm
      simp [c, c']
end Toy
end

section
set_option Elab.async false
set_option linter.all false
set_option maxRecDepth 100000
namespace Toy
open PySem PySem.Spec PyProof.Rows L2 Gd Kt
theorem take_tr {ts : List Tr} {i : Nat} {u : Tr} (h : ts[i]? = some u) : ts.take (i + 1) = ts.take i ++ [u] := by rw [List.take_succ, h]; rfl
theorem trAll_get {H : Hp} {ws : List Str} {m : Nat} {as : List Addr} {ts : List Tr} (h : TrAll H ws m as ts) : ∀ {i : Nat} {a : Addr}, as[i]? = some a → ∃ t, ts[i]? = some t ∧ TreeAt H ws m t a := by
  induction h with
  | nil => intro i a e; cases e
  | cons h r ih =>
    intro i a e
    cases i with
    | zero => cases e; exact ⟨_, rfl, h⟩
    | succ i => exact ih (by simpa using e)
theorem filt_snoc (p : Tr → Bool) (ts : List Tr) (u : Tr) : (ts ++ [u]).filter p = ts.filter p ++ (if p u = true then [u] else []) := by
  rw [List.filter_append, List.filter_cons, List.filter_nil]
theorem mem_reads {nm : Str} {t : Tr} : readB nm t = true ↔ nm ∈ readsT t := by
  unfold readB
  exact decide_eq_true_iff
theorem isLine_no {nm : Str} : ∀ {t : Tr}, ¬ nm ∈ readsT t → isLine nm t = true
  | .num _, _ => rfl
  | .nam _, _ => rfl
  | .neg t, h => by
    have : readB nm t = false := decide_eq_false h
    simp [isLine, this]
  | .bin s a b, h => by
    have h1 : readB nm a = false := decide_eq_false fun z => h (List.mem_append_left _ z)
    have h2 : readB nm b = false := decide_eq_false fun z => h (List.mem_append_right _ z)
    simp [isLine, h1, h2]
abbrev bent3 : List V := [V.str "//", V.str "min", V.str "max"]
theorem line_val {nm sg : Str} {t : Tr} {ts : List Tr} (h : nm ∈ readsT t) (hk : (∃ u, t = .neg u ∧ ts = [u] ∧ sg = "minus") ∨ ∃ l r, t = .bin sg l r ∧ ts = [l, r] ∧ sg ∈ signs) :
    isLine nm t = (!inV (.str sg) bent3 && ((ts.filter fun u => !isLine nm u).isEmpty && (!decide (sg = "*") || !(ts.filter fun u => !readB nm u).isEmpty))) := by
  rcases hk with ⟨u, rfl, rfl, rfl⟩ | ⟨l, r, rfl, rfl, _⟩
  · have h1 : readB nm u = true := decide_eq_true h
    rw [show inV (.str "minus") bent3 = false by decide +kernel, show decide (("minus" : Str) = "*") = false by decide +kernel]
    cases hl : isLine nm u <;> simp [isLine, h1, hl]
  · have h1 : (readB nm l || readB nm r) = true := by
      rcases List.mem_append.mp h with h | h
      · rw [mem_reads.mpr h]
        rfl
      · rw [mem_reads.mpr h, Bool.or_true]
    have e2 : ([l, r].filter fun u => !isLine nm u).isEmpty = (isLine nm l && isLine nm r) := by
      cases hl : isLine nm l <;> cases hr : isLine nm r <;> simp [hl, hr]
    have e3 : (!([l, r].filter fun u => !readB nm u).isEmpty) = (!readB nm l || !readB nm r) := by
      cases hl : readB nm l <;> cases hr : readB nm r <;> simp [hl, hr]
    rw [e2, e3]
    show (!(readB nm l || readB nm r) || _) = _
    rw [h1]
    simp [Bool.and_assoc]
section
variable {P : Program} {w : World} {K : PySem.W.Frag} {mg : Str → Option Value} {base : Heap} {f fR fW : Addr} {fd fdR fdW : FuncData}
set_option maxHeartbeats 1000000 in
theorem ok_line (F : Fun K "_law_is_line" "_law_is_line" sLine f fd) (T : TxtM K mg) (DT : Dn K mg "_law_is_line" f fd psLn) (DR : Dn K mg "_law_reads" fR fdR ["_law_tree_here"]) (GR : FnOk P w K mg base CX0 6 fR fdR ["_law_tree_here"] (spReads 5)) :
    ∀ m : Nat, FnOk P w K mg base CX0 (m + 7) f fd psLn (spLine m) := by
  intro m
  induction m with
  | zero => exact F.ok scLine (fun _ _ _ _ h => h.elim) (fun _ _ _ _ _ _ _ _ _ h => h.elim)
  | succ m ih =>
    refine F.ok scLine (fun vs H Q E h => ?_) (fun cdv A outer s H vs Q E hr h => ?_)
    · obtain ⟨a, ws, t, nm, rfl, _⟩ := h
      rfl
    · obtain ⟨a, ws, t, nm, rfl, ht, hm4, hw, k⟩ := h
      have hr6 : Room 6 _ := hr.mono (by omega)
      have sz : sizeLine = 16777216 := by decide
      refine ⟨_, C8.pss_cut (ps_if (PW.pt (pw_or (pt_cmpR op_notIn_seq (pv 1) (pe_call GR hr6 rfl DR.m DR.k DR.b .nil pass0 (pa_cons (pv 0) pa_nil)) (by rfl)) (pw_or1 (pt_cmpR op_eq (pe_ix ix_tup (pv 0) pe_int (fun _ _ => rfl)) pe_str (nomark _))))) (pss_one (ps_ret pe_bl)) pss_nil)
        (C8.pss_cut (ps_if (PW.pt (pw_or (pt_cmpR op_in_seq (pe_ix ix_tup (pv 0) pe_int (fun _ _ => rfl)) (pe_tup (pa_cons pe_str (pa_cons pe_str (pa_cons pe_str pa_nil)))) (by rfl))
            (pw_or1 (pt_cmpR (op_neD hr.units) (pe_lc (own := [("_law_part", 2)]) (g := gName 2) rfl scLine.nd (pi_tup (pe_slice sl_tup (pv 0) (po_some pe_int) po_none)) (blkOk_by (own := [("_law_part", 2)]) (N := NLn) (sc := defScope sLine) (by decide +kernel))
              (fun _ _ _ _ _ => pg_name (i := 2) scLine.nd rfl (Or.inl rfl)) (fun _ _ _ _ _ => pts_one (pt_not (pt_val (pe_call ih hr rfl DT.m DT.k DT.b .nil pass0 (pa_cons (pv 2) (pa_cons (pv 1) pa_nil)))))) (fun _ _ _ _ _ => pv 2)) (pe_lst pa_nil) (nomark _))))) (pss_one (ps_ret pe_bl)) pss_nil)
        (pss_one (ps_ret (pe_or (pe_cmpR op_ne (pe_ix ix_tup (pv 0) pe_int (fun _ _ => rfl)) pe_str (nomark _)) (pe_one (pe_cmpR (op_neD hr.units) (pe_lc (own := [("_law_part", 2)]) (g := gName 2) rfl scLine.nd (pi_tup (pe_slice sl_tup (pv 0) (po_some pe_int) po_none)) (blkOk_by (own := [("_law_part", 2)]) (N := NLn) (sc := defScope sLine) (by decide +kernel))
              (fun _ _ _ _ _ => pg_name (i := 2) scLine.nd rfl (Or.inl rfl)) (fun _ _ _ _ _ => pts_one (pt_cmpR (r := rIn K true) op_notIn_seq (pv 1) (pe_call GR hr6 rfl DR.m DR.k DR.b .nil pass0 (pa_cons (pv 2) pa_nil)) (by rfl))) (fun _ _ _ _ _ => pv 2)) (pe_lst pa_nil) (nomark _))))))), ?_⟩
      refine ⟨fun σ' H' => σ' = [some (.ref a), some (.str nm), none] ∧ Same H H' ∧ nm ∈ readsT t ∧ ∃ (sg : Str) (as : List Addr) (ts : List Tr) (d : Nat), H a = some (.tup (.str sg :: as.map V.ref)) ∧ m = d + 1 ∧ TrAll H ws d as ts ∧ as.length ≤ 2 ∧
          ((∃ u, t = .neg u ∧ ts = [u] ∧ sg = "minus") ∨ ∃ l r, t = .bin sg l r ∧ ts = [l, r] ∧ sg ∈ signs), ?_, ?_⟩
      · refine ⟨_, rfl, _, rfl, a, ws, t, rfl, ht.mono hm4, by decide, fun l H1 s1 _ hl => ⟨l, _, rfl, .inl (SqL.of hl), rfl, flat_strs _, _, rfl, ?_⟩⟩
        show (if (!inV (V.str nm) ((readsT t).map V.str)) = true then _ else _)
        rw [inV_str]
        by_cases c : nm ∈ readsT t
        · rw [decide_eq_true c]
          rcases tree_kids ht with ⟨n, rfl, _⟩ | ⟨y, rfl, ha⟩ | ⟨sg, as, ts, d, ha, hmd, hall, hlen, hn, hsg, hk⟩
          · cases c
          · refine iteF ⟨_, rfl, a, _, _, _, rfl, rfl, .inl (.inl (s1 _ _ ha)), rfl, rfl, _, rfl, ?_⟩
            rw [show decide (V.str "name" = V.str "name") = true from decide_eq_true rfl]
            exact iteT (k _ s1)
          · refine iteF ⟨_, rfl, a, _, _, _, rfl, rfl, .inl (.inl (s1 _ _ ha)), atI_nat (j := 0) rfl, rfl, _, rfl, ?_⟩
            rw [str_dec2, hn]
            exact iteF ⟨rfl, s1, c, sg, as, ts, d, ha, hmd, hall, hlen, hk⟩
        · rw [decide_eq_false c]
          have k1 := k _ s1
          rw [isLine_no c] at k1
          exact iteT (iteT k1)
      intro σ1 H1 hm1
      obtain ⟨rfl, s1, hin, sg, as, ts, d, ha, rfl, hall, hlen, hk⟩ := hm1
      rw [line_val hin hk] at k
      have ha1 := s1 _ _ ha
      have all1 := hall.grow fun b xs h => s1 b _ h
      have ec : cutV (V.str sg :: as.map V.ref) (some 1) none = as.map V.ref := cut_tail _ _
      refine ⟨fun σ' H' => σ' = [some (.ref a), some (.str nm), none] ∧ Same H1 H' ∧ inV (.str sg) bent3 = false ∧ (ts.filter fun u => !isLine nm u).isEmpty = true, ?_, ?_⟩
      · refine ⟨_, rfl, a, _, _, _, rfl, rfl, .inl (.inl ha1), atI_nat (j := 0) rfl, by show 3 ≤ sizeLine; decide, fun p hp => ⟨p, _, rfl, .inr (SqT.of upd_same), rfl, rfl, _, rfl, ?_⟩⟩
        show (if inV (V.str sg) bent3 = true then _ else _)
        have s2 := s1.trans (same_new (o := .tup bent3) hp)
        have s12 := same_new (o := .tup bent3) hp
        cases hb : inV (V.str sg) bent3 with
        | true =>
          have k1 := k _ s2
          rw [hb] at k1
          exact iteT (iteT k1)
        | false =>
          generalize upd H1 p (.tup bent3) = H2 at s2 s12 ⊢
          have ha2 := s12 _ _ ha1
          refine iteF ⟨_, rfl, _, rfl, a, _, rfl, .inl (.inl ha2), (fun z => by cases z.1), fun q hq => ⟨q, rfl, ⟨_, .inl (.inl upd_same)⟩, ?_⟩⟩
          rw [ec]
          have s23 : Same H2 (upd H2 q (.tup (as.map V.ref))) := same_new hq
          have hq1 : upd H2 q (.tup (as.map V.ref)) q = some (.tup (as.map V.ref)) := upd_same
          have all2 := (all1.grow fun b xs h => s12 b _ h).grow fun b xs h => s23 b _ h
          have s13 := s2.trans s23
          have s3 := s12.trans s23
          generalize upd H2 q (.tup (as.map V.ref)) = H3 at s23 hq1 all2 s13 s3 ⊢
          intro D hD
          refine lc_tup (xs := as.map V.ref) (fun i H' => ∃ (bs : List Addr), H' D = some (.lst (bs.map V.ref)) ∧ TrAll H' ws d bs ((ts.take i).filter fun u => !isLine nm u) ∧ bs.length ≤ i ∧ ∀ b o, b ≠ D → H3 b = some o → H' b = some o) ?_ (fun i H' _ hP => ?_) (fun i x H' hx hP => ?_) (fun H' hP => ?_)
          · exact ⟨[], upd_same, .nil, Nat.le_refl _, fun b o nb e => by rw [upd_ne nb]; exact e⟩
          · obtain ⟨bs, h1, h2, h3, h4⟩ := hP
            exact .inl (.inl (h4 _ _ (ne_of_none hq1 hD) hq1))
          · obtain ⟨bs, h1, h2, h3, h4⟩ := hP
            rw [List.getElem?_map] at hx
            obtain ⟨b, hb2, rfl⟩ : ∃ b, as[i]? = some b ∧ V.ref b = x := by
              cases q : as[i]? with
              | none => rw [q] at hx; cases hx
              | some a => rw [q] at hx; exact ⟨a, rfl, Option.some.inj hx⟩
            have hi : i < as.length := (List.getElem?_eq_some_iff.mp hb2).1
            obtain ⟨u, hu, tu⟩ := trAll_get all2 hb2
            have kt : ∀ b xs, H3 b = some (.tup xs) → H' b = some (.tup xs) := fun b xs h => h4 b _ (ne_of_none h hD) h
            have tu' := tu.grow kt
            rw [take_tr hu, filt_snoc]
            refine ⟨rfl, _, rfl, _, rfl, b, ws, u, nm, rfl, tu', by omega, hw, fun H4 s4 => ⟨_, rfl, ?_⟩⟩
            show (if (!isLine nm u) = true then _ else _)
            cases hl : (!isLine nm u) with
            | true =>
              refine iteT ⟨_, rfl, _, s4 _ _ h1, by rw [List.length_map]; omega, bs ++ [b], by rw [upd_same, List.map_append]; rfl, ?_, by rw [List.length_append, List.length_singleton]; omega, fun c o nb e => by rw [upd_ne nb]; exact s4 _ _ (h4 c o nb e)⟩
              rw [if_pos rfl]
              have pk := put_keep (o := .lst (bs.map V.ref ++ [V.ref b])) (s4 _ _ h1)
              exact ((h2.grow fun b xs h => s4 b _ h).grow pk).snoc ((tu'.grow fun b xs h => s4 b _ h).grow pk)
            | false =>
              refine iteF ⟨bs, s4 _ _ h1, ?_, by omega, fun c o nb e => s4 _ _ (h4 c o nb e)⟩
              rw [if_neg (by decide), List.append_nil]
              exact h2.grow fun b xs h => s4 b _ h
          · obtain ⟨bs, h1, h2, h3, h4⟩ := hP
            rw [List.length_map, all2.len, List.take_length] at h2
            refine ⟨by show 0 ≤ sizeLine; decide, fun mm hmm => ?_⟩
            have s4 : Same H3 H' := fun b o e => h4 b o (ne_of_none e hD) e
            have sm := same_new (o := .lst []) hmm
            refine ⟨.list ((ts.filter fun u => !isLine nm u).map trD), .list [], .lst (SqL.of (sm _ _ h1)) ((h2.grow fun b xs h => sm b _ h).dp), .lst (SqL.of upd_same) .nil, h2.shaped hw (by omega), by decide +kernel, _, rfl, ?_⟩
            rw [trs_eqv]
            cases hl : (ts.filter fun u => !isLine nm u).isEmpty with
            | true => exact iteF ⟨rfl, (s3.trans s4).trans sm, rfl, rfl⟩
            | false =>
              have k1 := k _ ((s13.trans s4).trans sm)
              rw [hb, hl] at k1
              exact iteT k1
      intro σ2 H2 hm2
      obtain ⟨rfl, s2, hb, hl⟩ := hm2
      rw [hb, hl] at k
      have ha2 := s2 _ _ ha1
      have s12 := s1.trans s2
      refine ⟨_, rfl, a, _, _, _, rfl, rfl, .inl (.inl ha2), atI_nat (j := 0) rfl, rfl, _, rfl, ?_⟩
      rw [str_dec2]
      by_cases c : sg = "*"
      · rw [decide_eq_true c]
        rw [decide_eq_true c] at k
        refine iteF ⟨_, rfl, _, rfl, a, _, rfl, .inl (.inl ha2), (fun z => by cases z.1), fun q hq => ⟨q, rfl, ⟨_, .inl (.inl upd_same)⟩, ?_⟩⟩
        rw [ec]
        have s23 : Same H2 (upd H2 q (.tup (as.map V.ref))) := same_new hq
        have hq1 : upd H2 q (.tup (as.map V.ref)) q = some (.tup (as.map V.ref)) := upd_same
        have all2 := (all1.grow fun b xs h => s2 b _ h).grow fun b xs h => s23 b _ h
        have s13 := s12.trans s23
        generalize upd H2 q (.tup (as.map V.ref)) = H3 at s23 hq1 all2 s13 ⊢
        intro D hD
        refine lc_tup (xs := as.map V.ref) (fun i H' => ∃ (bs : List Addr), H' D = some (.lst (bs.map V.ref)) ∧ TrAll H' ws d bs ((ts.take i).filter fun u => !readB nm u) ∧ bs.length ≤ i ∧ ∀ b o, b ≠ D → H3 b = some o → H' b = some o) ?_ (fun i H' _ hP => ?_) (fun i x H' hx hP => ?_) (fun H' hP => ?_)
        · exact ⟨[], upd_same, .nil, Nat.le_refl _, fun b o nb e => by rw [upd_ne nb]; exact e⟩
        · obtain ⟨bs, h1, h2, h3, h4⟩ := hP
          exact .inl (.inl (h4 _ _ (ne_of_none hq1 hD) hq1))
        · obtain ⟨bs, h1, h2, h3, h4⟩ := hP
          rw [List.getElem?_map] at hx
          obtain ⟨b, hb2, rfl⟩ : ∃ b, as[i]? = some b ∧ V.ref b = x := by
            cases q : as[i]? with
            | none => rw [q] at hx; cases hx
            | some a => rw [q] at hx; exact ⟨a, rfl, Option.some.inj hx⟩
          have hi : i < as.length := (List.getElem?_eq_some_iff.mp hb2).1
          obtain ⟨u, hu, tu⟩ := trAll_get all2 hb2
          have kt : ∀ b xs, H3 b = some (.tup xs) → H' b = some (.tup xs) := fun b xs h => h4 b _ (ne_of_none h hD) h
          have tu' := tu.grow kt
          rw [take_tr hu, filt_snoc]
          refine ⟨rfl, _, rfl, _, rfl, b, ws, u, rfl, tu'.mono (show d ≤ 4 by omega), by decide, fun l H4 s4 _ hl4 => ⟨l, _, rfl, .inl (SqL.of hl4), rfl, flat_strs _, _, rfl, ?_⟩⟩
          show (if (!inV (V.str nm) ((readsT u).map V.str)) = true then _ else _)
          rw [inV_str]
          have er : (!decide (nm ∈ readsT u)) = !readB nm u := rfl
          rw [er]
          cases hl : (!readB nm u) with
          | true =>
            refine iteT ⟨_, rfl, _, s4 _ _ h1, by rw [List.length_map]; omega, bs ++ [b], by rw [upd_same, List.map_append]; rfl, ?_, by rw [List.length_append, List.length_singleton]; omega, fun c o nb e => by rw [upd_ne nb]; exact s4 _ _ (h4 c o nb e)⟩
            rw [if_pos rfl]
            have pk := put_keep (o := .lst (bs.map V.ref ++ [V.ref b])) (s4 _ _ h1)
            exact ((h2.grow fun b xs h => s4 b _ h).grow pk).snoc ((tu'.grow fun b xs h => s4 b _ h).grow pk)
          | false =>
            refine iteF ⟨bs, s4 _ _ h1, ?_, by omega, fun c o nb e => s4 _ _ (h4 c o nb e)⟩
            rw [if_neg (by decide), List.append_nil]
            exact h2.grow fun b xs h => s4 b _ h
        · obtain ⟨bs, h1, h2, h3, h4⟩ := hP
          rw [List.length_map, all2.len, List.take_length] at h2
          refine ⟨by show 0 ≤ sizeLine; decide, fun mm hmm => ?_⟩
          have s4 : Same H3 H' := fun b o e => h4 b o (ne_of_none e hD) e
          have sm := same_new (o := .lst []) hmm
          refine ⟨.list ((ts.filter fun u => !readB nm u).map trD), .list [], .lst (SqL.of (sm _ _ h1)) ((h2.grow fun b xs h => sm b _ h).dp), .lst (SqL.of upd_same) .nil, h2.shaped hw (by omega), by decide +kernel, ?_⟩
          rw [trs_eqv]
          exact k _ ((s13.trans s4).trans sm)
      · rw [decide_eq_false c]
        rw [decide_eq_false c] at k
        exact iteT (k _ s12)
end
end Toy
end

section
set_option Elab.async false
set_option linter.all false
set_option maxRecDepth 100000
namespace Toy
open PySem PySem.Spec PyProof.Rows L2 Gd Kt
def badL : Rs → List Str
  | .bad w => [w]
  | .val _ => []
theorem fails_no {nm : Str} {env : Str → Rs} : ∀ {t : Tr}, ¬ nm ∈ readsT t → fails nm env t = badL (evT env t)
  | .num n, _ => by
    show (match lim n with | .bad w => [w] | .val _ => []) = badL (lim n)
    cases lim n <;> rfl
  | .nam y, h => by
    have : ¬ y = nm := fun e => h (by rw [e]; exact List.mem_singleton_self _)
    show (if y = nm then [] else match env y with | .bad w => [w] | .val _ => []) = badL (env y)
    rw [if_neg this]
    cases env y <;> rfl
  | .neg t, h => by
    have : readB nm t = false := decide_eq_false h
    show (if readB nm t = true then _ else match evT env (.neg t) with | .bad w => [w] | .val _ => []) = badL (evT env (.neg t))
    rw [this, if_neg (by decide)]
    cases evT env (.neg t) <;> rfl
  | .bin s a b, h => by
    have h1 : readB nm a = false := decide_eq_false fun z => h (List.mem_append_left _ z)
    have h2 : readB nm b = false := decide_eq_false fun z => h (List.mem_append_right _ z)
    show (if (readB nm a || readB nm b) = true then _ else match evT env (.bin s a b) with | .bad w => [w] | .val _ => []) = badL (evT env (.bin s a b))
    rw [h1, h2, if_neg (by decide)]
    cases evT env (.bin s a b) <;> rfl
theorem fails_kids {nm sg : Str} {env : Str → Rs} {t : Tr} {ts : List Tr} (h : nm ∈ readsT t) (hk : (∃ u, t = .neg u ∧ ts = [u] ∧ sg = "minus") ∨ ∃ l r, t = .bin sg l r ∧ ts = [l, r] ∧ sg ∈ signs) : fails nm env t = (ts.map (fails nm env)).flatten := by
  rcases hk with ⟨u, rfl, rfl, _⟩ | ⟨l, r, rfl, rfl, _⟩
  · have h1 : readB nm u = true := decide_eq_true h
    show (if readB nm u = true then fails nm env u else _) = _
    rw [h1, if_pos rfl]
    simp
  · have h1 : (readB nm l || readB nm r) = true := by
      rcases List.mem_append.mp h with h | h
      · rw [mem_reads.mpr h]
        rfl
      · rw [mem_reads.mpr h, Bool.or_true]
    show (if (readB nm l || readB nm r) = true then fails nm env l ++ fails nm env r else _) = _
    rw [h1, if_pos rfl]
    simp
theorem badL_len (r : Rs) : (badL r).length ≤ 1 := by
  cases r <;> simp [badL]
theorem fails_len {H : Hp} {ws : List Str} {m : Nat} {t : Tr} {a : Addr} {nm : Str} {env : Str → Rs} (h : TreeAt H ws m t a) : (fails nm env t).length ≤ 2 ^ m := by
  have one : ∀ m : Nat, 1 ≤ 2 ^ m := fun m => Nat.one_le_two_pow
  induction h with
  | @num d _ n h0 h1 h =>
    rw [fails_no (by simp [readsT])]
    exact Nat.le_trans (badL_len _) (one d)
  | @nam d _ y t h =>
    by_cases c : y = nm
    · show (if y = nm then [] else _).length ≤ _
      rw [if_pos c]
      exact Nat.zero_le _
    · rw [fails_no (by simp [readsT]; exact fun e => c e.symm)]
      exact Nat.le_trans (badL_len _) (one d)
  | @neg d _ b t h u ih =>
    by_cases c : nm ∈ readsT t
    · rw [fails_kids (t := .neg t) (ts := [t]) (sg := "minus") c (.inl ⟨t, rfl, rfl, rfl⟩)]
      simp only [List.map_cons, List.map_nil, List.flatten_cons, List.flatten_nil, List.append_nil]
      exact Nat.le_trans ih (Nat.pow_le_pow_right (by decide) (by omega))
    · rw [fails_no (t := .neg t) c]
      exact Nat.le_trans (badL_len _) (one _)
  | @bin d _ b c l r s hs h t u ih1 ih2 =>
    by_cases c : nm ∈ readsT (.bin s l r)
    · rw [fails_kids (t := .bin s l r) (ts := [l, r]) (sg := s) c (.inr ⟨l, r, rfl, rfl, hs⟩)]
      simp only [List.map_cons, List.map_nil, List.flatten_cons, List.flatten_nil, List.append_nil, List.length_append]
      rw [Nat.pow_succ]
      omega
    · rw [fails_no c]
      exact Nat.le_trans (badL_len _) (one _)
theorem kid_reads {sg : Str} {t : Tr} {ts : List Tr} (hk : (∃ u, t = .neg u ∧ ts = [u] ∧ sg = "minus") ∨ ∃ l r, t = .bin sg l r ∧ ts = [l, r] ∧ sg ∈ signs) : ∀ u ∈ ts, ∀ y ∈ readsT u, y ∈ readsT t := by
  rcases hk with ⟨u, rfl, rfl, _⟩ | ⟨l, r, rfl, rfl, _⟩
  · intro v hv y hy
    rw [List.mem_singleton.mp hv] at hy
    exact hy
  · intro v hv y hy
    rcases List.mem_cons.mp hv with rfl | hv
    · exact List.mem_append_left _ hy
    · rw [List.mem_singleton.mp hv] at hy
      exact List.mem_append_right _ hy
section
variable {P : Program} {w : World} {K : PySem.W.Frag} {mg : Str → Option Value} {base : Heap} {f fR fW : Addr} {fd fdR fdW : FuncData}
set_option maxHeartbeats 1000000 in
theorem ok_fails (F : Fun K "_law_failures" "_law_failures" sFails f fd) (T : TxtM K mg) (DT : Dn K mg "_law_failures" f fd psFa) (DR : Dn K mg "_law_reads" fR fdR ["_law_tree_here"]) (GR : FnOk P w K mg base CX0 6 fR fdR ["_law_tree_here"] (spReads 5))
    (DW : Dn K mg "_law_worth" fW fdW psWo) (GW : FnOk P w K mg base CX0 9 fW fdW psWo (spWorth 5)) :
    ∀ m : Nat, FnOk P w K mg base CX0 (m + 10) f fd psFa (spFails m) := by
  intro m
  induction m with
  | zero => exact F.ok scFails (fun _ _ _ _ h => h.elim) (fun _ _ _ _ _ _ _ _ _ h => h.elim)
  | succ m ih =>
    refine F.ok scFails (fun vs H Q E h => ?_) (fun cdv A outer s H vs Q E hr h => ?_)
    · obtain ⟨a, e, ws, t, kvs, env, nm, rfl, _⟩ := h
      rfl
    · obtain ⟨a, e, ws, t, kvs, env, nm, rfl, ht, hm4, he, henv, k⟩ := h
      have hr6 : Room 6 _ := hr.mono (by omega)
      have hr9 : Room 9 _ := hr.mono (by omega)
      have sz : sizeLine = 16777216 := by decide
      refine ⟨_, C8.pss_cut (ps_if (pt_cmpR op_notIn_seq (pv 1) (pe_call GR hr6 rfl DR.m DR.k DR.b .nil pass0 (pa_cons (pv 0) pa_nil)) (by rfl))
          (pss_cons (ps_set (i := 3) scFails.nd rfl (Or.inl rfl) (pe_call GW hr9 rfl DW.m DW.k DW.b .nil pass0 (pa_cons (pv 0) (pa_cons (pv 2) pa_nil))))
          (pss_one (ps_ret (pe_ifExp (pt_cmpR op_eq (pe_ix ix_tup (pv 3) pe_int (fun _ _ => rfl)) pe_str (nomark _)) (pe_lst (pa_cons (pe_ix ix_tup (pv 3) pe_int (fun _ _ => rfl)) pa_nil)) (pe_lst pa_nil))))) pss_nil)
        (pss_cons (ps_if (pt_cmpR op_eq (pe_ix ix_tup (pv 0) pe_int (fun _ _ => rfl)) pe_str (nomark _)) (pss_one (ps_ret (pe_lst pa_nil))) pss_nil)
        (pss_cons (ps_set (i := 4) scFails.nd rfl (Or.inl rfl) (pe_lst pa_nil))
        (C8.pss_cut (ps_for PassesOwn.never rfl (pi_tup (pe_slice sl_tup (pv 0) (po_some pe_int) po_none)) (pg_name (i := 5) scFails.nd rfl (Or.inl rfl))
          (pss_one (ps_expr (pe_bm PySem.F.plainAttrs_list PySem.F.slot_list_extend PySem.F.type_list_extend mt_extend (pv 4) (pa_cons (pe_call ih hr rfl DT.m DT.k DT.b .nil pass0 (pa_cons (pv 5) (pa_cons (pv 1) (pa_cons (pv 2) pa_nil)))) pa_nil)))))
        (pss_one (ps_ret (pv 4)))))), ?_⟩
      refine ⟨fun σ' H' => σ' = [some (.ref a), some (.str nm), some (.ref e), none, none, none] ∧ Same H H' ∧ nm ∈ readsT t, ?_, ?_⟩
      · refine ⟨_, rfl, _, rfl, a, ws, t, rfl, ht.mono hm4, by decide, fun l H1 s1 _ hl => ⟨l, _, rfl, .inl (SqL.of hl), rfl, flat_strs _, _, rfl, ?_⟩⟩
        show (if (!inV (V.str nm) ((readsT t).map V.str)) = true then _ else _)
        rw [inV_str]
        by_cases c : nm ∈ readsT t
        · rw [decide_eq_true c]
          exact iteF ⟨rfl, s1, c⟩
        · rw [decide_eq_false c]
          rw [fails_no c] at k
          have henv1 : EnvAt H1 kvs env (readsT t) := fun y hy => by
            obtain ⟨b, hb, rb⟩ := henv y hy
            exact ⟨b, hb, rb.same s1⟩
          refine iteT ⟨_, rfl, _, rfl, a, e, ws, t, kvs, env, rfl, (ht.mono hm4).grow fun b xs h => s1 b _ h, s1 _ _ he, henv1, fun b H2 s2 rb => ?_⟩
          have s12 := s1.trans s2
          cases hv : evT env t with
          | val n =>
            rw [hv] at rb k
            refine ⟨_, rfl, b, _, _, _, rfl, rfl, .inl (.inl rb.1), rfl, rfl, _, rfl, ?_⟩
            rw [show decide (V.str "value" = V.str "failed") = false by decide +kernel]
            refine iteF ⟨by show 0 ≤ sizeLine; decide, fun p hp => ?_⟩
            exact k p _ (s12.trans (same_new hp)) (s12.free hp) upd_same
          | bad v =>
            rw [hv] at rb k
            refine ⟨_, rfl, b, _, _, _, rfl, rfl, .inl (.inl rb.1), rfl, rfl, _, rfl, ?_⟩
            rw [show decide (V.str "failed" = V.str "failed") = true from decide_eq_true rfl]
            refine iteT ⟨_, rfl, b, _, _, _, rfl, rfl, .inl (.inl rb.1), rfl, by show 1 ≤ sizeLine; decide, fun p hp => ?_⟩
            exact k p _ (s12.trans (same_new hp)) (s12.free hp) upd_same
      intro σ1 H1 hm1
      obtain ⟨rfl, s1, hin⟩ := hm1
      have hbig : (fails nm env t).length ≤ 16 := Nat.le_trans (fails_len ht) (Nat.pow_le_pow_right (by decide) hm4 : 2 ^ m ≤ 2 ^ 4)
      rcases tree_kids ht with ⟨n, rfl, _⟩ | ⟨y, rfl, ha⟩ | ⟨sg, as, ts, d, ha, rfl, hall, hlen, hn, hsg, hk⟩
      · cases hin
      · have ey : y = nm := (List.mem_singleton.mp hin).symm
        refine ⟨_, rfl, a, _, _, _, rfl, rfl, .inl (.inl (s1 _ _ ha)), rfl, rfl, _, rfl, ?_⟩
        rw [show decide (V.str "name" = V.str "name") = true from decide_eq_true rfl]
        refine iteT ⟨by show 0 ≤ sizeLine; decide, fun p hp => k p _ (s1.trans (same_new hp)) (s1.free hp) ?_⟩
        have : fails nm env (.nam y) = [] := by
          show (if y = nm then [] else _) = _
          rw [if_pos ey]
        rw [this]
        exact upd_same
      · rw [fails_kids hin hk] at k hbig
        have ec : cutV (V.str sg :: as.map V.ref) (some 1) none = as.map V.ref := cut_tail _ _
        refine ⟨_, rfl, a, _, _, V.str sg, rfl, rfl, .inl (.inl (s1 _ _ ha)), atI_nat (j := 0) rfl, rfl, _, rfl, ?_⟩
        rw [str_dec2, hn]
        refine iteF ⟨by show 0 ≤ sizeLine; decide, fun D hD => ?_⟩
        have hD00 : H D = none := s1.free hD
        have s0' : Same H (upd H1 D (.lst [])) := s1.trans (same_new hD)
        have hD0 : upd H1 D (.lst []) D = some (.lst []) := upd_same
        have ne0 : ∀ b o, H b = some o → b ≠ D := fun b o e => ne_of_none e hD00
        generalize upd H1 D (.lst []) = H0 at s0' hD0 ⊢
        refine ⟨fun σ' H' => ∃ o5, σ' = [some (.ref a), some (.str nm), some (.ref e), none, some (.ref D), o5] ∧ H' D = some (.lst (((ts.map (fails nm env)).flatten).map V.str)) ∧ Same H H', ?_, ?_⟩
        · refine ⟨_, rfl, _, rfl, a, _, rfl, .inl (.inl (s0' _ _ ha)), (fun z => by cases z.1), fun q hq => ⟨q, rfl, ⟨_, .inl (.inl upd_same)⟩, ?_⟩⟩
          rw [ec]
          have s2 : Same H0 (upd H0 q (.tup (as.map V.ref))) := same_new hq
          have hq1 : upd H0 q (.tup (as.map V.ref)) q = some (.tup (as.map V.ref)) := upd_same
          have nqD : q ≠ D := fun z => by rw [z, hD0] at hq; cases hq
          generalize upd H0 q (.tup (as.map V.ref)) = H2 at s2 hq1 ⊢
          refine for_tup (xs := as.map V.ref) (fun i σ' H' => ∃ o5, σ' = [some (.ref a), some (.str nm), some (.ref e), none, some (.ref D), o5] ∧ H' D = some (.lst ((((ts.take i).map (fails nm env)).flatten).map V.str)) ∧ ∀ b o, b ≠ D → H2 b = some o → H' b = some o) ⟨none, rfl, s2 _ _ hD0, fun b o _ e => e⟩ (fun i σ' H' _ hh => ?_) (fun i x σ' H' hx hh => ?_) (fun σ' H' hh => ?_)
          · obtain ⟨o5, rfl, h1, h2⟩ := hh
            exact .inl (.inl (h2 _ _ nqD hq1))
          · obtain ⟨o5, rfl, h1, h2⟩ := hh
            have sm : Same H H' := fun b o e => h2 b o (ne0 b o e) (s2 _ _ (s0' _ _ e))
            rw [List.getElem?_map] at hx
            obtain ⟨b, hb2, rfl⟩ : ∃ b, as[i]? = some b ∧ V.ref b = x := by
              cases q : as[i]? with
              | none => rw [q] at hx; cases hx
              | some a => rw [q] at hx; exact ⟨a, rfl, Option.some.inj hx⟩
            obtain ⟨u, hu, tu⟩ := trAll_get hall hb2
            have tk : ((ts.take (i + 1)).map (fails nm env)).flatten = ((ts.take i).map (fails nm env)).flatten ++ fails nm env u := by
              rw [take_tr hu, List.map_append, List.flatten_append]
              simp
            have henv1 : EnvAt H' kvs env (readsT u) := fun y hy => by
              obtain ⟨b, hb, rb⟩ := henv y (kid_reads hk u (List.mem_of_getElem? hu) y hy)
              exact ⟨b, hb, rb.same sm⟩
            refine ⟨_, rfl, .inl ⟨rfl, _, SqL.of h1⟩, _, rfl, _, rfl, _, rfl, b, e, ws, u, kvs, env, nm, rfl, tu.grow fun b xs h => sm b _ h, by omega, sm _ _ he, henv1, fun l H3 s3 hl hl3 => ?_⟩
            refine ⟨D, l, _, _, rfl, rfl, s3 _ _ h1, hl3, ?_, _, rfl, ?_, fun b o nb e => by rw [upd_ne nb]; exact s3 _ _ (h2 b o nb e)⟩
            · have q1 : (((ts.take (i + 1)).map (fails nm env)).flatten).length ≤ ((ts.map (fails nm env)).flatten).length := by
                have e1 : ts.map (fails nm env) = (ts.take (i + 1)).map (fails nm env) ++ (ts.drop (i + 1)).map (fails nm env) := by rw [← List.map_append, List.take_append_drop]
                rw [e1, List.flatten_append, List.length_append]
                omega
              rw [tk, List.length_append] at q1
              rw [List.length_map, List.length_map]
              omega
            · rw [upd_same, tk, List.map_append]
          · obtain ⟨o5, rfl, h1, h2⟩ := hh
            rw [List.length_map, hall.len, List.take_length] at h1
            exact ⟨o5, rfl, h1, fun b o e => h2 b o (ne0 b o e) (s2 _ _ (s0' _ _ e))⟩
        intro σ3 H3 hm3
        obtain ⟨o5, rfl, h1, h2⟩ := hm3
        exact ⟨_, rfl, k D H3 h2 hD00 h1⟩
end
end Toy
end

section
set_option Elab.async false
set_option linter.all false
set_option maxRecDepth 100000
namespace Toy
open PySem PySem.Spec PyProof.Rows L2 Gd Kt
/-! ### _law_told -/
abbrev sTold : Stmt := top 54
structure TldQ (K : PySem.W.Frag) (mg : Str → Option Value) (CN CA CU : Addr) : Prop where
  mN : mg "NotLinear" = some (.ref CN)
  mA : mg "Failed" = some (.ref CA)
  mU : mg "UnknownName" = some (.ref CU)
  nn : PySem.W.exmOne K (.ref CN) (.ref CN) = some true
  an : PySem.W.exmOne K (.ref CA) (.ref CN) = some false
  aa : PySem.W.exmOne K (.ref CA) (.ref CA) = some true
  un : PySem.W.exmOne K (.ref CU) (.ref CN) = some false
  ua : PySem.W.exmOne K (.ref CU) (.ref CA) = some false
  uu : PySem.W.exmOne K (.ref CU) (.ref CU) = some true
  xN : XfC K CN
  xA : XfC K CA
  xU : XfC K CU
  vN : PySem.W.findIn K (.ref CN) kn = some none
  vA : PySem.W.findIn K (.ref CA) kw = some none
  vU : PySem.W.findIn K (.ref CU) kn = some none
  eN : ExcC K CN
  eA : ExcC K CA
  eU : ExcC K CU
  kN : PySem.W.kitOne K (.ref CN) (.type "ValueError") = some true
  kA : PySem.W.kitOne K (.ref CA) (.type "ArithmeticError") = some true
  kU : PySem.W.kitOne K (.ref CU) (.type "KeyError") = some true
  ve : mg "ValueError" = none
  ae : mg "ArithmeticError" = none
  ke : mg "KeyError" = none
def ToldR (H : Hp) (Q : VK) (k x : Str) : Prop := ∀ l H', Same H H' → H' l = some (.lst [.str k, .str x, .bl true]) → Q (.ref l) H'
def ToldS (H : Hp) (Q : VK) : SlE → Prop
  | .ok [p] => ∀ b H', Same H H' → H' b = some (.tup [.int p.s, .int p.r]) → Q (.ref b) H'
  | .bad w => ToldR H Q "failed" w
  | _ => False
def spTold (C : Addr) : Sp := fun vs H Q _ => ∃ (p aR : Addr) (x nm : Str) (cs : List Ins) (kvs : List (Key × V)) (ks : List Str), vs = [.ref p, .str nm, .ref aR] ∧ FmO H p C x cs ∧ (pars cs).length < 64 ∧ cs.length ≤ 1000 ∧ H aR = some (.dK kvs) ∧
  kvs.map (·.1) = ks.map Sum.inr ∧ ks.length ≤ 100 ∧ match lackW (nm :: ks) (pars cs) with
  | y :: _ => ToldR H Q "unknown" y
  | [] => ∃ r, dexec nm cs [] = some [r] ∧ (r = dO → ToldR H Q "bent" nm) ∧ (¬ r = dO → ∃ (env : Str → Rs) (res : SlE), (∀ y ∈ pars cs, ¬ y = nm → ∃ b, valV kvs (Sum.inr y : Key) = some (.ref b) ∧ RsAt H b (env y)) ∧ sexec nm env cs [] = some res ∧ ToldS H Q res)
/-- one of the three leaves -/
def OneT (C : Addr) (g k : Str) (H0 : Hp) (Q : VK) : XK := fun cls d H => cls = .ref C ∧ Same H0 H ∧ ∃ dd v, d = some dd ∧ H dd = some (.xd [(g, .str v)]) ∧ ToldR H0 Q k v
def EchT (CN CA CU : Addr) (H0 : Hp) (Q : VK) : XK := fun cls d H => OneT CN kn "bent" H0 Q cls d H ∨ OneT CA kw "failed" H0 Q cls d H ∨ OneT CU kn "unknown" H0 Q cls d H
theorem rzE_one {C : Addr} {g k v : Str} {H0 : Hp} {Q : VK} {E : XK} (h : ToldR H0 Q k v) (i : ∀ cls d H, OneT C g k H0 Q cls d H → E cls d H) : RzE g H0 E C (.str v) := fun d H' _ s e => i _ _ _ ⟨rfl, s, d, v, rfl, e, h⟩
abbrev NTl : List Str := ["_law_formula_here", "_law_word", "_law_results_here", "_law_caught", "e"]
abbrev psTl : List Str := ["_law_formula_here", "_law_word", "_law_results_here"]
theorem scTold : FnScope NTl psTl (defScope sTold) := ⟨rfl, rfl, rfl, by decide +kernel, rfl, by decide +kernel, by decide +kernel⟩
section
variable {P : Program} {w : World} {K : PySem.W.Frag} {mg : Str → Option Value} {base : Heap} {f C CU CN CA fV : Addr} {fd fdV : FuncData}
theorem ok_told (F : Fun K "_law_told" "_law_told" sTold f fd) (T : TxtF K mg) (R : TldQ K mg CN CA CU) (FT : FmT K C) (MV : Meth K C "linear" fV) (BV : Binds K fdV ["self", "name", "results"] [])
    (GV : FnOk P w K mg base (L2.CX P w) 6 fV fdV ["self", "name", "results"] (spLin C CU CN CA)) : FnOk P w K mg base CX0 8 f fd psTl (spTold C) := by
  refine F.ok scTold (fun vs H Q E h => ?_) (fun cdv A outer s H vs Q E hr h => ?_)
  · obtain ⟨p, aR, x, nm, cs, kvs, ks, rfl, _⟩ := h
    rfl
  · obtain ⟨p, aR, x, nm, cs, kvs, ks, rfl, fm, few, hcl, haR, hks, hkl, k⟩ := h
    have hr6 : Room 6 _ := hr.mono (by decide)
    obtain ⟨dx, fs, tc, tr, tn, as, ys, hp, _, _, _, _, _, _, _, _, _, _, hkG⟩ := id fm
    refine ⟨_, pss_cons (ps_set (i := 3) scTold.nd rfl (Or.inl rfl) pe_non)
      (pss_cons (ps_try_each (X := (cxOf CX0 P w K mg base NTl "_law_told" (defScope sTold) f cdv A outer s H E).nox) (Wout := fun _ _ _ _ => False)
          (tb := fun W D σ H1 => ∃ Ech : XK, (∀ cls d σ' H', Ech cls d H' → σ'.length = 5 → W cls d σ' H') ∧ tMeth C "linear" (spLin C CU CN CA) [] Ech (tVar 0) (tCons (tVar 1) (tCons (tVar 2) tNil)) σ H1 (fun v H2 => D.rt v H2))
          rfl rfl scTold.nd (fun u s' x => by obtain ⟨a, B, sI, pins, σ, H, cls, d, e, I, nb, up, sky, na, os, ag, w⟩ := x; exact w.elim) (fun W pn xe tk _ => ?_)
          (Clauses.cons (c := .ref CN) (i := 4) ⟨by rfl, by decide, .inl R.mN⟩ rfl rfl (fun a oe kls d pn hz hf =>
              pss_one (ps_set (i := 3) scTold.nd rfl (Or.inl rfl) (pe_lst (pa_cons pe_str (pa_cons (pe_xf R.xN R.vN hz hf (pv 4)) (pa_cons (pe_callB (call_isX R.eN hz hf) (by rfl) T.isi (by decide +kernel) (pa_cons (pv 4) (pa_cons (pe_bltn (by rfl) R.ve (by decide +kernel) (v := .ty "ValueError") rfl) pa_nil))) pa_nil))))))
          (Clauses.cons (c := .ref CA) (i := 4) ⟨by rfl, by decide, .inl R.mA⟩ rfl rfl (fun a oe kls d pn hz hf =>
              pss_one (ps_set (i := 3) scTold.nd rfl (Or.inl rfl) (pe_lst (pa_cons pe_str (pa_cons (pe_xf R.xA R.vA hz hf (pv 4)) (pa_cons (pe_callB (call_isX R.eA hz hf) (by rfl) T.isi (by decide +kernel) (pa_cons (pv 4) (pa_cons (pe_bltn (by rfl) R.ae (by decide +kernel) (v := .ty "ArithmeticError") rfl) pa_nil))) pa_nil))))))
          (Clauses.cons (c := .ref CU) (i := 4) ⟨by rfl, by decide, .inl R.mU⟩ rfl rfl (fun a oe kls d pn hz hf =>
              pss_one (ps_set (i := 3) scTold.nd rfl (Or.inl rfl) (pe_lst (pa_cons pe_str (pa_cons (pe_xf R.xU R.vU hz hf (pv 4)) (pa_cons (pe_callB (call_isX R.eU hz hf) (by rfl) T.isi (by decide +kernel) (pa_cons (pv 4) (pa_cons (pe_bltn (by rfl) R.ke (by decide +kernel) (v := .ty "KeyError") rfl) pa_nil))) pa_nil))))))
          .nil))))
      (pss_one (ps_ret (pv 3)))), ?_⟩
    · constructor
      intro pins s1 σ1 G1 D I1 hh
      obtain ⟨Ech, hE, ht⟩ := hh
      exact (pss_one (ps_ret (pe_meth (pv 0) FT.cl MV GV hr6 BV .nil (passes_call (E := Ech) (takes_len tk) (fun cls d σ' H' h hl => hE cls d σ' H' h hl)) (pa_cons (pv 1) (pa_cons (pv 2) pa_nil))))).run pins s1 σ1 G1 D I1 ht
    · refine ⟨EchT CN CA CU H Q, fun cls d σ' H' hx hl => ?_, ?_⟩
      · match σ', hl with
        | [u0, u1, u2, u3, u4], _ =>
          rcases hx with ⟨rfl, s1, dd, v, rfl, hd, hq⟩ | ⟨rfl, s1, dd, v, rfl, hd, hq⟩ | ⟨rfl, s1, dd, v, rfl, hd, hq⟩
          · refine ⟨true, R.nn, fun _ a na => ?_, (by intro q; cases q)⟩
            refine ⟨.ref a, rfl, rfl, rfl, dd, _, .str v, rfl, hd, rfl, .ref a, rfl, rfl, fun d0 e => ?_, .ty "ValueError", .type "ValueError", true, rfl, fun u r => r, R.kN, by show (3:Nat) ≤ sizeLine; decide, fun p hp => ?_⟩
            · cases e
              exact ⟨_, hd⟩
            · exact ⟨_, rfl, hq p _ (s1.trans (same_new hp)) upd_same⟩
          · refine ⟨false, R.an, (by intro q; cases q), fun _ => ⟨true, R.aa, fun _ a na => ?_, (by intro q; cases q)⟩⟩
            refine ⟨.ref a, rfl, rfl, rfl, dd, _, .str v, rfl, hd, rfl, .ref a, rfl, rfl, fun d0 e => ?_, .ty "ArithmeticError", .type "ArithmeticError", true, rfl, fun u r => r, R.kA, by show (3:Nat) ≤ sizeLine; decide, fun p hp => ?_⟩
            · cases e
              exact ⟨_, hd⟩
            · exact ⟨_, rfl, hq p _ (s1.trans (same_new hp)) upd_same⟩
          · refine ⟨false, R.un, (by intro q; cases q), fun _ => ⟨false, R.ua, (by intro q; cases q), fun _ => ⟨true, R.uu, fun _ a na => ?_, (by intro q; cases q)⟩⟩⟩
            refine ⟨.ref a, rfl, rfl, rfl, dd, _, .str v, rfl, hd, rfl, .ref a, rfl, rfl, fun d0 e => ?_, .ty "KeyError", .type "KeyError", true, rfl, fun u r => r, R.kU, by show (3:Nat) ≤ sizeLine; decide, fun p hp => ?_⟩
            · cases e
              exact ⟨_, hd⟩
            · exact ⟨_, rfl, hq p _ (s1.trans (same_new hp)) upd_same⟩
      · refine ⟨_, rfl, p, dx, fs, rfl, hp, hkG _ (by decide +kernel) (by decide +kernel) (by decide +kernel) (by decide +kernel), _, rfl, _, rfl, p, aR, x, nm, cs, kvs, ks, rfl, fm, few, hcl, haR, hks, hkl, ?_⟩
        cases hlk : lackW (nm :: ks) (pars cs) with
        | cons y r =>
          rw [hlk] at k
          exact rzE_one k fun _ _ _ h => .inr (.inr h)
        | nil =>
          rw [hlk] at k
          obtain ⟨r, hd, kO, kS⟩ := k
          refine ⟨r, hd, fun c => rzE_one (kO c) fun _ _ _ h => .inl h, fun c => ?_⟩
          obtain ⟨env, res, henv, hex, kk⟩ := kS c
          refine ⟨env, res, henv, hex, ?_⟩
          match res, kk with
          | .ok [p], kk => exact kk
          | .bad v, kk => exact rzE_one kk fun _ _ _ h => .inr (.inl h)
end
end Toy
end

section
set_option Elab.async false
set_option linter.all false
set_option maxRecDepth 100000
namespace Toy
open PySem PySem.Spec PyProof.Rows L2 Gd Kt
/-! ### _law_values -/
abbrev sVals : Stmt := top 55
def nv : Rs → Option V
  | .val n => some (.int n)
  | .bad _ => none
def valP (env : Str → Rs) (ks : List Str) : List (Key × V) := ks.filterMap fun y => (nv (env y)).map fun v => ((Sum.inr y : Key), v)
theorem valP_snoc (env : Str → Rs) (ks : List Str) (y : Str) : valP env (ks ++ [y]) = valP env ks ++ (match nv (env y) with
    | some v => [((Sum.inr y : Key), v)]
    | none => []) := by
  unfold valP
  rw [List.filterMap_append]
  congr 1
  cases h : nv (env y) <;> simp [h]
theorem valV_valP (env : Str → Rs) : ∀ (ks : List Str) (acc : List (Key × V)) (z : Str), valV (mergeK acc (valP env ks)) (Sum.inr z : Key) = if z ∈ ks then (match nv (env z) with
    | some v => some v
    | none => valV acc (Sum.inr z)) else valV acc (Sum.inr z)
  | [], acc, z => by simp [valP, mergeK]
  | y :: ks, acc, z => by
    cases h : nv (env y) with
    | none =>
      have e : valP env (y :: ks) = valP env ks := by
        unfold valP
        rw [List.filterMap_cons, h]
        rfl
      rw [e, valV_valP env ks]
      by_cases c : z ∈ ks
      · rw [if_pos c, if_pos (List.mem_cons_of_mem _ c)]
      · rw [if_neg c]
        by_cases d : z = y
        · rw [if_pos (by rw [d]; exact List.mem_cons_self ..), d, h]
        · rw [if_neg (fun q => (List.mem_cons.mp q).elim d c)]
    | some v =>
      have e : valP env (y :: ks) = ((Sum.inr y : Key), v) :: valP env ks := by
        unfold valP
        rw [List.filterMap_cons, h]
        rfl
      rw [e]
      show valV (mergeK (putK acc (Sum.inr y : Key) v) (valP env ks)) (Sum.inr z) = _
      rw [valV_valP env ks, valV_put]
      by_cases d : z = y
      · rw [if_pos (show (Sum.inr z : Key) = Sum.inr y by rw [d]), if_pos (show z ∈ y :: ks by rw [d]; exact List.mem_cons_self ..), d, h]
        by_cases c : y ∈ ks
        · rw [if_pos c]
        · rw [if_neg c]
      · rw [if_neg (fun q => d (Sum.inr.inj q))]
        by_cases c : z ∈ ks
        · rw [if_pos c, if_pos (List.mem_cons_of_mem _ c)]
        · rw [if_neg c, if_neg (fun q => (List.mem_cons.mp q).elim d c)]
theorem key_in {kvs : List (Key × V)} {k : Key} {v : V} (h : valV kvs k = some v) : k ∈ kvs.map (·.1) := by
  induction kvs with
  | nil => cases h
  | cons q kvs ih =>
    by_cases c : q.1 = k
    · rw [List.map_cons, c]
      exact List.mem_cons_self ..
    · rw [valV_neg c] at h
      exact List.mem_cons_of_mem _ (ih h)
/-- the keys of a dict of results are texts -/
theorem res_keys {H : Hp} {D : Addr} {kvs : List (Key × V)} {ws : List Str} {env : Str → Rs} (R : ResD H D kvs ws env) : ∃ ks : List Str, kvs.map (·.1) = ks.map Sum.inr ∧ (∀ y ∈ ks, y ∈ ws) ∧ (∀ y ∈ ws, y ∈ ks) ∧ ks.length = kvs.length := by
  have key : ∀ l : List (Key × V), (∀ q ∈ l, ∃ (y : Str) (b : Addr) (r : Rs), y ∈ ws ∧ q = ((Sum.inr y : Key), V.ref b) ∧ RsAt H b r) → ∃ ks : List Str, l.map (·.1) = ks.map Sum.inr ∧ (∀ y ∈ ks, y ∈ ws) ∧ ks.length = l.length := by
    intro l
    induction l with
    | nil => exact fun _ => ⟨[], rfl, (fun y hy => by cases hy), rfl⟩
    | cons q l ih =>
      intro h
      obtain ⟨y, b, r, hy, rfl, _⟩ := h q (List.mem_cons_self ..)
      obtain ⟨ks, e, hk, hl⟩ := ih fun q hq => h q (List.mem_cons_of_mem _ hq)
      refine ⟨y :: ks, by rw [List.map_cons, List.map_cons, e], fun z hz => ?_, by simp [hl]⟩
      rcases List.mem_cons.mp hz with rfl | hz
      · exact hy
      · exact hk z hz
  obtain ⟨ks, e, hk, hl⟩ := key kvs R.ent
  refine ⟨ks, e, hk, fun y hy => ?_, hl⟩
  obtain ⟨b, hb, _⟩ := R.all y hy
  have := key_in hb
  rw [e] at this
  obtain ⟨z, hz, ez⟩ := List.mem_map.mp this
  rw [← Sum.inr.inj ez]
  exact hz
def spVals : Sp := fun vs H Q _ => ∃ (e : Addr) (kvs : List (Key × V)) (env : Str → Rs) (ws : List Str) (nm : Str) (v : Int), vs = [.ref e, .str nm, .int v] ∧ ResD H e kvs ws env ∧ ws.length ≤ 26 ∧
  ∀ (D : Addr) (kvs' : List (Key × V)) (H' : Hp), Same H H' → H' D = some (.dK kvs') → (∀ y ∈ ws, valV kvs' (Sum.inr y : Key) = if y = nm then some (.int v) else nv (env y)) → Q (.ref D) H'
abbrev NVs : List Str := ["_law_results_here", "_law_word", "_law_value", "_law_found", "_law_other"]
abbrev psVs : List Str := ["_law_results_here", "_law_word", "_law_value"]
theorem scVals : FnScope NVs psVs (defScope sVals) := ⟨rfl, rfl, rfl, by decide +kernel, rfl, by decide +kernel, by decide +kernel⟩
theorem paired_snoc {α β : Type} {F : α → β → Prop} {a : α} {b : β} : ∀ {l1 : List α} {l2 : List β}, Paired F l1 l2 → F a b → Paired F (l1 ++ [a]) (l2 ++ [b])
  | [], [], .nil, h => .cons h .nil
  | _ :: _, _ :: _, .cons g t, h => .cons g (paired_snoc t h)
structure TxtD2 (K : PySem.W.Frag) (mg : Str → Option Value) : Prop where
  dict : mg "dict" = none
section
variable {P : Program} {w : World} {K : PySem.W.Frag} {mg : Str → Option Value} {base : Heap} {f : Addr} {fd : FuncData}
set_option maxHeartbeats 1000000 in
theorem ok_vals (F : Fun K "_law_values" "_law_values" sVals f fd) (T : TxtD2 K mg) : FnOk P w K mg base CX0 1 f fd psVs spVals := by
  refine F.ok scVals (fun vs H Q E h => ?_) (fun cdv A outer s H vs Q E hr h => ?_)
  · obtain ⟨e, kvs, env, ws, nm, v, rfl, _⟩ := h
    rfl
  · obtain ⟨e, kvs, env, ws, nm, v, rfl, R, hln, k⟩ := h
    have hu := hu_of hr
    have sz : sizeLine = 16777216 := by decide
    obtain ⟨ks, ek, hk1, hk2, hkl⟩ := res_keys R
    have kl : kvs.length ≤ 26 := Nat.le_trans R.few hln
    refine ⟨_, C8.pss_cut (ps_set (i := 3) scVals.nd rfl (Or.inl rfl) (pe_callTy (call_dictP rfl) (by rfl) T.dict (by decide +kernel) (pa_cons (pe_lock (pe_lc (own := [("_law_other", 4)]) (g := gName 4) rfl scVals.nd (pi_keys (pv 0)) (blkOk_by (own := [("_law_other", 4)]) (N := NVs) (sc := defScope sVals) (by decide +kernel))
          (fun _ _ _ _ _ => pg_name (i := 4) scVals.nd rfl (Or.inl rfl)) (fun _ _ _ _ _ => pts_one (pt_cmpR op_eq (pe_ix (r := L2.rIxT K) ix_tup (pe_dget hu (pv 0) (pv 4) (fun _ _ => rfl)) pe_int (fun _ _ => rfl)) pe_str (nomark _)))
          (fun _ _ _ _ _ => pe_tup (pa_cons (pv 4) (pa_cons (pe_ix (r := L2.rIxT K) ix_tup (pe_dget hu (pv 0) (pv 4) (fun _ _ => rfl)) pe_int (fun _ _ => rfl)) pa_nil))))) pa_nil)))
      (pss_cons (ps_dput hu (pv 3) (pv 1) (pv 2) rfl)
      (pss_one (ps_ret (pv 3)))), ?_⟩
    refine ⟨fun σ' H' => ∃ D, σ' = [some (.ref e), some (.str nm), some (.int v), some (.ref D), none] ∧ H' D = some (.dK (mergeK [] (valP env ks))) ∧ H D = none ∧ Same H H', ?_, ?_⟩
    · refine ⟨e, .dK kvs, R.at_, trivial, fun od => ⟨_, rfl, e, od, rfl, .inl ⟨kvs, upd_same, fun L hL => ?_⟩⟩⟩
      have neL : e ≠ L := fun z => by rw [← z, upd_same] at hL; cases hL
      have hL0 : H L = none := by rw [upd_ne (Ne.symm neL)] at hL; exact hL
      refine lc_it (walk_keys (d := e) (o := od) (kvs := kvs)) (fun i H' => ∃ qs : List Addr, H' L = some (.lst (qs.map V.ref)) ∧ qs.length ≤ i ∧ Paired (fun (u : Addr) (kv : Key × V) => H' u = some (.tup [kV kv.1, kv.2])) qs (valP env (ks.take i)) ∧ H' e = some (.frz od (.dK kvs)) ∧ ∀ b o, b ≠ L → b ≠ e → H b = some o → H' b = some o) ?_ (fun i H' _ hP => ?_) (fun i x H' H2 hi hP hy => ?_) (fun H' hP => ?_)
      · exact ⟨[], upd_same, Nat.le_refl _, .nil, by rw [upd_ne neL, upd_same], fun b o n1 n2 h => by rw [upd_ne n1, upd_ne n2]; exact h⟩
      · obtain ⟨qs, h1, h2, h3, h4, h5⟩ := hP
        exact h4
      · obtain ⟨qs, h1, h2, h3, h4, h5⟩ := hP
        obtain ⟨rfl, kk, vv, hkv, rfl⟩ := hy
        obtain ⟨y, hyk, rfl⟩ : ∃ y, ks[i]? = some y ∧ kk = Sum.inr y := by
          have e1 : (kvs.map (·.1))[i]? = some kk := by rw [List.getElem?_map, hkv]; rfl
          rw [ek, List.getElem?_map] at e1
          cases q : ks[i]? with
          | none => rw [q] at e1; cases e1
          | some y => rw [q] at e1; exact ⟨y, rfl, (Option.some.inj e1).symm⟩
        obtain ⟨b, hb, rb⟩ := R.all y (hk1 y (List.mem_of_getElem? hyk))
        have dg : ∀ {H3 : Hp}, H3 e = some (.frz od (.dK kvs)) → DGet H3 e (.str y) (some (.ref b)) := fun h => .inl ⟨kvs, Sum.inr y, .inr ⟨od, h⟩, rfl, hb.symm⟩
        have et : ks.take (i + 1) = ks.take i ++ [y] := by rw [List.take_succ, hyk]; rfl
        have rb' : RsAt H2 b (env y) := by
          cases hz : env y with
          | val n =>
            rw [hz] at rb
            exact ⟨h5 b _ (ne_of_none rb.1 hL0) (fun z => by have q := rb.1; rw [z, R.at_] at q; cases q) rb.1, rb.2⟩
          | bad u =>
            rw [hz] at rb
            exact ⟨h5 b _ (ne_of_none rb.1 hL0) (fun z => by have q := rb.1; rw [z, R.at_] at q; cases q) rb.1, rb.2⟩
        rw [et, valP_snoc]
        cases hz : env y with
        | val n =>
          rw [hz] at rb'
          refine ⟨rfl, _, rfl, _, rfl, e, _, rfl, dg h4, b, _, _, _, rfl, rfl, .inl (.inl rb'.1), rfl, rfl, _, rfl, ?_⟩
          rw [show decide (V.str "value" = V.str "value") = true from decide_eq_true rfl]
          refine iteT ⟨_, rfl, _, rfl, _, rfl, e, _, rfl, dg h4, b, _, _, _, rfl, rfl, .inl (.inl rb'.1), rfl, by show 2 ≤ sizeLine; decide, fun u hu => ?_⟩
          have su := same_new (o := .tup [.str y, .int n]) hu
          have h1' := su _ _ h1
          have nu : u ≠ L := fun z => by rw [z, h1] at hu; cases hu
          have su2 : ∀ b' xs, H2 b' = some (.tup xs) → (upd (upd H2 u (.tup [.str y, .int n])) L (.lst (qs.map V.ref ++ [.ref u]))) b' = some (.tup xs) := fun b' xs h => by
            rw [upd_ne (fun z => by rw [z, h1] at h; cases h)]
            exact su _ _ h
          refine ⟨_, h1', by rw [List.length_map]; omega, qs ++ [u], by rw [upd_same, List.map_append]; rfl, by rw [List.length_append, List.length_singleton]; omega, ?_, by rw [upd_ne neL]; exact su _ _ h4, fun b' o n1 n2 h => by rw [upd_ne n1]; exact su _ _ (h5 b' o n1 n2 h)⟩
          exact paired_snoc (L2.Paired.mapP h3 (fun u' kv hh => su2 _ _ hh)) (by show _ = some (HO.tup [V.str y, V.int n]); rw [upd_ne nu, upd_same]; rfl)
        | bad u =>
          rw [hz] at rb'
          refine ⟨rfl, _, rfl, _, rfl, e, _, rfl, dg h4, b, _, _, _, rfl, rfl, .inl (.inl rb'.1), rfl, rfl, _, rfl, ?_⟩
          rw [show decide (V.str "failed" = V.str "value") = false by decide +kernel]
          refine iteF ⟨qs, h1, by omega, ?_, h4, h5⟩
          show Paired _ qs (valP env (ks.take i) ++ [])
          rw [List.append_nil]
          exact h3
      · obtain ⟨qs, h1, h2, h3, h4, h5⟩ := hP
        rw [← hkl, List.take_length] at h3
        refine ⟨h4, ?_⟩
        have nLe : L ≠ e := Ne.symm neL
        have h1' : upd H' e (.dK kvs) L = some (.lst (qs.map V.ref)) := by rw [upd_ne nLe]; exact h1
        have s1 : Same H (upd H' e (.dK kvs)) := fun b o h => by
          by_cases c : b = e
          · rw [c, upd_same, ← R.at_, ← c]
            exact h
          · rw [upd_ne c]
            exact h5 b o (ne_of_none h hL0) c h
        refine ⟨L, qs, valP env ks, rfl, SqL.of h1', L2.Paired.mapP h3 (fun u kv hh => SqT.of (by rw [upd_ne (fun z => by rw [z, h4] at hh; cases hh)]; exact hh)), fun dd hdd => ?_⟩
        exact ⟨dd, rfl, upd_same, s1.free hdd, s1.trans (same_new hdd)⟩
    intro σ1 H1 hm
    obtain ⟨D, rfl, hD, hDn, s1⟩ := hm
    refine ⟨_, rfl, _, rfl, _, rfl, D, _, rfl, DPut.k (k := (Sum.inr nm : Key)) hD ?_, _, rfl, ?_⟩
    · have := L2.length_mergeK (valP env ks) []
      have l2 : (valP env ks).length ≤ ks.length := List.length_filterMap_le ..
      simp only [List.length_nil] at this
      omega
    · refine k D _ _ (fun b o h => ?_) upd_same fun y hy => ?_
      · rw [upd_ne (ne_of_none h hDn)]
        exact s1 _ _ h
      · rw [valV_put, valV_valP]
        by_cases c : y = nm
        · rw [if_pos c, if_pos (by rw [c])]
        · rw [if_neg c, if_neg (fun q => c (Sum.inr.inj q)), if_pos (hk2 y hy)]
          cases nv (env y) <;> rfl
end
end Toy
end

section
set_option Elab.async false
set_option linter.all false
set_option maxRecDepth 100000
namespace Toy
open PySem PySem.Spec PyProof.Rows L2 Gd Kt
/-! ### trees: how they depend, their slopes, their failures -/
def Tri (nm : Str) (t : Tr) : Prop := (readB nm t = false ∧ depT nm t = dF ∧ isLine nm t = true) ∨ (readB nm t = true ∧ depT nm t = dL ∧ isLine nm t = true) ∨ (readB nm t = true ∧ depT nm t = dO ∧ isLine nm t = false)
theorem readB_bin (nm s : Str) (a b : Tr) : readB nm (.bin s a b) = (readB nm a || readB nm b) := by
  unfold readB
  show decide (nm ∈ readsT a ++ readsT b) = _
  rw [Bool.eq_iff_iff]
  simp
theorem isLine_bin (nm s : Str) (a b : Tr) : isLine nm (.bin s a b) = (!(readB nm a || readB nm b) || (!inV (.str s) bent3 && (isLine nm a && isLine nm b) && (!decide (s = "*") || (!readB nm a || !readB nm b)))) := rfl
theorem tri (nm : Str) : ∀ t : Tr, t.ok → Tri nm t
  | .num n, _ => .inl ⟨rfl, rfl, rfl⟩
  | .nam y, _ => by
    by_cases c : y = nm
    · exact .inr (.inl ⟨by rw [c]; exact decide_eq_true (List.mem_singleton_self _), by show (if y = nm then dL else dF) = dL; rw [if_pos c], rfl⟩)
    · exact .inl ⟨decide_eq_false (fun h => c (List.mem_singleton.mp h).symm), by show (if y = nm then dL else dF) = dF; rw [if_neg c], rfl⟩
  | .neg t, h => by
    have e1 : readB nm (.neg t) = readB nm t := rfl
    have e2 : depT nm (.neg t) = depT nm t := rfl
    have e3 : isLine nm (.neg t) = (!readB nm t || isLine nm t) := rfl
    unfold Tri
    rw [e1, e2, e3]
    rcases tri nm t h with ⟨h1, h2, h3⟩ | ⟨h1, h2, h3⟩ | ⟨h1, h2, h3⟩
    · exact .inl ⟨h1, h2, by rw [h1]; rfl⟩
    · exact .inr (.inl ⟨h1, h2, by rw [h1, h3]; rfl⟩)
    · exact .inr (.inr ⟨h1, h2, by rw [h1, h3]; rfl⟩)
  | .bin s a b, h => by
    obtain ⟨hs, ha, hb⟩ := h
    have e2 : depT nm (.bin s a b) = depB s (depT nm a) (depT nm b) := rfl
    unfold Tri
    rw [readB_bin, e2, isLine_bin]
    have hs' := hs
    simp only [signs, List.mem_cons, List.not_mem_nil, or_false] at hs'
    rcases tri nm a ha with ⟨a1, a2, a3⟩ | ⟨a1, a2, a3⟩ | ⟨a1, a2, a3⟩ <;> rcases tri nm b hb with ⟨b1, b2, b3⟩ | ⟨b1, b2, b3⟩ | ⟨b1, b2, b3⟩ <;> rw [a1, a2, a3, b1, b2, b3] <;> rcases hs' with rfl | rfl | rfl | rfl | rfl | rfl <;> decide +kernel
/-! free parts -/
theorem neg_free (r : Rs) : negL (freeR r) = freeR (negR r) := by
  cases r <;> rfl
theorem sl_free (nm : Str) (env : Str → Rs) : ∀ t : Tr, t.ok → readB nm t = false → slT nm env t = some (freeR (evT env t))
  | .num n, _, _ => rfl
  | .nam y, _, h => by
    have c : ¬ y = nm := fun e => by
      have := of_decide_eq_false h
      exact this (by rw [e]; exact List.mem_singleton_self _)
    show some (if y = nm then _ else _) = _
    rw [if_neg c]
    rfl
  | .neg t, hk, h => by
    have ih := sl_free nm env t hk h
    show (slT nm env t).map negL = _
    rw [ih]
    show some (negL (freeR (evT env t))) = some (freeR (negR (evT env t)))
    rw [neg_free]
  | .bin s a b, hk, h => by
    rw [readB_bin, Bool.or_eq_false_iff] at h
    have iha := sl_free nm env a hk.2.1 h.1
    have ihb := sl_free nm env b hk.2.2 h.2
    show (match slT nm env a with
      | none => none
      | some (.bad w) => some (.bad w)
      | some (.ok l) => match slT nm env b with
        | none => none
        | some (.bad w) => some (.bad w)
        | some (.ok r) => cbP s l r) = some (freeR (comb s (evT env a) (evT env b)))
    rw [iha, ihb]
    cases evT env a with
    | bad w => rfl
    | val x =>
      cases evT env b with
      | bad w => rfl
      | val y =>
        show cbP s ⟨false, 0, x⟩ ⟨false, 0, y⟩ = _
        unfold cbP
        rw [if_pos ⟨rfl, rfl⟩]
def Good (nm : Str) (env : Str → Rs) (vals : Str → Int) (t : Tr) : Prop := ∀ y ∈ readsT t, ¬ y = nm → ∀ m, env y = .val m → vals y = m
theorem ex_free (nm : Str) (env : Str → Rs) (vals : Str → Int) : ∀ (t : Tr) (n : Int), t.ok → readB nm t = false → Good nm env vals t → evT env t = .val n → exT vals t = n
  | .num k, n, _, _, _, h => by
    have h : lim (k : Int) = .val n := h
    unfold lim at h
    split at h
    · injection h
    · cases h
  | .nam y, n, _, hr, hg, h => by
    have c : ¬ y = nm := fun e => by
      have := of_decide_eq_false hr
      exact this (by rw [e]; exact List.mem_singleton_self _)
    exact hg y (List.mem_singleton_self _) c n h
  | .neg t, n, hk, hr, hg, h => by
    have h : negR (evT env t) = .val n := h
    cases ht : evT env t with
    | bad w => rw [ht] at h; cases h
    | val m =>
      rw [ht] at h
      have h : Rs.val (-m) = .val n := h
      injection h with h
      have := ex_free nm env vals t m hk hr hg ht
      show (0 : Int) - exT vals t = n
      rw [this]
      omega
  | .bin s a b, n, hk, hr, hg, h => by
    rw [readB_bin, Bool.or_eq_false_iff] at hr
    have h : comb s (evT env a) (evT env b) = .val n := h
    cases ha : evT env a with
    | bad w => rw [ha] at h; cases h
    | val x =>
      cases hb : evT env b with
      | bad w => rw [ha, hb] at h; cases h
      | val y =>
        rw [ha, hb, comb_exv hk.1] at h
        have e1 := ex_free nm env vals a x hk.2.1 hr.1 (fun z hz => hg z (List.mem_append_left _ hz)) ha
        have e2 := ex_free nm env vals b y hk.2.2 hr.2 (fun z hz => hg z (List.mem_append_right _ hz)) hb
        show exv s (exT vals a) (exT vals b) = n
        rw [e1, e2]
        split at h
        · cases h
        · unfold lim at h
          split at h
          · injection h
          · cases h
/-- a line: its slope and rest, or its first failure -/
def Side (nm : Str) (env : Str → Rs) (t : Tr) : Prop := (fails nm env t = [] ∧ ∃ p, slT nm env t = some (.ok p) ∧ p.d = readB nm t ∧ (p.d = false → p.s = 0) ∧ ∀ vals, Good nm env vals t → exT vals t = p.s * vals nm + p.r) ∨
  (∃ w ws, fails nm env t = w :: ws ∧ slT nm env t = some (.bad w))
theorem side_free (nm : Str) (env : Str → Rs) (t : Tr) (hk : t.ok) (h : readB nm t = false) : Side nm env t := by
  have hn : ¬ nm ∈ readsT t := of_decide_eq_false h
  have e1 := fails_no (env := env) hn
  have e2 := sl_free nm env t hk h
  cases hv : evT env t with
  | bad w =>
    rw [hv] at e1 e2
    exact .inr ⟨w, [], e1, e2⟩
  | val n =>
    rw [hv] at e1 e2
    refine .inl ⟨e1, _, e2, h.symm, fun _ => rfl, fun vals hg => ?_⟩
    rw [ex_free nm env vals t n hk h hg hv]
    show n = 0 * vals nm + n
    omega
theorem side (nm : Str) (env : Str → Rs) : ∀ t : Tr, t.ok → isLine nm t = true → Side nm env t
  | .num n, hk, _ => side_free nm env (.num n) hk rfl
  | .nam y, hk, _ => by
    by_cases c : y = nm
    · refine .inl ⟨by show (if y = nm then [] else _) = []; rw [if_pos c], ⟨true, 1, 0⟩, by show some (if y = nm then _ else _) = _; rw [if_pos c], ?_, (fun z => by cases z), fun vals _ => ?_⟩
      · rw [c]
        exact (decide_eq_true (List.mem_singleton_self _)).symm
      · show vals y = 1 * vals nm + 0
        rw [c]
        omega
    · exact side_free nm env (.nam y) hk (decide_eq_false (fun h => c (List.mem_singleton.mp h).symm))
  | .neg t, hk, hl => by
    cases hr : readB nm t with
    | false => exact side_free nm env (.neg t) hk hr
    | true =>
      have hl' : isLine nm t = true := by
        have e3 : isLine nm (.neg t) = (!readB nm t || isLine nm t) := rfl
        rw [e3, hr] at hl
        exact hl
      have ef : fails nm env (.neg t) = fails nm env t := by
        show (if readB nm t = true then _ else _) = _
        rw [hr, if_pos rfl]
      have es : slT nm env (.neg t) = (slT nm env t).map negL := rfl
      rcases side nm env t hk hl' with ⟨h1, p, h2, h3, h4, h5⟩ | ⟨w, ws, h1, h2⟩
      · refine .inl ⟨by rw [ef, h1], ⟨p.d, -p.s, -p.r⟩, by rw [es, h2]; rfl, h3, fun z => ?_, fun vals hg => ?_⟩
        · show -p.s = 0
          rw [h4 z]
          rfl
        · show (0 : Int) - exT vals t = -p.s * vals nm + -p.r
          rw [h5 vals hg, Int.neg_mul]
          omega
      · exact .inr ⟨w, ws, by rw [ef, h1], by rw [es, h2]; rfl⟩
  | .bin s a b, hk, hl => by
    cases hr : (readB nm a || readB nm b) with
    | false => exact side_free nm env (.bin s a b) hk (by rw [readB_bin]; exact hr)
    | true =>
      rw [isLine_bin, hr] at hl
      have hl : (!inV (.str s) bent3 && (isLine nm a && isLine nm b) && (!decide (s = "*") || (!readB nm a || !readB nm b))) = true := hl
      simp only [Bool.and_eq_true] at hl
      obtain ⟨⟨hb3, hla, hlb⟩, hst⟩ := hl
      have ef : fails nm env (.bin s a b) = fails nm env a ++ fails nm env b := by
        show (if (readB nm a || readB nm b) = true then _ else _) = _
        rw [hr, if_pos rfl]
      have es : slT nm env (.bin s a b) = (match slT nm env a with
        | none => none
        | some (.bad w) => some (.bad w)
        | some (.ok l) => match slT nm env b with
          | none => none
          | some (.bad w) => some (.bad w)
          | some (.ok r) => cbP s l r) := rfl
      rcases side nm env a hk.2.1 hla with ⟨h1, p, h2, h3, h4, h5⟩ | ⟨w, ws, h1, h2⟩
      · rcases side nm env b hk.2.2 hlb with ⟨g1, q, g2, g3, g4, g5⟩ | ⟨w, ws, g1, g2⟩
        · rw [h2, g2] at es
          have es : slT nm env (.bin s a b) = cbP s p q := es
          have nb : ¬ (p.d = false ∧ q.d = false) := fun z => by
            rw [h3, g3] at z
            rw [z.1, z.2] at hr
            cases hr
          refine .inl ⟨by rw [ef, h1, g1]; rfl, ?_⟩
          have good : ∀ vals, Good nm env vals (.bin s a b) → exT vals a = p.s * vals nm + p.r ∧ exT vals b = q.s * vals nm + q.r := fun vals hg => ⟨h5 vals fun z hz => hg z (List.mem_append_left _ hz), g5 vals fun z hz => hg z (List.mem_append_right _ hz)⟩
          have rd : true = readB nm (.bin s a b) := by rw [readB_bin, hr]
          have hs' := hk.1
          simp only [signs, List.mem_cons, List.not_mem_nil, or_false] at hs'
          rcases hs' with rfl | rfl | rfl | rfl | rfl | rfl
          · refine ⟨⟨true, tot "+" p.s q.s, tot "+" p.r q.r⟩, ?_, rd, (fun z => by cases z), fun vals hg => ?_⟩
            · rw [es]
              unfold cbP
              rw [if_neg nb, if_neg (by decide +kernel), if_pos (.inl rfl)]
            · show exT vals a + exT vals b = (p.s + q.s) * vals nm + (p.r + q.r)
              rw [(good vals hg).1, (good vals hg).2, Int.add_mul]
              omega
          · refine ⟨⟨true, tot "-" p.s q.s, tot "-" p.r q.r⟩, ?_, rd, (fun z => by cases z), fun vals hg => ?_⟩
            · rw [es]
              unfold cbP
              rw [if_neg nb, if_neg (by decide +kernel), if_pos (.inr rfl)]
            · show exT vals a - exT vals b = (p.s - q.s) * vals nm + (p.r - q.r)
              rw [(good vals hg).1, (good vals hg).2, Int.sub_mul]
              omega
          · have nbb : ¬ (p.d = true ∧ q.d = true) := fun z => by
              rw [h3, g3] at z
              rw [z.1, z.2] at hst
              revert hst
              decide +kernel
            refine ⟨⟨true, p.s * q.r + q.s * p.r, p.r * q.r⟩, ?_, rd, (fun z => by cases z), fun vals hg => ?_⟩
            · rw [es]
              unfold cbP
              rw [if_neg nb, if_pos rfl, if_neg nbb]
            · show exT vals a * exT vals b = (p.s * q.r + q.s * p.r) * vals nm + p.r * q.r
              rw [(good vals hg).1, (good vals hg).2]
              cases hp : p.d with
              | false =>
                rw [h4 hp]
                grind
              | true =>
                cases hq : q.d with
                | true => exact absurd ⟨hp, hq⟩ nbb
                | false =>
                  rw [g4 hq]
                  grind
          · exact absurd hb3 (by decide +kernel)
          · exact absurd hb3 (by decide +kernel)
          · exact absurd hb3 (by decide +kernel)
        · refine .inr ⟨w, ws, by rw [ef, h1, g1]; rfl, ?_⟩
          rw [es, h2, g2]
      · refine .inr ⟨w, ws ++ fails nm env b, by rw [ef, h1]; rfl, ?_⟩
        rw [es, h2]
/-! values of what is read -/
theorem ev_env (env : Str → Rs) : ∀ (t : Tr) (n : Int), evT env t = .val n → ∀ y ∈ readsT t, ∃ m, env y = .val m
  | .num k, n, _, y, hy => by cases hy
  | .nam z, n, h, y, hy => by
    rw [List.mem_singleton.mp hy]
    exact ⟨n, h⟩
  | .neg t, n, h, y, hy => by
    have h : negR (evT env t) = .val n := h
    cases ht : evT env t with
    | bad w => rw [ht] at h; cases h
    | val m => exact ev_env env t m ht y hy
  | .bin s a b, n, h, y, hy => by
    have h : comb s (evT env a) (evT env b) = .val n := h
    cases ha : evT env a with
    | bad w => rw [ha] at h; cases h
    | val x =>
      cases hb : evT env b with
      | bad w => rw [ha, hb] at h; cases h
      | val z =>
        rcases List.mem_append.mp hy with hy | hy
        · exact ev_env env a x ha y hy
        · exact ev_env env b z hb y hy
theorem badL_nil {r : Rs} (h : badL r = []) : ∃ n, r = .val n := by
  cases r with
  | val n => exact ⟨n, rfl⟩
  | bad w => cases h
theorem fails_env (nm : Str) (env : Str → Rs) : ∀ t : Tr, fails nm env t = [] → ∀ y ∈ readsT t, ¬ y = nm → ∃ m, env y = .val m
  | .num k, _, y, hy, _ => by cases hy
  | .nam z, h, y, hy, hn => by
    have e := List.mem_singleton.mp hy
    subst e
    rw [fails_no (fun q => hn (List.mem_singleton.mp q).symm)] at h
    exact badL_nil h
  | .neg t, h, y, hy, hn => by
    cases hr : readB nm t with
    | true =>
      have h : (if readB nm t = true then fails nm env t else _) = [] := h
      rw [hr, if_pos rfl] at h
      exact fails_env nm env t h y hy hn
    | false =>
      rw [fails_no (t := .neg t) (of_decide_eq_false hr)] at h
      obtain ⟨n, hv⟩ := badL_nil h
      exact ev_env env _ n hv y hy
  | .bin s a b, h, y, hy, hn => by
    cases hr : (readB nm a || readB nm b) with
    | true =>
      have h : (if (readB nm a || readB nm b) = true then fails nm env a ++ fails nm env b else _) = [] := h
      rw [hr, if_pos rfl, List.append_eq_nil_iff] at h
      rcases List.mem_append.mp hy with hy | hy
      · exact fails_env nm env a h.1 y hy hn
      · exact fails_env nm env b h.2 y hy hn
    | false =>
      rw [fails_no (t := .bin s a b) (by
        have : readB nm (.bin s a b) = false := by rw [readB_bin]; exact hr
        exact of_decide_eq_false this)] at h
      obtain ⟨n, hv⟩ := badL_nil h
      exact ev_env env _ n hv y hy
/-! the words of failures -/
def WdF (w : Str) : Prop := w = "zero" ∨ w = "range"
theorem lim_wd {n : Int} {w : Str} (h : lim n = .bad w) : WdF w := by
  unfold lim at h
  split at h
  · cases h
  · injection h with h
    exact .inr h.symm
theorem ev_wd {env : Str → Rs} : ∀ {t : Tr} {w : Str}, (∀ y ∈ readsT t, ∀ v, env y = .bad v → WdF v) → evT env t = .bad w → WdF w
  | .num n, w, _, h => lim_wd h
  | .nam y, w, he, h => he y (List.mem_singleton_self _) w h
  | .neg t, w, he, h => by
    have h : negR (evT env t) = .bad w := h
    cases ht : evT env t with
    | val m => rw [ht] at h; cases h
    | bad v =>
      rw [ht] at h
      have h : Rs.bad v = .bad w := h
      injection h with h
      subst h
      exact ev_wd (t := t) he ht
  | .bin s a b, w, he, h => by
    have h : comb s (evT env a) (evT env b) = .bad w := h
    cases ha : evT env a with
    | bad v =>
      rw [ha] at h
      have h : Rs.bad v = .bad w := h
      injection h with h
      subst h
      exact ev_wd (t := a) (fun y hy => he y (List.mem_append_left _ hy)) ha
    | val x =>
      cases hb : evT env b with
      | bad v =>
        rw [ha, hb] at h
        have h : Rs.bad v = .bad w := h
        injection h with h
        subst h
        exact ev_wd (t := b) (fun y hy => he y (List.mem_append_right _ hy)) hb
      | val y =>
        rw [ha, hb] at h
        unfold comb at h
        dsimp only at h
        split at h
        · split at h
          · injection h with h
            exact .inl h.symm
          · exact lim_wd h
        · exact lim_wd h
theorem badL_wd {r : Rs} {w : Str} (h : w ∈ badL r) : r = .bad w := by
  cases r with
  | val n => cases h
  | bad v => rw [List.mem_singleton.mp h]
theorem fails_wd {nm : Str} {env : Str → Rs} : ∀ {t : Tr}, (∀ y ∈ readsT t, ∀ v, env y = .bad v → WdF v) → ∀ w ∈ fails nm env t, WdF w
  | .num n, he, w, hw => by
    rw [fails_no (t := .num n) (fun q => by cases q)] at hw
    exact ev_wd he (badL_wd hw)
  | .nam y, he, w, hw => by
    by_cases c : y = nm
    · have hw : w ∈ (if y = nm then [] else _) := hw
      rw [if_pos c] at hw
      cases hw
    · rw [fails_no (t := .nam y) (fun q => c (List.mem_singleton.mp q).symm)] at hw
      exact ev_wd he (badL_wd hw)
  | .neg t, he, w, hw => by
    cases hr : readB nm t with
    | true =>
      have hw : w ∈ (if readB nm t = true then fails nm env t else _) := hw
      rw [hr, if_pos rfl] at hw
      exact fails_wd (t := t) he w hw
    | false =>
      rw [fails_no (t := .neg t) (of_decide_eq_false hr)] at hw
      exact ev_wd he (badL_wd hw)
  | .bin s a b, he, w, hw => by
    cases hr : (readB nm a || readB nm b) with
    | true =>
      have hw : w ∈ (if (readB nm a || readB nm b) = true then fails nm env a ++ fails nm env b else _) := hw
      rw [hr, if_pos rfl] at hw
      rcases List.mem_append.mp hw with hw | hw
      · exact fails_wd (t := a) (fun y hy => he y (List.mem_append_left _ hy)) w hw
      · exact fails_wd (t := b) (fun y hy => he y (List.mem_append_right _ hy)) w hw
    | false =>
      rw [fails_no (t := .bin s a b) (by
        have : readB nm (.bin s a b) = false := by rw [readB_bin]; exact hr
        exact of_decide_eq_false this)] at hw
      exact ev_wd he (badL_wd hw)
/-! the sizes of slopes -/
theorem sl_bits {nm : Str} {env : Str → Rs} {H : Hp} {ws : List Str} {m : Nat} {t : Tr} {a : Addr} (h : TreeAt H ws m t a) (he : ∀ y ∈ readsT t, ∀ n, env y = .val n → -TEN ≤ n ∧ n ≤ TEN) : ∀ {p : Sl}, slT nm env t = some (.ok p) → SlOk (100 + 102 * m) p := by
  induction h with
  | @num d _ n h0 h1 h =>
    intro p hp
    have hp : some (freeR (lim (n.toNat : Nat))) = some (.ok p) := hp
    injection hp with hp
    obtain ⟨k, hk, rfl⟩ := freeR_ok hp
    have := lim_val hk
    exact slOk_val this.1 this.2 (by omega)
  | @nam d _ y t h =>
    intro p hp
    have hp : some (if y = nm then SlR.ok ⟨true, 1, 0⟩ else freeR (env y)) = some (.ok p) := hp
    injection hp with hp
    split at hp
    · injection hp with hp
      subst hp
      exact ⟨(fun z => by cases z), pow_mono (j := 1) (by show 1 < 2; decide) (by omega), Nat.two_pow_pos _⟩
    · obtain ⟨k, hk, rfl⟩ := freeR_ok hp
      have := he y (List.mem_singleton_self _) k hk
      exact slOk_val this.1 this.2 (by omega)
  | @neg d _ b t h u ih =>
    intro p hp
    have hp : (slT nm env t).map negL = some (.ok p) := hp
    cases ht : slT nm env t with
    | none => rw [ht] at hp; cases hp
    | some o =>
      rw [ht] at hp
      injection hp with hp
      cases o with
      | bad w => cases hp
      | ok q =>
        have hp : SlR.ok ⟨q.d, -q.s, -q.r⟩ = .ok p := hp
        injection hp with hp
        subst hp
        have ok := (ih he ht).mono (show 100 + 102 * d ≤ 100 + 102 * (d + 1) by omega)
        refine ⟨fun z => ?_, by rw [Int.natAbs_neg]; exact ok.ln.1, by rw [Int.natAbs_neg]; exact ok.ln.2⟩
        obtain ⟨e0, e1, e2⟩ := ok.fr z
        refine ⟨by show -q.s = 0; rw [e0]; rfl, ?_, ?_⟩
        · show -TEN ≤ -q.r
          omega
        · show -q.r ≤ TEN
          omega
  | @bin d _ b c l r s hs h t u ih1 ih2 =>
    intro p hp
    have hp : (match slT nm env l with
      | none => none
      | some (.bad w) => some (.bad w)
      | some (.ok l) => match slT nm env r with
        | none => none
        | some (.bad w) => some (.bad w)
        | some (.ok r) => cbP s l r) = some (.ok p) := hp
    cases hl : slT nm env l with
    | none => rw [hl] at hp; cases hp
    | some o =>
      rw [hl] at hp
      cases o with
      | bad w => cases hp
      | ok q =>
        cases hr : slT nm env r with
        | none => rw [hr] at hp; cases hp
        | some o2 =>
          rw [hr] at hp
          cases o2 with
          | bad w => cases hp
          | ok q2 =>
            have hp : cbP s q q2 = some (.ok p) := hp
            have o1 := ih1 (fun y hy => he y (List.mem_append_left _ hy)) hl
            have o2 := ih2 (fun y hy => he y (List.mem_append_right _ hy)) hr
            exact (cbP_ok o1 o2 (by omega) hp).mono (by omega)
end Toy
end

section
set_option Elab.async false
set_option linter.all false
set_option maxRecDepth 100000
namespace Toy
open PySem L2 Gd Kt
/-! ### some name is there -/
def spNames2 : Sp := fun vs H Q _ => ∃ (p c : Addr) (ns : List Int) (n r many : Int), vs = [.ref p, .int many] ∧ PenAt H p c ns n r ∧ n < 800000 ∧ 1 ≤ many ∧ many ≤ 4 ∧
  ∀ (l : Addr) (ws : List Str) (n' r' : Int) (H' : Hp), (∀ y ∈ ws, Gn 7 y) → 0 < ws.length → ws.length ≤ 4 → H' l = some (.lst (ws.map V.str)) → H l = none → Ext p H H' → PenAt H' p c ns n' r' → n ≤ n' → n' ≤ n + 9 → Q (.ref l) H'
abbrev Rsv : List V := [V.str "min", V.str "max", V.str "self"]
def nmz (x : Str) (q : Nat) : Str := if x.length % 2 = 0 then x ++ ⟨#[q]⟩ else ⟨#[q]⟩ ++ x
theorem rsv_mem {z : Str} (h : inV (.str z) Rsv = true) : z.cps.toList ∈ [[109, 105, 110], [109, 97, 120], [115, 101, 108, 102]] := by
  have h3 : z = "min" ∨ z = "max" ∨ z = "self" := by
    simp only [inV, List.any_cons, List.any_nil, Bool.or_false, Bool.or_eq_true] at h
    rcases h with h | h | h
    · exact .inl (of_decide_eq_true h).symm
    · exact .inr (.inl (of_decide_eq_true h).symm)
    · exact .inr (.inr (of_decide_eq_true h).symm)
  rcases h3 with rfl | rfl | rfl <;> decide +kernel
theorem snoc_one {a : List Nat} {p q : Nat} (hp : a ++ [p] ∈ [[109, 105, 110], [109, 97, 120], [115, 101, 108, 102]]) (hq : a ++ [q] ∈ [[109, 105, 110], [109, 97, 120], [115, 101, 108, 102]]) : p = q := by
  have e1 : (a ++ [p]).dropLast = (a ++ [q]).dropLast := by simp
  have g1 : (a ++ [p]).getLast? = some p := by simp
  have g2 : (a ++ [q]).getLast? = some q := by simp
  generalize a ++ [p] = u at *
  generalize a ++ [q] = v at *
  simp only [List.mem_cons, List.not_mem_nil, or_false] at hp hq
  rcases hp with rfl | rfl | rfl <;> rcases hq with rfl | rfl | rfl <;> revert e1 g1 g2 <;> simp <;> omega
theorem cons_one {a : List Nat} {p q : Nat} (hp : p :: a ∈ [[109, 105, 110], [109, 97, 120], [115, 101, 108, 102]]) (hq : q :: a ∈ [[109, 105, 110], [109, 97, 120], [115, 101, 108, 102]]) : p = q := by
  simp only [List.mem_cons, List.not_mem_nil, or_false, List.cons.injEq] at hp hq
  rcases hp with ⟨rfl, rfl⟩ | ⟨rfl, rfl⟩ | ⟨rfl, rfl⟩ <;> simp at hq <;> omega
theorem nmz_one {x : Str} {p q : Nat} (hp : inV (.str (nmz x p)) Rsv = true) (hq : inV (.str (nmz x q)) Rsv = true) : p = q := by
  have a := rsv_mem hp
  have b := rsv_mem hq
  unfold nmz at a b
  by_cases e : x.length % 2 = 0
  · rw [if_pos e] at a b
    rw [app_list] at a b
    exact snoc_one a b
  · rw [if_neg e] at a b
    rw [app_list] at a b
    exact cons_one a b
theorem lets_ne {i j : Nat} {q : Nat} (hi : lets.cps.toList[i]? = some q) (hj : lets.cps.toList[j]? = some q) : i = j := by
  have nd : lets.cps.toList.Nodup := by decide +kernel
  have h1 : i < lets.cps.toList.length := by
    rcases Nat.lt_or_ge i lets.cps.toList.length with z | z
    · exact z
    · rw [List.getElem?_eq_none z] at hi
      cases hi
  exact (List.getElem?_inj h1 nd).mp (hi.trans hj.symm)
section
variable {P : Program} {w : World} {K : PySem.W.Frag} {mg : Str → Option Value} {base : Heap} {f fD fP : Addr} {fd fdD fdP : FuncData}
theorem ok_names2 (F : Fun K "_law_names" "_law_names" sNames f fd) (T : TxtM K mg) (Ddraw : Dn K mg "_law_draw" fD fdD ["_law_pen_here", "_law_many"]) (Gdraw : FnOk P w K mg base CX0 2 fD fdD ["_law_pen_here", "_law_many"] spLo)
    (Dpick : Dn K mg "_law_pick" fP fdP ["_law_pen_here", "_law_options"]) (Gpick : FnOk P w K mg base CX0 3 fP fdP ["_law_pen_here", "_law_options"] spPick) (GpickS : FnOk P w K mg base CX0 3 fP fdP ["_law_pen_here", "_law_options"] spPickS) : FnOk P w K mg base CX0 4 f fd ["_law_pen_here", "_law_many"] spNames2 := by
  refine F.ok scNames (fun vs H Q E h => ?_) (fun cdv A outer s H vs Q E hr h => ?_)
  · obtain ⟨p, c, ns, n, r, many, rfl, _⟩ := h
    rfl
  · obtain ⟨p, c, ns, n, r, many, rfl, S, hn, h0, h1, k⟩ := h
    refine ⟨_, pss_cons (ps_set (i := 2) scNames.nd rfl (Or.inr rfl) pe_str)
      (C8.pss_cut (ps_set (i := 4) scNames.nd rfl (Or.inl rfl) (pe_join pe_str (pe_lc (own := [("_law_k", 3)]) (g := gName 3) rfl scNames.nd (pi_range1 (by rfl) T.range (pa_cons (pe_call Gdraw (hr.mono (by decide)) rfl Ddraw.m Ddraw.k Ddraw.b .nil pass0 (pa_cons (pv 0) (pa_cons pe_int pa_nil))) pa_nil))
          (blkOk_by (own := [("_law_k", 3)]) (N := NNm) (sc := defScope sNames) (by decide +kernel)) (fun _ _ _ _ _ => pg_name (i := 3) scNames.nd rfl (Or.inl rfl)) (fun _ _ _ _ _ => pts_nil)
          (fun _ _ _ _ _ => pe_call GpickS hr rfl Dpick.m Dpick.k Dpick.b .nil pass0 (pa_cons (pv 0) (pa_cons (pv 2) pa_nil))))))
      (C8.pss_cut (ps_par (i := 5) (j := 6) (by rfl) scNames.nd rfl rfl (by decide) rfl rfl (pa_cons (pe_call Gdraw (hr.mono (by decide)) rfl Ddraw.m Ddraw.k Ddraw.b .nil pass0 (pa_cons (pv 0) (pa_cons pe_int pa_nil)))
          (pa_cons (pe_call Gpick hr rfl Dpick.m Dpick.k Dpick.b .nil pass0 (pa_cons (pv 0) (pa_cons (pe_lst (pa_cons pe_int (pa_cons pe_int (pa_cons pe_int (pa_cons pe_int (pa_cons pe_int (pa_cons pe_int (pa_cons pe_int (pa_cons pe_int (pa_cons pe_int (pa_cons pe_int (pa_cons pe_int (pa_cons pe_int pa_nil))))))))))))) pa_nil))) pa_nil)) (by rfl))
      (pss_cons (ps_set (i := 7) scNames.nd rfl (Or.inl rfl) (pe_lst pa_nil))
      (C8.pss_cut (ps_for PassesOwn.never rfl (pi_range1 (by rfl) T.range (pa_cons pe_int pa_nil)) (pg_name (i := 3) scNames.nd rfl (Or.inl rfl))
          (pss_cons (ps_set (i := 8) scNames.nd rfl (Or.inl rfl) (pe_ix ix_str (pv 2) (pe_op op_mod (pe_callTy call_int1 (by rfl) T.int (by decide +kernel) (pa_cons (pe_op op_add (pv 5) (pe_op op_mul (pv 6) (pv 3))) pa_nil)) pe_int) (fun _ _ => rfl)))
          (pss_cons (ps_set (i := 9) scNames.nd rfl (Or.inl rfl) (pe_ix ix_list (pe_lst (pa_cons (pe_op op_add_str (pv 4) (pv 8)) (pa_cons (pe_op op_add_str (pv 8) (pv 4)) pa_nil))) (pe_op op_mod (pe_callB call_len (by rfl) T.len PySem.boot_len (pa_cons (pv 4) pa_nil)) pe_int) (fun _ _ => rfl)))
          (pss_one (ps_if (pt_cmpR op_notIn_seq (pv 9) (pe_tup (pa_cons pe_str (pa_cons pe_str (pa_cons pe_str pa_nil)))) (by rfl)) (pss_one (ps_expr (pe_bm PySem.F.plainAttrs_list PySem.F.slot_list_append PySem.F.type_list_append mt_append (pv 7) (pa_cons (pv 9) pa_nil)))) pss_nil)))))
      (pss_one (ps_ret (pe_slice sl_list (pv 7) po_none (po_some (pv 1))))))))), ?_⟩
    refine ⟨fun σ' H' => ∃ (x : Str) (n1 r1 : Int), σ' = [some (.ref p), some (.int many), some (.str lets), none, some (.str x), none, none, none, none, none] ∧ Lt 6 x ∧ Ext p H H' ∧ PenAt H' p c ns n1 r1 ∧ n ≤ n1 ∧ n1 ≤ n + 7, ?_, ?_⟩
    · refine ⟨⟨_, rfl⟩, _, rfl, p, c, ns, n, r, 7, rfl, S, by decide, by decide, by omega, fun d n1 r1 d0 d1 a1 a2 P1 => ?_⟩
      have e1 : Ext p H (upd H p (.dK (penD c n1 r1))) := Ext.upd _ _ _
      generalize upd H p (.dK (penD c n1 r1)) = H1 at P1 e1 ⊢
      refine ⟨d, rfl, by omega, by omega, fun D hD => ?_⟩
      have nDp : D ≠ p := Ne.symm (ne_of_none P1.d hD)
      have ncD : c ≠ D := ne_of_none P1.l hD
      have nw := Nw.of e1 hD
      refine lc_range (fun i H' => ∃ xs : List Str, H' D = some (.lst (xs.map V.str)) ∧ xs.length = i ∧ (∀ y ∈ xs, Lt 1 y) ∧ Ext p H H' ∧ ∃ n2 r2, PenAt H' p c ns n2 r2 ∧ n ≤ n2 ∧ n2 ≤ n + 1 + i) ?_ (fun i H' hi hP => ?_) (fun H' hP => ?_)
      · exact ⟨[], upd_same, rfl, (fun y hy => by cases hy), e1.trans (Ext.new hD), n1, r1, P1.grow (same_new hD), a1, by omega⟩
      · obtain ⟨xs, hx, hl, ht, ex, n2, r2, P2, b1, b2⟩ := hP
        refine ⟨rfl, _, rfl, _, rfl, p, c, ns, n2, r2, lets, rfl, P2, by omega, by decide +kernel, by decide +kernel, fun e n3 r3 he c1 c2 P3 => ?_⟩
        have hx3 : upd H' p (.dK (penD c n3 r3)) D = some (.lst (xs.map V.str)) := by
          rw [upd_ne nDp]
          exact hx
        refine ⟨_, hx3, by rw [List.length_map, hl]; exact Nat.lt_of_le_of_lt (m := 7) (by omega) (by decide), xs ++ [⟨#[e]⟩], ?_, by rw [List.length_append, hl]; rfl, ?_, ?_, n3, r3, ?_, by omega, by omega⟩
        · rw [upd_same, List.map_append]
          rfl
        · intro y hy
          rcases List.mem_append.mp hy with hy | hy
          · exact ht y hy
          · rw [List.mem_singleton.mp hy]
            exact ⟨Nat.le_refl _, fun c hc => by rw [List.mem_singleton.mp hc]; exact he⟩
        · exact (ex.trans (Ext.upd p H' (.dK (penD c n3 r3)))).put nw
        · exact P3.put (Ne.symm nDp) ncD
      · obtain ⟨xs, hx, hl, ht, ex, n2, r2, P2, b1, b2⟩ := hP
        have t0 : Tx 0 ("" : Str) := ⟨by decide +kernel, by decide +kernel⟩
        have tj := Tx.join t0 (fun y hy => (ht y hy).tx)
        have tl : Lt 6 (Txt.join "" xs) := ⟨(tj.mono (by omega)).len, fun c hc => by
          rcases join_mem hc with z | ⟨y, hy, z⟩
          · have e0 : ("" : Str).cps.toList = [] := by decide +kernel
            rw [e0] at z
            cases z
          · exact (ht y hy).ok c z⟩
        have sz : (xs.map (·.length)).sum + xs.length * ("" : Str).length ≤ 16777216 := by
          have : (xs.map (·.length)).sum ≤ (xs.map (·.length)).length * 1 := sum_le fun a ha => by
            obtain ⟨y, hy, rfl⟩ := List.mem_map.mp ha
            exact (ht y hy).len
          rw [List.length_map] at this
          have e0 : ("" : Str).length = 0 := by decide +kernel
          rw [e0]
          omega
        exact ⟨"", D, xs, rfl, rfl, .inl (SqL.of hx), sz, _, n2, r2, rfl, tl, ex, P2, b1, by omega⟩
    intro σ1 H1 hm
    obtain ⟨x, n1, r1, rfl, tx, ex1, P1, a1, a2⟩ := hm
    refine ⟨fun σ' H' => ∃ (fr st n2 r2 : Int), σ' = [some (.ref p), some (.int many), some (.str lets), none, some (.str x), some (.int fr), some (.int st), none, none, none] ∧ 0 ≤ fr ∧ fr ≤ 25 ∧ 1 ≤ st ∧ st ≤ 25 ∧ Ext p H H' ∧ PenAt H' p c ns n2 r2 ∧ n ≤ n2 ∧ n2 ≤ n + 9, ?_, ?_⟩
    · refine ⟨_, rfl, p, c, ns, n1, r1, 26, rfl, P1, by decide, by decide, by omega, fun d n2 r2 d0 d1 b1 b2 P2 => ?_⟩
      refine ⟨_, rfl, by show 12 ≤ sizeLine; decide, fun l hl => ?_⟩
      refine ⟨p, c, ns, n2, r2, l, _, rfl, P2.grow (same_new hl), by omega, upd_same, (by show 0 < 12; decide), (by show 12 ≤ 60000000; decide), fun v n3 r3 hv c1 c2 P3 => ?_⟩
      obtain ⟨i, rfl, i0, i1⟩ : ∃ i : Int, v = .int i ∧ 1 ≤ i ∧ i ≤ 25 := by
        simp only [List.mem_cons, List.not_mem_nil, or_false] at hv
        rcases hv with rfl | rfl | rfl | rfl | rfl | rfl | rfl | rfl | rfl | rfl | rfl | rfl <;> exact ⟨_, rfl, by decide, by decide⟩
      exact ⟨_, _, rfl, d, i, n3, r3, rfl, d0, by omega, i0, i1, ((ex1.trans (Ext.upd p H1 _)).trans (Ext.new hl)).trans (Ext.upd p _ _), P3, by omega, by omega⟩
    intro σ2 H2 hm
    obtain ⟨fr, st, n2, r2, rfl, f0, f1, s0, s1, ex2, P2, b1, b2⟩ := hm
    refine ⟨by show 0 ≤ sizeLine; decide, fun l hl => ?_⟩
    have npl : p ≠ l := ne_of_none P2.d hl
    have ncl : c ≠ l := ne_of_none P2.l hl
    have nw := Nw.of ex2 hl
    have lnone : H l = none := by
      cases q : H l with
      | none => rfl
      | some o => exact absurd rfl (nw l o (Ne.symm npl) q)
    refine ⟨fun σ' H' => ∃ (o3 o8 o9 : Option V) (ws : List Str), σ' = [some (.ref p), some (.int many), some (.str lets), o3, some (.str x), some (.int fr), some (.int st), some (.ref l), o8, o9] ∧ H' l = some (.lst (ws.map V.str)) ∧ ws.length ≤ 26 ∧ 0 < ws.length ∧ (∀ y ∈ ws, Gn 7 y) ∧ Ext p H H' ∧ PenAt H' p c ns n2 r2, ?_, ?_⟩
    · refine ⟨26, rfl, by decide, by decide, for_range (n := 26) (fun i σ' H' => ∃ (o3 o8 o9 : Option V) (ws : List Str), σ' = [some (.ref p), some (.int many), some (.str lets), o3, some (.str x), some (.int fr), some (.int st), some (.ref l), o8, o9] ∧ H' l = some (.lst (ws.map V.str)) ∧ ws.length ≤ i ∧ (i = 0 ∨ 0 < ws.length ∨ (i = 1 ∧ ∃ q, lets.cps.toList[(fr % 26).toNat]? = some q ∧ inV (.str (nmz x q)) Rsv = true)) ∧ (∀ y ∈ ws, Gn 7 y) ∧ Ext p H H' ∧ PenAt H' p c ns n2 r2) ?_ (fun i σ H3 hi hm => ?_) (fun σ H3 hm => by
          obtain ⟨o3, o8, o9, ws, e, hws, hlen, hne, htx, ex3, P3⟩ := hm
          exact ⟨o3, o8, o9, ws, e, hws, hlen, by omega, htx, ex3, P3⟩)⟩
      · exact ⟨none, none, none, [], rfl, upd_same, Nat.zero_le _, .inl rfl, (fun y hy => by cases hy), ex2.trans (Ext.new hl), P2.grow (same_new hl)⟩
      · obtain ⟨o3, o8, o9, ws, rfl, hws, hlen, hne, htx, ex3, P3⟩ := hm
        have ll : lets.length = 26 := by decide +kernel
        have ll2 : lets.cps.toList.length = 26 := by decide +kernel
        have md := mod_nat (i := fr + st * (0 + (i : Int))) (k := 26) (by decide)
        have hd : ((fr + st * (0 + (i : Int))) % 26).toNat < lets.cps.toList.length := by omega
        refine ⟨_, rfl, _, rfl, _, rfl, _, rfl, _, _, rfl, rfl, .inl ⟨by omega, by omega⟩, _, _, rfl, rfl, .inl ⟨_, rfl, _, _, rfl, rfl, (show (0 : Int) < 26 by decide), lets, _, lets.cps.toList[((fr + st * (0 + (i : Int))) % 26).toNat], rfl, rfl, by decide +kernel, ?_, ?_⟩⟩
        · have := atI_nat (List.getElem?_eq_getElem hd)
          rwa [Int.toNat_of_nonneg md.1] at this
        have tq : Lt 1 ⟨#[lets.cps.toList[((fr + st * (0 + (i : Int))) % 26).toNat]]⟩ := ⟨Nat.le_refl _, fun c hc => by rw [List.mem_singleton.mp hc]; exact List.getElem_mem hd⟩
        have tg : lets.cps.toList[((fr + st * (0 + (i : Int))) % 26).toNat]? = some lets.cps.toList[((fr + st * (0 + (i : Int))) % 26).toNat] := List.getElem?_eq_getElem hd
        generalize lets.cps.toList[((fr + st * (0 + (i : Int))) % 26).toNat] = q at tq tg
        have l1 : x.length + (⟨#[q]⟩ : Str).length ≤ sizeLine := Nat.le_trans (Nat.add_le_add tx.len tq.len) (by decide)
        have l2 : (⟨#[q]⟩ : Str).length + x.length ≤ sizeLine := Nat.le_trans (Nat.add_le_add tq.len tx.len) (by decide)
        have ml := mod_nat (i := (x.length : Int)) (k := 2) (by decide)
        refine ⟨_, rfl, _, rfl, _, _, rfl, rfl, l1, _, rfl, _, rfl, _, _, rfl, rfl, l2, by show 2 ≤ sizeLine; decide, fun t ht => ?_⟩
        have nt : ∀ b o, H3 b = some o → b ≠ t := fun b o e => ne_of_none e ht
        obtain ⟨z, ez, tz, pz, enm⟩ : ∃ z, atI [V.str (x ++ ⟨#[q]⟩), V.str (⟨#[q]⟩ ++ x)] ((x.length : Int) % 2) = some (.str z) ∧ Lt 7 z ∧ 1 ≤ z.length ∧ z = nmz x q := by
          have c2 : ((x.length : Int) % 2) = 0 ∨ ((x.length : Int) % 2) = 1 := by omega
          rcases c2 with e | e <;> rw [e]
          · exact ⟨_, rfl, tx.app tq, by rw [← len_list, app_list, List.length_append]; show 1 ≤ _ + 1; omega, by unfold nmz; rw [if_pos (by omega)]⟩
          · exact ⟨_, rfl, ⟨by have := (tq.app tx).len; omega, (tq.app tx).ok⟩, by rw [← len_list, app_list, List.length_append]; show 1 ≤ 1 + _; omega, by unfold nmz; rw [if_neg (by omega)]⟩
        refine ⟨_, rfl, _, _, rfl, ⟨Nat.le_trans tx.len (by decide), rfl⟩, _, _, rfl, rfl, (show (0 : Int) < 2 by decide), t, _, _, _, rfl, rfl, SqL.of upd_same, ez, ?_⟩
        have P4 := P3.grow (same_new (o := .lst [.str (x ++ ⟨#[q]⟩), .str (⟨#[q]⟩ ++ x)]) ht)
        have ex4 := ex3.trans (Ext.new (p := p) (o := .lst [.str (x ++ ⟨#[q]⟩), .str (⟨#[q]⟩ ++ x)]) ht)
        have hw4 := same_new (o := .lst [.str (x ++ ⟨#[q]⟩), .str (⟨#[q]⟩ ++ x)]) ht _ _ hws
        generalize upd H3 t (.lst [.str (x ++ ⟨#[q]⟩), .str (⟨#[q]⟩ ++ x)]) = H4 at P4 ex4 hw4 ⊢
        refine ⟨_, rfl, by show 3 ≤ sizeLine; decide, fun u hu => ⟨u, _, rfl, .inr (SqT.of upd_same), rfl, rfl, _, rfl, ?_⟩⟩
        have P5 := P4.grow (same_new (o := .tup [.str "min", .str "max", .str "self"]) hu)
        have ex5 := ex4.trans (Ext.new (p := p) (o := .tup [.str "min", .str "max", .str "self"]) hu)
        have hw5 := same_new (o := .tup [.str "min", .str "max", .str "self"]) hu _ _ hw4
        generalize upd H4 u (.tup [.str "min", .str "max", .str "self"]) = H5 at P5 ex5 hw5 ⊢
        show (if (!(inV (V.str z) [V.str "min", V.str "max", V.str "self"])) = true then _ else _)
        cases hin : inV (V.str z) [V.str "min", V.str "max", V.str "self"] with
        | true =>
          refine iteF ⟨_, _, _, ws, rfl, hw5, by omega, ?_, htx, ex5, P5⟩
          rw [enm] at hin
          rcases hne with h0 | h0 | ⟨h0, q0, hq0, hin0⟩
          · subst h0
            refine .inr (.inr ⟨rfl, q, ?_, hin⟩)
            have e9 : fr + st * (0 + ((0 : Nat) : Int)) = fr := by simp
            rwa [e9] at tg
          · exact .inr (.inl h0)
          · exfalso
            subst h0
            have e8 := nmz_one hin hin0
            subst e8
            have e9 := lets_ne tg hq0
            have e10 : fr + st * (0 + ((1 : Nat) : Int)) = fr + st := by simp
            rw [e10] at e9
            omega
        | false =>
          refine iteT ⟨_, rfl, .inl ⟨rfl, _, SqL.of hw5⟩, _, rfl, l, _, _, rfl, rfl, hw5, by rw [List.length_map]; exact Nat.lt_of_le_of_lt (m := 26) (by omega) (by decide), _, _, _, ws ++ [z], rfl, ?_, ?_, .inr (.inl (by rw [List.length_append, List.length_singleton]; omega)), ?_, ex5.put nw, P5.put npl ncl⟩
          · rw [upd_same, List.map_append]
            rfl
          · rw [List.length_append, List.length_singleton]
            omega
          · intro y hy
            rcases List.mem_append.mp hy with hy | hy
            · exact htx y hy
            · rw [List.mem_singleton.mp hy]
              exact ⟨tz.ok, pz, tz.len, fun e => by rw [e] at hin; exact absurd hin (by decide +kernel), fun e => by rw [e] at hin; exact absurd hin (by decide +kernel), fun e => by rw [e] at hin; exact absurd hin (by decide +kernel)⟩
    intro σ3 H3 hm
    obtain ⟨o3, o8, o9, ws, rfl, hws, hlen, hne, htx, ex3, P3⟩ := hm
    refine ⟨_, rfl, _, rfl, _, rfl, l, _, rfl, SqL.of hws, fun t ht => ?_⟩
    have ec : cutV (ws.map V.str) none (some many) = (ws.take (HT.sIx ws.length ws.length (some many))).map V.str := by
      unfold cutV
      rw [List.length_map]
      show ((ws.map V.str).drop 0).take (_ - 0) = _
      rw [List.drop_zero, Nat.sub_zero, List.map_take]
    rw [ec]
    have ek : many = ((many.toNat : Nat) : Int) := (Int.toNat_of_nonneg (by omega)).symm
    refine k t _ n2 r2 _ (fun y hy => htx y (List.mem_of_mem_take hy)) ?_ ?_ upd_same ?_ (ex3.trans (Ext.new ht)) (P3.grow (same_new ht)) (by omega) (by omega)
    · rw [List.length_take, ek, HT.sIx_nat]
      omega
    · rw [List.length_take, ek, HT.sIx_nat]
      omega
    · cases q : H t with
      | none => rfl
      | some o =>
        have ntp : t ≠ p := Ne.symm (ne_of_none P3.d ht)
        have := ex3 t o ntp q
        rw [ht] at this
        cases this
end
end Toy
end

section
set_option Elab.async false
set_option linter.all false
set_option maxRecDepth 100000
namespace Toy
open PySem PySem.Spec PyProof.Rows L2 Gd Kt
/-! ### what the law rests on -/
def noX : XK := fun _ _ _ => False
theorem passNo {X : Cx} : Passes (L2.CX X.prog X.w) X noX := passes_call (W := fun _ _ _ _ => False) (fun u s' x => by
  obtain ⟨a, B, sI, pins, σ, H, cls, d, e, I, nb, up, sky, na, os, ag, w⟩ := x
  exact w.elim) (fun _ _ _ _ h => h.elim)
theorem new_of {K : PySem.W.Frag} {C PE : Addr} {H : Hp} {Q : VK} {x : Str} {cs : List Ins} {E : XK} {p dx : Addr} (hx : x.length ≤ 100) (ho : outOf x = .code cs) (hp : H p = none) (hdx : H dx = none) (ne : dx ≠ p) (k : ∀ H', Same H H' → FmO H' p C x cs → Q .non H') :
    spFInit C PE K [.ref p, .str x] (upd (upd H dx (.own p)) p (.ins C dx [])) Q E := by
  refine ⟨p, dx, .str x, _, rfl, upd_same, .dp (.str _) rfl, fun y e => by cases e; exact Nat.le_trans hx (by decide), ?_⟩
  have e : fOut (.str x) = .good (pars cs) := by
    show (if 100 < x.length then Ans.bad 100 else match outOf x with
      | .bad i => .bad i
      | .code cs => .good (pars cs)) = _
    rw [if_neg (by omega), ho]
  rw [e]
  intro x' cs' H' ex eo fm kp
  cases ex
  rw [ho] at eo
  cases eo
  refine k H' (fun b o q => ?_) fm
  have n1 := ne_of_none q hp
  have n2 := ne_of_none q hdx
  exact kp b o n1 (by rw [upd_ne n1, upd_ne n2]; exact q)
theorem reads_mem {H : Hp} {ws : List Str} {d : Nat} {t : Tr} {a : Addr} (h : TreeAt H ws d t a) : ∀ y ∈ readsT t, y ∈ ws := by
  induction h with
  | num n h0 h1 h => intro y hy; cases hy
  | nam y t h => intro z hz; rw [List.mem_singleton.mp hz]; exact t
  | neg h t ih => exact ih
  | bin s hs h t u ih1 ih2 =>
    intro y hy
    rcases List.mem_append.mp hy with hy | hy
    · exact ih1 y hy
    · exact ih2 y hy
theorem tree_ok {H : Hp} {ws : List Str} {d : Nat} {t : Tr} {a : Addr} (h : TreeAt H ws d t a) : t.ok := by
  induction h with
  | num n h0 h1 h => trivial
  | nam y t h => trivial
  | neg h t ih => exact ih
  | bin s hs h t u ih1 ih2 => exact ⟨hs, ih1, ih2⟩
theorem post_len {H : Hp} {ws : List Str} {d : Nat} {t : Tr} {a : Addr} (h : TreeAt H ws d t a) : (post t).length + 1 ≤ 2 ^ (d + 1) := by
  have pos : ∀ d : Nat, 2 ≤ 2 ^ (d + 1) := fun d => by
    have := Nat.one_le_two_pow (n := d)
    rw [Nat.pow_succ]
    omega
  induction h with
  | num n h0 h1 h => exact pos _
  | nam y t h => exact pos _
  | @neg d a b t h u ih =>
    show (post t ++ [Ins.op "minus"]).length + 1 ≤ _
    rw [List.length_append, Nat.pow_succ]
    have := pos d
    show (post t).length + 1 + 1 ≤ _
    omega
  | @bin d a b c l r s hs h t u ih1 ih2 =>
    show (post l ++ post r ++ [Ins.op s]).length + 1 ≤ _
    rw [List.length_append, List.length_append, Nat.pow_succ]
    show (post l).length + (post r).length + 1 + 1 ≤ _
    omega
theorem padF_out {t : Tr} {x : Str} (h : PadF t x) : outOf x = .code (post t) := by
  obtain ⟨g1, g2, l, h1, h2, pr, e⟩ := h
  exact out_ok pr e (by omega) (by omega)
def entOf (kvs : List (Key × V)) (y : Str) : V := (valV kvs (Sum.inr y : Key)).getD .non
def lessK (kvs : List (Key × V)) (ls : List Str) : List (Key × V) := ls.map fun y => ((Sum.inr y : Key), entOf kvs y)
theorem valV_less (kvs : List (Key × V)) : ∀ (ls : List Str) (acc : List (Key × V)) (z : Str), valV (mergeK acc (lessK kvs ls)) (Sum.inr z : Key) = if z ∈ ls then some (entOf kvs z) else valV acc (Sum.inr z)
  | [], acc, z => by simp [lessK, mergeK]
  | y :: ls, acc, z => by
    show valV (mergeK (putK acc (Sum.inr y : Key) (entOf kvs y)) (lessK kvs ls)) (Sum.inr z) = _
    rw [valV_less kvs ls, valV_put]
    by_cases c : z ∈ ls
    · rw [if_pos c, if_pos (List.mem_cons_of_mem _ c)]
    · rw [if_neg c]
      by_cases e : z = y
      · rw [if_pos (by rw [e]), if_pos (by rw [e]; exact List.mem_cons_self ..), e]
      · rw [if_neg (fun h => e (Sum.inr.inj h)), if_neg (fun h => (List.mem_cons.mp h).elim e c)]
theorem res_env {H : Hp} {D : Addr} {kvs : List (Key × V)} {ws : List Str} {env : Str → Rs} (R : ResD H D kvs ws env) {ps : List Str} (hps : ∀ y ∈ ps, y ∈ ws) : EnvAt H kvs env ps := fun y hy => R.all y (hps y hy)
/-- all but the pen's dict stand -/
theorem ResD.ext {H H' : Hp} {p c D : Addr} {ns : List Int} {n r : Int} {kvs : List (Key × V)} {ws : List Str} {env : Str → Rs} (R : ResD H D kvs ws env) (e : Ext p H H') (P : PenAt H p c ns n r) (npD : D ≠ p) : ResD H' D kvs ws env := by
  have up : ∀ b u, RsAt H b u → RsAt H' b u := fun b u rb => rb.grow fun b xs h => e b _ (fun z => by rw [z, P.d] at h; cases h) h
  refine ⟨e D _ npD R.at_, fun y hy => ?_, R.own, R.few, fun q hq => ?_⟩
  · obtain ⟨b, hb, rb⟩ := R.all y hy
    exact ⟨b, hb, up _ _ rb⟩
  · obtain ⟨y, b, r, hy, rfl, rb⟩ := R.ent q hq
    exact ⟨y, b, r, hy, rfl, up _ _ rb⟩
theorem ResD.same {H H' : Hp} {D : Addr} {kvs : List (Key × V)} {ws : List Str} {env : Str → Rs} (R : ResD H D kvs ws env) (s : Same H H') : ResD H' D kvs ws env := by
  refine ⟨s _ _ R.at_, fun y hy => ?_, R.own, R.few, fun q hq => ?_⟩
  · obtain ⟨b, hb, rb⟩ := R.all y hy
    exact ⟨b, hb, rb.same s⟩
  · obtain ⟨y, b, r, hy, rfl, rb⟩ := R.ent q hq
    exact ⟨y, b, r, hy, rfl, rb.same s⟩
theorem FmO.ext {H H' : Hp} {p c q C : Addr} {ns : List Int} {n r : Int} {x : Str} {cs : List Ins} (h : FmO H q C x cs) (e : Ext p H H') (P : PenAt H p c ns n r) : FmO H' q C x cs := by
  obtain ⟨dx, fs, tc, tr, tn, as, ys, a1, a2, a3, a4, a5, a6, a7, a8, a9, a10, a11⟩ := h
  have k : ∀ b xs, H b = some (.tup xs) → H' b = some (.tup xs) := fun b xs h => e b _ (fun z => by rw [z, P.d] at h; cases h) h
  refine ⟨dx, fs, tc, tr, tn, as, ys, e _ _ (fun z => by rw [z, P.d] at a1; cases a1) a1, a2, a3, a4, a5, k _ _ a6, a7.imp fun a o h => k _ _ h, k _ _ a8, k _ _ a9, a10, a11⟩

theorem ne_str (x : Str) : (!decide (V.str x = V.str x)) = false := by simp
theorem lackW_nil {ws ps : List Str} (h : ∀ y ∈ ps, y ∈ ws) : lackW ws ps = [] := by
  unfold lackW
  rw [List.filter_eq_nil_iff]
  intro y hy
  rw [inV_str, decide_eq_true (h y hy)]
  decide
theorem mem_less {kvs : List (Key × V)} : ∀ (ls : List Str) (acc : List (Key × V)) (q : Key × V), q ∈ mergeK acc (lessK kvs ls) → q ∈ acc ∨ ∃ y ∈ ls, q.1 = Sum.inr y
  | [], acc, q, h => .inl h
  | y :: ls, acc, q, h => by
    have h : q ∈ mergeK (putK acc (Sum.inr y : Key) (entOf kvs y)) (lessK kvs ls) := h
    rcases mem_less ls _ q h with h | ⟨z, hz, e⟩
    · rcases mem_putK h with rfl | h
      · exact .inr ⟨y, List.mem_cons_self .., rfl⟩
      · exact .inl h
    · exact .inr ⟨z, List.mem_cons_of_mem _ hz, e⟩
theorem str_keys : ∀ l : List (Key × V), (∀ q ∈ l, ∃ y : Str, q.1 = Sum.inr y) → ∃ ks : List Str, l.map (·.1) = ks.map Sum.inr
  | [], _ => ⟨[], rfl⟩
  | q :: l, h => by
    obtain ⟨y, e⟩ := h q (List.mem_cons_self ..)
    obtain ⟨ks, ek⟩ := str_keys l fun p hp => h p (List.mem_cons_of_mem _ hp)
    exact ⟨y :: ks, by rw [List.map_cons, List.map_cons, e, ek]⟩
/-- a dict of results from which the named is told: all that are read are there -/
structure KeptD (H : Hp) (D : Addr) (kvs : List (Key × V)) (ks : List Str) (env : Str → Rs) (nm : Str) (ps : List Str) : Prop where
  at_ : H D = some (.dK kvs)
  keys : kvs.map (·.1) = ks.map Sum.inr
  few : ks.length ≤ 100
  all : ∀ y ∈ ps, ¬ y = nm → ∃ b, valV kvs (Sum.inr y : Key) = some (.ref b) ∧ RsAt H b (env y)
theorem KeptD.mem {H : Hp} {D : Addr} {kvs : List (Key × V)} {ks : List Str} {env : Str → Rs} {nm : Str} {ps : List Str} (h : KeptD H D kvs ks env nm ps) : ∀ y ∈ ps, y ∈ nm :: ks := fun y hy => by
  by_cases c : y = nm
  · rw [c]
    exact List.mem_cons_self ..
  · obtain ⟨b, hb, _⟩ := h.all y hy c
    have := key_in hb
    rw [h.keys] at this
    obtain ⟨z, hz, ez⟩ := List.mem_map.mp this
    rw [← Sum.inr.inj ez]
    exact List.mem_cons_of_mem _ hz
theorem KeptD.grow {H H' : Hp} {D : Addr} {kvs : List (Key × V)} {ks : List Str} {env : Str → Rs} {nm : Str} {ps : List Str} (h : KeptD H D kvs ks env nm ps) (a : H' D = some (.dK kvs)) (k : ∀ b xs, H b = some (.tup xs) → H' b = some (.tup xs)) : KeptD H' D kvs ks env nm ps :=
  ⟨a, h.keys, h.few, fun y hy c => by
    obtain ⟨b, hb, rb⟩ := h.all y hy c
    exact ⟨b, hb, rb.grow k⟩⟩
theorem kept_all {H : Hp} {D : Addr} {kvs : List (Key × V)} {ws ps : List Str} {env : Str → Rs} {nm : Str} (R : ResD H D kvs ws env) (hw : ws.length ≤ 26) (hp : ∀ y ∈ ps, y ∈ ws) {H' : Hp} {D' : Addr} (a : H' D' = some (.dK kvs)) (k : ∀ b xs, H b = some (.tup xs) → H' b = some (.tup xs)) : ∃ ks, KeptD H' D' kvs ks env nm ps := by
  obtain ⟨ks, ek, h1, h2, hl⟩ := res_keys R
  have := R.few
  refine ⟨ks, a, ek, by omega, fun y hy _ => ?_⟩
  obtain ⟨b, hb, rb⟩ := R.all y (hp y hy)
  exact ⟨b, hb, rb.grow k⟩
theorem kept_less {H : Hp} {D : Addr} {kvs : List (Key × V)} {ws ps ls : List Str} {env : Str → Rs} {nm : Str} (R : ResD H D kvs ws env) (hp : ∀ y ∈ ps, y ∈ ws) (hl : ls.length ≤ 26) (hls : ∀ y ∈ ps, ¬ y = nm → y ∈ ls) {H' : Hp} {D' : Addr} (a : H' D' = some (.dK (mergeK [] (lessK kvs ls)))) (k : ∀ b xs, H b = some (.tup xs) → H' b = some (.tup xs)) : ∃ ks, KeptD H' D' (mergeK [] (lessK kvs ls)) ks env nm ps := by
  obtain ⟨ks, ek⟩ := str_keys (mergeK [] (lessK kvs ls)) fun q hq => by
    rcases mem_less ls [] q hq with h | ⟨y, _, e⟩
    · cases h
    · exact ⟨y, e⟩
  have l1 := L2.length_mergeK (lessK kvs ls) []
  have l2 : (lessK kvs ls).length = ls.length := List.length_map ..
  have l3 := congrArg List.length ek
  rw [List.length_map, List.length_map] at l3
  simp only [List.length_nil] at l1
  refine ⟨ks, a, ek, by omega, fun y hy c => ?_⟩
  obtain ⟨b, hb, rb⟩ := R.all y (hp y hy)
  refine ⟨b, ?_, rb.grow k⟩
  rw [valV_less, if_pos (hls y hy c)]
  unfold entOf
  rw [hb]
  rfl
/-! what linear tells -/
def TldAt (H : Hp) (v : V) (nm : Str) (env : Str → Rs) (t : Tr) : Prop :=
  (isLine nm t = false ∧ ∃ l, v = .ref l ∧ H l = some (.lst [.str "bent", .str nm, .bl true])) ∨
  (isLine nm t = true ∧ ∃ w ws l, fails nm env t = w :: ws ∧ v = .ref l ∧ H l = some (.lst [.str "failed", .str w, .bl true])) ∨
  (isLine nm t = true ∧ fails nm env t = [] ∧ ∃ p b, v = .ref b ∧ slT nm env t = some (.ok p) ∧ (∀ vals, Good nm env vals t → exT vals t = p.s * vals nm + p.r) ∧ H b = some (.tup [.int p.s, .int p.r]))
theorem TldAt.same {H H' : Hp} {v : V} {nm : Str} {env : Str → Rs} {t : Tr} (h : TldAt H v nm env t) (s : Same H H') : TldAt H' v nm env t := by
  rcases h with ⟨h, l, rfl, a⟩ | ⟨h, w, ws, l, e, rfl, a⟩ | ⟨h, e, p, b, rfl, g1, g2, a⟩
  · exact .inl ⟨h, l, rfl, s _ _ a⟩
  · exact .inr (.inl ⟨h, w, ws, l, e, rfl, s _ _ a⟩)
  · exact .inr (.inr ⟨h, e, p, b, rfl, g1, g2, s _ _ a⟩)
theorem told_fit {C : Addr} {H : Hp} {Q : VK} {E : XK} {q D : Addr} {x nm : Str} {kvs : List (Key × V)} {ks : List Str} {env : Str → Rs} {t : Tr} (hk : t.ok) (fm : FmO H q C x (post t)) (few : (pars (post t)).length < 64) (hl : (post t).length ≤ 1000)
    (kd : KeptD H D kvs ks env nm (readsT t)) (k : ∀ v H', Same H H' → TldAt H' v nm env t → Q v H') : spTold C [.ref q, .str nm, .ref D] H Q E := by
  have e1 := dexec_post nm t [] [] hk
  rw [List.append_nil] at e1
  refine ⟨q, D, x, nm, post t, kvs, ks, rfl, fm, few, hl, kd.at_, kd.keys, kd.few, ?_⟩
  rw [pars_post, lackW_nil kd.mem]
  refine ⟨depT nm t, e1, fun c => ?_, fun c => ?_⟩
  · rcases tri nm t hk with ⟨_, h2, _⟩ | ⟨_, h2, _⟩ | ⟨_, _, h3⟩
    · rw [h2] at c
      exact absurd c (by decide +kernel)
    · rw [h2] at c
      exact absurd c (by decide +kernel)
    · exact fun l H' s a => k _ _ s (.inl ⟨h3, l, rfl, a⟩)
  · have h3 : isLine nm t = true := by
      rcases tri nm t hk with ⟨_, _, h3⟩ | ⟨_, _, h3⟩ | ⟨_, h2, _⟩
      · exact h3
      · exact h3
      · exact absurd h2 c
    rcases side nm env t hk h3 with ⟨g1, p, g2, _, _, g5⟩ | ⟨w, ws, g1, g2⟩
    · have e2 := sexec_post nm env t [] [] _ hk g2
      rw [List.append_nil] at e2
      exact ⟨env, _, kd.all, e2, fun b H' s a => k _ _ s (.inr (.inr ⟨h3, g1, p, b, rfl, g2, g5, a⟩))⟩
    · have e2 := sexec_post nm env t [] [] _ hk g2
      rw [List.append_nil] at e2
      exact ⟨env, _, kd.all, e2, fun l H' s a => k _ _ s (.inr (.inl ⟨h3, w, ws, l, g1, rfl, a⟩))⟩
end Toy
end

section
set_option Elab.async false
set_option linter.all false
set_option maxRecDepth 100000
namespace Toy
open PySem PySem.Spec PyProof.Rows L2 Gd Kt
/-! ### what the law compares -/
abbrev triD (k x : Str) : PyData := .list [.str k, .str x, .bool true]
abbrev triV (k x : Str) : HO := .lst [.str k, .str x, .bl true]
theorem tri_sh {k x : Str} (hk : PyData.strOk k = true) (hx : PyData.strOk x = true) : SeqAt.shaped (triD k x) = true := by
  simp [triD, SeqAt.shaped, PyData.canLay0, PyData.canLayAll0, PyData.depth, PyData.depthAll, hk, hx]
theorem tri_eqv (k x : Str) : (!PyData.eqv (triD k x) (triD k x)) = false := by
  simp [triD, PyData.eqv, PyData.eqvAll]
theorem tri_dp {K : PySem.W.Frag} {H : Hp} {l : Addr} {k x : Str} (h : H l = some (triV k x)) : Dp K H (.ref l) (triD k x) := .lst (SqL.of h) (.cons (.str _) (.cons (.str _) (.cons (.bl _) .nil)))
theorem wd_tx {w : Str} (h : WdF w) : Tx 8 w := by
  rcases h with rfl | rfl <;> exact ⟨by decide +kernel, by decide +kernel⟩
/-- the first name that is read beside the named -/
def restT (nm : Str) (ps : List Str) : List Str := ps.filter fun y => !decide (y = nm)
def TldL (H : Hp) (v : V) (nm : Str) (ps : List Str) : Prop := ∀ y r, restT nm ps = y :: r → ∃ l, v = .ref l ∧ H l = some (triV "unknown" y)
theorem lack_one (nm : Str) (ps : List Str) : lackW [nm, nm] ps = restT nm ps := by
  unfold lackW restT
  congr 1
  funext y
  rw [inV_str]
  congr 1
  by_cases c : y = nm
  · rw [decide_eq_true c, c]
    exact decide_eq_true (List.mem_cons_self ..)
  · rw [decide_eq_false c]
    refine decide_eq_false fun q => ?_
    rcases List.mem_cons.mp q with q | q
    · exact c q
    · exact c (List.mem_singleton.mp q)
theorem told_one {C : Addr} {H : Hp} {Q : VK} {E : XK} {q D : Addr} {x nm : Str} {b : V} {env : Str → Rs} {t : Tr} (hk : t.ok) (fm : FmO H q C x (post t)) (few : (pars (post t)).length < 64) (hl : (post t).length ≤ 1000)
    (hD : H D = some (.dK (mergeK [] [((Sum.inr nm : Key), b)]))) (k : ∀ v H', Same H H' → TldL H' v nm (readsT t) → Q v H') : spTold C [.ref q, .str nm, .ref D] H Q E := by
  have ek : (mergeK [] [((Sum.inr nm : Key), b)]).map (·.1) = [nm].map Sum.inr := rfl
  cases hr : restT nm (readsT t) with
  | cons y r =>
    refine ⟨q, D, x, nm, post t, _, [nm], rfl, fm, few, hl, hD, ek, (by show 1 ≤ 100; decide), ?_⟩
    rw [pars_post, lack_one, hr]
    intro l H' s a
    refine k _ _ s fun y' r' e => ?_
    rw [hr] at e
    injection e with e _
    subst e
    exact ⟨l, rfl, a⟩
  | nil =>
    have hall : ∀ y ∈ readsT t, y = nm := fun y hy => by
      apply Classical.byContradiction
      intro c
      have : y ∈ restT nm (readsT t) := List.mem_filter.mpr ⟨hy, by rw [decide_eq_false c]; rfl⟩
      rw [hr] at this
      cases this
    exact told_fit (env := env) hk fm few hl ⟨hD, ek, (by show 1 ≤ 100; decide), fun y hy c => absurd (hall y hy) c⟩ fun v H' s _ => k v H' s fun y' r' e => by
      rw [hr] at e
      cases e
/-! the value of the named among the values -/
def vlsT (nm : Str) (env : Str → Rs) (v : Int) (y : Str) : Int := if y = nm then v else match env y with
  | .val n => n
  | .bad _ => 0
theorem vls_nm (nm : Str) (env : Str → Rs) (v : Int) : vlsT nm env v nm = v := if_pos rfl
theorem vls_good (nm : Str) (env : Str → Rs) (v : Int) (t : Tr) : Good nm env (vlsT nm env v) t := fun y _ c m e => by
  unfold vlsT
  rw [if_neg c, e]
theorem vls_val {nm : Str} {env : Str → Rs} {v : Int} {t : Tr} (hf : fails nm env t = []) (hv : v.natAbs < 2 ^ 102) (he : ∀ y ∈ readsT t, ∀ n, env y = .val n → -TEN ≤ n ∧ n ≤ TEN) {kvs : List (Key × V)} (hk : ∀ y ∈ readsT t, valV kvs (Sum.inr y : Key) = if y = nm then some (.int v) else nv (env y)) :
    ∀ y ∈ readsT t, valV kvs (Sum.inr y : Key) = some (.int (vlsT nm env v y)) ∧ (vlsT nm env v y).natAbs < 2 ^ 102 := fun y hy => by
  rw [hk y hy]
  unfold vlsT
  by_cases c : y = nm
  · rw [if_pos c, if_pos c]
    exact ⟨rfl, hv⟩
  · obtain ⟨m, hm⟩ := fails_env nm env t hf y hy c
    have := he y hy m hm
    rw [if_neg c, if_neg c, hm]
    refine ⟨rfl, ?_⟩
    show m.natAbs < 2 ^ 102
    have e10 : TEN = 1000000000000000000000000000000 := rfl
    have e2 : (2 : Nat) ^ 102 = 5070602400912917605986812821504 := by decide
    omega
theorem at_bounds {H : Hp} {D : Addr} {kvs : List (Key × V)} {ws : List Str} {env : Str → Rs} (R : ResD H D kvs ws env) {ps : List Str} (hp : ∀ y ∈ ps, y ∈ ws) : (∀ y ∈ ps, ∀ n, env y = .val n → -TEN ≤ n ∧ n ≤ TEN) ∧ ∀ y ∈ ps, ∀ v, env y = .bad v → WdF v := by
  refine ⟨fun y hy n e => ?_, fun y hy v e => ?_⟩
  · obtain ⟨b, _, rb⟩ := R.all y (hp y hy)
    rw [e] at rb
    exact rb.2
  · obtain ⟨b, _, rb⟩ := R.all y (hp y hy)
    rw [e] at rb
    exact rb.2
end Toy
end

section
set_option Elab.async false
set_option linter.all false
set_option maxRecDepth 100000
namespace Toy
open PySem PySem.Spec PyProof.Rows L2 Gd Kt
/-! ### the law -/
abbrev sLaw : Stmt := top 56
abbrev NLw : List Str := ["_law_script", "_law_pen_here", "_law_bout", "_law_words", "_law_results_here", "_law_word", "_law_again", "_law_tree_here", "_law_text", "_law_formula_here", "_law_kept", "_law_told_here", "_law_failures_here", "_law_value", "_law_lacking", "_law_other"]
theorem scLw : FnScope NLw ["_law_script"] (defScope sLaw) := ⟨rfl, rfl, rfl, by decide +kernel, rfl, by decide +kernel, by decide +kernel⟩
def spLaw (K : PySem.W.Frag) : Sp := fun vs H Q _ => ∃ (a : Addr) (ns : List Int), vs = [.ref a] ∧ SqL K H a (ns.map V.int) ∧ ns.length ≤ 63 ∧ ∀ H', Q (.bl true) H'
theorem strOk_tx {k : Nat} {y : Str} (h : Tx k y) : PyData.strOk y = true := by
  unfold PyData.strOk
  rw [← Array.all_toList, List.all_eq_true]
  intro c hc
  exact decide_eq_true (Nat.lt_trans (h.ok c hc) (by decide))
theorem ne_int (x : Int) : (!decide (V.int x = V.int x)) = false := by simp
structure TxtW (K : PySem.W.Frag) (mg : Str → Option Value) : Prop where
  range : mg "range" = none
  dict : mg "dict" = none
  isi : mg "isinstance" = none
  tuple : mg "tuple" = none
  len : mg "len" = none
/-- what the class Formula brings -/
structure FmlT (P : Program) (w : World) (K : PySem.W.Frag) (mg : Str → Option Value) (base : Heap) (C PE : Addr) : Prop where
  T : FmT K C
  m : mg "Formula" = some (.ref C)
  ini : ∃ fI fdI, Mk K C fI ∧ Binds K fdI ["self", "text"] [] ∧ FnOk P w K mg base (L2.CX P w) 6 fI fdI ["self", "text"] (spFInit C PE K)
def lawInv (a p : Addr) (i : Nat) : L2.St → Hp → Prop := fun σ H' => ∃ (o2 o3 o4 o5 o6 o7 o8 o9 o10 o11 o12 o13 o14 : Option V) (c : Addr) (ns : List Int) (n r : Int),
  σ = [some (.ref a), some (.ref p), o2, o3, o4, o5, o6, o7, o8, o9, o10, o11, o12, o13, o14, none] ∧ PenAt H' p c ns n r ∧ n ≤ 32000 * i
section
variable {P : Program} {w : World} {K : PySem.W.Frag} {mg : Str → Option Value} {base : Heap} {f C PE : Addr} {fd : FuncData}
set_option maxHeartbeats 4000000 in
theorem ok_law (F : Fun K "law" "law" sLaw f fd) (T : TxtW K mg) (M : FmlT P w K mg base C PE)
    {fpen fdraw fpick faround fgreat fnames fres fform freads fexact fline ffails ftold fvals : Addr} {fdpen fddraw fdpick fdaround fdgreat fdnames fdres fdform fdreads fdexact fdline fdfails fdtold fdvals : FuncData}
    (Dpen : Dn K mg "_law_pen" fpen fdpen ["_law_script"]) (Gpen : FnOk P w K mg base CX0 1 fpen fdpen ["_law_script"] (spPen K))
    (Ddraw : Dn K mg "_law_draw" fdraw fddraw ["_law_pen_here", "_law_many"]) (Gdraw : FnOk P w K mg base CX0 2 fdraw fddraw ["_law_pen_here", "_law_many"] spLo)
    (Dpick : Dn K mg "_law_pick" fpick fdpick ["_law_pen_here", "_law_options"]) (Gpick : FnOk P w K mg base CX0 3 fpick fdpick ["_law_pen_here", "_law_options"] spPick)
    (Daround : Dn K mg "_law_around" faround fdaround ["_law_pen_here", "_law_most"]) (Garound : FnOk P w K mg base CX0 6 faround fdaround ["_law_pen_here", "_law_most"] spAround)
    (Dgreat : Dn K mg "_law_great" fgreat fdgreat ["_law_pen_here", "_law_most"]) (Ggreat : FnOk P w K mg base CX0 7 fgreat fdgreat ["_law_pen_here", "_law_most"] spGreat)
    (Dnames : Dn K mg "_law_names" fnames fdnames ["_law_pen_here", "_law_many"]) (Gnames : FnOk P w K mg base CX0 4 fnames fdnames ["_law_pen_here", "_law_many"] spNames2)
    (Dres : Dn K mg "_law_results" fres fdres ["_law_pen_here", "_law_words"]) (Gres : FnOk P w K mg base CX0 8 fres fdres ["_law_pen_here", "_law_words"] spResults)
    (Dform : Dn K mg "_law_formula" fform fdform psTr) (Gform : FnOk P w K mg base CX0 14 fform fdform psTr spForm)
    (Dreads : Dn K mg "_law_reads" freads fdreads ["_law_tree_here"]) (Greads : FnOk P w K mg base CX0 6 freads fdreads ["_law_tree_here"] (spReads 5))
    (Dexact : Dn K mg "_law_exact" fexact fdexact psEx) (Gexact : FnOk P w K mg base CX0 6 fexact fdexact psEx (spExT 5))
    (Dline : Dn K mg "_law_is_line" fline fdline psLn) (Gline : FnOk P w K mg base CX0 12 fline fdline psLn (spLine 5))
    (Dfails : Dn K mg "_law_failures" ffails fdfails psFa) (Gfails : FnOk P w K mg base CX0 15 ffails fdfails psFa (spFails 5))
    (Dtold : Dn K mg "_law_told" ftold fdtold psTl) (Gtold : FnOk P w K mg base CX0 8 ftold fdtold psTl (spTold C))
    (Dvals : Dn K mg "_law_values" fvals fdvals psVs) (Gvals : FnOk P w K mg base CX0 1 fvals fdvals psVs spVals) :
    FnOk P w K mg base CX0 16 f fd ["_law_script"] (spLaw K) := by
  obtain ⟨FT, mF, fI, fdI, MkF, BI, GI⟩ := M
  refine F.ok scLw (fun vs H Q E h => ?_) (fun cdv A outer s H vs Q E hr h => ?_)
  · obtain ⟨a, ns, rfl, _⟩ := h
    rfl
  · obtain ⟨a, ns, rfl, hS, hlen, k⟩ := h
    have hu := hu_of hr
    have hr15 : Room 15 _ := hr.mono (by decide)
    have hr14 : Room 14 _ := hr.mono (by decide)
    have hr12 : Room 12 _ := hr.mono (by decide)
    have hr8 : Room 8 _ := hr.mono (by decide)
    have hr7' : Room 7 _ := hr.mono (by decide)
    have hr7 : Room (6 + 1) _ := hr.mono (by decide)
    have hr6 : Room 6 _ := hr.mono (by decide)
    have hr4 : Room 4 _ := hr.mono (by decide)
    have hr3 : Room 3 _ := hr.mono (by decide)
    have hr2 : Room 2 _ := hr.mono (by decide)
    have hr1 : Room 1 _ := hr.mono (by decide)
    have sz : sizeLine = 16777216 := by decide
    refine ⟨_, pss_cons (ps_set (i := 1) scLw.nd rfl (Or.inl rfl) (pe_call Gpen hr1 rfl Dpen.m Dpen.k Dpen.b .nil pass0 (pa_cons (pv 0) pa_nil)))
      (pss_cons (ps_for PassesOwn.never rfl (pi_range1 (by rfl) T.range (pa_cons pe_int pa_nil)) (pg_name (i := 2) scLw.nd rfl (Or.inl rfl))
        (C8.pss_cut (ps_set (i := 3) scLw.nd rfl (Or.inl rfl) (pe_call Gnames hr4 rfl Dnames.m Dnames.k Dnames.b .nil pass0 (pa_cons (pv 1) (pa_cons (pe_op op_add pe_int (pe_call Gdraw hr2 rfl Ddraw.m Ddraw.k Ddraw.b .nil pass0 (pa_cons (pv 1) (pa_cons pe_int pa_nil)))) pa_nil))))
        (C8.pss_cut (ps_asg (pe_tup (pa_cons (pe_call Gres hr8 rfl Dres.m Dres.k Dres.b .nil pass0 (pa_cons (pv 1) (pa_cons (pv 3) pa_nil))) (pa_cons (pe_call Gpick hr3 rfl Dpick.m Dpick.k Dpick.b .nil pass0 (pa_cons (pv 1) (pa_cons (pv 3) pa_nil))) pa_nil))) (pg_tup (by rfl) (pgs_cons (pg_name (i := 4) scLw.nd rfl (Or.inr rfl)) (pgs_cons (pg_name (i := 5) scLw.nd rfl (Or.inr rfl)) pgs_nil))))
        (pss_one (ps_for PassesOwn.never rfl (pi_range1 (by rfl) T.range (pa_cons pe_int pa_nil)) (pg_name (i := 6) scLw.nd rfl (Or.inl rfl))
          (C8.pss_cut (ps_asg (pe_call Gform hr14 rfl Dform.m Dform.k Dform.b .nil pass0 (pa_cons (pv 1) (pa_cons (pe_call Gdraw hr2 rfl Ddraw.m Ddraw.k Ddraw.b .nil pass0 (pa_cons (pv 1) (pa_cons pe_int pa_nil))) (pa_cons (pv 3) pa_nil)))) (pg_tup (by rfl) (pgs_cons (pg_name (i := 7) scLw.nd rfl (Or.inl rfl)) (pgs_cons (pg_name (i := 8) scLw.nd rfl (Or.inl rfl)) pgs_nil))))
          (C8.pss_cut (ps_par (i := 9) (j := 10) (by rfl) scLw.nd rfl rfl (by decide) rfl rfl (pa_cons (pe_make MkF GI hr7 (by rfl) mF BI .nil passNo (pa_cons (pv 8) pa_nil)) (pa_cons (pe_callTy call_dictD (by rfl) T.dict (by decide +kernel) (pa_cons (pv 4) pa_nil)) pa_nil)) (by rfl))
          (C8.pss_cut (ps_if (pt_cmpR op_eq (pe_call Gdraw hr2 rfl Ddraw.m Ddraw.k Ddraw.b .nil pass0 (pa_cons (pv 1) (pa_cons pe_int pa_nil))) pe_int (nomark _)) (pss_one (ps_set (i := 10) scLw.nd rfl (Or.inl rfl) (pe_callTy (call_dictP rfl) (by rfl) T.dict (by decide +kernel) (pa_cons (pe_lock (pe_lc (own := [("_law_other", 15)]) (g := gName 15) rfl scLw.nd (pi_keys (pv 4)) (blkOk_by (own := [("_law_other", 15)]) (N := NLw) (sc := defScope sLaw) (by decide +kernel)) (fun _ _ _ _ _ => pg_name (i := 15) scLw.nd rfl (Or.inl rfl)) (fun _ _ _ _ _ => pts_one (pt_cmpR op_ne (pv 15) (pv 5) (nomark _))) (fun _ _ _ _ _ => (pe_tup (pa_cons (pv 15) (pa_cons (pe_dget hu (pv 4) (pv 15) (fun _ _ => rfl)) pa_nil)))))) pa_nil)))) pss_nil)
          (C8.pss_cut (ps_par (i := 11) (j := 12) (by rfl) scLw.nd rfl rfl (by decide) rfl rfl (pa_cons (pe_call Gtold hr8 rfl Dtold.m Dtold.k Dtold.b .nil pass0 (pa_cons (pv 9) (pa_cons (pv 5) (pa_cons (pv 10) pa_nil)))) (pa_cons (pe_call Gfails hr15 rfl Dfails.m Dfails.k Dfails.b .nil pass0 (pa_cons (pv 7) (pa_cons (pv 5) (pa_cons (pv 4) pa_nil)))) pa_nil)) (by rfl))
          (C8.pss_cut (ps_if (pt_not (pt_val (pe_call Gline hr12 rfl Dline.m Dline.k Dline.b .nil pass0 (pa_cons (pv 7) (pa_cons (pv 5) pa_nil))))) (pss_one (ps_if (pt_cmpR (op_neD hr.units) (pv 11) (pe_lst (pa_cons pe_str (pa_cons (pv 5) (pa_cons pe_bl pa_nil)))) (nomark _)) (pss_one (ps_ret pe_bl)) pss_nil)) (pss_one (ps_if (pt_cmpR (op_neD hr.units) (pv 12) (pe_lst pa_nil) (nomark _)) (pss_one (ps_if (pt_cmpR (op_neD hr.units) (pv 11) (pe_lst (pa_cons pe_str (pa_cons (pe_ix ix_list (pv 12) pe_int (fun _ _ => rfl)) (pa_cons pe_bl pa_nil)))) (nomark _)) (pss_one (ps_ret pe_bl)) pss_nil)) (pss_cons (ps_if (PW.pt (pw_or (pt_not (pt_val (pe_callB call_isi (by rfl) T.isi (by decide +kernel) (pa_cons (pv 11) (pa_cons (pe_bltn (by rfl) T.tuple (by decide +kernel) (v := .ty "tuple") rfl) pa_nil))))) (pw_or1 (pt_cmpR op_ne (pe_callB call_len (by rfl) T.len PySem.boot_len (pa_cons (pv 11) pa_nil)) pe_int (nomark _))))) (pss_one (ps_ret pe_bl)) pss_nil) (pss_one (ps_for PassesOwn.never rfl (pi_list (pe_lst (pa_cons pe_int (pa_cons pe_int (pa_cons (pe_un un_neg pe_int) (pa_cons (pe_call Ggreat hr7' rfl Dgreat.m Dgreat.k Dgreat.b .nil pass0 (pa_cons (pv 1) (pa_cons (pe_op op_pow pe_int pe_int) pa_nil))) (pa_cons (pe_call Garound hr6 rfl Daround.m Daround.k Daround.b .nil pass0 (pa_cons (pv 1) (pa_cons pe_int pa_nil))) pa_nil))))))) (pg_name (i := 13) scLw.nd rfl (Or.inl rfl)) (pss_one (ps_if (pt_cmpR op_ne (pe_op op_add (pe_op op_mulW (pe_ix ix_tup (pv 11) pe_int (fun _ _ => rfl)) (pv 13)) (pe_ix ix_tup (pv 11) pe_int (fun _ _ => rfl))) (pe_call Gexact hr6 rfl Dexact.m Dexact.k Dexact.b .nil pass0 (pa_cons (pv 7) (pa_cons (pe_call Gvals hr1 rfl Dvals.m Dvals.k Dvals.b .nil pass0 (pa_cons (pv 4) (pa_cons (pv 5) (pa_cons (pv 13) pa_nil)))) pa_nil))) (nomark _)) (pss_one (ps_ret pe_bl)) pss_nil))))))))
          (C8.pss_cut (ps_setLc (i := 14) (own := [("_law_other", 15)]) (g := gName 15) (by rfl) scLw.nd rfl rfl (sw_true rfl rfl rfl (by decide +kernel)) (pi_list (pe_call Greads hr6 rfl Dreads.m Dreads.k Dreads.b .nil pass0 (pa_cons (pv 7) pa_nil))) (blkOk_by (own := [("_law_other", 15)]) (N := NLw) (sc := defScope sLaw) (by decide +kernel)) (fun _ _ _ _ _ => pg_name (i := 15) scLw.nd rfl (Or.inl rfl)) (fun _ _ _ _ _ => pts_one (pt_cmpR op_ne (pv 15) (pv 5) (nomark _))) (fun _ _ _ _ _ => pv 15))
          (C8.pss_cut (ps_set (i := 11) scLw.nd rfl (Or.inl rfl) (pe_call Gtold hr8 rfl Dtold.m Dtold.k Dtold.b .nil pass0 (pa_cons (pv 9) (pa_cons (pv 5) (pa_cons (pe_disp (pps_cons (pv 5) (pe_dget hu (pv 4) (pv 5) (fun _ _ => rfl)) pps_nil) (by rfl) (by rfl) (fun z => by cases z) (by decide)) pa_nil)))))
          (pss_one (ps_if (PW.pt (pw_and (pt_cmpR (op_neD hr.units) (pv 14) (pe_lst pa_nil) (nomark _)) (pw_and1 (pt_cmpR (op_neD hr.units) (pv 11) (pe_lst (pa_cons pe_str (pa_cons (pe_ix ix_list (pv 14) pe_int (fun _ _ => rfl)) (pa_cons pe_bl pa_nil)))) (nomark _))))) (pss_one (ps_ret pe_bl)) pss_nil))))))))))))))
      (pss_one (ps_ret pe_bl))), ?_⟩
    refine ⟨_, rfl, a, ns, rfl, hS, hlen, fun p c ns0 H1 hp s1 S0 => ?_⟩
    refine ⟨10, rfl, by decide, by decide, for_range (n := 10) (lawInv a p) ⟨none, none, none, none, none, none, none, none, none, none, none, none, none, c, ns0, 0, 0, rfl, S0, by decide⟩ (fun i σ H2 hi hm => ?_) (fun σ H2 hm => k _)⟩
    obtain ⟨o2, o3, o4, o5, o6, o7, o8, o9, o10, o11, o12, o13, o14, c, ns, n, r, rfl, S, hn⟩ := hm
    have hi' : (i : Int) < 10 := by omega
    generalize hz : (0 : Int) + (i : Int) = z
    clear hz
    -- the names
    refine ⟨fun σ' H' => ∃ (l : Addr) (ws : List Str) (n1 r1 : Int), σ' = [some (.ref a), some (.ref p), some (.int z), some (.ref l), o4, o5, o6, o7, o8, o9, o10, o11, o12, o13, o14, none] ∧ H' l = some (.lst (ws.map V.str)) ∧ (∀ y ∈ ws, Gn 7 y) ∧ 0 < ws.length ∧ ws.length ≤ 4 ∧ PenAt H' p c ns n1 r1 ∧ n ≤ n1 ∧ n1 ≤ n + 10, ?_, ?_⟩
    · refine ⟨_, rfl, _, rfl, p, c, ns, n, r, 3, rfl, S, by decide, by decide, by omega, fun d n1 r1 d0 d1 a1 a2 P1 => ?_⟩
      exact ⟨_, _, rfl, rfl, p, c, ns, n1, r1, 2 + d, rfl, P1, by omega, by omega, by omega, fun l ws n2 r2 H2 gn lo hi hl _ e2 P2 b1 b2 => ⟨l, ws, n2, r2, rfl, hl, gn, lo, hi, P2, by omega, by omega⟩⟩
    clear S
    intro σ1 H3 hm1
    obtain ⟨l, ws, n1, r1, rfl, hl, hgn, hlo, hl4, P1, a1, a2⟩ := hm1
    have tx8 : ∀ y ∈ ws, Tx 8 y := fun y hy => ((hgn y hy).tx).mono (by decide)
    have gn8 : ∀ y ∈ ws, Gn 8 y := fun y hy => (hgn y hy).mono (by decide)
    have nlp : l ≠ p := fun z => by rw [z, P1.d] at hl; cases hl
    -- their results, and one of them
    refine ⟨fun σ' H' => ∃ (D : Addr) (kvs : List (Key × V)) (env : Str → Rs) (nm : Str) (n2 r2 : Int), σ' = [some (.ref a), some (.ref p), some (.int z), some (.ref l), some (.ref D), some (.str nm), o6, o7, o8, o9, o10, o11, o12, o13, o14, none] ∧ H' l = some (.lst (ws.map V.str)) ∧ ResD H' D kvs ws env ∧ D ≠ p ∧ nm ∈ ws ∧ PenAt H' p c ns n2 r2 ∧ n ≤ n2 ∧ n2 ≤ n + 600, ?_, ?_⟩
    · refine ⟨_, rfl, _, rfl, p, c, l, ns, n1, r1, ws, rfl, P1, by omega, hl, by omega, fun D kvs env n2 r2 H5 R hD e2 P2 b1 b2 => ?_⟩
      have nDp : D ≠ p := fun z => by rw [z, P1.d] at hD; cases hD
      have hl5 := e2 l _ nlp hl
      refine ⟨_, rfl, _, rfl, p, c, ns, n2, r2, l, ws.map V.str, rfl, P2, by omega, hl5, by rw [List.length_map]; omega, by rw [List.length_map]; omega, fun v n3 r3 hv c1 c2 P3 => ?_⟩
      obtain ⟨nm, hnm, rfl⟩ := List.mem_map.mp hv
      have e3 := Ext.upd p H5 (.dK (penD c n3 r3))
      have hl6 := e3 l _ nlp hl5
      have R6 := R.ext e3 P2 nDp
      generalize upd H5 p (.dK (penD c n3 r3)) = H6 at e3 hl6 R6 P3 ⊢
      refine ⟨by show 2 ≤ sizeLine; decide, fun tp htp => ?_⟩
      have s7 := same_new (o := .tup [.ref D, .str nm]) htp
      exact ⟨tp, _, rfl, .inl (.inl upd_same), rfl, _, _, rfl, _, _, rfl, rfl, D, kvs, env, nm, n3, r3, rfl, s7 _ _ hl6, R6.same s7, nDp, hnm, P3.grow s7, by omega, by omega⟩
    clear P1 hl a1 a2 n1 r1
    intro σ2 H5 hm2
    obtain ⟨D, kvs, env, nm, n2, r2, rfl, hl, R, nDp, hnm, P2, a1, a2⟩ := hm2
    refine ⟨5, rfl, by decide, by decide, for_range (n := 5) (fun j σ' H' => ∃ (o6 o7 o8 o9 o10 o11 o12 o13 o14 : Option V) (n3 r3 : Int), σ' = [some (.ref a), some (.ref p), some (.int z), some (.ref l), some (.ref D), some (.str nm), o6, o7, o8, o9, o10, o11, o12, o13, o14, none] ∧ H' l = some (.lst (ws.map V.str)) ∧ ResD H' D kvs ws env ∧ PenAt H' p c ns n3 r3 ∧ n2 ≤ n3 ∧ n3 ≤ n2 + 5100 * j)
      ⟨o6, o7, o8, o9, o10, o11, o12, o13, o14, n2, r2, rfl, hl, R, P2, by omega, by omega⟩ (fun j σ H6 hj hm => ?_) (fun σ H6 hm => ?_)⟩
    rotate_left
    · obtain ⟨u6, u7, u8, u9, u10, u11, u12, u13, u14, n3, r3, rfl, _, _, P3, b1, b2⟩ := hm
      exact ⟨_, _, _, _, _, _, _, _, _, _, _, _, _, c, ns, n3, r3, rfl, P3, by omega⟩
    clear R hl P2
    obtain ⟨u6, u7, u8, u9, u10, u11, u12, u13, u14, n3, r3, rfl, hl, R, P3, b1, b2⟩ := hm
    have hj' : (j : Int) < 5 := by omega
    generalize hz : (0 : Int) + (j : Int) = z6
    clear hz
    -- the formula is drawn
    refine ⟨fun σ' H' => ∃ (t : Addr) (x : Str) (tr : Tr) (n4 r4 : Int), σ' = [some (.ref a), some (.ref p), some (.int z), some (.ref l), some (.ref D), some (.str nm), some (.int z6), some (.ref t), some (.str x), u9, u10, u11, u12, u13, u14, none] ∧ Tx 100 x ∧ TreeAt H' ws 4 tr t ∧ PadF tr x ∧ H' l = some (.lst (ws.map V.str)) ∧ ResD H' D kvs ws env ∧ PenAt H' p c ns n4 r4 ∧ n3 ≤ n4 ∧ n4 ≤ n3 + 5001, ?_, ?_⟩
    · refine ⟨_, rfl, _, rfl, p, c, ns, n3, r3, 5, rfl, P3, by decide, by decide, by omega, fun d n4 r4 d0 d1 c1 c2 P4 => ?_⟩
      have e4 := Ext.upd p H6 (.dK (penD c n4 r4))
      have hl4' := e4 l _ nlp hl
      have R4 := R.ext e4 P3 nDp
      generalize upd H6 p (.dK (penD c n4 r4)) = H7 at e4 hl4' R4 P4 ⊢
      refine ⟨_, rfl, p, c, l, ns, n4, r4, d, ws, rfl, P4, by omega, d0, by omega, hl4', gn8, by omega, fun q t x n5 r5 H8 hq htx e5 P5 c3 c4 => ?_⟩
      obtain ⟨tx, tr, ht, pf⟩ := htx
      exact ⟨q, _, rfl, .inl (.inl hq), rfl, _, _, rfl, _, _, rfl, rfl, t, x, tr, n5, r5, rfl, tx, ht, pf, e5 l _ nlp hl4', R4.ext e5 P4 nDp, P5, by omega, by omega⟩
    clear P3 R hl
    intro σ4 H7 hm4
    obtain ⟨t, x, tr, n4, r4, rfl, tx, ht, pf, hl, R, P4, c1, c2⟩ := hm4
    have hk := tree_ok ht
    have hout := padF_out pf
    have rm := reads_mem ht
    have rl16 : (readsT tr).length ≤ 16 := reads_len ht
    have pl := post_len ht
    have pl1 : (post tr).length ≤ 1000 := by
      have : (2 : Nat) ^ (4 + 1) = 32 := by decide
      omega
    have hps := pars_post tr
    have few : (pars (post tr)).length < 64 := by rw [hps]; omega
    have txr : ∀ y ∈ readsT tr, Tx 8 y := fun y hy => tx8 y (rm y hy)
    have txn : Tx 8 nm := tx8 nm hnm
    -- the formula, and the results again
    refine ⟨fun σ' H' => ∃ (q D2 : Addr) (ks : List Str), σ' = [some (.ref a), some (.ref p), some (.int z), some (.ref l), some (.ref D), some (.str nm), some (.int z6), some (.ref t), some (.str x), some (.ref q), some (.ref D2), u11, u12, u13, u14, none] ∧ FmO H' q C x (post tr) ∧ KeptD H' D2 kvs ks env nm (readsT tr) ∧ D2 ≠ p ∧ Same H7 H', ?_, ?_⟩
    · refine ⟨_, rfl, fun q dq h1 h2 h3 => ?_⟩
      refine new_of tx.len hout h1 h2 h3 fun H8 s8 fm => ⟨rfl, ?_⟩
      refine ⟨_, rfl, D, kvs, rfl, .inl (s8 _ _ R.at_), fun D2 hD2 => ⟨_, _, rfl, q, D2, ?_⟩⟩
      have s9 := same_new (o := .dK kvs) hD2
      obtain ⟨ks, kd⟩ := kept_all (nm := nm) R (by omega) rm (H' := upd H8 D2 (.dK kvs)) (D' := D2) upd_same fun b xs h => s9 _ _ (s8 _ _ h)
      exact ⟨ks, rfl, fm.same s9, kd, (fun z => by rw [z, s8 _ _ P4.d] at hD2; cases hD2), s8.trans s9⟩
    intro σ5 H8 hm5
    obtain ⟨q, D2, ks, rfl, fm, kd, nD2, s8⟩ := hm5
    replace hl := s8 _ _ hl
    replace R := R.same s8
    replace P4 := P4.grow s8
    replace ht := ht.grow fun b xs h => s8 b _ h
    clear s8

    -- fewer results
    refine ⟨fun σ' H' => ∃ (D3 : Addr) (kvs3 : List (Key × V)) (ks3 : List Str) (n5 r5 : Int), σ' = [some (.ref a), some (.ref p), some (.int z), some (.ref l), some (.ref D), some (.str nm), some (.int z6), some (.ref t), some (.str x), some (.ref q), some (.ref D3), u11, u12, u13, u14, none] ∧ KeptD H' D3 kvs3 ks3 env nm (readsT tr) ∧ Ext p H8 H' ∧ PenAt H' p c ns n5 r5 ∧ n4 ≤ n5 ∧ n5 ≤ n4 + 1, ?_, ?_⟩
    · refine ⟨_, rfl, p, c, ns, n4, r4, 2, rfl, P4, by decide, by decide, by omega, fun d n5 r5 d0 d1 c3 c4 P5 => ⟨rfl, _, rfl, ?_⟩⟩
      have e9 := Ext.upd p H8 (.dK (penD c n5 r5))
      have R9 := R.ext e9 P4 nDp
      have kd9 := kd.grow (e9 _ _ nD2 kd.at_) fun b xs h => e9 b _ (fun z => by rw [z, P4.d] at h; cases h) h
      generalize upd H8 p (.dK (penD c n5 r5)) = H9 at e9 R9 kd9 P5 ⊢
      cases hd : decide (V.int d = V.int 0) with
      | false => exact iteF ⟨D2, kvs, ks, n5, r5, rfl, kd9, e9, P5, by omega, by omega⟩
      | true =>
        have kl : kvs.length ≤ 26 := Nat.le_trans R9.few (by omega)
        obtain ⟨ks0, ek, hk1, hk2, hkl⟩ := res_keys R9
        refine iteT ⟨D, .dK kvs, R9.at_, trivial, fun od => ⟨_, rfl, D, od, rfl, .inl ⟨kvs, upd_same, fun L hL => ?_⟩⟩⟩
        have neL : D ≠ L := fun z => by rw [← z, upd_same] at hL; cases hL
        have hL0 : H9 L = none := by rw [upd_ne (Ne.symm neL)] at hL; exact hL
        refine lc_it (walk_keys (d := D) (o := od) (kvs := kvs)) (fun i H' => ∃ qs : List Addr, H' L = some (.lst (qs.map V.ref)) ∧ qs.length ≤ i ∧ Paired (fun (u : Addr) (kv : Key × V) => H' u = some (.tup [kV kv.1, kv.2])) qs (lessK kvs (restT nm (ks0.take i))) ∧ H' D = some (.frz od (.dK kvs)) ∧ ∀ b o, b ≠ L → b ≠ D → H9 b = some o → H' b = some o) ?_ (fun i H' _ hP => ?_) (fun i x H' H2 hi hP hy => ?_) (fun H' hP => ?_)
        · exact ⟨[], upd_same, Nat.le_refl _, .nil, by rw [upd_ne neL, upd_same], fun b o n1 n2 h => by rw [upd_ne n1, upd_ne n2]; exact h⟩
        · obtain ⟨qs, h1, h2, h3, h4, h5⟩ := hP
          exact h4
        · obtain ⟨qs, h1, h2, h3, h4, h5⟩ := hP
          obtain ⟨rfl, kk, vv, hkv, rfl⟩ := hy
          obtain ⟨y, hyk, rfl⟩ : ∃ y, ks0[i]? = some y ∧ kk = Sum.inr y := by
            have e1 : (kvs.map (·.1))[i]? = some kk := by rw [List.getElem?_map, hkv]; rfl
            rw [ek, List.getElem?_map] at e1
            cases q : ks0[i]? with
            | none => rw [q] at e1; cases e1
            | some y => rw [q] at e1; exact ⟨y, rfl, (Option.some.inj e1).symm⟩
          obtain ⟨b, hb, rb⟩ := R9.all y (hk1 y (List.mem_of_getElem? hyk))
          have dg : DGet H2 D (.str y) (some (.ref b)) := .inl ⟨kvs, Sum.inr y, .inr ⟨od, h4⟩, rfl, hb.symm⟩
          have et : restT nm (ks0.take (i + 1)) = restT nm (ks0.take i) ++ restT nm [y] := by
            rw [List.take_succ, hyk]
            exact List.filter_append ..
          have eo : entOf kvs y = .ref b := by unfold entOf; rw [hb]; rfl
          refine ⟨rfl, _, rfl, _, rfl, rfl, _, rfl, ?_⟩
          show (if (!decide (V.str y = V.str nm)) = true then _ else _)
          by_cases cy : y = nm
          · rw [cy, ne_str]
            refine iteF ⟨qs, h1, by omega, ?_, h4, h5⟩
            have e0 : restT nm [y] = [] := by unfold restT; rw [List.filter_cons, decide_eq_true cy]; rfl
            rw [et, e0, List.append_nil]
            exact h3
          · rw [decide_eq_false (fun z => cy (V.str.inj z))]
            refine iteT ⟨_, rfl, _, rfl, _, rfl, D, _, rfl, dg, by show 2 ≤ sizeLine; decide, fun u hu => ?_⟩
            have su := same_new (o := .tup [.str y, .ref b]) hu
            have h1' := su _ _ h1
            have nu : u ≠ L := fun z => by rw [z, h1] at hu; cases hu
            have su2 : ∀ b' xs, H2 b' = some (.tup xs) → (upd (upd H2 u (.tup [.str y, .ref b])) L (.lst (qs.map V.ref ++ [.ref u]))) b' = some (.tup xs) := fun b' xs h => by
              rw [upd_ne (fun z => by rw [z, h1] at h; cases h)]
              exact su _ _ h
            refine ⟨_, h1', by rw [List.length_map]; omega, qs ++ [u], by rw [upd_same, List.map_append]; rfl, by rw [List.length_append, List.length_singleton]; omega, ?_, by rw [upd_ne neL]; exact su _ _ h4, fun b' o n1 n2 h => by rw [upd_ne n1]; exact su _ _ (h5 b' o n1 n2 h)⟩
            have e0 : lessK kvs (restT nm [y]) = [((Sum.inr y : Key), V.ref b)] := by
              have : restT nm [y] = [y] := by unfold restT; rw [List.filter_cons, decide_eq_false cy]; rfl
              rw [this]
              unfold lessK
              rw [List.map_cons, eo]
              rfl
            have e1 : lessK kvs (restT nm (ks0.take (i + 1))) = lessK kvs (restT nm (ks0.take i)) ++ [((Sum.inr y : Key), V.ref b)] := by
              rw [et, ← e0]
              exact List.map_append ..
            rw [e1]
            exact paired_snoc (L2.Paired.mapP h3 (fun u' kv hh => su2 _ _ hh)) (by show _ = some (HO.tup [V.str y, V.ref b]); rw [upd_ne nu, upd_same]; rfl)
        · obtain ⟨qs, h1, h2, h3, h4, h5⟩ := hP
          rw [← hkl, List.take_length] at h3
          refine ⟨h4, ?_⟩
          have nLe : L ≠ D := Ne.symm neL
          have h1' : upd H' D (.dK kvs) L = some (.lst (qs.map V.ref)) := by rw [upd_ne nLe]; exact h1
          have s1 : Same H9 (upd H' D (.dK kvs)) := fun b o h => by
            by_cases c : b = D
            · rw [c, upd_same, ← R9.at_, ← c]
              exact h
            · rw [upd_ne c]
              exact h5 b o (ne_of_none h hL0) c h
          refine ⟨L, qs, lessK kvs (restT nm ks0), rfl, SqL.of h1', L2.Paired.mapP h3 (fun u kv hh => SqT.of (by rw [upd_ne (fun z => by rw [z, h4] at hh; cases hh)]; exact hh)), fun dd hdd => ?_⟩
          have s2 := s1.trans (same_new (o := .dK (mergeK [] (lessK kvs (restT nm ks0)))) hdd)
          have lr : (restT nm ks0).length ≤ 26 := Nat.le_trans (List.length_filter_le _ _) (by rw [hkl]; exact kl)
          obtain ⟨ks3, kd3⟩ := kept_less (nm := nm) R9 rm (ls := restT nm ks0) lr (fun y hy cy => List.mem_filter.mpr ⟨hk2 y (rm y hy), by rw [decide_eq_false cy]; rfl⟩) (H' := upd (upd H' D (.dK kvs)) dd (.dK (mergeK [] (lessK kvs (restT nm ks0))))) (D' := dd) upd_same fun b xs h => s2 _ _ h
          exact ⟨dd, _, ks3, n5, r5, rfl, kd3, fun b o nb h => s2 _ _ (e9 b o nb h), P5.grow s2, by omega, by omega⟩
    intro σ6 H9 hm6
    obtain ⟨D3, kvs3, ks3, n5, r5, rfl, kd3, e9, P5, c3, c4⟩ := hm6
    have kt : ∀ b xs, H8 b = some (.tup xs) → H9 b = some (.tup xs) := fun b xs h => e9 b _ (fun z => by rw [z, P4.d] at h; cases h) h
    replace hl := e9 l _ nlp hl
    replace R := R.ext e9 P4 nDp
    replace fm := fm.ext e9 P4
    replace ht := ht.grow kt
    clear e9 P4 kt kd nD2
    -- told, and the failures
    refine ⟨fun σ' H' => ∃ (v : V) (fl : Addr), σ' = [some (.ref a), some (.ref p), some (.int z), some (.ref l), some (.ref D), some (.str nm), some (.int z6), some (.ref t), some (.str x), some (.ref q), some (.ref D3), some v, some (.ref fl), u13, u14, none] ∧ TldAt H' v nm env tr ∧ H' fl = some (.lst ((fails nm env tr).map V.str)) ∧ Same H9 H', ?_, ?_⟩
    · refine ⟨_, rfl, _, rfl, _, rfl, told_fit (E := fun _ _ _ => False) hk fm few pl1 kd3 fun v H10 s10 tl => ⟨_, rfl, _, rfl, _, rfl, t, D, ws, tr, kvs, env, nm, rfl, ht.grow fun b xs h => s10 b _ h, by decide, s10 _ _ R.at_, res_env (R.same s10) rm, fun fl H11 s11 _ hfl => ⟨_, _, rfl, v, fl, rfl, tl.same s11, hfl, s10.trans s11⟩⟩⟩
    intro σ7 H10 hm7
    obtain ⟨v, fl, rfl, tl, hfl, s10⟩ := hm7
    replace hl := s10 _ _ hl
    replace R := R.same s10
    replace fm := fm.same s10
    replace ht := ht.grow fun b xs h => s10 b _ h
    replace P5 := P5.grow s10
    clear s10 kd3
    have bds := at_bounds R rm
    -- held against the tree
    refine ⟨fun σ' H' => ∃ (o13 : Option V) (n6 r6 : Int), σ' = [some (.ref a), some (.ref p), some (.int z), some (.ref l), some (.ref D), some (.str nm), some (.int z6), some (.ref t), some (.str x), some (.ref q), some (.ref D3), some v, some (.ref fl), o13, u14, none] ∧ Ext p H10 H' ∧ PenAt H' p c ns n6 r6 ∧ n5 ≤ n6 ∧ n6 ≤ n5 + 20, ?_, ?_⟩
    · refine ⟨_, rfl, _, rfl, t, ws, tr, nm, rfl, ht, by decide, tx8, fun H11 s11 => ⟨_, rfl, ?_⟩⟩
      have wf : ∀ y ∈ fails nm env tr, Tx 8 y := fun y hy => wd_tx (fails_wd bds.2 y hy)
      have fls := strs_shaped wf
      have okb : PyData.strOk ("bent" : Str) = true := by decide +kernel
      have okf : PyData.strOk ("failed" : Str) = true := by decide +kernel
      rcases tl with ⟨h, l2, rfl, a2⟩ | ⟨h, w9, ws9, l2, e, rfl, a2⟩ | ⟨h, e, sl, b, rfl, g1, g2, a2⟩
      · rw [h]
        refine iteT ⟨_, rfl, _, rfl, by show 3 ≤ sizeLine; decide, fun m hm => ?_⟩
        have s12 := s11.trans (same_new (o := triV "bent" nm) hm)
        refine ⟨triD "bent" nm, triD "bent" nm, tri_dp (s12 _ _ a2), tri_dp upd_same, tri_sh okb (strOk_tx txn), tri_sh okb (strOk_tx txn), _, rfl, ?_⟩
        rw [tri_eqv]
        exact iteF ⟨_, n5, r5, rfl, fun b o _ h => s12 b o h, P5.grow s12, by omega, by omega⟩
      · rw [h]
        refine iteF ⟨_, rfl, by show 0 ≤ sizeLine; decide, fun m hm => ?_⟩
        have s12 := s11.trans (same_new (o := .lst []) hm)
        refine ⟨.list ((fails nm env tr).map PyData.str), .list [], .lst (SqL.of (s12 _ _ hfl)) (strs_dp _), .lst (SqL.of upd_same) .nil, fls, by decide +kernel, _, rfl, ?_⟩
        have w9t : Tx 8 w9 := wf w9 (by rw [e]; exact List.mem_cons_self ..)
        rw [strs_eqv]
        rw [e] at hfl ⊢
        generalize upd H11 m (.lst []) = H12 at s12 ⊢
        refine iteT ⟨_, rfl, _, rfl, fl, _, _, .str w9, rfl, rfl, SqL.of (s12 _ _ hfl), atI_nat (xs := (w9 :: ws9).map V.str) (j := 0) rfl, by show 3 ≤ sizeLine; decide, fun m3 hm3 => ?_⟩
        have s13 := s12.trans (same_new (o := triV "failed" w9) hm3)
        refine ⟨triD "failed" w9, triD "failed" w9, tri_dp (s13 _ _ a2), tri_dp upd_same, tri_sh okf (strOk_tx w9t), tri_sh okf (strOk_tx w9t), _, rfl, ?_⟩
        rw [tri_eqv]
        exact iteF ⟨_, n5, r5, rfl, fun b o _ h => s13 b o h, P5.grow s13, by omega, by omega⟩
      · rw [h]
        refine iteF ⟨_, rfl, by show 0 ≤ sizeLine; decide, fun m hm => ?_⟩
        have s12 := s11.trans (same_new (o := .lst []) hm)
        refine ⟨.list ((fails nm env tr).map PyData.str), .list [], .lst (SqL.of (s12 _ _ hfl)) (strs_dp _), .lst (SqL.of upd_same) .nil, fls, by decide +kernel, _, rfl, ?_⟩
        rw [strs_eqv, e]
        generalize upd H11 m (.lst []) = H12 at s12 ⊢
        have a3 := s12 _ _ a2
        refine iteF ⟨_, rfl, .ref b, _, _, _, true, rfl, .ty "tuple", .base (.tup a3), kit_ty kt_tup, _, rfl, iteF ?_⟩
        refine ⟨_, rfl, .ref b, 2, rfl, .inr ⟨_, SqT.of a3, rfl⟩, rfl, _, rfl, iteF ?_⟩
        have P12 := P5.grow s12
        have e12 : Ext p H10 H12 := fun b o _ h => s12 b o h
        refine ⟨_, rfl, _, rfl, _, _, rfl, rfl, CPa, p, c, ns, n5, r5, _, rfl, P12, by omega, by rw [ten30]; decide, by rw [ten30]; decide, fun k1 n6 r6 H14 d0 d1 f1 f2 e14 P14 => ?_⟩
        rw [ten30] at d0 d1
        refine ⟨_, rfl, p, c, ns, n6, r6, 9, rfl, P14, by omega, by decide, by decide, fun k2 n7 r7 d2 d3 f3 f4 P15 => ?_⟩
        have e15 := (e12.trans e14).trans (Ext.upd p H14 (.dK (penD c n7 r7)))
        generalize upd H14 p (.dK (penD c n7 r7)) = H15 at e15 P15 ⊢
        refine ⟨by show 5 ≤ sizeLine; decide, fun vl hvl => ?_⟩
        have s16 := same_new (o := .lst [.int 0, .int 1, .int (-3), .int k1, .int k2]) hvl
        have e16 : Ext p H10 (upd H15 vl (.lst [.int 0, .int 1, .int (-3), .int k1, .int k2])) := fun b o nb h => s16 _ _ (e15 b o nb h)
        have P16 := P15.grow s16
        have hvl2 : upd H15 vl (.lst [.int 0, .int 1, .int (-3), .int k1, .int k2]) vl = some (.lst [.int 0, .int 1, .int (-3), .int k1, .int k2]) := upd_same
        generalize upd H15 vl (.lst [.int 0, .int 1, .int (-3), .int k1, .int k2]) = H16 at e16 P16 hvl2 ⊢
        have vb : ∀ x ∈ [V.int 0, .int 1, .int (-3), .int k1, .int k2], ∃ z9 : Int, x = .int z9 ∧ z9.natAbs < 2 ^ 102 := by
          have e2 : (2 : Nat) ^ 102 = 5070602400912917605986812821504 := by decide
          intro x hx
          simp only [List.mem_cons, List.not_mem_nil, or_false] at hx
          rcases hx with rfl | rfl | rfl | rfl | rfl <;> exact ⟨_, rfl, by omega⟩
        generalize [V.int 0, .int 1, .int (-3), .int k1, .int k2] = vals at hvl2 vb ⊢
        have kt16 : ∀ b xs, H10 b = some (.tup xs) → H16 b = some (.tup xs) := fun b xs h => e16 b _ (fun z => by rw [z, P5.d] at h; cases h) h
        have ht16 := ht.grow kt16
        have R16 := R.ext e16 P5 nDp
        have a16 : H16 b = some (.tup [.int sl.s, .int sl.r]) := e16 _ _ (fun z => by rw [z, P5.d] at a2; cases a2) a2
        have slo := sl_bits ht bds.1 g1
        refine ⟨vl, rfl, ⟨_, SqL.of hvl2⟩, for_list (xs := vals) (fun i σ' H' => ∃ o13 : Option V, σ' = [some (.ref a), some (.ref p), some (.int z), some (.ref l), some (.ref D), some (.str nm), some (.int z6), some (.ref t), some (.str x), some (.ref q), some (.ref D3), some (.ref b), some (.ref fl), o13, u14, none] ∧ Same H16 H') ⟨_, rfl, Same.refl _⟩ (fun i σ H' _ hh => ?_) (fun i x σ H' hx hh => ?_) (fun σ H' hh => ?_)⟩
        · obtain ⟨o13, rfl, sH⟩ := hh
          exact SqL.of (sH _ _ hvl2)
        · obtain ⟨o13, rfl, sH⟩ := hh
          obtain ⟨z9, rfl, hz9⟩ := vb x (List.mem_of_getElem? hx)
          refine ⟨_, rfl, b, _, _, _, rfl, rfl, SqT.of (sH _ _ a16), rfl, _, rfl, _, _, rfl, rfl, wide_mul slo.ln.1 hz9 (by decide) (by decide) (by decide), _, rfl, b, _, _, _, rfl, rfl, SqT.of (sH _ _ a16), rfl, _, _, rfl, rfl, ?_⟩
          refine ⟨_, rfl, _, rfl, _, rfl, _, rfl, D, kvs, env, ws, nm, z9, rfl, R16.same sH, by omega, fun De kvse H17 s17 hDe hve => ?_⟩
          have sH17 := sH.trans s17
          refine ⟨t, De, ws, tr, kvse, vlsT nm env z9, rfl, ht16.grow fun b xs h => sH17 b _ h, by decide, hDe, vls_val e hz9 bds.1 fun y hy => hve y (rm y hy), fun H18 s18 => ⟨rfl, _, rfl, ?_⟩⟩
          have eq : sl.s * z9 + sl.r = exT (vlsT nm env z9) tr := by rw [g2 _ (vls_good nm env z9 tr), vls_nm]
          show (if (!decide (V.int (sl.s * z9 + sl.r) = V.int (exT (vlsT nm env z9) tr))) = true then _ else _)
          rw [eq, ne_int]
          exact iteF ⟨_, rfl, sH17.trans s18⟩
        · obtain ⟨o13, rfl, sH⟩ := hh
          exact ⟨o13, n7, r7, rfl, fun b o nb h => sH _ _ (e16 b o nb h), P16.grow sH, by omega, by omega⟩
    intro σ8 H11 hm8
    obtain ⟨o13, n6, r6, rfl, e11, P6, f1, f2⟩ := hm8
    have kt : ∀ b xs, H10 b = some (.tup xs) → H11 b = some (.tup xs) := fun b xs h => e11 b _ (fun z => by rw [z, P5.d] at h; cases h) h
    replace hl := e11 l _ nlp hl
    replace R := R.ext e11 P5 nDp
    replace fm := fm.ext e11 P5
    replace ht := ht.grow kt
    clear e11 P5 kt hfl tl
    -- the names that lack
    refine ⟨fun σ' H' => ∃ L2 : Addr, σ' = [some (.ref a), some (.ref p), some (.int z), some (.ref l), some (.ref D), some (.str nm), some (.int z6), some (.ref t), some (.str x), some (.ref q), some (.ref D3), some v, some (.ref fl), o13, some (.ref L2), none] ∧ H' L2 = some (.lst ((restT nm (readsT tr)).map V.str)) ∧ Same H11 H', ?_, ?_⟩
    · refine ⟨_, rfl, t, ws, tr, rfl, ht, by decide, fun rl H12 s12 _ hrl => ⟨rl, rfl, ⟨_, SqL.of hrl⟩, fun L2 hL2 => ?_⟩⟩
      refine lc_list (xs := (readsT tr).map V.str) (fun i H' => H' L2 = some (.lst ((restT nm ((readsT tr).take i)).map V.str)) ∧ ∀ b o, b ≠ L2 → H12 b = some o → H' b = some o) ?_ (fun i H' _ hP => ?_) (fun i v H' hv hP => ?_) (fun H' hP => ?_)
      · exact ⟨upd_same, fun b o nb e => by rw [upd_ne nb]; exact e⟩
      · exact SqL.of (hP.2 _ _ (ne_of_none hrl hL2) hrl)
      · obtain ⟨h1, h2⟩ := hP
        obtain ⟨y, hy, rfl⟩ : ∃ y, (readsT tr)[i]? = some y ∧ V.str y = v := by
          rw [List.getElem?_map] at hv
          cases q : (readsT tr)[i]? with
          | none => rw [q] at hv; cases hv
          | some a => rw [q] at hv; exact ⟨a, rfl, Option.some.inj hv⟩
        have et : restT nm ((readsT tr).take (i + 1)) = restT nm ((readsT tr).take i) ++ restT nm [y] := by
          rw [List.take_succ, hy]
          exact List.filter_append ..
        have lf : (restT nm ((readsT tr).take i)).length ≤ 16 := by
          have g1 : (restT nm ((readsT tr).take i)).length ≤ ((readsT tr).take i).length := List.length_filter_le _ _
          have g2 : ((readsT tr).take i).length ≤ (readsT tr).length := List.length_take_le' ..
          omega
        refine ⟨rfl, _, rfl, _, rfl, rfl, _, rfl, ?_⟩
        show (if (!decide (V.str y = V.str nm)) = true then _ else _)
        by_cases cy : y = nm
        · rw [cy, ne_str]
          refine iteF ⟨?_, h2⟩
          have e0 : restT nm [y] = [] := by unfold restT; rw [List.filter_cons, decide_eq_true cy]; rfl
          rw [et, e0, List.append_nil]
          exact h1
        · rw [decide_eq_false (fun z => cy (V.str.inj z))]
          refine iteT ⟨_, rfl, _, h1, by rw [List.length_map]; omega, ?_, fun b o nb e => by rw [upd_ne nb]; exact h2 b o nb e⟩
          have e0 : restT nm [y] = [y] := by unfold restT; rw [List.filter_cons, decide_eq_false cy]; rfl
          rw [upd_same, et, e0, List.map_append]
          rfl
      · obtain ⟨h1, h2⟩ := hP
        rw [List.length_map, List.take_length] at h1
        exact ⟨L2, rfl, h1, fun b o e => h2 b o (ne_of_none (s12 _ _ e) hL2) (s12 _ _ e)⟩
    intro σ9 H12 hm9
    obtain ⟨L2, rfl, hL2, s12⟩ := hm9
    replace hl := s12 _ _ hl
    replace R := R.same s12
    replace fm := fm.same s12
    replace P6 := P6.grow s12
    clear s12 ht
    -- told of one result
    obtain ⟨bn, hbn, _⟩ := R.all nm hnm
    refine ⟨fun σ' H' => ∃ v2 : V, σ' = [some (.ref a), some (.ref p), some (.int z), some (.ref l), some (.ref D), some (.str nm), some (.int z6), some (.ref t), some (.str x), some (.ref q), some (.ref D3), some v2, some (.ref fl), o13, some (.ref L2), none] ∧ TldL H' v2 nm (readsT tr) ∧ Same H12 H', ?_, ?_⟩
    · refine ⟨_, rfl, _, rfl, fun d hd0 => ?_⟩
      have dg : DGet (upd H12 d (.dK [])) D (.str nm) (some (.ref bn)) := by
        have := DGet.k (k := (Sum.inr nm : Key)) (same_new (o := .dK []) hd0 _ _ R.at_)
        rwa [hbn] at this
      refine ⟨_, rfl, _, rfl, _, rfl, D, _, rfl, dg, upd_same, [((Sum.inr nm : Key), V.ref bn)], rfl, (by show 1 ≤ 15; decide), ?_⟩
      rw [upd_upd]
      have sd := same_new (o := .dK (mergeK [] [((Sum.inr nm : Key), V.ref bn)])) hd0
      exact told_one (E := fun _ _ _ => False) (env := env) hk (fm.same sd) few pl1 upd_same fun v2 H14 s14 tl2 => ⟨v2, rfl, tl2, sd.trans s14⟩
    intro σ10 H13 hm10
    obtain ⟨v2, rfl, tl2, s13⟩ := hm10
    have hL2' := s13 _ _ hL2
    have hl' := s13 _ _ hl
    have R' := R.same s13
    have P' := P6.grow s13
    have nf : n6 ≤ n2 + 5100 * ((j + 1 : Nat) : Int) := by omega
    have txk : ∀ y ∈ restT nm (readsT tr), Tx 8 y := fun y hy => txr y (List.mem_filter.mp hy).1
    refine ⟨_, rfl, by show 0 ≤ sizeLine; decide, fun m hm => ?_⟩
    have sm := same_new (o := .lst []) hm
    refine ⟨.list ((restT nm (readsT tr)).map PyData.str), .list [], .lst (SqL.of (sm _ _ hL2')) (strs_dp _), .lst (SqL.of upd_same) .nil, strs_shaped txk, by decide +kernel, _, rfl, ?_⟩
    rw [strs_eqv]
    cases hre : restT nm (readsT tr) with
    | nil => exact iteF (iteF ⟨_, _, _, _, _, _, _, _, _, n6, r6, rfl, sm _ _ hl', R'.same sm, P'.grow sm, by omega, nf⟩)
    | cons y9 ys9 =>
      have y9t : Tx 8 y9 := txk y9 (by rw [hre]; exact List.mem_cons_self ..)
      obtain ⟨l9, rfl, hl9⟩ := tl2 y9 ys9 hre
      rw [hre] at hL2'
      have okn : PyData.strOk ("unknown" : Str) = true := by decide +kernel
      generalize upd H13 m (.lst []) = H14 at sm ⊢
      refine iteT ⟨_, rfl, _, rfl, L2, _, _, .str y9, rfl, rfl, SqL.of (sm _ _ hL2'), atI_nat (xs := (y9 :: ys9).map V.str) (j := 0) rfl, by show 3 ≤ sizeLine; decide, fun m3 hm3 => ?_⟩
      have s14 := sm.trans (same_new (o := triV "unknown" y9) hm3)
      refine ⟨triD "unknown" y9, triD "unknown" y9, tri_dp (s14 _ _ hl9), tri_dp upd_same, tri_sh okn (strOk_tx y9t), tri_sh okn (strOk_tx y9t), _, rfl, ?_⟩
      rw [tri_eqv]
      exact iteF ⟨_, _, _, _, _, _, _, _, _, n6, r6, rfl, s14 _ _ hl', R'.same s14, P'.grow s14, by omega, nf⟩
end
end Toy
end

section
set_option Elab.async false
set_option linter.all false
set_option maxRecDepth 100000
set_option maxHeartbeats 0
namespace Toy
open PySem PySem.Spec PyProof.Rows L2 Gd LamX Kt KeyE
theorem lawG {w : World} {K : PySem.W.Frag} {h : Heap} {mg : Str → Option Value} {fa : Addr} (X : K.In h) (G : h.Ns mainGlobals mg) (hfa : mg ("law" : Str) = some (.ref fa)) (c : He.SaysX faL fnL tsL tfL exBh w h K) :
    LawG PySem.Challenge.rw_solidnames_k03_linear_formulas w K CX0 16 63 "_law_script" mg fa h := by
  have cd := c.t.d
  obtain ⟨hE, hM⟩ := He.ba c.more
  obtain ⟨hN, hM⟩ := He.ba hM
  obtain ⟨hA, hM⟩ := He.ba hM
  obtain ⟨hU, hM⟩ := He.ba hM
  have PF := miB_ok hM
  have ErP : ErrF K "ParseError" := errB_ok hE
  have ErN : ErrF K "NotLinear" := errB_ok hN
  have ErA : ErrA K "Failed" := errA_ok hA
  have ErU : ErrU K "UnknownName" := errK_ok hU
  have hdic : He.dicW K (He.ga K "LEVELS") = some (He.keysIn w.params (levT.map (·.1))) := by
    have e : tsL.map (fun t => He.dicW K (t.1 K)) = tsL.map fun t => some (He.keysIn w.params t.2) := congrArg (fun z : He.AlT => z.2) c.t
    exact (List.cons.inj e).1
  have TB : Tbl K w (He.ga K "LEVELS") levT := tbl_of hdic PF.lv
  obtain ⟨fd_ip, FD_ip⟩ := cd.def_ 0 (d := dN0) rfl
  have F_ip := funOf (st := sInitParse) FD_ip
  have b_ip := F_ip.binds (ps := ["self", "index"]) (fun _ _ _ _ _ _ us hl => match us, hl with | [_, _], _ => rfl)
  obtain ⟨fd_in, FD_in⟩ := cd.def_ 1 (d := dN1) rfl
  have F_in := funOf (st := sInitNot) FD_in
  have b_in := F_in.binds (ps := ["self", "name"]) (fun _ _ _ _ _ _ us hl => match us, hl with | [_, _], _ => rfl)
  obtain ⟨fd_ia, FD_ia⟩ := cd.def_ 2 (d := dN2) rfl
  have F_ia := funOf (st := sInitFail) FD_ia
  have b_ia := F_ia.binds (ps := ["self", "word"]) (fun _ _ _ _ _ _ us hl => match us, hl with | [_, _], _ => rfl)
  obtain ⟨fd_iu, FD_iu⟩ := cd.def_ 3 (d := dN3) rfl
  have F_iu := funOf (st := sInitUnk) FD_iu
  have b_iu := F_iu.binds (ps := ["self", "name"]) (fun _ _ _ _ _ _ us hl => match us, hl with | [_, _], _ => rfl)
  obtain ⟨fd_r___init__, FD_r___init__⟩ := cd.def_ 4 (d := dN4) rfl
  have F_r___init__ := funOf (st := sRInit) FD_r___init__
  have b_r___init__ := F_r___init__.binds (ps := ["self", "text"]) (fun _ _ _ _ _ _ us hl => match us, hl with | [_, _], _ => rfl)
  obtain ⟨fd_r_read, FD_r_read⟩ := cd.def_ 5 (d := dN5) rfl
  have F_r_read := funOf (st := sRRead) FD_r_read
  have b_r_read := F_r_read.binds (ps := ["self"]) (fun _ _ _ _ _ _ us hl => match us, hl with | [_], _ => rfl)
  obtain ⟨fd_r_skip_spaces, FD_r_skip_spaces⟩ := cd.def_ 6 (d := dN6) rfl
  have F_r_skip_spaces := funOf (st := sRSkip) FD_r_skip_spaces
  have b_r_skip_spaces := F_r_skip_spaces.binds (ps := ["self"]) (fun _ _ _ _ _ _ us hl => match us, hl with | [_], _ => rfl)
  obtain ⟨fd_r_run_of, FD_r_run_of⟩ := cd.def_ 7 (d := dN7) rfl
  have F_r_run_of := funOf (st := sRRun) FD_r_run_of
  have b_r_run_of := F_r_run_of.binds (ps := ["self", "signs", "most"]) (fun _ _ _ _ _ _ us hl => match us, hl with | [_, _, _], _ => rfl)
  obtain ⟨fd_r_read_operand, FD_r_read_operand⟩ := cd.def_ 8 (d := dN8) rfl
  have F_r_read_operand := funOf (st := sROpd) FD_r_read_operand
  have b_r_read_operand := F_r_read_operand.binds (ps := ["self"]) (fun _ _ _ _ _ _ us hl => match us, hl with | [_], _ => rfl)
  obtain ⟨fd_r_read_word, FD_r_read_word⟩ := cd.def_ 9 (d := dN9) rfl
  have F_r_read_word := funOf (st := sRWord) FD_r_read_word
  have b_r_read_word := F_r_read_word.binds (ps := ["self"]) (fun _ _ _ _ _ _ us hl => match us, hl with | [_], _ => rfl)
  obtain ⟨fd_r_read_bracket, FD_r_read_bracket⟩ := cd.def_ 10 (d := dN10) rfl
  have F_r_read_bracket := funOf (st := sRBr) FD_r_read_bracket
  have b_r_read_bracket := F_r_read_bracket.binds (ps := ["self"]) (fun _ _ _ _ _ _ us hl => match us, hl with | [_], _ => rfl)
  obtain ⟨fd_r_read_operator, FD_r_read_operator⟩ := cd.def_ 11 (d := dN11) rfl
  have F_r_read_operator := funOf (st := sROp) FD_r_read_operator
  have b_r_read_operator := F_r_read_operator.binds (ps := ["self"]) (fun _ _ _ _ _ _ us hl => match us, hl with | [_], _ => rfl)
  obtain ⟨fd_r_read_comma, FD_r_read_comma⟩ := cd.def_ 12 (d := dN12) rfl
  have F_r_read_comma := funOf (st := sRComma) FD_r_read_comma
  have b_r_read_comma := F_r_read_comma.binds (ps := ["self"]) (fun _ _ _ _ _ _ us hl => match us, hl with | [_], _ => rfl)
  obtain ⟨fd_r_read_end, FD_r_read_end⟩ := cd.def_ 13 (d := dN13) rfl
  have F_r_read_end := funOf (st := sREnd) FD_r_read_end
  have b_r_read_end := F_r_read_end.binds (ps := ["self"]) (fun _ _ _ _ _ _ us hl => match us, hl with | [_], _ => rfl)
  obtain ⟨fd_r_finish, FD_r_finish⟩ := cd.def_ 14 (d := dN14) rfl
  have F_r_finish := funOf (st := sRFin) FD_r_finish
  have b_r_finish := F_r_finish.binds (ps := ["self", "level"]) (fun _ _ _ _ _ _ us hl => match us, hl with | [_, _], _ => rfl)
  obtain ⟨fd_fi, FD_fi⟩ := cd.def_ 15 (d := dN15) rfl
  have F_fi := funOf (st := sFInit) FD_fi
  have b_fi := F_fi.binds (ps := ["self", "text"]) (fun _ _ _ _ _ _ us hl => match us, hl with | [_, _], _ => rfl)
  obtain ⟨fd_fm, FD_fm⟩ := cd.def_ 16 (d := dN16) rfl
  have F_fm := funOf (st := sMiss) FD_fm
  have b_fm := F_fm.binds (ps := ["self", "known"]) (fun _ _ _ _ _ _ us hl => match us, hl with | [_, _], _ => rfl)
  obtain ⟨fd_fl, FD_fl⟩ := cd.def_ 17 (d := dN17) rfl
  have F_fl := funOf (st := sLin) FD_fl
  have b_fl := F_fl.binds (ps := ["self", "name", "results"]) (fun _ _ _ _ _ _ us hl => match us, hl with | [_, _, _], _ => rfl)
  obtain ⟨fd_fd, FD_fd⟩ := cd.def_ 18 (d := dN18) rfl
  have F_fd := funOf (st := sDepM) FD_fd
  have b_fd := F_fd.binds (ps := ["self", "known"]) (fun _ _ _ _ _ _ us hl => match us, hl with | [_, _], _ => rfl)
  obtain ⟨fd_is_within, FD_is_within⟩ := cd.def_ 19 (d := dN19) rfl
  have F_is_within := funOf (st := sWithin) FD_is_within
  have b_is_within := F_is_within.binds (ps := ["number"]) (fun _ _ _ _ _ _ us hl => match us, hl with | [_], _ => rfl)
  obtain ⟨fd_result_of, FD_result_of⟩ := cd.def_ 20 (d := dN20) rfl
  have F_result_of := funOf (st := sResOf) FD_result_of
  have b_result_of := F_result_of.binds (ps := ["number"]) (fun _ _ _ _ _ _ us hl => match us, hl with | [_], _ => rfl)
  obtain ⟨fd_combined, FD_combined⟩ := cd.def_ 21 (d := dN21) rfl
  have F_combined := funOf (st := sComb) FD_combined
  have b_combined := F_combined.binds (ps := ["sign", "left", "right"]) (fun _ _ _ _ _ _ us hl => match us, hl with | [_, _, _], _ => rfl)
  obtain ⟨fd_total_of, FD_total_of⟩ := cd.def_ 22 (d := dN22) rfl
  have F_total_of := funOf (st := sTot) FD_total_of
  have b_total_of := F_total_of.binds (ps := ["sign", "one", "other"]) (fun _ _ _ _ _ _ us hl => match us, hl with | [_, _, _], _ => rfl)
  obtain ⟨fd_dependence_of, FD_dependence_of⟩ := cd.def_ 23 (d := dN23) rfl
  have F_dependence_of := funOf (st := sDep) FD_dependence_of
  have b_dependence_of := F_dependence_of.binds (ps := ["code", "known"]) (fun _ _ _ _ _ _ us hl => match us, hl with | [_, _], _ => rfl)
  obtain ⟨fd_dependence_of_both, FD_dependence_of_both⟩ := cd.def_ 24 (d := dN24) rfl
  have F_dependence_of_both := funOf (st := sDepB) FD_dependence_of_both
  have b_dependence_of_both := F_dependence_of_both.binds (ps := ["sign", "left", "right"]) (fun _ _ _ _ _ _ us hl => match us, hl with | [_, _, _], _ => rfl)
  obtain ⟨fd_slope_and_rest, FD_slope_and_rest⟩ := cd.def_ 25 (d := dN25) rfl
  have F_slope_and_rest := funOf (st := sSar) FD_slope_and_rest
  have b_slope_and_rest := F_slope_and_rest.binds (ps := ["code", "name", "results"]) (fun _ _ _ _ _ _ us hl => match us, hl with | [_, _, _], _ => rfl)
  obtain ⟨fd_free_part, FD_free_part⟩ := cd.def_ 26 (d := dN26) rfl
  have F_free_part := funOf (st := sFree) FD_free_part
  have b_free_part := F_free_part.binds (ps := ["result"]) (fun _ _ _ _ _ _ us hl => match us, hl with | [_], _ => rfl)
  obtain ⟨fd_combined_parts, FD_combined_parts⟩ := cd.def_ 27 (d := dN27) rfl
  have F_combined_parts := funOf (st := sCbP) FD_combined_parts
  have b_combined_parts := F_combined_parts.binds (ps := ["sign", "left", "right"]) (fun _ _ _ _ _ _ us hl => match us, hl with | [_, _, _], _ => rfl)
  obtain ⟨fd_Lpen, FD_Lpen⟩ := cd.def_ 28 (d := dN28) rfl
  have F_Lpen := funOf (st := sPen) FD_Lpen
  have b_Lpen := F_Lpen.binds (ps := ["_law_script"]) (fun _ _ _ _ _ _ us hl => match us, hl with | [_], _ => rfl)
  obtain ⟨fd_Ldraw, FD_Ldraw⟩ := cd.def_ 29 (d := dN29) rfl
  have F_Ldraw := funOf (st := sDraw) FD_Ldraw
  have b_Ldraw := F_Ldraw.binds (ps := ["_law_pen_here", "_law_many"]) (fun _ _ _ _ _ _ us hl => match us, hl with | [_, _], _ => rfl)
  obtain ⟨fd_Lpick, FD_Lpick⟩ := cd.def_ 30 (d := dN30) rfl
  have F_Lpick := funOf (st := sPick) FD_Lpick
  have b_Lpick := F_Lpick.binds (ps := ["_law_pen_here", "_law_options"]) (fun _ _ _ _ _ _ us hl => match us, hl with | [_, _], _ => rfl)
  obtain ⟨fd_Laround, FD_Laround⟩ := cd.def_ 31 (d := dN31) rfl
  have F_Laround := funOf (st := sAround) FD_Laround
  have b_Laround := F_Laround.binds (ps := ["_law_pen_here", "_law_most"]) (fun _ _ _ _ _ _ us hl => match us, hl with | [_, _], _ => rfl)
  obtain ⟨fd_Lgreat, FD_Lgreat⟩ := cd.def_ 32 (d := dN32) rfl
  have F_Lgreat := funOf (st := sGreat) FD_Lgreat
  have b_Lgreat := F_Lgreat.binds (ps := ["_law_pen_here", "_law_most"]) (fun _ _ _ _ _ _ us hl => match us, hl with | [_, _], _ => rfl)
  obtain ⟨fd_Lnames, FD_Lnames⟩ := cd.def_ 33 (d := dN33) rfl
  have F_Lnames := funOf (st := sNames) FD_Lnames
  have b_Lnames := F_Lnames.binds (ps := ["_law_pen_here", "_law_many"]) (fun _ _ _ _ _ _ us hl => match us, hl with | [_, _], _ => rfl)
  obtain ⟨fd_Ltree, FD_Ltree⟩ := cd.def_ 34 (d := dN34) rfl
  have F_Ltree := funOf (st := sTree) FD_Ltree
  have b_Ltree := F_Ltree.binds (ps := psTr) (fun _ _ _ _ _ _ us hl => match us, hl with | [_, _, _], _ => rfl)
  obtain ⟨fd_Lgap, FD_Lgap⟩ := cd.def_ 35 (d := dN35) rfl
  have F_Lgap := funOf (st := sGap) FD_Lgap
  have b_Lgap := F_Lgap.binds (ps := ["_law_pen_here", "_law_many"]) (fun _ _ _ _ _ _ us hl => match us, hl with | [_, _], _ => rfl)
  obtain ⟨fd_Ltext_of, FD_Ltext_of⟩ := cd.def_ 36 (d := dN36) rfl
  have F_Ltext_of := funOf (st := sTxt) FD_Ltext_of
  have b_Ltext_of := F_Ltext_of.binds (ps := psTx) (fun _ _ _ _ _ _ us hl => match us, hl with | [_, _, _, _], _ => rfl)
  obtain ⟨fd_Lformula, FD_Lformula⟩ := cd.def_ 37 (d := dN37) rfl
  have F_Lformula := funOf (st := sForm) FD_Lformula
  have b_Lformula := F_Lformula.binds (ps := psTr) (fun _ _ _ _ _ _ us hl => match us, hl with | [_, _, _], _ => rfl)
  obtain ⟨fd_Lreads, FD_Lreads⟩ := cd.def_ 38 (d := dN38) rfl
  have F_Lreads := funOf (st := sReads) FD_Lreads
  have b_Lreads := F_Lreads.binds (ps := ["_law_tree_here"]) (fun _ _ _ _ _ _ us hl => match us, hl with | [_], _ => rfl)
  obtain ⟨fd_Lexact, FD_Lexact⟩ := cd.def_ 39 (d := dN39) rfl
  have F_Lexact := funOf (st := sExact) FD_Lexact
  have b_Lexact := F_Lexact.binds (ps := psEx) (fun _ _ _ _ _ _ us hl => match us, hl with | [_, _], _ => rfl)
  obtain ⟨fd_Lworth, FD_Lworth⟩ := cd.def_ 40 (d := dN40) rfl
  have F_Lworth := funOf (st := sWorth) FD_Lworth
  have b_Lworth := F_Lworth.binds (ps := psWo) (fun _ _ _ _ _ _ us hl => match us, hl with | [_, _], _ => rfl)
  obtain ⟨fd_Lresults, FD_Lresults⟩ := cd.def_ 41 (d := dN41) rfl
  have F_Lresults := funOf (st := sResults) FD_Lresults
  have b_Lresults := F_Lresults.binds (ps := ["_law_pen_here", "_law_words"]) (fun _ _ _ _ _ _ us hl => match us, hl with | [_, _], _ => rfl)
  obtain ⟨fd_Lis_line, FD_Lis_line⟩ := cd.def_ 42 (d := dN42) rfl
  have F_Lis_line := funOf (st := sLine) FD_Lis_line
  have b_Lis_line := F_Lis_line.binds (ps := psLn) (fun _ _ _ _ _ _ us hl => match us, hl with | [_, _], _ => rfl)
  obtain ⟨fd_Lfailures, FD_Lfailures⟩ := cd.def_ 43 (d := dN43) rfl
  have F_Lfailures := funOf (st := sFails) FD_Lfailures
  have b_Lfailures := F_Lfailures.binds (ps := psFa) (fun _ _ _ _ _ _ us hl => match us, hl with | [_, _, _], _ => rfl)
  obtain ⟨fd_Ltold, FD_Ltold⟩ := cd.def_ 44 (d := dN44) rfl
  have F_Ltold := funOf (st := sTold) FD_Ltold
  have b_Ltold := F_Ltold.binds (ps := psTl) (fun _ _ _ _ _ _ us hl => match us, hl with | [_, _, _], _ => rfl)
  obtain ⟨fd_Lvalues, FD_Lvalues⟩ := cd.def_ 45 (d := dN45) rfl
  have F_Lvalues := funOf (st := sVals) FD_Lvalues
  have b_Lvalues := F_Lvalues.binds (ps := psVs) (fun _ _ _ _ _ _ us hl => match us, hl with | [_, _, _], _ => rfl)
  obtain ⟨fd_law, FD_law⟩ := cd.def_ 46 (d := dN46) rfl
  have F_law := funOf (st := sLaw) FD_law
  have b_law := F_law.binds (ps := ["_law_script"]) (fun _ _ _ _ _ _ us hl => match us, hl with | [_], _ => rfl)
  have TD : TxtD K mg := { int := (He.free_ok X G (cd.fact 40 (f := .free "int") rfl)), len := (He.free_ok X G (cd.fact 42 (f := .free "len") rfl)), abs := (He.free_ok X G (cd.fact 43 (f := .free "abs") rfl)) }
  have TBB : TxtB K mg := { toTxtD := TD, max := (He.free_ok X G (cd.fact 44 (f := .free "max") rfl)), min := (He.free_ok X G (cd.fact 45 (f := .free "min") rfl)), list := (He.free_ok X G (cd.fact 46 (f := .free "list") rfl)) }
  have TM : TxtM K mg := { toTxtB := TBB, range := (He.free_ok X G (cd.fact 48 (f := .free "range") rfl)), str := (He.free_ok X G (cd.fact 41 (f := .free "str") rfl)), isi := (He.free_ok X G (cd.fact 39 (f := .free "isinstance") rfl)), tuple := (He.free_ok X G (cd.fact 47 (f := .free "tuple") rfl)) }
  have TD2 : TxtD2 K mg := { dict := (He.free_ok X G (cd.fact 51 (f := .free "dict") rfl)) }
  have TW : TxtW K mg := { range := (He.free_ok X G (cd.fact 48 (f := .free "range") rfl)), dict := (He.free_ok X G (cd.fact 51 (f := .free "dict") rfl)), isi := (He.free_ok X G (cd.fact 39 (f := .free "isinstance") rfl)), tuple := (He.free_ok X G (cd.fact 47 (f := .free "tuple") rfl)), len := (He.free_ok X G (cd.fact 42 (f := .free "len") rfl)) }
  have TS : TxtS K mg := { fr := He.str_ok X G (cd.fact 62 (f := .str "FREE" "free") rfl), ln := He.str_ok X G (cd.fact 63 (f := .str "LINEAR" "linear") rfl), ot := He.str_ok X G (cd.fact 64 (f := .str "OTHER" "other") rfl) }
  have TF : TxtF K mg := { isi := (He.free_ok X G (cd.fact 39 (f := .free "isinstance") rfl)), str := (He.free_ok X G (cd.fact 41 (f := .free "str") rfl)), len := (He.free_ok X G (cd.fact 42 (f := .free "len") rfl)), tuple := (He.free_ok X G (cd.fact 47 (f := .free "tuple") rfl)), sorted := (He.free_ok X G (cd.fact 49 (f := .free "sorted") rfl)), set := (He.free_ok X G (cd.fact 50 (f := .free "set") rfl)), mc := He.int_ok X G (cd.fact 55 (f := .int "MOST_CHARACTERS" 100) rfl) }
  have TR : TxtR K w mg := { len := (He.free_ok X G (cd.fact 42 (f := .free "len") rfl)), int := (He.free_ok X G (cd.fact 40 (f := .free "int") rfl)), opd := He.str_ok X G (cd.fact 57 (f := .str "OPERAND" "operand") rfl), opr := He.str_ok X G (cd.fact 58 (f := .str "OPERATOR" "operator") rfl), brk := He.str_ok X G (cd.fact 59 (f := .str "BRACKET" "bracket") rfl), dig := He.str_ok X G (cd.fact 60 (f := .str "DIGITS" "0123456789") rfl), lets := He.str_ok X G (cd.fact 61 (f := .str "LETTERS" "abcdefghijklmnopqrstuvwxyz") rfl), md := He.int_ok X G (cd.fact 52 (f := .int "MOST_DIGITS" 31) rfl), ml := He.int_ok X G (cd.fact 53 (f := .int "MOST_LETTERS" 8) rfl), lo := He.int_ok X G (cd.fact 54 (f := .int "LOOSEST" 1) rfl), rs := ⟨_, (He.glo_ok X G (cd.fact 7 (f := .glo "RESERVED") rfl)), PF.rs⟩, lv := ⟨_, (He.glo_ok X G (cd.fact 6 (f := .glo "LEVELS") rfl)), TB⟩ }
  have TV : TxtV K mg := ⟨(He.free_ok X G (cd.fact 36 (f := .free "ValueError") rfl)), PF.vV⟩
  have TK : TxtK K mg := ⟨(He.free_ok X G (cd.fact 37 (f := .free "KeyError") rfl)), PF.vK⟩
  have TA : TxtA K mg := ⟨(He.free_ok X G (cd.fact 38 (f := .free "ArithmeticError") rfl)), PF.vA⟩
  have oN : OexC K (He.ga K "NotLinear") := ⟨ErN.q, ErN.sa, ErN.exC, ErN.tyC, He.keep_ok (cd.fact 102 (f := .keep "NotLinear") rfl)⟩
  have oA : OexA K (He.ga K "Failed") := ⟨ErA.q, ErA.sa, ErA.exC, ErA.tyC, He.keep_ok (cd.fact 103 (f := .keep "Failed") rfl)⟩
  have nvN : PySem.W.findIn K (.ref (He.ga K "NotLinear")) kn = some none := He.noat_ok (cd.fact 92 (f := .noat "NotLinear" "name") rfl)
  have nvA : PySem.W.findIn K (.ref (He.ga K "Failed")) kw = some none := He.noat_ok (cd.fact 93 (f := .noat "Failed" "word") rfl)
  have oP : OexC K (He.ga K "ParseError") := ⟨ErP.q, ErP.sa, ErP.exC, ErP.tyC, He.keep_ok (cd.fact 100 (f := .keep "ParseError") rfl)⟩
  have oU : OexK K (He.ga K "UnknownName") := ⟨ErU.q, ErU.sa, ErU.exC, ErU.tyC, He.keep_ok (cd.fact 101 (f := .keep "UnknownName") rfl)⟩
  have nvP : PySem.W.findIn K (.ref (He.ga K "ParseError")) ki = some none := He.noat_ok (cd.fact 90 (f := .noat "ParseError" "index") rfl)
  have nvU : PySem.W.findIn K (.ref (He.ga K "UnknownName")) kn = some none := He.noat_ok (cd.fact 91 (f := .noat "UnknownName" "name") rfl)
  have eP : ErrT K mg "ParseError" (He.ga K "ParseError") (He.ma K (He.ga K "ParseError") "__init__") fd_ip ["self", "index"] := ⟨oP, (He.glo_ok X G (cd.fact 0 (f := .glo "ParseError") rfl)), ErP.iC, ErP.tI, b_ip⟩
  have TRd : RdT K (He.ga K "Reader") := ⟨He.cls_ok (cd.fact 65 (f := .cls "Reader") rfl), He.noat_ok (cd.fact 69 (f := .noat "Reader" "text") rfl), He.noat_ok (cd.fact 70 (f := .noat "Reader" "place") rfl), He.noat_ok (cd.fact 71 (f := .noat "Reader" "code") rfl), He.noat_ok (cd.fact 72 (f := .noat "Reader" "waiting") rfl)⟩
  have TFm : FmT K (He.ga K "Formula") := ⟨He.cls_ok (cd.fact 67 (f := .cls "Formula") rfl), He.noat_ok (cd.fact 73 (f := .noat "Formula" "text") rfl), He.noat_ok (cd.fact 74 (f := .noat "Formula" "_code") rfl), He.noat_ok (cd.fact 75 (f := .noat "Formula" "_reads") rfl), He.noat_ok (cd.fact 76 (f := .noat "Formula" "names") rfl)⟩
  have MkR : Mk K (He.ga K "Reader") (He.ma K (He.ga K "Reader") "__init__") := He.mkr_ok (cd.fact 66 (f := .mkr "Reader") rfl)
  have MkF : Mk K (He.ga K "Formula") (He.ma K (He.ga K "Formula") "__init__") := He.mkr_ok (cd.fact 68 (f := .mkr "Formula") rfl)
  have TQ : TldQ K mg (He.ga K "NotLinear") (He.ga K "Failed") (He.ga K "UnknownName") := { mN := (He.glo_ok X G (cd.fact 1 (f := .glo "NotLinear") rfl)), mA := (He.glo_ok X G (cd.fact 2 (f := .glo "Failed") rfl)), mU := (He.glo_ok X G (cd.fact 3 (f := .glo "UnknownName") rfl)), nn := He.exm_ok (cd.fact 94 (f := .exm "NotLinear" "NotLinear" true) rfl), an := He.exm_ok (cd.fact 95 (f := .exm "Failed" "NotLinear" false) rfl), aa := He.exm_ok (cd.fact 96 (f := .exm "Failed" "Failed" true) rfl), un := He.exm_ok (cd.fact 97 (f := .exm "UnknownName" "NotLinear" false) rfl), ua := He.exm_ok (cd.fact 98 (f := .exm "UnknownName" "Failed" false) rfl), uu := He.exm_ok (cd.fact 99 (f := .exm "UnknownName" "UnknownName" true) rfl), xN := ⟨ErN.gb, ErN.gg, ErN.exC, ErN.hd⟩, xA := ⟨ErA.gb, ErA.gg, ErA.exC, ErA.hd⟩, xU := ⟨ErU.gb, ErU.gg, ErU.exC, ErU.hd⟩, vN := nvN, vA := nvA, vU := nvU, eN := ⟨ErN.gb, ErN.gg, ErN.exC, ErN.hd, ErN.cl, PF.hn, PF.ht, ErN.hm⟩, eA := ⟨ErA.gb, ErA.gg, ErA.exC, ErA.hd, ErA.cl, PF.hn, PF.ht, ErA.hm⟩, eU := ⟨ErU.gb, ErU.gg, ErU.exC, ErU.hd, ErU.cl, PF.hn, PF.ht, ErU.hm⟩, kN := ErN.kv, kA := ErA.kv, kU := ErU.kv, ve := (He.free_ok X G (cd.fact 36 (f := .free "ValueError") rfl)), ae := (He.free_ok X G (cd.fact 38 (f := .free "ArithmeticError") rfl)), ke := (He.free_ok X G (cd.fact 37 (f := .free "KeyError") rfl)) }
  have D_is_within : Dn K mg "is_within" (He.ga K "is_within") fd_is_within ["number"] := ⟨(He.glo_ok X G (cd.fact 8 (f := .glo "is_within") rfl)), F_is_within.kp, b_is_within⟩
  have D_result_of : Dn K mg "result_of" (He.ga K "result_of") fd_result_of ["number"] := ⟨(He.glo_ok X G (cd.fact 9 (f := .glo "result_of") rfl)), F_result_of.kp, b_result_of⟩
  have D_combined : Dn K mg "combined" (He.ga K "combined") fd_combined ["sign", "left", "right"] := ⟨(He.glo_ok X G (cd.fact 10 (f := .glo "combined") rfl)), F_combined.kp, b_combined⟩
  have D_total_of : Dn K mg "total_of" (He.ga K "total_of") fd_total_of ["sign", "one", "other"] := ⟨(He.glo_ok X G (cd.fact 11 (f := .glo "total_of") rfl)), F_total_of.kp, b_total_of⟩
  have D_dependence_of : Dn K mg "dependence_of" (He.ga K "dependence_of") fd_dependence_of ["code", "known"] := ⟨(He.glo_ok X G (cd.fact 12 (f := .glo "dependence_of") rfl)), F_dependence_of.kp, b_dependence_of⟩
  have D_dependence_of_both : Dn K mg "dependence_of_both" (He.ga K "dependence_of_both") fd_dependence_of_both ["sign", "left", "right"] := ⟨(He.glo_ok X G (cd.fact 13 (f := .glo "dependence_of_both") rfl)), F_dependence_of_both.kp, b_dependence_of_both⟩
  have D_slope_and_rest : Dn K mg "slope_and_rest" (He.ga K "slope_and_rest") fd_slope_and_rest ["code", "name", "results"] := ⟨(He.glo_ok X G (cd.fact 14 (f := .glo "slope_and_rest") rfl)), F_slope_and_rest.kp, b_slope_and_rest⟩
  have D_free_part : Dn K mg "free_part" (He.ga K "free_part") fd_free_part ["result"] := ⟨(He.glo_ok X G (cd.fact 15 (f := .glo "free_part") rfl)), F_free_part.kp, b_free_part⟩
  have D_combined_parts : Dn K mg "combined_parts" (He.ga K "combined_parts") fd_combined_parts ["sign", "left", "right"] := ⟨(He.glo_ok X G (cd.fact 16 (f := .glo "combined_parts") rfl)), F_combined_parts.kp, b_combined_parts⟩
  have D_Lpen : Dn K mg "_law_pen" (He.ga K "_law_pen") fd_Lpen ["_law_script"] := ⟨(He.glo_ok X G (cd.fact 17 (f := .glo "_law_pen") rfl)), F_Lpen.kp, b_Lpen⟩
  have D_Ldraw : Dn K mg "_law_draw" (He.ga K "_law_draw") fd_Ldraw ["_law_pen_here", "_law_many"] := ⟨(He.glo_ok X G (cd.fact 18 (f := .glo "_law_draw") rfl)), F_Ldraw.kp, b_Ldraw⟩
  have D_Lpick : Dn K mg "_law_pick" (He.ga K "_law_pick") fd_Lpick ["_law_pen_here", "_law_options"] := ⟨(He.glo_ok X G (cd.fact 19 (f := .glo "_law_pick") rfl)), F_Lpick.kp, b_Lpick⟩
  have D_Laround : Dn K mg "_law_around" (He.ga K "_law_around") fd_Laround ["_law_pen_here", "_law_most"] := ⟨(He.glo_ok X G (cd.fact 20 (f := .glo "_law_around") rfl)), F_Laround.kp, b_Laround⟩
  have D_Lgreat : Dn K mg "_law_great" (He.ga K "_law_great") fd_Lgreat ["_law_pen_here", "_law_most"] := ⟨(He.glo_ok X G (cd.fact 21 (f := .glo "_law_great") rfl)), F_Lgreat.kp, b_Lgreat⟩
  have D_Lnames : Dn K mg "_law_names" (He.ga K "_law_names") fd_Lnames ["_law_pen_here", "_law_many"] := ⟨(He.glo_ok X G (cd.fact 22 (f := .glo "_law_names") rfl)), F_Lnames.kp, b_Lnames⟩
  have D_Ltree : Dn K mg "_law_tree" (He.ga K "_law_tree") fd_Ltree psTr := ⟨(He.glo_ok X G (cd.fact 23 (f := .glo "_law_tree") rfl)), F_Ltree.kp, b_Ltree⟩
  have D_Lgap : Dn K mg "_law_gap" (He.ga K "_law_gap") fd_Lgap ["_law_pen_here", "_law_many"] := ⟨(He.glo_ok X G (cd.fact 24 (f := .glo "_law_gap") rfl)), F_Lgap.kp, b_Lgap⟩
  have D_Ltext_of : Dn K mg "_law_text_of" (He.ga K "_law_text_of") fd_Ltext_of psTx := ⟨(He.glo_ok X G (cd.fact 25 (f := .glo "_law_text_of") rfl)), F_Ltext_of.kp, b_Ltext_of⟩
  have D_Lformula : Dn K mg "_law_formula" (He.ga K "_law_formula") fd_Lformula psTr := ⟨(He.glo_ok X G (cd.fact 26 (f := .glo "_law_formula") rfl)), F_Lformula.kp, b_Lformula⟩
  have D_Lreads : Dn K mg "_law_reads" (He.ga K "_law_reads") fd_Lreads ["_law_tree_here"] := ⟨(He.glo_ok X G (cd.fact 27 (f := .glo "_law_reads") rfl)), F_Lreads.kp, b_Lreads⟩
  have D_Lexact : Dn K mg "_law_exact" (He.ga K "_law_exact") fd_Lexact psEx := ⟨(He.glo_ok X G (cd.fact 28 (f := .glo "_law_exact") rfl)), F_Lexact.kp, b_Lexact⟩
  have D_Lworth : Dn K mg "_law_worth" (He.ga K "_law_worth") fd_Lworth psWo := ⟨(He.glo_ok X G (cd.fact 29 (f := .glo "_law_worth") rfl)), F_Lworth.kp, b_Lworth⟩
  have D_Lresults : Dn K mg "_law_results" (He.ga K "_law_results") fd_Lresults ["_law_pen_here", "_law_words"] := ⟨(He.glo_ok X G (cd.fact 30 (f := .glo "_law_results") rfl)), F_Lresults.kp, b_Lresults⟩
  have D_Lis_line : Dn K mg "_law_is_line" (He.ga K "_law_is_line") fd_Lis_line psLn := ⟨(He.glo_ok X G (cd.fact 31 (f := .glo "_law_is_line") rfl)), F_Lis_line.kp, b_Lis_line⟩
  have D_Lfailures : Dn K mg "_law_failures" (He.ga K "_law_failures") fd_Lfailures psFa := ⟨(He.glo_ok X G (cd.fact 32 (f := .glo "_law_failures") rfl)), F_Lfailures.kp, b_Lfailures⟩
  have D_Ltold : Dn K mg "_law_told" (He.ga K "_law_told") fd_Ltold psTl := ⟨(He.glo_ok X G (cd.fact 33 (f := .glo "_law_told") rfl)), F_Ltold.kp, b_Ltold⟩
  have D_Lvalues : Dn K mg "_law_values" (He.ga K "_law_values") fd_Lvalues psVs := ⟨(He.glo_ok X G (cd.fact 34 (f := .glo "_law_values") rfl)), F_Lvalues.kp, b_Lvalues⟩
  have e := hfa.symm.trans (He.glo_ok X G (cd.fact 35 (f := .glo "law") rfl))
  cases e
  refine ⟨fd_law, [], spLaw K, ?_, ?_, ?_, ?_, ?_, ?_⟩
  · intro p hp
    cases hp
  · intro p hp
    cases hp
  · intro p hp
    cases hp
  · exact fun s u => FD_law.bindsA (ps := ["_law_script"]) (fun _ _ _ _ _ _ us hl => match us, hl with | [_], _ => rfl) s [u] rfl
  · intro H a ns hl _ hH hS
    exact ⟨a, ns, rfl, hS, hl, fun _ => rfl⟩
  · intro base Kb Nb TBs
    have GiP : FnOk PySem.Challenge.rw_solidnames_k03_linear_formulas.prog w K mg base CX0 1 _ fd_ip _ _ := ok_initP F_ip TV oP nvP
    have EP : ErrsT PySem.Challenge.rw_solidnames_k03_linear_formulas.prog w K mg base "ParseError" (He.ga K "ParseError") := ⟨⟨_, _, eP, GiP⟩⟩
    have GiU : FnOk PySem.Challenge.rw_solidnames_k03_linear_formulas.prog w K mg base CX0 1 _ fd_iu _ _ := ok_initU F_iu TK oU nvU
    have GiN : FnOk PySem.Challenge.rw_solidnames_k03_linear_formulas.prog w K mg base CX0 1 _ fd_in _ _ := ok_initN F_in TV oN nvN
    have GiA : FnOk PySem.Challenge.rw_solidnames_k03_linear_formulas.prog w K mg base CX0 1 _ fd_ia _ _ := ok_initA F_ia TA oA nvA
    have NT : NotT PySem.Challenge.rw_solidnames_k03_linear_formulas.prog w K mg base (He.ga K "NotLinear") := ⟨⟨_, _, oN, (He.glo_ok X G (cd.fact 1 (f := .glo "NotLinear") rfl)), ErN.iC, ErN.tI, b_in, GiN⟩⟩
    have FT : FailT PySem.Challenge.rw_solidnames_k03_linear_formulas.prog w K mg base (He.ga K "Failed") := ⟨⟨_, _, oA, (He.glo_ok X G (cd.fact 2 (f := .glo "Failed") rfl)), ErA.iC, ErA.tI, b_ia, GiA⟩⟩
    have UT : UnkT PySem.Challenge.rw_solidnames_k03_linear_formulas.prog w K mg base (He.ga K "UnknownName") := ⟨⟨_, _, oU, (He.glo_ok X G (cd.fact 3 (f := .glo "UnknownName") rfl)), ErU.iC, ErU.tI, b_iu, GiU⟩⟩
    have GrI : FnOk PySem.Challenge.rw_solidnames_k03_linear_formulas.prog w K mg base CX0 1 _ fd_r___init__ _ _ := ok_rinit F_r___init__ TRd
    have Gsk : FnOk PySem.Challenge.rw_solidnames_k03_linear_formulas.prog w K mg base CX0 1 _ fd_r_skip_spaces _ _ := ok_skip F_r_skip_spaces TRd
    have Gro : FnOk PySem.Challenge.rw_solidnames_k03_linear_formulas.prog w K mg base CX0 1 _ fd_r_run_of _ _ := ok_runOf F_r_run_of TRd TR
    have Gfi : FnOk PySem.Challenge.rw_solidnames_k03_linear_formulas.prog w K mg base CX0 1 _ fd_r_finish _ _ := ok_fin F_r_finish TRd TR
    have Gbr := ok_br F_r_read_bracket TRd TR EP
    have Gco := ok_comma F_r_read_comma TRd TR EP
    have Gen := ok_end F_r_read_end TRd TR EP
    have Gwo := ok_word F_r_read_word TRd TR EP (He.meth_ok (cd.fact 79 (f := .meth "Reader" "run_of") rfl)) b_r_run_of Gro
    have Gop := ok_opdR F_r_read_operand TRd TR EP (He.meth_ok (cd.fact 79 (f := .meth "Reader" "run_of") rfl)) b_r_run_of Gro (He.meth_ok (cd.fact 81 (f := .meth "Reader" "read_word") rfl)) b_r_read_word Gwo
    have Gor := ok_opR F_r_read_operator TRd TR EP (He.meth_ok (cd.fact 86 (f := .meth "Reader" "finish") rfl)) b_r_finish Gfi (He.meth_ok (cd.fact 84 (f := .meth "Reader" "read_comma") rfl)) b_r_read_comma Gco (He.meth_ok (cd.fact 85 (f := .meth "Reader" "read_end") rfl)) b_r_read_end Gen
    have Grd := ok_read F_r_read TRd TR EP (He.meth_ok (cd.fact 78 (f := .meth "Reader" "skip_spaces") rfl)) b_r_skip_spaces Gsk (He.meth_ok (cd.fact 86 (f := .meth "Reader" "finish") rfl)) b_r_finish Gfi (He.meth_ok (cd.fact 80 (f := .meth "Reader" "read_operand") rfl)) b_r_read_operand Gop (He.meth_ok (cd.fact 82 (f := .meth "Reader" "read_bracket") rfl)) b_r_read_bracket Gbr (He.meth_ok (cd.fact 83 (f := .meth "Reader" "read_operator") rfl)) b_r_read_operator Gor
    have Gfm := ok_finit F_fi TFm TF EP TRd (He.glo_ok X G (cd.fact 4 (f := .glo "Reader") rfl)) MkR b_r___init__ GrI (He.meth_ok (cd.fact 77 (f := .meth "Reader" "read") rfl)) b_r_read Grd
    have Gwi : FnOk PySem.Challenge.rw_solidnames_k03_linear_formulas.prog w K mg base CX0 1 _ fd_is_within _ _ := ok_within F_is_within (He.int_ok X G (cd.fact 56 (f := .int "LIMIT" 1000000000000000000000000000000) rfl))
    have Gre := ok_resOf F_result_of D_is_within Gwi
    have Gto : FnOk PySem.Challenge.rw_solidnames_k03_linear_formulas.prog w K mg base CX0 1 _ fd_total_of _ _ := ok_tot F_total_of TBB
    have GtB : FnOk PySem.Challenge.rw_solidnames_k03_linear_formulas.prog w K mg base CX0 1 _ fd_total_of _ spTotB := ok_totB F_total_of TBB
    have Gco2 := ok_comb F_combined D_result_of Gre D_total_of Gto
    have Gfr := ok_free F_free_part FT
    have Gcp := ok_cbP F_combined_parts D_free_part Gfr D_combined Gco2 D_total_of GtB
    have Gsa := ok_sar F_slope_and_rest D_free_part Gfr D_result_of Gre D_combined_parts Gcp
    have GdB : FnOk PySem.Challenge.rw_solidnames_k03_linear_formulas.prog w K mg base CX0 1 _ fd_dependence_of_both _ _ := ok_depB F_dependence_of_both TS
    have GdO := ok_dep F_dependence_of TS D_dependence_of_both GdB
    have Gms : FnOk PySem.Challenge.rw_solidnames_k03_linear_formulas.prog w K mg base CX0 1 _ fd_fm _ _ := ok_missL F_fm TFm
    have Gdm := ok_depM F_fd TFm D_dependence_of GdO
    have Gli := ok_lin F_fl TFm TS UT NT (He.meth_ok (cd.fact 87 (f := .meth "Formula" "first_missing") rfl)) b_fm Gms (He.meth_ok (cd.fact 89 (f := .meth "Formula" "dependence") rfl)) b_fd Gdm D_slope_and_rest Gsa
    have Gd := ok_draw (P := PySem.Challenge.rw_solidnames_k03_linear_formulas.prog) (w := w) (base := base) F_Ldraw TD (He.glo_ok X G (cd.fact 18 (f := .glo "_law_draw") rfl)) b_Ldraw
    have Glo := draw_lo (Gd 1 (by decide))
    have Ghi := draw_hi (Gd 4 (by decide))
    have Gpick := ok_pick F_Lpick TBB D_Ldraw Glo
    have GpickS := ok_pickS F_Lpick TBB D_Ldraw Glo
    have Garound := ok_around F_Laround TBB D_Ldraw Ghi
    have Ggreat := ok_great F_Lgreat TBB D_Ldraw Glo D_Laround Garound D_Lpick Gpick
    have Gpen : FnOk PySem.Challenge.rw_solidnames_k03_linear_formulas.prog w K mg base CX0 1 _ fd_Lpen _ _ := ok_pen F_Lpen TBB
    have Ggap := ok_gap F_Lgap D_Ldraw Glo D_Lpick Gpick
    have Gnames := ok_names2 F_Lnames TM D_Ldraw Glo D_Lpick Gpick GpickS
    have Gtree := ok_tree F_Ltree TM D_Ltree D_Ldraw Glo D_Lpick Gpick D_Lgreat Ggreat
    have Gtxt := ok_txt F_Ltext_of TM D_Ltext_of D_Ldraw Glo D_Lgap Ggap
    have GtxU := txt_u (fun m hm => Gtxt (m + 1) (by omega))
    have Gform := ok_form F_Lformula TM D_Lpick Gpick D_Lgap Ggap D_Ltree (Gtree 5 (Nat.le_refl _)) D_Ltext_of GtxU
    have Grs : FnOk PySem.Challenge.rw_solidnames_k03_linear_formulas.prog w K mg base CX0 6 _ fd_Lreads _ (spReads 5) := ok_reads F_Lreads TM D_Lreads 5
    have Gex : FnOk PySem.Challenge.rw_solidnames_k03_linear_formulas.prog w K mg base CX0 3 _ fd_Lexact _ (spEx 2) := ok_exact F_Lexact TM D_Lexact 2
    have Gwo2 : FnOk PySem.Challenge.rw_solidnames_k03_linear_formulas.prog w K mg base CX0 9 _ fd_Lworth _ (spWorth 5) := ok_worth F_Lworth TM D_Lworth D_Lexact Gex 5
    have Gres := ok_results F_Lresults D_Laround Garound D_Lgreat Ggreat D_Lpick Gpick
    have GexT : FnOk PySem.Challenge.rw_solidnames_k03_linear_formulas.prog w K mg base CX0 6 _ fd_Lexact _ (spExT 5) := ok_exactT F_Lexact TM D_Lexact 5
    have Gln : FnOk PySem.Challenge.rw_solidnames_k03_linear_formulas.prog w K mg base CX0 12 _ fd_Lis_line _ (spLine 5) := ok_line F_Lis_line TM D_Lis_line D_Lreads Grs 5
    have Gfa : FnOk PySem.Challenge.rw_solidnames_k03_linear_formulas.prog w K mg base CX0 15 _ fd_Lfailures _ (spFails 5) := ok_fails F_Lfailures TM D_Lfailures D_Lreads Grs D_Lworth Gwo2 5
    have Gtl := ok_told F_Ltold TF TQ TFm (He.meth_ok (cd.fact 88 (f := .meth "Formula" "linear") rfl)) b_fl Gli
    have Gvs : FnOk PySem.Challenge.rw_solidnames_k03_linear_formulas.prog w K mg base CX0 1 _ fd_Lvalues _ _ := ok_vals F_Lvalues TD2
    have ML : FmlT PySem.Challenge.rw_solidnames_k03_linear_formulas.prog w K mg base (He.ga K "Formula") (He.ga K "ParseError") := { T := TFm, m := (He.glo_ok X G (cd.fact 5 (f := .glo "Formula") rfl)), ini := ⟨_, _, MkF, b_fi, Gfm⟩ }
    exact ofOk (ok_law F_law TW ML D_Lpen Gpen D_Ldraw Glo D_Lpick Gpick D_Laround Garound D_Lgreat Ggreat D_Lnames Gnames D_Lresults Gres D_Lformula Gform D_Lreads Grs D_Lexact GexT D_Lis_line Gln D_Lfailures Gfa D_Ltold Gtl D_Lvalues Gvs)
end Toy
end

section
set_option Elab.async false
set_option linter.all false
set_option maxRecDepth 100000
set_option maxHeartbeats 0
open PySem PySem.W PySem.Calls PyProof.Rows
theorem PySem.Challenge.cw_solidnames_k03_linear_formulas_holds : PySem.Challenge.rw_solidnames_k03_linear_formulas.Holds := by
  w_on; o_law
  refine HandSHeadRun.head_any (r := OpenLaw.row PySem.Challenge.rw_solidnames_k03_linear_formulas) (q := view (OpenLaw.row PySem.Challenge.rw_solidnames_k03_linear_formulas).prog [56]) (H := Toy.hk) (ob := Toy.ob) (M := 9000) (loose := Toy.loose)
    (d := HandSHeadRun.topDef (OpenLaw.row PySem.Challenge.rw_solidnames_k03_linear_formulas).prog 56) (kwd := []) Toy.ob_eq
    (by kernel_rfl) (fun s => by kernel_rfl) Toy.run (by kernel_rfl) (by kernel_rfl) (by kernel_rfl) (by rfl) (by first | assumption | decide +kernel) (by decide +kernel) ⟨rfl, rfl, rfl, rfl, rfl, by decide +kernel⟩ ?hw ?hc
  case hw => w_witness2
  case hc =>
    refine Toy.walk_gE (l := PySem.Challenge.rw_solidnames_k03_linear_formulas) (n := 63) (k := 16) (x := "_law_script") (CX := L2.CX0) rfl (by decide) (by kernel_rfl) ⟨rfl, by decide, by decide⟩ ?F (fun _ _ _ _ z => z)
    intro w mg fa h Y G hmg0
    obtain ⟨K, KX, c, _⟩ := Y
    have hmg : mg ("law" : PySem.Str) = some (.ref fa) := by
      have e : (HandSHeadRun.topDef (OpenLaw.row PySem.Challenge.rw_solidnames_k03_linear_formulas).prog 56).name = ("law" : PySem.Str) := by kernel_rfl
      rw [← e]
      exact hmg0
    exact ⟨K, KX, Toy.lawG KX G hmg c⟩
end
