import PyProof.Rows.All
import Wide.All
import OpenK.AllK
import Wide.FinOn
import HandS.Base
import HandS.Call
import HandS.List
import HandS.Comp
import HandS.Ends
import HandS.Iter
import HandS.Text
import HandS.Words
import HandS.WordsList
import HandS.IsInst
import HandS.Wide
import HandS.Defaults
import HandS.MakeKw
import HandS.Style
import HandS.Codes
import KE.KEqSeq
import HandS.Zip
import HandS.NoneIn
import PySem.Challenge.RW_hotpass_k12_plans
set_option Elab.async false
set_option linter.all false
set_option maxRecDepth 100000
set_option maxHeartbeats 4000000
namespace HP
open PySem L2
def top (i : Nat) : Stmt := PySem.Challenge.pw_hotpass_k12_plans.main.body.getD i (.Pass ⟨0, 0, 0, 0⟩)
/-! ### a def called by its name -/
structure Df (P : Program) (w : World) (K : PySem.W.Frag) (mg : Str → Option Value) (base : Heap) (x : Str) (k : Nat) (ps : List Str) (sp : Sp) : Prop where
  ex : ∃ (f : Addr) (fd : FuncData), FnOk P w K mg base CX0 k f fd ps sp ∧ mg x = some (.ref f) ∧ PySem.W.keepIn K (.ref f) = true ∧ Binds K fd ps []
theorem pe_fn {X : Cx} {x : Str} {k : Nat} {ps : List Str} {sp : Sp} {p pos : Pos} {e : Expr} {es : List Expr} {t : TA} (D : Df X.prog X.w X.K X.mg X.base x k ps sp) (hr : Room k X.A) (ha : PA X (e :: es) t)
    (hg : Gl X x := by rfl) (hdb : (x == ("__debug__" : Str)) = false := by decide) (he : starEach (e :: es) X.env = (false, eval e X.env) :: starEach es X.env := by rfl) (hpl : (backTo pos (starEach es X.env)).any (·.1) = false := by rfl) :
    PE X (.Call (.Name x p) (e :: es) [] pos) (tCall sp [] E0 t) := by
  obtain ⟨f, fd, F, hm, kp, b⟩ := D.ex
  exact pe_call F hr hg hm kp b .nil pass0 ha hdb he hpl
/-! ### o.m(k = v) -/
def tMethK (C : Addr) (m : Str) (n : Nat) (sp : Sp) (gV : List V → List V → List V) (E : XK) (ta : TE) (tk : TA) : TE := fun σ H Q => ta σ H fun x H1 => ∃ a dx fs, x = .ref a ∧ H1 a = some (.ins C dx fs) ∧ fs.lookup m = none ∧
  tk σ H1 fun zs H2 => zs.length = n ∧ sp (gV [x] zs) H2 Q E
theorem pe_methK0 {X : Cx} {CX : CXT} {k : Nat} {f C : Addr} {fd : FuncData} {ps ks : List Str} {sp : Sp} {E : XK} {m : Str} {apos pos : Pos} {o : Expr} {kws : List Keyword} {ta : TE} {tk : TA} {g : List Value → List Value → List Value} {gV : List V → List V → List V} {pl : Sem Bool}
    (he : PE X o ta) (c : Cls X.K C) (hm : Meth X.K C m f) (F : FnOk X.prog X.w X.K X.mg X.base CX k f fd ps sp) (hr : Room k X.A) (hb : KBn X.K fd ps 1 ks g gV) (hx : Passes CX X E) (hkw : PK X kws tk)
    (hall : (backToKw pos (keywordEach kws X.env)).all (·.1.isSome) = true := by rfl) (hks : (backToKw pos (keywordEach kws X.env)).filterMap (·.1) = ks := by rfl)
    (hpl : ((backTo pos (starEach [] X.env)).any (·.1) || (backToKw pos (keywordEach kws X.env)).any (·.1.isNone)) = false := by rfl)
    (ht : eval (.Call (.Attribute o m apos) [] kws pos) X.env = (do
      let ov ← eval o X.env
      standAt apos.atName
      let (f, first) ← holding [ov] (getMethod ov m pl)
      callWith pos f first (backTo pos (starEach [] X.env)) (backToKw pos (keywordEach kws X.env))) := by rfl) :
    PE X (.Call (.Attribute o m apos) [] kws pos) (tMethK C m ks.length sp gV E ta tk) := by
  refine ⟨fun pins s σ H Q I h => ?_⟩
  refine PySem.W.methodCall_KW (pl := pl) (thn (he.run pins s σ H _ I h) fun u s1 ⟨x, H1, I1, rx, a, dx, fs, ex, ea, l, q⟩ => ?_) ht
  subst ex
  obtain rfl : u = Value.ref a := rx
  refine getmeth_ok I1 ea c hm l ?_
  refine PySem.W.callWith_KW0 (first := [.ref a]) (h₀ := X.base) I.ok.mod.kin hm.kp hall ?_ hpl
  refine thn (hkw.run pos pins s1 σ H1 _ I1 q) fun ws s2 ⟨zs, H2, I2, rz, l2, q2⟩ => ⟨I2.kIn, ?_⟩
  rw [hks]
  exact run_fnN (us := [.ref a]) (vs := [.ref a]) F hr hb hx I2 (.cons rfl .nil) rz rfl l2 q2
/-! ### the names of Python's own that the text reads, its constants -/
structure Txt (mg : Str → Option Value) (tM tL : Tok) : Prop where
  zlen : mg "len" = none
  zrange : mg "range" = none
  zenumerate : mg "enumerate" = none
  zabs : mg "abs" = none
  zmin : mg "min" = none
  zmax : mg "max" = none
  zany : mg "any" = none
  zall : mg "all" = none
  zsum : mg "sum" = none
  zzip : mg "zip" = none
  zdivmod : mg "divmod" = none
  zisinstance : mg "isinstance" = none
  zint : mg "int" = none
  zbool : mg "bool" = none
  zlist : mg "list" = none
  ztuple : mg "tuple" = none
  zstr : mg "str" = none
  gLETTERS : ∃ t, mg "LETTERS" = some (.str (Str.ofString "abcdefghijklmnopqrstuvwxyz") t)
  gMOST_LETTERS : ∃ t, mg "MOST_LETTERS" = some (.int 8 t)
  gKINDS : ∃ t, mg "KINDS" = some (.int 4 t)
  gMOST_TAKE : ∃ t, mg "MOST_TAKE" = some (.int 1000000 t)
  gMOST_HANDS : ∃ t, mg "MOST_HANDS" = some (.int 4 t)
theorem pe_gi {X : Cx} {x : Str} {i : Int} {pos : Pos} (h : ∃ t, X.mg x = some (.int i t)) (hg : Gl X x := by rfl) (hd : (x == ("__debug__" : Str)) = false := by decide) : PE X (.Name x pos) (tC (.int i)) := by
  obtain ⟨t, h⟩ := h
  exact pe_glob hg h ⟨_, rfl⟩ hd
theorem pe_gs {X : Cx} {x z : Str} {pos : Pos} (h : ∃ t, X.mg x = some (.str z t)) (hg : Gl X x := by rfl) (hd : (x == ("__debug__" : Str)) = false := by decide) : PE X (.Name x pos) (tC (.str z)) := by
  obtain ⟨t, h⟩ := h
  exact pe_glob hg h ⟨_, rfl⟩ hd
theorem iteD {c A B : Prop} [Decidable c] (h1 : c → A) (h2 : ¬ c → B) : if decide c = true then A else B := by
  by_cases h : c
  · rw [decide_eq_true h, if_pos rfl]
    exact h1 h
  · rw [decide_eq_false h, if_neg Bool.false_ne_true]
    exact h2 h
/-! ### heaps -/
/-- all but t is as it was -/
def SameBut (t : Addr) (H H' : Hp) : Prop := ∀ b o, H b = some o → b ≠ t → H' b = some o
theorem SameBut.trans {t : Addr} {H H1 H2 : Hp} (a : SameBut t H H1) (b : SameBut t H1 H2) : SameBut t H H2 := fun c o h n => b c o (a c o h n) n
theorem Same.but {t : Addr} {H H' : Hp} (s : Same H H') : SameBut t H H' := fun b o h _ => s b o h
theorem same_new {H : Hp} {p : Addr} {o : HO} (h : H p = none) : Same H (upd H p o) := fun b u e => by
  rw [upd_ne (ne_of_none e h)]
  exact e
/-- a tape of which at most c numbers were counted -/
def TapeAt (H : Hp) (t : Addr) (c : Int) : Prop := ∃ a b k : Int, H t = some (.lst [.int a, .int b, .int k]) ∧ 0 ≤ a ∧ 0 ≤ b ∧ b ≤ 2305843009300000000 ∧ 0 ≤ k ∧ k ≤ c
theorem TapeAt.mono {H : Hp} {t : Addr} {c d : Int} (h : TapeAt H t c) (l : c ≤ d) : TapeAt H t d := by
  obtain ⟨a, b, k, h1, h2, h3, h4, h5, h6⟩ := h
  exact ⟨a, b, k, h1, h2, h3, h4, h5, Int.le_trans h6 l⟩
theorem TapeAt.same {H H' : Hp} {t : Addr} {c : Int} (h : TapeAt H t c) (s : Same H H') : TapeAt H' t c := by
  obtain ⟨a, b, k, h1, h2⟩ := h
  exact ⟨a, b, k, s _ _ h1, h2⟩
theorem TapeAt.some {H : Hp} {t : Addr} {c : Int} (h : TapeAt H t c) : ∃ zs, H t = some (.lst zs) := by
  obtain ⟨a, b, k, h1, h2⟩ := h
  exact ⟨_, h1⟩
theorem SameBut.tup {t : Addr} {c : Int} {H H' : Hp} {a : Addr} {xs : List V} (s : SameBut t H H') (ht : TapeAt H t c) (h : H a = some (.tup xs)) : H' a = some (.tup xs) := by
  obtain ⟨zs, hz⟩ := ht.some
  exact s _ _ h (ne_of h hz (by intro z; cases z))
theorem SameBut.ins {t : Addr} {c : Int} {H H' : Hp} {a C dx : Addr} {fs : List (Str × V)} (s : SameBut t H H') (ht : TapeAt H t c) (h : H a = some (.ins C dx fs)) : H' a = some (.ins C dx fs) := by
  obtain ⟨zs, hz⟩ := ht.some
  exact s _ _ h (ne_of h hz (by intro z; cases z))
/-- pairs of numbers, each a tuple -/
inductive PairsAt (H : Hp) : List V → List (Int × Int) → Prop
  | nil : PairsAt H [] []
  | cons {t : Addr} {m l : Int} {xs : List V} {L : List (Int × Int)} (h : H t = some (.tup [.int m, .int l])) (r : PairsAt H xs L) : PairsAt H (.ref t :: xs) ((m, l) :: L)
theorem PairsAt.len {H : Hp} {xs : List V} {L : List (Int × Int)} (h : PairsAt H xs L) : xs.length = L.length := by
  induction h with
  | nil => rfl
  | cons _ _ ih => rw [List.length_cons, List.length_cons, ih]
theorem PairsAt.get {H : Hp} {xs : List V} {L : List (Int × Int)} (h : PairsAt H xs L) : ∀ {i : Nat} {x : V}, xs[i]? = some x → ∃ t m l, x = .ref t ∧ H t = some (.tup [.int m, .int l]) ∧ L[i]? = some (m, l) := by
  induction h with
  | nil => intro i x e; simp at e
  | @cons t m l xs L h1 r ih =>
    intro i x e
    cases i with
    | zero =>
      have e' : V.ref t = x := Option.some.inj e
      exact ⟨t, m, l, e'.symm, h1, rfl⟩
    | succ j => exact ih (i := j) e
theorem PairsAt.move {H H' : Hp} {xs : List V} {L : List (Int × Int)} (h : PairsAt H xs L) (s : ∀ a ys, H a = some (.tup ys) → H' a = some (.tup ys)) : PairsAt H' xs L := by
  induction h with
  | nil => exact .nil
  | cons h1 _ ih => exact .cons (s _ _ h1) ih
theorem PairsAt.snoc {H : Hp} {xs : List V} {L : List (Int × Int)} {t : Addr} {m l : Int} (h : PairsAt H xs L) (ht : H t = some (.tup [.int m, .int l])) : PairsAt H (xs ++ [.ref t]) (L ++ [(m, l)]) := by
  induction h with
  | nil => exact .cons ht .nil
  | cons h1 _ ih => exact .cons h1 ih
theorem PairsAt.take {H : Hp} {xs : List V} {L : List (Int × Int)} (h : PairsAt H xs L) : ∀ n : Nat, PairsAt H (xs.take n) (L.take n) := by
  induction h with
  | nil => intro n; simp only [List.take_nil]; exact .nil
  | cons h1 _ ih =>
    intro n
    cases n with
    | zero => exact .nil
    | succ j => exact .cons h1 (ih j)
def GoodL (L : List (Int × Int)) : Prop := L ≠ [] ∧ L.length ≤ 6 ∧ ∀ p ∈ L, 1 ≤ p.1 ∧ p.1 ≤ 1000000 ∧ 0 ≤ p.2 ∧ p.2 ≤ 1000000
/-! ### _law_draw -/
def spDraw : Sp := fun vs H Q _ => ∃ (t : Addr) (c many : Int), vs = [.ref t, .int many] ∧ TapeAt H t c ∧ c ≤ 100000 ∧ 0 < many ∧ many ≤ 10000000000000 ∧
  ∀ (r : Int) (H' : Hp), 0 ≤ r → r < many → TapeAt H' t (c + 1) → SameBut t H H' → Q (.int r) H'
section
variable {P : Program} {w : World} {K : PySem.W.Frag} {mg : Str → Option Value} {base : Heap}
abbrev sLdraw : Stmt := top 22
theorem scLdraw : FnScope ["_law_tape_here", "_law_a_many", "_law_found", "_law_once", "_law_twice", "_law_wide"] ["_law_tape_here", "_law_a_many"] (defScope sLdraw) := ⟨rfl, rfl, rfl, by decide +kernel, rfl, by decide +kernel, by decide +kernel⟩
theorem wd {i j : Int} (h : 0 < j) (h2 : j ≤ 10000000000000) : CDivW i j := wide_div (b := 64) h (by omega) (by decide) (by decide)
theorem ok_draw {f : Addr} {fd : FuncData} (F : Fun K "_law_draw" "_law_draw" sLdraw f fd) : FnOk P w K mg base CX0 1 f fd ["_law_tape_here", "_law_a_many"] spDraw := by
  refine F.ok scLdraw (fun vs H Q E h => ?_) (fun cdv A outer s H vs Q E hr h => ?_)
  · obtain ⟨t, c, many, rfl, _⟩ := h
    rfl
  · obtain ⟨t, c, many, rfl, ⟨a, b, k, ht, ha, hb, hb2, hk, hkc⟩, hc, hm, hm2, q⟩ := h
    refine ⟨_, (pss_cons (ps_if (pt_cmp (pc_gt (pe_ix ix_list (pv 0) pe_int (fun _ _ => rfl)) pe_int)) (pss_cons (ps_set (i := 2) scLdraw.nd rfl (Or.inl rfl) (pe_op op_mod (pe_ix ix_list (pv 0) pe_int (fun _ _ => rfl)) (pv 1)))
    (pss_cons (ps_asg (pe_op op_fdivW (pe_ix ix_list (pv 0) pe_int (fun _ _ => rfl)) (pv 1)) (pg_sub (pv 0) pe_int set_list))
    (pss_one (ps_ret (pv 2))))) pss_nil)
    (pss_cons (ps_asg (pe_op op_add (pe_ix ix_list (pv 0) pe_int (fun _ _ => rfl)) pe_int) (pg_sub (pv 0) pe_int set_list))
    (pss_cons (ps_set (i := 3) scLdraw.nd rfl (Or.inl rfl) (pe_op op_mod (pe_op op_pow (pe_op op_add (pe_ix ix_list (pv 0) pe_int (fun _ _ => rfl)) (pe_op op_mul pe_int (pe_ix ix_list (pv 0) pe_int (fun _ _ => rfl)))) pe_int) pe_int))
    (pss_cons (ps_set (i := 4) scLdraw.nd rfl (Or.inl rfl) (pe_op op_mod (pe_op op_mul (pe_op op_add (pv 3) (pe_ix ix_list (pv 0) pe_int (fun _ _ => rfl))) (pe_op op_add (pe_op op_add (pe_op op_mod (pv 3) pe_int) pe_int) (pe_ix ix_list (pv 0) pe_int (fun _ _ => rfl)))) pe_int))
    (pss_cons (ps_set (i := 5) scLdraw.nd rfl (Or.inl rfl) (pe_op op_mod (pe_op op_add (pe_op op_add (pe_op op_fdivW (pe_ix ix_list (pv 0) pe_int (fun _ _ => rfl)) pe_int) (pe_op op_mul (pv 4) pe_int)) (pe_ix ix_list (pv 0) pe_int (fun _ _ => rfl))) pe_int))
    (pss_one (ps_ret (pe_op op_mod (pe_op op_fdivW (pe_op op_mod (pe_op op_add (pe_op op_add (pe_op op_mul (pv 4) pe_int) (pe_op op_mul (pv 5) pe_int)) (pv 3)) pe_int) pe_int) (pv 1))))))))), ?_⟩
    have S0 : SqL K H t [.int a, .int b, .int k] := SqL.of ht
    refine ⟨_, rfl, t, _, 0, .int a, rfl, rfl, S0, rfl, a, 0, rfl, rfl, _, rfl, ?_⟩
    refine iteD (fun ca => ?_) (fun ca => ?_)
    · show tSeq _ _ _ _ _
      refine ⟨_, rfl, t, _, 0, .int a, rfl, rfl, S0, rfl, _, rfl, a, many, rfl, rfl, hm, ?_⟩
      refine ⟨_, rfl, t, _, 0, .int a, rfl, rfl, S0, rfl, _, rfl, a, many, rfl, rfl, wd hm hm2, ?_⟩
      refine ⟨_, rfl, t, _, 0, 0, rfl, rfl, ht, rfl, ?_⟩
      refine ⟨_, rfl, ?_⟩
      refine q (a % many) _ (Int.emod_nonneg _ (by omega)) (Int.emod_lt_of_pos _ hm) ⟨a / many, b, k, upd_same, Int.ediv_nonneg (by omega) (by omega), hb, hb2, hk, by omega⟩ (fun x o e n => ?_)
      rw [upd_ne n]
      exact e
    · show tNext _ _ _
      refine ⟨_, rfl, t, _, 2, .int k, rfl, rfl, S0, rfl, k, 1, rfl, rfl, ?_⟩
      refine ⟨_, rfl, t, _, 2, 2, rfl, rfl, ht, rfl, ?_⟩
      have S1 : SqL K (upd H t (.lst [.int a, .int b, .int (k + 1)])) t [.int a, .int b, .int (k + 1)] := SqL.of upd_same
      show tSeq _ _ _ _ (upd H t (.lst [.int a, .int b, .int (k + 1)]))
      refine ⟨_, rfl, t, _, 1, .int b, rfl, rfl, S1, rfl, _, rfl, t, _, 2, .int (k + 1), rfl, rfl, S1, rfl, 39373, k + 1, rfl, rfl, .inl ⟨by decide, by decide⟩, b, 39373 * (k + 1), rfl, rfl, _, 5, rfl, rfl, ⟨by decide, by decide, by omega⟩, _, 2147483647, rfl, rfl, (show (0 : Int) < 2147483647 by decide), ?_⟩
      dsimp only
      have o1 : 0 ≤ ((b + 39373 * (k + 1)) ^ (5 : Int).toNat) % 2147483647 := Int.emod_nonneg _ (by decide)
      have o2 : ((b + 39373 * (k + 1)) ^ (5 : Int).toNat) % 2147483647 < 2147483647 := Int.emod_lt_of_pos _ (by decide)
      generalize ((b + 39373 * (k + 1)) ^ (5 : Int).toNat) % 2147483647 = once at o1 o2
      refine ⟨_, rfl, _, rfl, t, _, 2, .int (k + 1), rfl, rfl, S1, rfl, once, k + 1, rfl, rfl, _, rfl, once, 40009, rfl, rfl, (show (0 : Int) < 40009 by decide), _, 7, rfl, rfl, _, rfl, t, _, 2, .int (k + 1), rfl, rfl, S1, rfl, _, k + 1, rfl, rfl, _, _, rfl, rfl, .inl ⟨by omega, by omega⟩, _, 2147483629, rfl, rfl, (show (0 : Int) < 2147483629 by decide), ?_⟩
      dsimp only
      generalize hz2 : ((once + (k + 1)) * (once % 40009 + 7 + (k + 1))) % 2147483629 = twice
      have t1 : 0 ≤ twice := by rw [← hz2]; exact Int.emod_nonneg _ (by decide)
      have t2 : twice < 2147483629 := by rw [← hz2]; exact Int.emod_lt_of_pos _ (by decide)
      refine ⟨_, rfl, t, _, 1, .int b, rfl, rfl, S1, rfl, b, 2147483647, rfl, rfl, wd (by decide) (by decide), _, rfl, twice, 40009, rfl, rfl, .inl ⟨by omega, by omega⟩, _, _, rfl, rfl, _, rfl, t, _, 2, .int (k + 1), rfl, rfl, S1, rfl, _, k + 1, rfl, rfl, _, 2305843009213693951, rfl, rfl, (show (0 : Int) < 2305843009213693951 by decide), ?_⟩
      dsimp only
      generalize hz3 : (b / 2147483647 + twice * 40009 + (k + 1)) % 2305843009213693951 = wide
      have w1 : 0 ≤ wide := by rw [← hz3]; exact Int.emod_nonneg _ (by decide)
      have w2 : wide < 2305843009213693951 := by rw [← hz3]; exact Int.emod_lt_of_pos _ (by decide)
      refine ⟨_, rfl, twice, 48271, rfl, rfl, .inl ⟨by omega, by omega⟩, _, rfl, wide, 39373, rfl, rfl, .inl ⟨by omega, by omega⟩, _, _, rfl, rfl, _, rfl, _, once, rfl, rfl, _, 2305843009213693921, rfl, rfl, (show (0 : Int) < 2305843009213693921 by decide), _, 64, rfl, rfl, wd (by decide) (by decide), _, rfl, _, many, rfl, rfl, hm, ?_⟩
      refine q _ _ (Int.emod_nonneg _ (by omega)) (Int.emod_lt_of_pos _ hm) ⟨a, b, k + 1, upd_same, ha, hb, hb2, by omega, by omega⟩ (fun x o e n => ?_)
      rw [upd_ne n]
      exact e
end
end HP
namespace HP
open PySem L2
section
variable {P : Program} {w : World} {K : PySem.W.Frag} {mg : Str → Option Value} {base : Heap} {tM tL : Tok}
/-! ### _law_tape -/
def spTape (K : PySem.W.Frag) : Sp := fun vs H Q _ => ∃ (a : Addr) (ns : List Int) (k : Int), vs = [.ref a, .int k] ∧ SqL K H a (ns.map V.int) ∧ 0 ≤ k ∧ k ≤ 1000 ∧
  ∀ (t : Addr) (H' : Hp), H t = none → TapeAt H' t 0 → Same H H' → Q (.ref t) H'
abbrev sLtape : Stmt := top 21
theorem scLtape : FnScope ["_law_script", "_law_k", "_law_cell"] ["_law_script", "_law_k"] (defScope sLtape) := ⟨rfl, rfl, rfl, by decide +kernel, rfl, by decide +kernel, by decide +kernel⟩
theorem map_int {ns : List Int} {i : Nat} {y : V} (h : (ns.map V.int)[i]? = some y) : ∃ z, ns[i]? = some z ∧ y = .int z := by
  rw [List.getElem?_map] at h
  cases e : ns[i]? with
  | none => rw [e] at h; cases h
  | some z => rw [e] at h; exact ⟨z, rfl, (Option.some.inj h).symm⟩
theorem at_int {ns : List Int} {k : Int} (h0 : 0 ≤ k) (h1 : k < ((ns.map V.int).length : Int)) : ∃ z, atI (ns.map V.int) k = some (V.int z) := by
  have hl : k.toNat < ns.length := by rw [List.length_map] at h1; omega
  refine ⟨ns[k.toNat], at_of (j := k.toNat) (by omega) ?_⟩
  rw [List.getElem?_map, List.getElem?_eq_getElem hl]
  rfl
theorem cm01 (x : Int) (b : Bool) : CMul x (if b = true then 1 else 0) := .inr (by cases b <;> decide)
theorem ok_tape {f : Addr} {fd : FuncData} (F : Fun K "_law_tape" "_law_tape" sLtape f fd) (T : Txt mg tM tL) : FnOk P w K mg base CX0 1 f fd ["_law_script", "_law_k"] (spTape K) := by
  refine F.ok scLtape (fun vs H Q E h => ?_) (fun cdv A outer s H vs Q E hr h => ?_)
  · obtain ⟨a, ns, k, rfl, _⟩ := h
    rfl
  · obtain ⟨a, ns, k, rfl, hS, h0, h1, q⟩ := h
    refine ⟨_, (pss_cons (ps_set (i := 2) scLtape.nd rfl (Or.inl rfl) (pe_ifExp (pt_cmp (pc_lt (pv 1) (pe_callB call_len_seq (by rfl) T.zlen (by decide +kernel) (pa_cons (pv 0) pa_nil)))) (pe_ix ix_list (pv 0) (pv 1) (fun _ _ => rfl)) pe_int))
    (pss_one (ps_ret (pe_lst (pa_cons (pe_op op_mul (pe_callB call_abs (by rfl) T.zabs (by decide +kernel) (pa_cons (pv 2) pa_nil)) (pe_callTy call_int1 (by rfl) T.zint (by decide +kernel) (pa_cons (pe_cmp (pc_ge (pe_callB call_abs (by rfl) T.zabs (by decide +kernel) (pa_cons (pv 2) pa_nil)) (pe_op op_pow pe_int pe_int))) pa_nil))) (pa_cons (pe_op op_add (pe_op op_add (pe_op op_mod (pv 2) pe_int) (pe_op op_mul pe_int (pv 1))) pe_int) (pa_cons pe_int pa_nil))))))), ?_⟩
    have fin : ∀ z : Int, ∀ p, H p = none → Q (.ref p) (upd H p (.lst [.int ((if z < 0 then -z else z) * (if decide ((10 : Int) ^ (18 : Int).toNat ≤ (if z < 0 then -z else z)) then 1 else 0)), .int (z % 2305843009213693951 + 39373 * k + 17), .int 0])) := by
      intro z p hp
      refine q p _ hp ⟨_, _, _, upd_same, ?_, ?_, ?_, Int.le_refl _, Int.le_refl _⟩ (same_new hp)
      · refine Int.mul_nonneg ?_ ?_ <;> split <;> omega
      · omega
      · omega
    refine ⟨_, rfl, _, rfl, a, _, rfl, .inl hS, k, _, rfl, rfl, _, rfl, ?_⟩
    refine iteD (fun c1 => ?_) (fun c1 => ?_)
    · obtain ⟨z, hz⟩ := at_int h0 c1
      refine ⟨_, rfl, _, rfl, a, _, k, .int z, rfl, rfl, hS, hz, ?_⟩
      refine ⟨_, rfl, z, rfl, _, rfl, z, rfl, 10, 18, rfl, rfl, ⟨by decide, by decide, by decide⟩, _, _, rfl, rfl, .inr ⟨_, rfl, _, _, rfl, rfl, cm01 _ _, ?_⟩⟩
      refine ⟨_, rfl, z, 2305843009213693951, rfl, rfl, (show (0 : Int) < 2305843009213693951 by decide), _, rfl, 39373, k, rfl, rfl, .inl ⟨by decide, by decide⟩, _, _, rfl, rfl, _, 17, rfl, rfl, (by show 3 ≤ sizeLine; decide), fun p hp => ?_⟩
      exact fin z p hp
    · refine ⟨_, rfl, 0, rfl, _, rfl, 0, rfl, 10, 18, rfl, rfl, ⟨by decide, by decide, by decide⟩, _, _, rfl, rfl, .inr ⟨_, rfl, _, _, rfl, rfl, cm01 _ _, ?_⟩⟩
      refine ⟨_, rfl, 0, 2305843009213693951, rfl, rfl, (show (0 : Int) < 2305843009213693951 by decide), _, rfl, 39373, k, rfl, rfl, .inl ⟨by decide, by decide⟩, _, _, rfl, rfl, _, 17, rfl, rfl, (by show 3 ≤ sizeLine; decide), fun p hp => ?_⟩
      exact fin 0 p hp
/-! ### over enumerate -/
theorem for_enum {K : PySem.W.Frag} {a : Addr} {xs : List V} {g : TG} {tb : TS} {D : Ends} {σ : L2.St} {H : Hp} (Pv : Nat → L2.St → Hp → Prop) (h0 : Pv 0 σ H) (hl : ∀ i σ H, i ≤ xs.length → Pv i σ H → SqL K H a xs)
    (hs : ∀ i x σ H T, xs[i]? = some x → Pv i σ H → H T = none → g (.ref T) σ (upd H T (.tup [.int (i : Nat), x])) fun σ2 H2 => tb { D with nx := Pv (i + 1), ct := Pv (i + 1), bk := D.nx } σ2 H2) (hd : ∀ σ H, Pv xs.length σ H → D.nx σ H) :
    ∃ W : Nat → Nat → L2.St → Hp → Prop, (∃ m, W 0 m σ H) ∧ ∀ i m σ H, W i m σ H →
      ((Ite K a).stop i H ∧ D.nx σ H) ∨ ((Ite K a).go i H ∧ ∃ N : L2.St → Hp → Prop, (∀ σ' H', N σ' H' → ∃ m', m' < m ∧ W (i + 1) m' σ' H') ∧ ∀ x H', (Ite K a).yld i H x H' → g x σ H' fun σ2 H2 => tb { D with nx := N, ct := N, bk := D.nx } σ2 H2) := by
  refine ⟨fun i m σ H => m = xs.length - i ∧ i ≤ xs.length ∧ Pv i σ H, ⟨xs.length, by simp, Nat.zero_le _, h0⟩, ?_⟩
  rintro i m σ H ⟨rfl, hi, p⟩
  have q := hl i σ H hi p
  by_cases hlt : i < xs.length
  · refine .inr ⟨⟨xs, xs[i], q, by simp [hlt]⟩, Pv (i + 1), fun σ' H' p' => ⟨xs.length - (i + 1), by omega, rfl, hlt, p'⟩, fun x H' y => ?_⟩
    obtain ⟨T, z, rfl, hT, rfl, y⟩ := y
    exact hs i z σ H T (y xs q) p hT
  · have e : i = xs.length := by omega
    subst e
    exact .inl ⟨⟨xs, q, Nat.le_refl _⟩, hd σ H p⟩
/-! ### _law_folded -/
theorem cut_ints (ns : List Int) (lo hi : Option Int) : ∃ ys : List Int, cutV (ns.map V.int) lo hi = ys.map V.int ∧ ys.length = min (HT.sIx ns.length ns.length hi - HT.sIx ns.length 0 lo) (ns.length - HT.sIx ns.length 0 lo) := by
  refine ⟨(ns.drop (HT.sIx ns.length 0 lo)).take (HT.sIx ns.length ns.length hi - HT.sIx ns.length 0 lo), ?_, ?_⟩
  · unfold cutV
    rw [List.length_map, List.map_take, List.map_drop]
  · rw [List.length_take, List.length_drop]
def spFolded (K : PySem.W.Frag) : Sp := fun vs H Q _ => ∃ (a : Addr) (ns : List Int) (m : Nat), vs = [.ref a, .int (m : Int)] ∧ SqL K H a (ns.map V.int) ∧ 0 < m ∧ m ≤ 100 ∧ ns.length ≤ 63 ∧
  ∀ (p : Addr) (cs : List Int) (H' : Hp), H p = none → cs.length = min m ns.length → H' p = some (.lst (cs.map V.int)) → Same H H' → Q (.ref p) H'
abbrev sLfolded : Stmt := top 23
theorem scLfolded : FnScope ["_law_script", "_law_a_many", "_law_cells", "_law_k", "_law_cell"] ["_law_script", "_law_a_many"] (defScope sLfolded) := ⟨rfl, rfl, rfl, by decide +kernel, rfl, by decide +kernel, by decide +kernel⟩
theorem sIx_pos (n d : Nat) (m : Nat) : HT.sIx n d (some (m : Int)) = min m n := HT.sIx_nat n d m
theorem ok_folded {f : Addr} {fd : FuncData} (F : Fun K "_law_folded" "_law_folded" sLfolded f fd) (T : Txt mg tM tL) : FnOk P w K mg base CX0 1 f fd ["_law_script", "_law_a_many"] (spFolded K) := by
  refine F.ok scLfolded (fun vs H Q E h => ?_) (fun cdv A outer s H vs Q E hr h => ?_)
  · obtain ⟨a, ns, m, rfl, _⟩ := h
    rfl
  · obtain ⟨a, ns, m, rfl, hS, h0, h1, hn, q⟩ := h
    refine ⟨_, (pss_cons (ps_set (i := 2) scLfolded.nd rfl (Or.inl rfl) (pe_callTy call_list_of (by rfl) T.zlist (by decide +kernel) (pa_cons (pe_slice sl_list (pv 0) po_none (po_some (pv 1))) pa_nil)))
    (pss_cons (ps_for PassesOwn.never rfl (pi_enum (by rfl) T.zenumerate (pa_cons (pe_slice sl_list (pv 0) (po_some (pv 1)) (po_some pe_int)) pa_nil)) (pg_tup rfl (pgs_cons (pg_name (i := 3) scLfolded.nd rfl (Or.inl rfl)) (pgs_cons (pg_name (i := 4) scLfolded.nd rfl (Or.inl rfl)) pgs_nil)))
    (pss_one (ps_asg (pe_op op_add (pe_ix ix_list (pv 2) (pe_op op_mod (pv 3) (pv 1)) (fun _ _ => rfl)) (pe_op op_mul (pv 4) (pe_op op_add (pv 3) pe_int))) (pg_sub (pv 2) (pe_op op_mod (pv 3) (pv 1)) set_list))))
    (pss_one (ps_ret (pv 2))))), ?_⟩
    obtain ⟨c0, e0, l0⟩ := cut_ints ns none (some (m : Int))
    obtain ⟨ys, ey, ly⟩ := cut_ints ns (some (m : Int)) (some 63)
    rw [sIx_pos, HT.sIx_none] at l0
    rw [sIx_pos, show HT.sIx ns.length ns.length (some 63) = min 63 ns.length from HT.sIx_nat ns.length ns.length 63] at ly
    -- _law_cells = list(_law_script[:_law_many])
    refine ⟨_, rfl, _, rfl, _, rfl, a, _, rfl, hS, fun p hp => ⟨p, _, rfl, .inl (SqL.of upd_same), fun l hl => ?_⟩⟩
    have npl : p ≠ l := fun e => by
      rw [e, upd_same] at hl
      cases hl
    have hl0 : H l = none := by
      rw [upd_ne npl.symm] at hl
      exact hl
    have s1 : Same H (upd (upd H p (.lst (cutV (ns.map V.int) none (some (m : Int))))) l (.lst (cutV (ns.map V.int) none (some (m : Int))))) := fun b o e => by
      rw [upd_ne (ne_of_none e hl0), upd_ne (ne_of_none e hp)]
      exact e
    -- for _law_k, _law_cell in enumerate(_law_script[_law_many:63])
    refine ⟨_, rfl, _, rfl, _, rfl, _, rfl, a, _, rfl, s1.seq hS, fun z hz => ⟨z, _, rfl, SqL.of upd_same, ?_⟩⟩
    have nlz : l ≠ z := fun e => by
      rw [← e, upd_same] at hz
      cases hz
    have hz0 : H z = none := s1.free hz
    refine for_enum (K := K) (a := z) (xs := ys.map V.int) (fun i σ H' => ∃ (cs : List Int) (u v : Option V), σ = [some (.ref a), some (.int (m : Int)), some (.ref l), u, v] ∧ H' l = some (.lst (cs.map V.int)) ∧ cs.length = c0.length ∧ H' z = some (.lst (ys.map V.int)) ∧ Same H H')
      ⟨c0, _, _, rfl, by rw [upd_ne nlz, upd_same, e0], rfl, by rw [upd_same, ey], fun b o e => by rw [upd_ne (ne_of_none e hz0)]; exact s1 b o e⟩ (fun i σ H' _ ⟨_, _, _, _, _, _, h, _⟩ => SqL.of h) ?_ ?_
    · rintro i x σ H' T hi ⟨cs, u, v, rfl, hcs, lcs, hys, s2⟩ hT
      obtain ⟨y, hy, rfl⟩ := map_int hi
      have hil : i < ys.length := (List.getElem?_eq_some_iff.mp hy).1
      have lm : cs.length = m := by omega
      have nTl : l ≠ T := ne_of_none hcs hT
      have nTz : z ≠ T := ne_of_none hys hT
      have hcs' : (upd H' T (.tup [.int (i : Nat), .int y])) l = some (.lst (cs.map V.int)) := by rw [upd_ne nTl]; exact hcs
      refine ⟨T, _, rfl, SqT.of upd_same, rfl, _, _, rfl, _, _, rfl, rfl, ?_⟩
      have im0 : 0 ≤ ((i : Nat) : Int) % (m : Int) := Int.emod_nonneg _ (by omega)
      have im1 : ((i : Nat) : Int) % (m : Int) < (m : Int) := Int.emod_lt_of_pos _ (by omega)
      obtain ⟨c, hc⟩ := at_int (ns := cs) (k := ((i : Nat) : Int) % (m : Int)) im0 (by rw [List.length_map]; omega)
      refine ⟨_, rfl, _, rfl, _, rfl, _, _, rfl, rfl, (show (0 : Int) < (m : Int) by omega), l, _, _, _, rfl, rfl, SqL.of hcs', hc, _, rfl, _, rfl, _, 2, rfl, rfl, y, _, rfl, rfl, .inr ⟨?_, ?_⟩, _, _, rfl, rfl, ?_⟩
      · omega
      · omega
      refine ⟨_, rfl, _, rfl, _, rfl, _, _, rfl, rfl, (show (0 : Int) < (m : Int) by omega), l, _, _, (((i : Nat) : Int) % (m : Int)).toNat, rfl, rfl, hcs', ?_, ?_⟩
      · unfold ixN
        rw [if_pos im0, if_pos (by rw [List.length_map]; omega)]
      refine ⟨cs.set (((i : Nat) : Int) % (m : Int)).toNat (c + y * (((i : Nat) : Int) + 2)), _, _, rfl, ?_, ?_, ?_, ?_⟩
      · rw [upd_same, List.map_set]
      · rw [List.length_set]
        exact lcs
      · rw [upd_ne nlz.symm, upd_ne nTz]
        exact hys
      · intro b o e
        rw [upd_ne (ne_of_none e hl0), upd_ne (ne_of_none (s2 _ _ e) hT)]
        exact s2 _ _ e
    · rintro σ H' ⟨cs, u, v, rfl, hcs, lcs, hys, s2⟩
      refine ⟨_, rfl, ?_⟩
      exact q l cs H' hl0 (by rw [lcs, l0]; omega) hcs s2
end
end HP
namespace HP
open PySem L2
section
variable {P : Program} {w : World} {K : PySem.W.Frag} {mg : Str → Option Value} {base : Heap} {tM tL : Tok}
theorem at3 {x y z r : Int} (h0 : 0 ≤ r) (h1 : r < 3) : ∃ b : Int, atI [V.int x, V.int y, V.int z] r = some (V.int b) ∧ (b = x ∨ b = y ∨ b = z) := by
  have : r = 0 ∨ r = 1 ∨ r = 2 := by omega
  rcases this with rfl | rfl | rfl
  · exact ⟨x, rfl, .inl rfl⟩
  · exact ⟨y, rfl, .inr (.inl rfl)⟩
  · exact ⟨z, rfl, .inr (.inr rfl)⟩
theorem at4 {x y z u r : Int} (h0 : 0 ≤ r) (h1 : r < 4) : ∃ b : Int, atI [V.int x, V.int y, V.int z, V.int u] r = some (V.int b) ∧ (b = x ∨ b = y ∨ b = z ∨ b = u) := by
  have : r = 0 ∨ r = 1 ∨ r = 2 ∨ r = 3 := by omega
  rcases this with rfl | rfl | rfl | rfl
  · exact ⟨x, rfl, .inl rfl⟩
  · exact ⟨y, rfl, .inr (.inl rfl)⟩
  · exact ⟨z, rfl, .inr (.inr (.inl rfl))⟩
  · exact ⟨u, rfl, .inr (.inr (.inr rfl))⟩
theorem TapeAt.ne {H : Hp} {t p : Addr} {c : Int} (h : TapeAt H t c) (hp : H p = none) : p ≠ t := by
  obtain ⟨zs, hz⟩ := h.some
  exact (ne_of_none hz hp).symm
theorem TapeAt.new {H : Hp} {t p : Addr} {c : Int} {o : HO} (h : TapeAt H t c) (hp : H p = none) : TapeAt (upd H p o) t c := h.same (same_new hp)
theorem SameBut.new {t p : Addr} {H H' : Hp} {o : HO} (s : SameBut t H H') (hp : H' p = none) : SameBut t H (upd H' p o) := s.trans (Same.but (same_new hp))
theorem SameBut.free {t p : Addr} {c : Int} {H H' : Hp} (s : SameBut t H H') (ht : TapeAt H' t c) (hp : H' p = none) : H p = none := by
  cases q : H p with
  | none => rfl
  | some o =>
    have n : p ≠ t := ht.ne hp
    rw [s p o q n] at hp
    cases hp
theorem SameBut.pairs {t : Addr} {c : Int} {H H' : Hp} {xs : List V} {L : List (Int × Int)} (s : SameBut t H H') (ht : TapeAt H t c) (h : PairsAt H xs L) : PairsAt H' xs L := h.move fun _ _ e => s.tup ht e
theorem Same.pairs {H H' : Hp} {xs : List V} {L : List (Int × Int)} (s : Same H H') (h : PairsAt H xs L) : PairsAt H' xs L := h.move fun _ _ e => s _ _ e
theorem pow6 : CPow 10 6 := ⟨by decide, by decide, by decide⟩
theorem pow12 : CPow 10 12 := ⟨by decide, by decide, by decide⟩
abbrev DDraw (P : Program) (w : World) (K : PySem.W.Frag) (mg : Str → Option Value) (base : Heap) : Prop := Df P w K mg base "_law_draw" 1 ["_law_tape_here", "_law_a_many"] spDraw
end
end HP
namespace HP
open PySem L2
section
variable {P : Program} {w : World} {K : PySem.W.Frag} {mg : Str → Option Value} {base : Heap} {tM tL : Tok}
theorem FunD_ok0 {x qual : Str} {st : Stmt} {dvs : List V} {f : Addr} {fd : FuncData} {N ps : List Str} {k : Nat} {sp : Sp} (F : FunD K x qual (defArgs st) (defBody st) (defScope st) dvs [] f fd) (S : FnScope N ps (defScope st)) (len : ∀ vs H Q E, sp vs H Q E → vs.length = ps.length)
    (hbody : ∀ (cdv : Value) (A : Around) (outer : List Env) (s : Shared) (H : Hp) (vs : List V) (Q : VK) (E : XK), Room k (A.deeper (PyProof.Rows.envOfC qual (defScope st) s.heap.objs.size f cdv)) → sp vs H Q E →
      ∃ t, PSs (cxOf CX0 P w K mg base N qual (defScope st) f cdv A outer s H E).nox (defBody st) t ∧ t { nx := fun _ H' => Q .non H', rt := Q } (start N vs) H) : FnOk P w K mg base CX0 (k + 1) f fd ps sp :=
  F.ok S len fun cdv A outer s H vs Q E hr h => let ⟨t, a, b⟩ := hbody cdv A outer s H vs Q E hr h; ⟨t, a.nox, b⟩
/-! ### is_number, of a number -/
def spIsNumber : Sp := fun vs H Q _ => ∃ (i lo hi : Int), vs = [.int i, .int lo, .int hi] ∧ lo ≤ i ∧ i ≤ hi ∧ Q (.bl true) H
abbrev sis_number : Stmt := top 8
theorem scis_number : FnScope ["thing", "least", "most"] ["thing", "least", "most"] (defScope sis_number) := ⟨rfl, rfl, rfl, by decide +kernel, rfl, by decide +kernel, by decide +kernel⟩
theorem kit1 : kitB "int" "int" = some true := by decide +kernel
theorem kit2 : kitB "int" "bool" = some false := by decide +kernel
theorem kit3 : kitB "tuple" "tuple" = some true := by decide +kernel
theorem kit4 : kitB "list" "list" = some true := by decide +kernel
theorem ok_is_number {f : Addr} {fd : FuncData} {dvs : List V} (F : FunD K "is_number" "is_number" (defArgs sis_number) (defBody sis_number) (defScope sis_number) dvs [] f fd) (T : Txt mg tM tL) : FnOk P w K mg base CX0 1 f fd ["thing", "least", "most"] spIsNumber := by
  refine FunD_ok0 F scis_number (fun vs H Q E h => ?_) (fun cdv A outer s H vs Q E hr h => ?_)
  · obtain ⟨i, lo, hi, rfl, _⟩ := h
    rfl
  · obtain ⟨i, lo, hi, rfl, h1, h2, q⟩ := h
    refine ⟨_, (pss_cons (ps_if (PW.pt (pw_or (pt_not (pt_val (pe_callB call_isi (by rfl) T.zisinstance (by decide +kernel) (pa_cons (pv 0) (pa_cons (pe_bltn (v := .ty "int") (u := .type "int") (by rfl) T.zint (by decide +kernel) rfl) pa_nil))))) (pw_or1 (pt_val (pe_callB call_isi (by rfl) T.zisinstance (by decide +kernel) (pa_cons (pv 0) (pa_cons (pe_bltn (v := .ty "bool") (u := .type "bool") (by rfl) T.zbool (by decide +kernel) rfl) pa_nil))))))) (pss_one (ps_ret pe_bl)) pss_nil)
      (pss_one (ps_ret (pe_and (pe_cmp (pc_le (pv 1) (pv 0)) rfl) (pe_one (pe_or (pe_cmp (pc_isN (pv 2)) rfl) (pe_one (pe_cmp (pc_le (pv 0) (pv 2)) rfl)))))))), ?_⟩
    refine ⟨_, rfl, _, _, _, _, true, rfl, .ty "int", .base (.int i), kit_ty kit1, true, rfl, iteF ?_⟩
    refine ⟨_, rfl, _, _, _, _, false, rfl, .ty "bool", .base (.int i), kit_ty kit2, false, rfl, iteF ?_⟩
    refine ⟨_, rfl, _, rfl, lo, i, rfl, rfl, _, rfl, iteD (fun _ => ?_) (fun c => absurd h1 c)⟩
    refine ⟨_, rfl, _, rfl, iteD (fun c => absurd c (by simp)) (fun _ => ?_)⟩
    refine ⟨_, rfl, _, rfl, i, hi, rfl, rfl, ?_⟩
    show Q (.bl (decide (i ≤ hi))) H
    rw [decide_eq_true h2]
    exact q
abbrev DIsNumber (P : Program) (w : World) (K : PySem.W.Frag) (mg : Str → Option Value) (base : Heap) : Prop := Df P w K mg base "is_number" 1 ["thing", "least", "most"] spIsNumber
end
end HP
namespace HP
open PySem L2
section
variable {P : Program} {w : World} {K : PySem.W.Frag} {mg : Str → Option Value} {base : Heap} {tM tL : Tok}
/-! ### texts of letters -/
abbrev lettersS : Str := Str.ofString "abcdefghijklmnopqrstuvwxyz"
theorem letters_len : lettersS.cps.toList.length = 26 := by decide +kernel
theorem letters_size : lettersS.length ≤ sizeLine := by decide +kernel
theorem letters_all : lettersS.cps.toList.all (fun c => decide (97 ≤ c ∧ c ≤ 122)) = true := by decide +kernel
theorem letters_has : (List.range 26).all (fun i => decide ((97 + i) ∈ lettersS.cps.toList)) = true := by decide +kernel
def Lets (z : Str) : Prop := ∀ c ∈ z.cps.toList, 97 ≤ c ∧ c ≤ 122
theorem atI_int {α : Type} {xs : List α} {i : Int} {v : α} (h0 : 0 ≤ i) (_ : 0 ≤ i) (h : xs[i.toNat]? = some v) : atI xs i = some v := by
  have := atI_nat h
  rw [show ((i.toNat : Nat) : Int) = i by omega] at this
  exact this
theorem letter_at {i : Int} (h0 : 0 ≤ i) (h1 : i < 26) : ∃ c, atI lettersS.cps.toList i = some c ∧ 97 ≤ c ∧ c ≤ 122 := by
  have hl : i.toNat < lettersS.cps.toList.length := by rw [letters_len]; omega
  refine ⟨lettersS.cps.toList[i.toNat], atI_int (by omega) (by omega) (List.getElem?_eq_getElem hl), ?_⟩
  have := List.all_eq_true.mp letters_all _ (List.getElem_mem hl)
  exact of_decide_eq_true this
theorem letter_in {c : Nat} (h : 97 ≤ c ∧ c ≤ 122) : c ∈ lettersS.cps.toList := by
  have := List.all_eq_true.mp letters_has (c - 97) (List.mem_range.mpr (by omega))
  have := of_decide_eq_true this
  rw [show 97 + (c - 97) = c by omega] at this
  exact this
theorem Lets.one {c : Nat} (h : 97 ≤ c ∧ c ≤ 122) : Lets ⟨#[c]⟩ := fun d hd => by
  have : d = c := by simpa using hd
  rw [this]
  exact h
theorem len_cps (z : Str) : z.length = z.cps.toList.length := by rw [Array.length_toList]; rfl
theorem Lets.append {x y : Str} (hx : Lets x) (hy : Lets y) : Lets (x ++ y) := fun c hc => by
  have e : (x ++ y).cps = x.cps ++ y.cps := Str.cps_append x y
  rw [e, Array.toList_append] at hc
  rcases List.mem_append.mp hc with h | h
  · exact hx c h
  · exact hy c h
theorem Lets.cut {z : Str} (h : Lets z) (lo hi : Option Int) : Lets (cutS z lo hi) := fun c hc => by
  unfold cutS at hc
  exact h c (List.mem_of_mem_drop (List.mem_of_mem_take hc))
theorem cut_size (z : Str) (lo hi : Option Int) : (cutS z lo hi).length ≤ z.length := by
  rw [len_cps, len_cps]
  unfold cutS
  show List.length (List.take _ (List.drop _ _)) ≤ _
  rw [List.length_take, List.length_drop]
  omega
theorem cut_parts (z : Str) (n : Nat) (h : n ≤ z.length) : (cutS z none (some (n : Int))).length = n ∧ (cutS z (some (n : Int)) none).length = z.length - n := by
  rw [len_cps, len_cps]
  unfold cutS
  show List.length (List.take _ (List.drop _ _)) = _ ∧ List.length (List.take _ (List.drop _ _)) = _
  rw [HT.sIx_none, HT.sIx_none, HT.sIx_nat, HT.sIx_nat, List.length_take, List.length_drop, List.length_take, List.length_drop, ← len_cps]
  omega
/-- a text times a number -/
def rMulS : R2 := fun x y H Q => ∃ z n, x = .str z ∧ y = .int n ∧ MulOk z n ∧ Q (.str (Txt.mul z n)) H
theorem op_mul_str {X : Cx} : OpR X (binaryOp .Mult) rMulS := by
  intro pins s σ H x y v u Q I rx ry h
  obtain ⟨z, n, rfl, rfl, hz, q⟩ := h
  obtain ⟨t, rfl⟩ := rx
  obtain ⟨t', rfl⟩ := ry
  exact SB.mul hz fun t' tk => ⟨.str (Txt.mul z n), H, I.tok _, ⟨_, rfl⟩, q⟩
theorem mul01 {z : Str} {n : Int} (h0 : 0 ≤ n) (h1 : n ≤ 1) : MulOk z n ∧ (Txt.mul z n = z ∨ Txt.mul z n = Str.empty) := by
  have : n = 0 ∨ n = 1 := by omega
  rcases this with rfl | rfl
  · exact ⟨⟨by decide, fun h => absurd (by decide) h, fun h => absurd (by decide) h⟩, .inr rfl⟩
  · exact ⟨⟨by decide, fun _ h => by simp at h, fun _ h => by simp at h⟩, .inl rfl⟩
theorem Lets.empty : Lets Str.empty := fun c hc => by cases hc
theorem fold_mem (sep : Str) : ∀ (rest : List Str) (acc : Array Nat) (c : Nat), c ∈ (rest.foldl (fun acc p => acc ++ sep.cps ++ p.cps) acc).toList → c ∈ acc.toList ∨ c ∈ sep.cps.toList ∨ ∃ p ∈ rest, c ∈ p.cps.toList
  | [], acc, c, h => .inl h
  | q :: rest, acc, c, h => by
    rcases fold_mem sep rest _ c h with h | h | ⟨p, hp, h⟩
    · rw [Array.toList_append, Array.toList_append] at h
      rcases List.mem_append.mp h with h | h
      · rcases List.mem_append.mp h with h | h
        · exact .inl h
        · exact .inr (.inl h)
      · exact .inr (.inr ⟨q, List.mem_cons_self, h⟩)
    · exact .inr (.inl h)
    · exact .inr (.inr ⟨p, List.mem_cons_of_mem _ hp, h⟩)
theorem sum_ones : ∀ zs : List Str, (∀ z ∈ zs, z.length = 1) → (zs.map (·.length)).sum = zs.length
  | [], _ => rfl
  | z :: zs, h => by
    rw [List.map_cons, List.sum_cons, h z List.mem_cons_self, sum_ones zs fun y hy => h y (List.mem_cons_of_mem _ hy), List.length_cons]
    omega
/-- letters one by one, glued -/
theorem join_lets {sep : Str} (hs : sep.cps = #[]) (zs : List Str) (h : ∀ z ∈ zs, Lets z ∧ z.length = 1) : Lets (Txt.join sep zs) ∧ (Txt.join sep zs).length = zs.length := by
  have hsl : sep.length = 0 := by show sep.cps.size = 0; rw [hs]; rfl
  refine ⟨fun c hc => ?_, ?_⟩
  · cases zs with
    | nil => cases hc
    | cons z zs =>
      have hc' : c ∈ (zs.foldl (fun acc p => acc ++ sep.cps ++ p.cps) z.cps).toList := hc
      rcases fold_mem sep zs z.cps c hc' with h' | h' | ⟨p, hp, h'⟩
      · exact (h z List.mem_cons_self).1 c h'
      · rw [hs] at h'; cases h'
      · exact (h p (List.mem_cons_of_mem _ hp)).1 c h'
  · have := PySem.size_glued sep zs
    rw [hsl, Nat.mul_zero, Nat.add_zero, sum_ones zs fun z hz => (h z hz).2] at this
    exact this
def GoodName (z : Str) : Prop := 1 ≤ z.length ∧ z.length ≤ 8 ∧ Lets z
end
end HP
namespace HP
open PySem L2
section
variable {P : Program} {w : World} {K : PySem.W.Frag} {mg : Str → Option Value} {base : Heap} {tM tL : Tok}
theorem take_more {α : Type} {l : List α} {i : Nat} {x : α} (h : l[i]? = some x) : l.take (i + 1) = l.take i ++ [x] := by
  rw [List.take_add_one, h]
  rfl
theorem rep_snoc {α : Type} (i : Nat) (x : α) : List.replicate i x ++ [x] = List.replicate (i + 1) x := by
  rw [List.replicate_succ']
theorem all_rep (n : Nat) : (List.replicate n true).all id = true := by
  induction n with
  | zero => rfl
  | succ k ih => rw [List.replicate_succ, List.all_cons, ih]; rfl
theorem kit5 : kitB "tuple" "list" = some false := by decide +kernel
theorem kit6 : kitB "str" "str" = some true := by decide +kernel
/-! ### is_row, of a tuple -/
def spIsRow : Sp := fun vs H Q _ => ∃ (p : Addr) (xs : List V) (lo hi : Int), vs = [.ref p, .int lo, .int hi] ∧ H p = some (.tup xs) ∧ lo ≤ (xs.length : Int) ∧ (xs.length : Int) ≤ hi ∧ ∀ H', Same H H' → Q (.bl true) H'
abbrev sis_row : Stmt := top 9
theorem scis_row : FnScope ["thing", "least", "most"] ["thing", "least", "most"] (defScope sis_row) := ⟨rfl, rfl, rfl, by decide +kernel, rfl, by decide +kernel, by decide +kernel⟩
theorem ok_is_row {f : Addr} {fd : FuncData} (F : Fun K "is_row" "is_row" sis_row f fd) (T : Txt mg tM tL) : FnOk P w K mg base CX0 1 f fd ["thing", "least", "most"] spIsRow := by
  refine F.ok scis_row (fun vs H Q E h => ?_) (fun cdv A outer s H vs Q E hr h => ?_)
  · obtain ⟨p, xs, lo, hi, rfl, _⟩ := h
    rfl
  · obtain ⟨p, xs, lo, hi, rfl, hp, h1, h2, q⟩ := h
    refine ⟨_, (pss_one (ps_ret (pe_and (pe_callB call_isiT (by rfl) T.zisinstance (by decide +kernel) (pa_cons (pv 0) (pa_cons (pe_tup (pa_cons (pe_bltn (v := .ty "list") (u := .type "list") (by rfl) T.zlist (by decide +kernel) rfl) (pa_cons (pe_bltn (v := .ty "tuple") (u := .type "tuple") (by rfl) T.ztuple (by decide +kernel) rfl) pa_nil))) pa_nil))) (pe_one (pe_chain op_le op_le (pv 1) (pe_callB call_len_seq (by rfl) T.zlen (by decide +kernel) (pa_cons (pv 0) pa_nil)) (pv 2)))))), ?_⟩
    refine ⟨_, rfl, (by show 2 ≤ sizeLine; decide), fun d hd => ?_⟩
    have hp1 : (upd H d (.tup [.ty "list", .ty "tuple"])) p = some (.tup xs) := by rw [upd_ne (ne_of_none hp hd)]; exact hp
    refine ⟨_, d, _, _, _, true, rfl, upd_same, .cons (.ty "list") (.cons (.ty "tuple") .nil), .base (.tup hp1), kitAny_cons (b := false) (kit_ty kit5) (fun _ => kitAny_cons (b := true) (kit_ty kit3) (fun z => by cases z) (fun _ => rfl)) (fun z => by cases z), true, rfl, iteT ?_⟩
    refine ⟨_, rfl, _, rfl, p, _, rfl, .inr (SqT.of hp1), lo, _, rfl, rfl, _, rfl, iteD (fun _ => ?_) (fun c => absurd h1 c)⟩
    refine ⟨_, rfl, _, hi, rfl, rfl, ?_⟩
    show Q (.bl (decide ((xs.length : Int) ≤ hi))) _
    rw [decide_eq_true h2]
    exact q _ (same_new hd)
/-! ### is_name -/
theorem lc_str {x : Str} {g : TG} {tt : TT} {te : TE} {vs : List Nat} {σ : L2.St} {H1 : Hp} {D : Addr} {Qd : Hp → Prop} (Pv : Nat → Hp → Prop) (h0 : Pv 0 (upd H1 D (.lst [])))
    (hs : ∀ i c H, x.cps[i]? = some c → Pv i H → g (.str ⟨#[c]⟩) (wipe σ vs) H fun σ2 H2 => wipe σ2 vs = wipe σ vs ∧ tt σ2 H2 fun b H3 =>
      if b = true then te σ2 H3 fun y H4 => ∃ acc, H4 D = some (.lst acc) ∧ acc.length < sizeLine ∧ Pv (i + 1) (upd H4 D (.lst (acc ++ [y]))) else Pv (i + 1) H3) (hd : ∀ H, Pv x.cps.size H → Qd H) :
    ∃ W : Nat → Nat → Hp → Prop, (∃ m, W 0 m (upd H1 D (.lst []))) ∧ ∀ i m H, W i m H →
      ((Its x).stop i H ∧ Qd H) ∨ ((Its x).go i H ∧ ∃ Nx : Hp → Prop, (∀ H', Nx H' → ∃ m', m' < m ∧ W (i + 1) m' H') ∧ ∀ v H', (Its x).yld i H v H' → g v (wipe σ vs) H' fun σ2 H2 => wipe σ2 vs = wipe σ vs ∧ tt σ2 H2 fun b H3 =>
        if b = true then te σ2 H3 fun y H4 => ∃ acc, H4 D = some (.lst acc) ∧ acc.length < sizeLine ∧ Nx (upd H4 D (.lst (acc ++ [y]))) else Nx H3) := by
  refine ⟨fun i m H => m = x.cps.size - i ∧ i ≤ x.cps.size ∧ Pv i H, ⟨x.cps.size, rfl, Nat.zero_le _, h0⟩, ?_⟩
  rintro i m H ⟨rfl, hi, p⟩
  by_cases hlt : i < x.cps.size
  · refine .inr ⟨hlt, Pv (i + 1), fun H' p' => ⟨x.cps.size - (i + 1), by omega, rfl, hlt, p'⟩, fun v H' y => ?_⟩
    obtain ⟨rfl, c, hc, rfl⟩ := y
    exact hs i c _ hc p
  · have e : i = x.cps.size := by omega
    subst e
    exact .inl ⟨Nat.le_refl _, hd H p⟩
def spIsName : Sp := fun vs H Q _ => ∃ z : Str, vs = [.str z] ∧ GoodName z ∧ ∀ H', Same H H' → Q (.bl true) H'
abbrev sis_name : Stmt := top 10
theorem scis_name : FnScope ["thing", "letter"] ["thing"] (defScope sis_name) := ⟨rfl, rfl, rfl, by decide +kernel, rfl, by decide +kernel, by decide +kernel⟩
theorem ok_is_name {f : Addr} {fd : FuncData} (F : Fun K "is_name" "is_name" sis_name f fd) (T : Txt mg tM tL) : FnOk P w K mg base CX0 1 f fd ["thing"] spIsName := by
  refine F.ok scis_name (fun vs H Q E h => ?_) (fun cdv A outer s H vs Q E hr h => ?_)
  · obtain ⟨z, rfl, _⟩ := h
    rfl
  · obtain ⟨z, rfl, ⟨g1, g2, g3⟩, q⟩ := h
    refine ⟨_, (pss_cons (ps_if (PW.pt (pw_or (pt_not (pt_val (pe_callB call_isi (by rfl) T.zisinstance (by decide +kernel) (pa_cons (pv 0) (pa_cons (pe_bltn (v := .ty "str") (u := .type "str") (by rfl) T.zstr (by decide +kernel) rfl) pa_nil))))) (pw_or1 (pt_not (pt_chain op_le op_le pe_int (pe_callB call_len_str (by rfl) T.zlen (by decide +kernel) (pa_cons (pv 0) pa_nil)) (pe_gi T.gMOST_LETTERS)))))) (pss_one (ps_ret pe_bl)) pss_nil)
    (pss_one (ps_ret (pe_callB (cr_all rfl) (by rfl) T.zall (by decide +kernel) (pa_cons (pe_lc (own := [("letter", 1)]) (g := gName 1) (tt := tYes) (by rfl) scis_name.nd (pi_str (pv 0)) (blkOk_by (own := [("letter", 1)]) (N := ["thing", "letter"]) (sc := defScope sis_name) (by decide +kernel)) (fun _ _ _ _ _ => (pg_name (i := 1) scis_name.nd rfl (Or.inl rfl))) (fun _ _ _ _ _ => pts_nil) (fun _ _ _ _ _ => (pe_cmpR op_in_sign (pv 1) (pe_gs T.gLETTERS) (by rfl)))) pa_nil))))), ?_⟩
    have hsz : z.length ≤ sizeLine := Nat.le_trans g2 (by decide)
    refine ⟨_, rfl, _, _, _, _, true, rfl, .ty "str", .base (.str z), kit_ty kit6, true, rfl, iteF ?_⟩
    refine ⟨_, rfl, z, rfl, hsz, 1, _, rfl, rfl, _, rfl, iteD (fun _ => ?_) (fun c => absurd (by omega) c)⟩
    refine ⟨_, 8, rfl, rfl, true, ?_, iteF ?_⟩
    · show V.bl (decide ((z.length : Int) ≤ 8)) = V.bl true
      rw [decide_eq_true (by omega)]
    refine ⟨_, rfl, z, rfl, fun D hD => ?_⟩
    refine lc_str (x := z) (fun i H' => H' D = some (.lst ((List.replicate i true).map V.bl)) ∧ Same H H') ⟨upd_same, same_new hD⟩ ?_ ?_
    · rintro i c H' hi ⟨hd, s1⟩
      have hil : i < z.cps.size := by
        by_cases cc : i < z.cps.size
        · exact cc
        · rw [Array.getElem?_eq_none (by omega)] at hi
          cases hi
      have g2' : z.cps.size ≤ 8 := g2
      refine ⟨rfl, ?_⟩
      refine ⟨_, rfl, c, lettersS, rfl, rfl, _, hd, ?_, ?_, ?_⟩
      · rw [List.length_map, List.length_replicate]
        exact Nat.lt_of_lt_of_le (show i < 8 by omega) (by decide)
      · rw [upd_same, ← rep_snoc, List.map_append]
        show some (HO.lst (_ ++ [V.bl (decide (c ∈ lettersS.cps.toList))])) = _
        rw [decide_eq_true (letter_in (g3 c (by
          rw [← Array.getElem?_toList] at hi
          exact List.mem_of_getElem? hi)))]
        rfl
      · intro b o e
        rw [upd_ne (ne_of_none e hD)]
        exact s1 _ _ e
    · rintro H' ⟨hd, s1⟩
      refine ⟨D, _, rfl, SqL.of hd, ?_⟩
      rw [all_rep]
      exact q _ s1
/-! ### are_for_kinds, of a tuple of four numbers -/
def Four (ns : List Int) (most : Int) : Prop := ns.length = 4 ∧ ∀ n ∈ ns, 1 ≤ n ∧ n ≤ most
def spKinds : Sp := fun vs H Q _ => ∃ (p : Addr) (ns : List Int) (most : Int), vs = [.ref p, .int most] ∧ H p = some (.tup (ns.map V.int)) ∧ Four ns most ∧ ∀ H', Same H H' → Q (.bl true) H'
abbrev sare_for_kinds : Stmt := top 17
theorem scare_for_kinds : FnScope ["thing", "most", "item"] ["thing", "most"] (defScope sare_for_kinds) := ⟨rfl, rfl, rfl, by decide +kernel, rfl, by decide +kernel, by decide +kernel⟩
theorem ok_kinds {f : Addr} {fd : FuncData} (F : Fun K "are_for_kinds" "are_for_kinds" sare_for_kinds f fd) (T : Txt mg tM tL) (Dis_row : Df P w K mg base "is_row" 1 ["thing", "least", "most"] spIsRow) (Dis_number : DIsNumber P w K mg base) : FnOk P w K mg base CX0 2 f fd ["thing", "most"] spKinds := by
  refine F.ok scare_for_kinds (fun vs H Q E h => ?_) (fun cdv A outer s H vs Q E hr h => ?_)
  · obtain ⟨p, ns, most, rfl, _⟩ := h
    rfl
  · obtain ⟨p, ns, most, rfl, hp, ⟨h4, hB⟩, q⟩ := h
    refine ⟨_, (pss_one (ps_ret (pe_and (pe_fn Dis_row (hr.mono (by decide)) (pa_cons (pv 0) (pa_cons (pe_gi T.gKINDS) (pa_cons (pe_gi T.gKINDS) pa_nil)))) (pe_one (pe_callB (cr_all rfl) (by rfl) T.zall (by decide +kernel) (pa_cons (pe_lc (own := [("item", 2)]) (g := gName 2) (tt := tYes) (by rfl) scare_for_kinds.nd (pi_tup (pv 0)) (blkOk_by (own := [("item", 2)]) (N := ["thing", "most", "item"]) (sc := defScope sare_for_kinds) (by decide +kernel)) (fun _ _ _ _ _ => (pg_name (i := 2) scare_for_kinds.nd rfl (Or.inl rfl))) (fun _ _ _ _ _ => pts_nil) (fun _ _ _ _ _ => (pe_fn Dis_number (hr.mono (by decide)) (pa_cons (pv 2) (pa_cons pe_int (pa_cons (pv 1) pa_nil)))))) pa_nil)))))), ?_⟩
    refine ⟨_, rfl, p, _, 4, 4, rfl, hp, by rw [List.length_map, h4]; decide, by rw [List.length_map, h4]; decide, fun H1 s1 => ⟨true, rfl, iteT ?_⟩⟩
    refine ⟨_, rfl, p, rfl, ⟨_, SqT.of (s1 _ _ hp)⟩, fun D hD => ?_⟩
    refine lc_tup (K := K) (a := p) (xs := ns.map V.int) (fun i H' => H' D = some (.lst ((List.replicate i true).map V.bl)) ∧ Same H H')
      ⟨upd_same, s1.trans (same_new hD)⟩ (fun i H' _ ⟨_, h⟩ => SqT.of (h _ _ hp)) ?_ ?_
    · rintro i x H' hi ⟨hd, s2⟩
      obtain ⟨n, hn, rfl⟩ := map_int hi
      have hil : i < ns.length := (List.getElem?_eq_some_iff.mp hn).1
      obtain ⟨b1, b2⟩ := hB n (List.mem_of_getElem? hn)
      refine ⟨rfl, ?_⟩
      refine ⟨_, rfl, _, rfl, n, 1, most, rfl, b1, b2, _, hd, ?_, ?_, ?_⟩
      · rw [List.length_map, List.length_replicate]
        exact Nat.lt_of_lt_of_le (show i < 4 by omega) (by decide)
      · rw [upd_same, ← rep_snoc, List.map_append]
        rfl
      · intro b o e
        rw [upd_ne (ne_of_none e (s1.free hD))]
        exact s2 _ _ e
    · rintro H' ⟨hd, s2⟩
      refine ⟨D, _, rfl, SqL.of hd, ?_⟩
      rw [all_rep]
      exact q _ s2
/-! ### common_divisor -/
def spGcd : Sp := fun vs H Q _ => ∃ a b : Int, vs = [.int a, .int b] ∧ 1 ≤ a ∧ 0 ≤ b ∧ Q (.int (Int.gcd a b)) H
abbrev scommon_divisor : Stmt := top 18
theorem sccommon_divisor : FnScope ["one", "other"] ["one", "other"] (defScope scommon_divisor) := ⟨rfl, rfl, rfl, by decide +kernel, rfl, by decide +kernel, by decide +kernel⟩
theorem gcd_step {x y : Int} (hx : 0 ≤ x) (hy : 0 < y) : Int.gcd y (x % y) = Int.gcd x y := by
  have e1 : (x % y).natAbs = x.natAbs % y.natAbs := by
    have h1 : ((x.natAbs % y.natAbs : Nat) : Int) = x % y := by
      rw [Int.natCast_emod, Int.natAbs_of_nonneg hx, Int.natAbs_of_nonneg (by omega)]
    omega
  unfold Int.gcd
  rw [e1, Nat.gcd_comm x.natAbs y.natAbs]
  rw [Nat.gcd_rec y.natAbs x.natAbs, Nat.gcd_comm]
theorem ok_gcd {f : Addr} {fd : FuncData} (F : Fun K "common_divisor" "common_divisor" scommon_divisor f fd) : FnOk P w K mg base CX0 1 f fd ["one", "other"] spGcd := by
  refine F.ok sccommon_divisor (fun vs H Q E h => ?_) (fun cdv A outer s H vs Q E hr h => ?_)
  · obtain ⟨a, b, rfl, _⟩ := h
    rfl
  · obtain ⟨a, b, rfl, ha, hb, q⟩ := h
    refine ⟨_, (pss_cons (ps_while PassesOwn.never (pt_cmp (pc_gt (pv 1) pe_int)) (pss_one (ps_par (i := 0) (j := 1) (by rfl) sccommon_divisor.nd rfl rfl (by decide) rfl rfl (pa_cons (pv 1) (pa_cons (pe_op op_mod (pv 0) (pv 1)) pa_nil)) (by rfl))))
    (pss_one (ps_ret (pv 0)))), ?_⟩
    refine ⟨fun m σ H' => ∃ x y : Int, σ = [some (.int x), some (.int y)] ∧ 1 ≤ x ∧ 0 ≤ y ∧ Int.gcd x y = Int.gcd a b ∧ H' = H ∧ m = y.toNat, ⟨_, a, b, rfl, ha, hb, rfl, rfl, rfl⟩, ?_⟩
    rintro m σ H' ⟨x, y, rfl, hx, hy, hg, rfl, rfl⟩
    refine ⟨_, rfl, y, 0, rfl, rfl, _, rfl, iteD (fun c => ?_) (fun c => ?_)⟩
    · refine ⟨fun σ' H'' => ∃ x' y' : Int, σ' = [some (.int x'), some (.int y')] ∧ 1 ≤ x' ∧ 0 ≤ y' ∧ Int.gcd x' y' = Int.gcd a b ∧ H'' = H' ∧ y' < y, ?_, ?_⟩
      · rintro σ' H'' ⟨x', y', rfl, h1, h2, h3, rfl, h5⟩
        exact ⟨_, by have c' : 0 < y := c; omega, x', y', rfl, h1, h2, h3, rfl, rfl⟩
      · have c' : 0 < y := c
        refine ⟨_, rfl, _, rfl, _, rfl, x, y, rfl, rfl, c', _, _, rfl, ?_⟩
        exact ⟨y, x % y, rfl, by omega, Int.emod_nonneg _ (by omega), (gcd_step (by omega) c').trans hg, rfl, Int.emod_lt_of_pos _ c'⟩
    · have c' : y = 0 := by have : ¬ 0 < y := c; omega
      subst c'
      refine ⟨_, rfl, ?_⟩
      have : Int.gcd x 0 = x.natAbs := Int.gcd_zero_right x
      have e : x = ((Int.gcd a b : Nat) : Int) := by rw [← hg, this]; omega
      rw [e]
      exact q
/-! ### Gang.__init__ -/
def gf (z : Str) (tk hd : Addr) : List (Str × V) := [("name", .str z), ("takes", .ref tk), ("hands", .ref hd)]
theorem gn1 : ¬ (("name" : Str) = "takes") := by decide +kernel
theorem gn2 : ¬ (("name" : Str) = "hands") := by decide +kernel
theorem gn3 : ¬ (("takes" : Str) = "hands") := by decide +kernel
theorem gf_eq (z : Str) (tk hd : Addr) : putF "hands" (.ref hd) (putF "takes" (.ref tk) (putF "name" (.str z) [])) = gf z tk hd := by
  simp only [putF, if_neg gn1, if_neg gn2, if_neg gn3]
  rfl
theorem gf_takes (z : Str) (tk hd : Addr) : (gf z tk hd).lookup ("takes" : Str) = some (.ref tk) := by rw [← gf_eq]; simp only [lookup_putF, if_neg gn3, if_pos]
theorem gf_hands (z : Str) (tk hd : Addr) : (gf z tk hd).lookup ("hands" : Str) = some (.ref hd) := by rw [← gf_eq]; simp only [lookup_putF, if_pos]
theorem gf_no (z : Str) (tk hd : Addr) {m : Str} (h1 : ¬ m = "hands") (h2 : ¬ m = "takes") (h3 : ¬ m = "name") : (gf z tk hd).lookup m = none := by
  rw [← gf_eq]
  simp only [lookup_putF, if_neg h1, if_neg h2, if_neg h3]
  rfl
structure GangTxt (K : PySem.W.Frag) (C : Addr) : Prop where
  cl : Cls K C
  n1 : NoAttr K C "name"
  n2 : NoAttr K C "takes"
  n3 : NoAttr K C "hands"
structure GangAt (C : Addr) (H : Hp) (p : Addr) (ts hs : List Int) : Prop where
  ex : ∃ (z : Str) (dx tk hd : Addr), H p = some (.ins C dx (gf z tk hd)) ∧ H tk = some (.tup (ts.map V.int)) ∧ H hd = some (.tup (hs.map V.int))
  ft : Four ts 1000000
  fh : Four hs 4
theorem GangAt.same {C p : Addr} {H H' : Hp} {ts hs : List Int} (M : GangAt C H p ts hs) (s : Same H H') : GangAt C H' p ts hs := by
  obtain ⟨⟨z, dx, tk, hd, h1, h2, h3⟩, a, b⟩ := M
  exact ⟨⟨z, dx, tk, hd, s _ _ h1, s _ _ h2, s _ _ h3⟩, a, b⟩
theorem GangAt.but {C p t : Addr} {c : Int} {H H' : Hp} {ts hs : List Int} (M : GangAt C H p ts hs) (s : SameBut t H H') (ht : TapeAt H t c) : GangAt C H' p ts hs := by
  obtain ⟨⟨z, dx, tk, hd, h1, h2, h3⟩, a, b⟩ := M
  exact ⟨⟨z, dx, tk, hd, s.ins ht h1, s.tup ht h2, s.tup ht h3⟩, a, b⟩
def spGInit (C : Addr) : Sp := fun vs H Q _ => ∃ (x dx tk hd : Addr) (z : Str) (ts hs : List Int), vs = [.ref x, .str z, .ref tk, .ref hd] ∧ H x = some (.ins C dx []) ∧ GoodName z ∧ H tk = some (.tup (ts.map V.int)) ∧ H hd = some (.tup (hs.map V.int)) ∧ Four ts 1000000 ∧ Four hs 4 ∧
  ∀ H', GangAt C H' x ts hs → (∀ b o, H b = some o → b ≠ x → H' b = some o) → Q .non H'
abbrev sGang_init : Stmt := inClass (top 19) 0
theorem scGang_init : FnScope ["self", "name", "takes", "hands"] ["self", "name", "takes", "hands"] (defScope sGang_init) := ⟨rfl, rfl, rfl, by decide +kernel, rfl, by decide +kernel, by decide +kernel⟩
theorem ok_ginit {f C : Addr} {fd : FuncData} {dvs : List V} (F : FunD K "__init__" "Gang.__init__" (defArgs sGang_init) (defBody sGang_init) (defScope sGang_init) dvs [] f fd) (T : Txt mg tM tL) (GT : GangTxt K C) (Dis_name : Df P w K mg base "is_name" 1 ["thing"] spIsName)
    (Dare_for_kinds : Df P w K mg base "are_for_kinds" 2 ["thing", "most"] spKinds) : FnOk P w K mg base CX0 3 f fd ["self", "name", "takes", "hands"] (spGInit C) := by
  refine FunD_ok0 F scGang_init (fun vs H Q E h => ?_) (fun cdv A outer s H vs Q E hr h => ?_)
  · obtain ⟨x, dx, tk, hd, z, ts, hs, rfl, _⟩ := h
    rfl
  · obtain ⟨x, dx, tk, hd, z, ts, hs, rfl, hx, hz, htk, hhd, ft, fh, q⟩ := h
    refine ⟨_, (pss_cons (ps_if (pt_not (pt_val (pe_fn Dis_name (hr.mono (by decide)) (pa_cons (pv 1) pa_nil)))) (pss_one ps_never) pss_nil)
    (pss_cons (ps_if (pt_not (pt_val (pe_fn Dare_for_kinds (hr.mono (by decide)) (pa_cons (pv 2) (pa_cons (pe_gi T.gMOST_TAKE) pa_nil))))) (pss_one ps_never) pss_nil)
    (pss_cons (ps_if (PW.pt (pw_and (pt_cmp (pc_notN (pv 3))) (pw_and1 (pt_not (pt_val (pe_fn Dare_for_kinds (hr.mono (by decide)) (pa_cons (pv 3) (pa_cons (pe_gi T.gMOST_HANDS) pa_nil)))))))) (pss_one ps_never) pss_nil)
    (pss_cons (ps_fld (pv 0) (pv 1) rfl)
    (pss_cons (ps_fld (pv 0) (pe_callTy call_tuple_of (by rfl) T.ztuple (by decide +kernel) (pa_cons (pv 2) pa_nil)) rfl)
    (pss_one (ps_fld (pv 0) (pe_ifExp (pt_cmp (pc_isN (pv 3))) (pe_tup (pa_cons pe_int (pa_cons pe_int (pa_cons pe_int (pa_cons pe_int pa_nil))))) (pe_callTy call_tuple_of (by rfl) T.ztuple (by decide +kernel) (pa_cons (pv 3) pa_nil))) rfl))))))), ?_⟩
    refine ⟨_, rfl, z, rfl, hz, fun H1 s1 => ⟨true, rfl, iteF ?_⟩⟩
    refine ⟨_, rfl, tk, ts, 1000000, rfl, s1 _ _ htk, ft, fun H2 s2 => ⟨true, rfl, iteF ?_⟩⟩
    refine ⟨_, rfl, true, rfl, iteT ?_⟩
    refine ⟨_, rfl, hd, hs, 4, rfl, s2 _ _ (s1 _ _ hhd), fh, fun H3 s3 => ⟨true, rfl, iteF ?_⟩⟩
    have s13 : Same H H3 := (s1.trans s2).trans s3
    have hx3 := s13 _ _ hx
    have htk3 := s13 _ _ htk
    have hhd3 := s13 _ _ hhd
    have nxt : tk ≠ x := ne_of htk3 hx3 (by intro z; cases z)
    have nxh : hd ≠ x := ne_of hhd3 hx3 (by intro z; cases z)
    refine ⟨_, rfl, _, rfl, x, C, dx, _, rfl, hx3, GT.cl, GT.n1, (by show 0 < 1000; decide), ?_⟩
    refine ⟨_, rfl, tk, _, rfl, .inr ⟨SqT.of (by rw [upd_ne nxt]; exact htk3), _, rfl, x, C, dx, _, rfl, upd_same, GT.cl, GT.n2, (by show 1 < 1000; decide), ?_⟩⟩
    rw [upd_upd]
    refine ⟨_, rfl, false, rfl, iteF ?_⟩
    refine ⟨_, rfl, hd, _, rfl, .inr ⟨SqT.of (by rw [upd_ne nxh]; exact hhd3), _, rfl, x, C, dx, _, rfl, upd_same, GT.cl, GT.n3, (by simp only [putF, if_neg gn1]; show 2 < 1000; decide), ?_⟩⟩
    rw [upd_upd, gf_eq]
    refine q _ ⟨⟨z, dx, tk, hd, upd_same, by rw [upd_ne nxt]; exact htk3, by rw [upd_ne nxh]; exact hhd3⟩, ft, fh⟩ fun b o e n => ?_
    rw [upd_ne n]
    exact s13 _ _ e
structure DGk (P : Program) (w : World) (K : PySem.W.Frag) (mg : Str → Option Value) (base : Heap) (C : Addr) : Prop where
  ex : ∃ (f : Addr) (fd : FuncData), Mk K C f ∧ FnOk P w K mg base CX0 3 f fd ["self", "name", "takes", "hands"] (spGInit C) ∧ mg "Gang" = some (.ref C) ∧ Binds K fd ["self", "name", "takes", "hands"] []
theorem pe_gang {X : Cx} {C : Addr} {p pos : Pos} {e : Expr} {es : List Expr} {t : TA} (M : DGk X.prog X.w X.K X.mg X.base C) (hr : Room 4 X.A) (ha : PA X (e :: es) t) (hg : Gl X "Gang" := by rfl)
    (he : starEach (e :: es) X.env = (false, eval e X.env) :: starEach es X.env := by rfl) (hpl : (backTo pos (starEach es X.env)).any (·.1) = false := by rfl) :
    PE X (.Call (.Name "Gang" p) (e :: es) [] pos) (tMake C (spGInit C) [] E0 t) := by
  obtain ⟨f, fd, mk, F, hm, b⟩ := M.ex
  exact pe_make mk F hr hg hm b .nil pass0 ha (by decide) he hpl
end
end HP
namespace HP
open PySem L2
section
variable {P : Program} {w : World} {K : PySem.W.Frag} {mg : Str → Option Value} {base : Heap} {tM tL : Tok}
/-! ### _law_names -/
def spNames : Sp := fun vs H Q _ => ∃ (t : Addr) (c : Int) (m : Nat), vs = [.ref t, .int (m : Int)] ∧ TapeAt H t c ∧ c ≤ 90000 ∧ m ≤ 26 ∧
  ∀ (p : Addr) (zs : List Str) (H' : Hp), H p = none → zs.length = m → (∀ z ∈ zs, GoodName z) → H' p = some (.lst (zs.map V.str)) → TapeAt H' t (c + 20) → SameBut t H H' → Q (.ref p) H'
abbrev sLnames : Stmt := top 24
theorem scLnames : FnScope ["_law_tape_here", "_law_a_many", "_law_letters", "_law_shift", "_law_stem", "_law_at", "_law_step", "_law_found", "_law_head", "_law_tail", "_law_k", "_law_way", "_law_sign"] ["_law_tape_here", "_law_a_many"] (defScope sLnames) := ⟨rfl, rfl, rfl, by decide +kernel, rfl, by decide +kernel, by decide +kernel⟩
theorem sep_empty : (Str.ofString "").cps = #[] := by decide +kernel
theorem ok_names {f : Addr} {fd : FuncData} (F : Fun K "_law_names" "_law_names" sLnames f fd) (T : Txt mg tM tL) (DLdraw : DDraw P w K mg base) : FnOk P w K mg base CX0 2 f fd ["_law_tape_here", "_law_a_many"] spNames := by
  refine F.ok scLnames (fun vs H Q E h => ?_) (fun cdv A outer s H vs Q E hr h => ?_)
  · obtain ⟨t, c, m, rfl, _⟩ := h
    rfl
  · obtain ⟨t, c, m, rfl, hT, hc, hm, q⟩ := h
    refine ⟨_, (pss_cons (ps_asg (pe_tup (pa_cons pe_str (pa_cons (pe_fn DLdraw (hr.mono (by decide)) (pa_cons (pv 0) (pa_cons pe_int pa_nil))) pa_nil))) (pg_tup rfl (pgs_cons (pg_name (i := 2) scLnames.nd rfl (Or.inr rfl)) (pgs_cons (pg_name (i := 3) scLnames.nd rfl (Or.inl rfl)) pgs_nil))))
    (pss_cons (ps_set (i := 4) scLnames.nd rfl (Or.inl rfl) (pe_join pe_str (pe_lc (own := [("_law_k", 10)]) (g := gName 10) (tt := tYes) (by rfl) scLnames.nd (pi_range1 (by rfl) T.zrange (pa_cons (pe_fn DLdraw (hr.mono (by decide)) (pa_cons (pv 0) (pa_cons pe_int pa_nil))) pa_nil)) (blkOk_by (own := [("_law_k", 10)]) (N := ["_law_tape_here", "_law_a_many", "_law_letters", "_law_shift", "_law_stem", "_law_at", "_law_step", "_law_found", "_law_head", "_law_tail", "_law_k", "_law_way", "_law_sign"]) (sc := defScope sLnames) (by decide +kernel)) (fun _ _ _ _ _ => (pg_name (i := 10) scLnames.nd rfl (Or.inl rfl))) (fun _ _ _ _ _ => pts_nil) (fun _ _ _ _ _ => (pe_ix ix_str (pv 2) (pe_fn DLdraw (hr.mono (by decide)) (pa_cons (pv 0) (pa_cons pe_int pa_nil))) (fun _ _ => rfl))))))
    (pss_cons (ps_par3 (i := 5) (j := 6) (l := 7) (by rfl) scLnames.nd rfl rfl rfl (by decide) (by decide) (by decide) rfl rfl rfl (pa_cons (pe_fn DLdraw (hr.mono (by decide)) (pa_cons (pv 0) (pa_cons (pe_op op_add (pe_callB call_len_str (by rfl) T.zlen (by decide +kernel) (pa_cons (pv 4) pa_nil)) pe_int) pa_nil))) (pa_cons (pe_ix ix_list (pe_lst (pa_cons pe_int (pa_cons pe_int (pa_cons pe_int pa_nil)))) (pe_fn DLdraw (hr.mono (by decide)) (pa_cons (pv 0) (pa_cons pe_int pa_nil))) (fun _ _ => rfl)) (pa_cons (pe_lst pa_nil) pa_nil))) (by rfl))
    (pss_cons (ps_par (i := 8) (j := 9) (by rfl) scLnames.nd rfl rfl (by decide) rfl rfl (pa_cons (pe_slice sl_str (pv 4) po_none (po_some (pv 5))) (pa_cons (pe_slice sl_str (pv 4) (po_some (pv 5)) po_none) pa_nil)) (by rfl))
    (pss_cons (ps_for PassesOwn.never rfl (pi_range1 (by rfl) T.zrange (pa_cons (pv 1) pa_nil)) (pg_name (i := 10) scLnames.nd rfl (Or.inl rfl))
    (pss_cons (ps_set (i := 11) scLnames.nd rfl (Or.inl rfl) (pe_op op_mul (pe_op op_mod (pe_op op_add (pe_op op_add (pv 3) (pv 5)) (pe_callB call_len_str (by rfl) T.zlen (by decide +kernel) (pa_cons (pv 4) pa_nil))) pe_int) (pe_callTy call_int1 (by rfl) T.zint (by decide +kernel) (pa_cons (pe_cmpR op_ne (pv 9) pe_str (nomark _)) pa_nil))))
    (pss_cons (ps_set (i := 12) scLnames.nd rfl (Or.inl rfl) (pe_ix ix_str (pv 2) (pe_op op_mod (pe_op op_add (pv 3) (pe_op op_mul (pv 6) (pe_ix ix_list (pe_lst (pa_cons (pv 10) (pa_cons (pe_op op_fdivW (pv 10) pe_int) (pa_cons (pv 10) pa_nil)))) (pv 11) (fun _ _ => rfl)))) pe_int) (fun _ _ => rfl)))
    (pss_one (ps_expr (pe_bm PySem.F.plainAttrs_list PySem.F.slot_list_append PySem.F.type_list_append mt_append (pv 7) (pa_cons (pe_op op_add_str (pe_op op_add_str (pv 8) (pv 12)) (pe_ix ix_list (pe_lst (pa_cons (pv 9) (pa_cons (pe_op op_mul_str (pv 9) (pe_op op_mod (pv 10) pe_int)) (pa_cons (pe_slice sl_str (pv 9) po_none (po_some (pe_op op_mod (pv 10) (pe_op op_add (pe_callB call_len_str (by rfl) T.zlen (by decide +kernel) (pa_cons (pv 9) pa_nil)) pe_int)))) pa_nil)))) (pv 11) (fun _ _ => rfl))) pa_nil)))))))
    (pss_one (ps_ret (pv 7)))))))), ?_⟩
    -- _law_letters, _law_shift
    refine ⟨_, rfl, t, c, 26, rfl, hT, by omega, by decide, by decide, fun sh H1 a0 a1 T1 S1 => ?_⟩
    refine ⟨(by show 2 ≤ sizeLine; decide), fun tp htp => ⟨tp, _, rfl, SqT.of upd_same, rfl, _, _, rfl, _, _, rfl, rfl, ?_⟩⟩
    have T1' := T1.new (o := .tup [.str lettersS, .int sh]) htp
    have SB1 : SameBut t H (upd H1 tp (.tup [.str lettersS, .int sh])) := S1.new htp
    -- _law_stem
    refine ⟨⟨_, rfl⟩, ?_⟩
    refine ⟨_, rfl, t, _, 8, rfl, T1', by omega, by decide, by decide, fun n0 H2 b0 b1 T2 S2 => ?_⟩
    have SB2 := SB1.trans S2
    refine ⟨n0, rfl, by omega, by omega, fun D hD => ?_⟩
    have nDt : D ≠ t := T2.ne hD
    refine lc_range (lo := 0) (n := n0.toNat) (fun i H' => ∃ zs : List Str, H' D = some (.lst (zs.map V.str)) ∧ zs.length = i ∧ (∀ z ∈ zs, Lets z ∧ z.length = 1) ∧ TapeAt H' t (c + 2 + (i : Int)) ∧ SameBut t H H')
      ⟨[], upd_same, rfl, (fun z hz => by cases hz), (T2.new hD).mono (by omega), SB2.new hD⟩ ?_ ?_
    · rintro i H' hi ⟨zs, hzs, lzs, hZ, Ti, SBi⟩
      refine ⟨rfl, ?_⟩
      refine ⟨_, rfl, _, rfl, t, _, 26, rfl, Ti, by omega, by decide, by decide, fun r H3 c0 c1 T3 S3 => ?_⟩
      obtain ⟨cc, hcc, hb⟩ := letter_at c0 c1
      have hzs3 := S3 _ _ hzs nDt
      refine ⟨lettersS, r, cc, rfl, rfl, letters_size, hcc, _, hzs3, ?_, zs ++ [⟨#[cc]⟩], ?_, ?_, ?_, ?_, ?_⟩
      · rw [List.length_map, lzs]
        exact Nat.lt_of_lt_of_le (show i < 8 by omega) (by decide)
      · rw [upd_same, List.map_append]
        rfl
      · rw [List.length_append, lzs]
        rfl
      · intro z hz
        rcases List.mem_append.mp hz with h | h
        · exact hZ z h
        · rw [List.mem_singleton] at h
          rw [h]
          exact ⟨Lets.one hb, rfl⟩
      · obtain ⟨a', b', k', g1, g2⟩ := T3
        refine ⟨a', b', k', ?_, g2.1, g2.2.1, g2.2.2.1, g2.2.2.2.1, by have := g2.2.2.2.2; omega⟩
        rw [upd_ne nDt.symm]
        exact g1
      · intro b o e n
        have nbD : b ≠ D := by
          intro e'
          have h2 := SB2 _ _ e n
          rw [e', hD] at h2
          cases h2
        rw [upd_ne nbD]
        exact S3 _ _ (SBi _ _ e n) n
    rintro H' ⟨zs, hzs, lzs, hZ, Ti, SBi⟩
    have hone : ∀ z ∈ zs, z.length = 1 := fun z hz => (hZ z hz).2
    obtain ⟨jl, jn⟩ := join_lets sep_empty zs hZ
    refine ⟨_, D, zs, rfl, rfl, .inl (SqL.of hzs), ?_, ?_⟩
    · rw [sum_ones zs hone, show (Str.ofString "").length = 0 from by decide +kernel, Nat.mul_zero]
      omega
    generalize Txt.join (Str.ofString "") zs = stem at jl jn
    have sl : stem.length ≤ 7 := by omega
    have ssz : stem.length ≤ sizeLine := Nat.le_trans sl (by decide)
    -- _law_at, _law_step, _law_found
    refine ⟨_, rfl, _, rfl, stem, rfl, ssz, _, 1, rfl, rfl, t, _, _, rfl, Ti, by omega, by omega, by omega, fun at_ H3 d0 d1 T3 S3 => ?_⟩
    refine ⟨(by show 3 ≤ sizeLine; decide), fun l3 hl3 => ?_⟩
    refine ⟨_, rfl, t, _, 3, rfl, T3.new hl3, by omega, by decide, by decide, fun r3 H4 e0 e1 T4 S4 => ?_⟩
    obtain ⟨step, hstep, estep⟩ := at3 (x := 1) (y := 7) (z := 25) e0 e1
    refine ⟨l3, _, _, _, rfl, rfl, SqL.of (S4 _ _ upd_same (T3.ne hl3)), hstep, (by show 0 ≤ sizeLine; decide), fun fo hfo => ⟨_, _, _, rfl, ?_⟩⟩
    have nft : fo ≠ t := T4.ne hfo
    have SB4 : SameBut t H H4 := ((SBi.trans S3).trans (Same.but (same_new hl3))).trans S4
    have hfo0 : H fo = none := SB4.free T4 hfo
    have T5 := (T4.new (o := .lst []) hfo)
    -- _law_head, _law_tail
    refine ⟨_, rfl, _, rfl, at_, rfl, stem, rfl, ssz, _, rfl, _, rfl, at_, rfl, stem, rfl, ssz, _, _, rfl, ?_⟩
    obtain ⟨hn1, hn2⟩ := cut_parts stem at_.toNat (by omega)
    rw [show ((at_.toNat : Nat) : Int) = at_ by omega] at hn1 hn2
    have hL1 := jl.cut none (some at_)
    have hL2 := jl.cut (some at_) none
    generalize cutS stem none (some at_) = hd at hn1 hL1
    generalize cutS stem (some at_) none = tl at hn2 hL2
    have tsz : tl.length ≤ sizeLine := Nat.le_trans (show tl.length ≤ 7 by omega) (by decide)
    -- the names
    refine ⟨_, rfl, (m : Int), rfl, by omega, by omega, ?_⟩
    refine for_range (lo := 0) (n := ((m : Int)).toNat) (fun i σ H' => ∃ (ns : List Str) (v10 v11 v12 : Option V), σ = [some (.ref t), some (.int (m : Int)), some (.str lettersS), some (.int sh), some (.str stem), some (.int at_), some (.int step), some (.ref fo), some (.str hd), some (.str tl), v10, v11, v12] ∧
        H' fo = some (.lst (ns.map V.str)) ∧ ns.length = i ∧ (∀ z ∈ ns, GoodName z) ∧ (∀ b o, H4 b = some o → H' b = some o))
      ⟨[], _, _, _, rfl, upd_same, rfl, (fun z hz => by cases hz), same_new hfo⟩ ?_ ?_
    · rintro i σ H' hi ⟨ns, v10, v11, v12, rfl, hns, lns, hN, s5⟩
      have hi26 : i < 26 := by omega
      have w0 : 0 ≤ (sh + at_ + (stem.length : Int)) % 3 := Int.emod_nonneg _ (by decide)
      have w1 : (sh + at_ + (stem.length : Int)) % 3 < 3 := Int.emod_lt_of_pos _ (by decide)
      refine ⟨_, rfl, _, rfl, sh, at_, rfl, rfl, _, rfl, stem, rfl, ssz, _, _, rfl, rfl, _, 3, rfl, rfl, (show (0 : Int) < 3 by decide), _, rfl, rfl, .inr ⟨_, rfl, _, _, rfl, rfl, cm01 _ _, ?_⟩⟩
      have hw : ∃ way : Int, 0 ≤ way ∧ way < 3 ∧ (sh + at_ + (stem.length : Int)) % 3 * (if (!decide (V.str tl = V.str (Str.ofString ""))) = true then (1 : Int) else 0) = way := by
        cases (!decide (V.str tl = V.str (Str.ofString ""))) with
        | true => exact ⟨_, w0, w1, by rw [if_pos rfl, Int.mul_one]⟩
        | false => exact ⟨0, by decide, by decide, by rw [if_neg (by decide), Int.mul_zero]⟩
      obtain ⟨way, ww0, ww1, hway⟩ := hw
      dsimp only
      rw [hway]
      -- the sign
      refine ⟨_, rfl, _, rfl, _, rfl, _, rfl, _, rfl, _, 2, rfl, rfl, wd (by decide) (by decide), _, rfl, (by show 3 ≤ sizeLine; decide), fun l5 hl5 => ?_⟩
      obtain ⟨kk, hkk, ekk⟩ := at3 (x := 0 + (i : Int)) (y := (0 + (i : Int)) / 2) (z := 0 + (i : Int)) ww0 ww1
      refine ⟨_, rfl, l5, _, _, _, rfl, rfl, SqL.of upd_same, hkk, step, kk, rfl, rfl, .inl ⟨by omega, by omega⟩, sh, _, rfl, rfl, _, 26, rfl, rfl, (show (0 : Int) < 26 by decide), ?_⟩
      obtain ⟨sg, hsg, hsb⟩ := letter_at (i := (sh + step * kk) % 26) (Int.emod_nonneg _ (by decide)) (Int.emod_lt_of_pos _ (by decide))
      refine ⟨lettersS, _, sg, rfl, rfl, letters_size, hsg, ?_⟩
      -- the name
      have hns5 : ∀ o, (upd H' l5 o) fo = some (.lst (ns.map V.str)) := fun o => by rw [upd_ne (ne_of_none hns hl5)]; exact hns
      have m0 : 0 ≤ (0 + (i : Int)) % 2 := Int.emod_nonneg _ (by decide)
      have m1 : (0 + (i : Int)) % 2 < 2 := Int.emod_lt_of_pos _ (by decide)
      obtain ⟨mok, mval⟩ := mul01 (z := tl) m0 (by omega : (0 + (i : Int)) % 2 ≤ 1)
      refine ⟨_, rfl, .inl ⟨rfl, _, SqL.of (hns5 _)⟩, _, rfl, _, rfl, hd, ⟨#[sg]⟩, rfl, rfl, ?_, ?_⟩
      · exact Nat.le_trans (show hd.length + 1 ≤ 9 by omega) (by decide)
      refine ⟨_, rfl, _, rfl, _, rfl, _, 2, rfl, rfl, (show (0 : Int) < 2 by decide), tl, _, rfl, rfl, mok, ?_⟩
      have tpos : (0 : Int) < (tl.length : Int) + 1 := by omega
      refine ⟨_, rfl, _, rfl, _, rfl, tl, rfl, tsz, _, 1, rfl, rfl, _, _, rfl, rfl, tpos, _, rfl, tl, rfl, tsz, (by show 3 ≤ sizeLine; decide), fun l6 hl6 => ?_⟩
      have hxt : ∃ y : Str, atI [V.str tl, V.str (Txt.mul tl ((0 + (i : Int)) % 2)), V.str (cutS tl none (some ((0 + (i : Int)) % ((tl.length : Int) + 1))))] way = some (V.str y) ∧ Lets y ∧ y.length ≤ tl.length := by
        have : way = 0 ∨ way = 1 ∨ way = 2 := by omega
        rcases this with rfl | rfl | rfl
        · exact ⟨tl, rfl, hL2, Nat.le_refl _⟩
        · refine ⟨_, rfl, ?_, ?_⟩
          · rcases mval with h | h <;> rw [h]
            · exact hL2
            · exact Lets.empty
          · rcases mval with h | h <;> rw [h]
            · exact Nat.le_refl _
            · exact Nat.zero_le _
        · exact ⟨_, rfl, hL2.cut _ _, cut_size _ _ _⟩
      obtain ⟨y, hy, hyL, hyn⟩ := hxt
      refine ⟨_, rfl, l6, _, _, _, rfl, rfl, SqL.of upd_same, hy, _, y, rfl, rfl, ?_, ?_⟩
      · rw [Str.length_append]
        exact Nat.le_trans (show hd.length + 1 + y.length ≤ 9 by omega) (by decide)
      have hns6 : ∀ o, (upd (upd H' l5 (.lst [.int (0 + (i : Int)), .int ((0 + (i : Int)) / 2), .int (0 + (i : Int))])) l6 o) fo = some (.lst (ns.map V.str)) := fun o => by rw [upd_ne (ne_of_none (hns5 _) hl6)]; exact hns5 _
      refine ⟨fo, _, _, rfl, rfl, hns6 _, ?_, ?_⟩
      · rw [List.length_map, lns]
        exact Nat.lt_of_lt_of_le (show i < 26 by omega) (by decide)
      refine ⟨ns ++ [hd ++ ⟨#[sg]⟩ ++ y], _, _, _, rfl, ?_, ?_, ?_, ?_⟩
      · rw [upd_same, List.map_append]
        rfl
      · rw [List.length_append, lns]
        rfl
      · intro z hz
        rcases List.mem_append.mp hz with h | h
        · exact hN z h
        · rw [List.mem_singleton] at h
          rw [h]
          have hlen : (hd ++ ⟨#[sg]⟩ ++ y).length = hd.length + 1 + y.length := by
            rw [Str.length_append, Str.length_append]
            rfl
          exact ⟨by rw [hlen]; omega, by rw [hlen]; omega, (hL1.append (Lets.one hsb)).append hyL⟩
      · intro b o e
        have nbf : b ≠ fo := ne_of_none e hfo
        have z1 := s5 _ _ e
        have z2 : (upd H' l5 (.lst [.int (0 + (i : Int)), .int ((0 + (i : Int)) / 2), .int (0 + (i : Int))])) b = some o := by rw [upd_ne (ne_of_none z1 hl5)]; exact z1
        rw [upd_ne nbf, upd_ne (ne_of_none z2 hl6)]
        exact z2
    · rintro σ H' ⟨ns, v10, v11, v12, rfl, hns, lns, hN, s5⟩
      refine ⟨_, rfl, ?_⟩
      exact q fo ns H' hfo0 (by omega) hN hns ((T4.same s5).mono (by omega)) (SB4.trans (Same.but s5))
end
end HP
namespace HP
open PySem L2
section
variable {P : Program} {w : World} {K : PySem.W.Frag} {mg : Str → Option Value} {base : Heap} {tM tL : Tok}
/-! ### _law_takes, _law_hands -/
def spTakes : Sp := fun vs H Q _ => ∃ (t : Addr) (c most : Int), vs = [.ref t, .int most] ∧ TapeAt H t c ∧ c ≤ 90000 ∧ 1 ≤ most ∧ most ≤ 1000000 ∧
  ∀ (p : Addr) (ns : List Int) (H' : Hp), Four ns most → H' p = some (.tup (ns.map V.int)) → TapeAt H' t (c + 10) → SameBut t H H' → Q (.ref p) H'
abbrev sLtakes : Stmt := top 25
theorem scLtakes : FnScope ["_law_tape_here", "_law_most", "_law_way", "_law_base", "_law_kind"] ["_law_tape_here", "_law_most"] (defScope sLtakes) := ⟨rfl, rfl, rfl, by decide +kernel, rfl, by decide +kernel, by decide +kernel⟩
theorem ok_takes {f : Addr} {fd : FuncData} (F : Fun K "_law_takes" "_law_takes" sLtakes f fd) (T : Txt mg tM tL) (DLdraw : DDraw P w K mg base) : FnOk P w K mg base CX0 2 f fd ["_law_tape_here", "_law_most"] spTakes := by
  refine F.ok scLtakes (fun vs H Q E h => ?_) (fun cdv A outer s H vs Q E hr h => ?_)
  · obtain ⟨t, c, most, rfl, _⟩ := h
    rfl
  · obtain ⟨t, c, most, rfl, hT, hc, h1, h2, q⟩ := h
    refine ⟨_, (pss_cons (ps_asg (pe_tup (pa_cons (pe_fn DLdraw (hr.mono (by decide)) (pa_cons (pv 0) (pa_cons pe_int pa_nil))) (pa_cons (pe_op op_add pe_int (pe_fn DLdraw (hr.mono (by decide)) (pa_cons (pv 0) (pa_cons (pe_callB (call_min2 rfl) (by rfl) T.zmin (by decide +kernel) (pa_cons (pv 1) (pa_cons pe_int pa_nil))) pa_nil)))) pa_nil))) (pg_tup rfl (pgs_cons (pg_name (i := 2) scLtakes.nd rfl (Or.inr rfl)) (pgs_cons (pg_name (i := 3) scLtakes.nd rfl (Or.inr rfl)) pgs_nil))))
    (pss_cons (ps_if (pt_cmp (pc_eqI (pv 2) pe_int)) (pss_one (ps_ret (pe_callTy call_tuple_of (by rfl) T.ztuple (by decide +kernel) (pa_cons (pe_lc (own := [("_law_kind", 4)]) (g := gName 4) (tt := tYes) (by rfl) scLtakes.nd (pi_range1 (by rfl) T.zrange (pa_cons pe_int pa_nil)) (blkOk_by (own := [("_law_kind", 4)]) (N := ["_law_tape_here", "_law_most", "_law_way", "_law_base", "_law_kind"]) (sc := defScope sLtakes) (by decide +kernel)) (fun _ _ _ _ _ => (pg_name (i := 4) scLtakes.nd rfl (Or.inl rfl))) (fun _ _ _ _ _ => pts_nil) (fun _ _ _ _ _ => (pv 3))) pa_nil)))) pss_nil)
    (pss_one (ps_ret (pe_callTy call_tuple_of (by rfl) T.ztuple (by decide +kernel) (pa_cons (pe_lc (own := [("_law_kind", 4)]) (g := gName 4) (tt := tYes) (te := tOp (rI0 fun i j => .int (i + j)) (tC (.int 1)) (tCall spDraw [] E0 (tCons (tVar 0) (tCons (tOp (rIxL K) (tLst (tCons (tCB (fun xs H Q => ∃ i j, xs = [.int i, .int j] ∧ Q (.int (if j < i then j else i)) H) (tCons (tVar 1) (tCons (tC (.int 4)) tNil))) (tCons (tCB (fun xs H Q => ∃ i j, xs = [.int i, .int j] ∧ Q (.int (if j < i then j else i)) H) (tCons (tVar 1) (tCons (tC (.int 12)) tNil))) (tCons (tVar 1) tNil)))) (tOp (rI0 fun i j => .int (i - j)) (tVar 2) (tC (.int 1)))) tNil)))) (by rfl) scLtakes.nd (pi_range1 (by rfl) T.zrange (pa_cons pe_int pa_nil)) (blkOk_by (own := [("_law_kind", 4)]) (N := ["_law_tape_here", "_law_most", "_law_way", "_law_base", "_law_kind"]) (sc := defScope sLtakes) (by decide +kernel)) (fun _ _ _ _ _ => (pg_name (i := 4) scLtakes.nd rfl (Or.inl rfl))) (fun _ _ _ _ _ => pts_nil) (fun _ _ _ _ _ => (pe_op op_add pe_int (pe_fn DLdraw (hr.mono (by decide)) (pa_cons (pv 0) (pa_cons (pe_ix ix_list (pe_lst (pa_cons (pe_callB (call_min2 rfl) (by rfl) T.zmin (by decide +kernel) (pa_cons (pv 1) (pa_cons pe_int pa_nil))) (pa_cons (pe_callB (call_min2 rfl) (by rfl) T.zmin (by decide +kernel) (pa_cons (pv 1) (pa_cons pe_int pa_nil))) (pa_cons (pv 1) pa_nil)))) (pe_op op_sub (pv 2) pe_int) (fun _ _ => rfl)) pa_nil)))))) pa_nil)))))), ?_⟩
    refine ⟨_, rfl, t, c, 4, rfl, hT, by omega, by decide, by decide, fun way H1 a0 a1 T1 S1 => ?_⟩
    have mn : ∀ x : Int, 1 ≤ x → 1 ≤ (if x < most then x else most) ∧ (if x < most then x else most) ≤ most := fun x hx => by split <;> omega
    refine ⟨_, rfl, _, rfl, most, 6, rfl, t, _, _, rfl, T1, by omega, by have := mn 6 (by decide); omega, by have := mn 6 (by decide); omega, fun bs H2 b0 b1 T2 S2 => ?_⟩
    have mn6 := mn 6 (by decide)
    refine ⟨1, bs, rfl, rfl, (by show 2 ≤ sizeLine; decide), fun tp htp => ⟨tp, _, rfl, SqT.of upd_same, rfl, _, _, rfl, _, _, rfl, rfl, ?_⟩⟩
    have SB : SameBut t H (upd H2 tp (.tup [.int way, .int (1 + bs)])) := (S1.trans S2).new htp
    have T3 : TapeAt (upd H2 tp (.tup [.int way, .int (1 + bs)])) t (c + 2) := (T2.new htp).mono (by omega)
    generalize upd H2 tp (.tup [.int way, .int (1 + bs)]) = H3 at SB T3
    refine ⟨_, rfl, way, 0, rfl, rfl, _, rfl, iteD (fun d1 => ?_) (fun d1 => ?_)⟩
    · -- all alike
      refine ⟨4, rfl, by decide, by decide, fun D hD => ?_⟩
      refine lc_range (lo := 0) (n := (4 : Int).toNat) (fun i H' => H' D = some (.lst ((List.replicate i (1 + bs)).map V.int)) ∧ Same H3 H') ⟨upd_same, same_new hD⟩ ?_ ?_
      · rintro i H' hi ⟨hd, s1⟩
        have hi4 : i < 4 := hi
        refine ⟨rfl, ?_⟩
        refine ⟨_, rfl, _, hd, ?_, ?_, ?_⟩
        · rw [List.length_map, List.length_replicate]
          exact Nat.lt_of_lt_of_le hi4 (by decide)
        · rw [upd_same, ← rep_snoc, List.map_append]
          rfl
        · intro b o e
          rw [upd_ne (ne_of_none e hD)]
          exact s1 _ _ e
      · rintro H' ⟨hd, s1⟩
        refine ⟨D, _, rfl, .inl ⟨SqL.of hd, fun p hp => ?_⟩⟩
        refine q p (List.replicate 4 (1 + bs)) _ ⟨List.length_replicate, fun n hn => ?_⟩ upd_same (((T3.same s1).new hp).mono (by omega)) ((SB.trans (Same.but s1)).new hp)
        rw [(List.mem_replicate.mp hn).2]
        omega
    · refine ⟨4, rfl, by decide, by decide, fun D hD => ?_⟩
      have nDt : D ≠ t := T3.ne hD
      have d1' : ¬ way = 0 := d1
      refine lc_range (lo := 0) (n := (4 : Int).toNat) (fun i H' => ∃ ns : List Int, H' D = some (.lst (ns.map V.int)) ∧ ns.length = i ∧ (∀ n ∈ ns, 1 ≤ n ∧ n ≤ most) ∧ TapeAt H' t (c + 2 + (i : Int)) ∧ SameBut t H3 H')
        ⟨[], upd_same, rfl, (fun z hz => by cases hz), (T3.new hD).mono (by omega), Same.but (same_new hD)⟩ ?_ ?_
      · rintro i H' hi ⟨ns, hns, lns, hN, Ti, SBi⟩
        have hi4 : i < 4 := hi
        refine ⟨rfl, ?_⟩
        refine ⟨_, rfl, _, rfl, most, 4, rfl, _, rfl, most, 12, rfl, _, rfl, (by show 3 ≤ sizeLine; decide), fun l3 hl3 => ?_⟩
        obtain ⟨mm, hmm, emm⟩ := at3 (x := if 4 < most then 4 else most) (y := if 12 < most then 12 else most) (z := most) (r := way - 1) (by omega) (by omega)
        have mmb : 1 ≤ mm ∧ mm ≤ most := by
          rcases emm with h | h | h
          · rw [h]; exact mn 4 (by decide)
          · rw [h]; exact mn 12 (by decide)
          · rw [h]; exact ⟨h1, Int.le_refl _⟩
        refine ⟨_, rfl, way, 1, rfl, rfl, l3, _, _, _, rfl, rfl, SqL.of upd_same, hmm, t, _, mm, rfl, Ti.new hl3, by omega, by omega, by omega, fun r H5 e0 e1 T5 S5 => ?_⟩
        have hns5 : H5 D = some (.lst (ns.map V.int)) := S5 _ _ (by rw [upd_ne (ne_of_none hns hl3)]; exact hns) nDt
        refine ⟨1, r, rfl, rfl, _, hns5, ?_, ns ++ [1 + r], ?_, ?_, ?_, ?_, ?_⟩
        · rw [List.length_map, lns]
          exact Nat.lt_of_lt_of_le hi4 (by decide)
        · rw [upd_same, List.map_append]
          rfl
        · rw [List.length_append, lns]
          rfl
        · intro n hn
          rcases List.mem_append.mp hn with h | h
          · exact hN n h
          · rw [List.mem_singleton] at h
            omega
        · obtain ⟨a', b', k', g1, g2⟩ := T5
          refine ⟨a', b', k', ?_, g2.1, g2.2.1, g2.2.2.1, g2.2.2.2.1, by have := g2.2.2.2.2; omega⟩
          rw [upd_ne nDt.symm]
          exact g1
        · intro b o e n
          rw [upd_ne (ne_of_none e hD)]
          exact S5 _ _ ((same_new hl3) _ _ (SBi _ _ e n)) n
      · rintro H' ⟨ns, hns, lns, hN, Ti, SBi⟩
        have lns' : ns.length = 4 := lns
        refine ⟨D, _, rfl, .inl ⟨SqL.of hns, fun p hp => ?_⟩⟩
        have e4 : (((4 : Int).toNat : Nat) : Int) = 4 := by decide
        rw [e4] at Ti
        exact q p ns _ ⟨lns', hN⟩ upd_same ((Ti.new hp).mono (by omega)) ((SB.trans SBi).new hp)
def spHands : Sp := fun vs H Q _ => ∃ (t : Addr) (c : Int), vs = [.ref t] ∧ TapeAt H t c ∧ c ≤ 90000 ∧
  ∀ (p : Addr) (ns : List Int) (H' : Hp), Four ns 4 → H' p = some (.tup (ns.map V.int)) → TapeAt H' t (c + 10) → SameBut t H H' → Q (.ref p) H'
abbrev sLhands : Stmt := top 26
theorem scLhands : FnScope ["_law_tape_here", "_law_kind"] ["_law_tape_here"] (defScope sLhands) := ⟨rfl, rfl, rfl, by decide +kernel, rfl, by decide +kernel, by decide +kernel⟩
theorem ok_hands {f : Addr} {fd : FuncData} (F : Fun K "_law_hands" "_law_hands" sLhands f fd) (T : Txt mg tM tL) (DLdraw : DDraw P w K mg base) : FnOk P w K mg base CX0 2 f fd ["_law_tape_here"] spHands := by
  refine F.ok scLhands (fun vs H Q E h => ?_) (fun cdv A outer s H vs Q E hr h => ?_)
  · obtain ⟨t, c, rfl, _⟩ := h
    rfl
  · obtain ⟨t, c, rfl, hT, hc, q⟩ := h
    refine ⟨_, (pss_cons (ps_if (pt_cmp (pc_eqI (pe_fn DLdraw (hr.mono (by decide)) (pa_cons (pv 0) (pa_cons pe_int pa_nil))) pe_int)) (pss_one (ps_ret (pe_tup (pa_cons pe_int (pa_cons pe_int (pa_cons pe_int (pa_cons pe_int pa_nil))))))) pss_nil)
    (pss_one (ps_ret (pe_callTy call_tuple_of (by rfl) T.ztuple (by decide +kernel) (pa_cons (pe_lc (own := [("_law_kind", 1)]) (g := gName 1) (tt := tYes) (by rfl) scLhands.nd (pi_range1 (by rfl) T.zrange (pa_cons pe_int pa_nil)) (blkOk_by (own := [("_law_kind", 1)]) (N := ["_law_tape_here", "_law_kind"]) (sc := defScope sLhands) (by decide +kernel)) (fun _ _ _ _ _ => (pg_name (i := 1) scLhands.nd rfl (Or.inl rfl))) (fun _ _ _ _ _ => pts_nil) (fun _ _ _ _ _ => (pe_op op_add pe_int (pe_fn DLdraw (hr.mono (by decide)) (pa_cons (pv 0) (pa_cons pe_int pa_nil)))))) pa_nil))))), ?_⟩
    refine ⟨_, rfl, t, c, 3, rfl, hT, by omega, by decide, by decide, fun way H1 a0 a1 T1 S1 => ?_⟩
    refine ⟨way, 0, rfl, rfl, _, rfl, iteD (fun d1 => ?_) (fun d1 => ?_)⟩
    · refine ⟨(by show 4 ≤ sizeLine; decide), fun p hp => ?_⟩
      refine q p [1, 1, 1, 1] _ ⟨rfl, fun n hn => ?_⟩ upd_same ((T1.new hp).mono (by omega)) (S1.new hp)
      simp only [List.mem_cons, List.not_mem_nil, or_false, or_self] at hn
      omega
    · refine ⟨4, rfl, by decide, by decide, fun D hD => ?_⟩
      have nDt : D ≠ t := T1.ne hD
      refine lc_range (lo := 0) (n := (4 : Int).toNat) (fun i H' => ∃ ns : List Int, H' D = some (.lst (ns.map V.int)) ∧ ns.length = i ∧ (∀ n ∈ ns, 1 ≤ n ∧ n ≤ 4) ∧ TapeAt H' t (c + 1 + (i : Int)) ∧ SameBut t H1 H')
        ⟨[], upd_same, rfl, (fun z hz => by cases hz), (T1.new hD).mono (by omega), Same.but (same_new hD)⟩ ?_ ?_
      · rintro i H' hi ⟨ns, hns, lns, hN, Ti, SBi⟩
        have hi4 : i < 4 := hi
        refine ⟨rfl, ?_⟩
        refine ⟨_, rfl, t, _, 4, rfl, Ti, by omega, by decide, by decide, fun r H5 e0 e1 T5 S5 => ?_⟩
        have hns5 : H5 D = some (.lst (ns.map V.int)) := S5 _ _ hns nDt
        refine ⟨1, r, rfl, rfl, _, hns5, ?_, ns ++ [1 + r], ?_, ?_, ?_, ?_, ?_⟩
        · rw [List.length_map, lns]
          exact Nat.lt_of_lt_of_le hi4 (by decide)
        · rw [upd_same, List.map_append]
          rfl
        · rw [List.length_append, lns]
          rfl
        · intro n hn
          rcases List.mem_append.mp hn with h | h
          · exact hN n h
          · rw [List.mem_singleton] at h
            omega
        · obtain ⟨a', b', k', g1, g2⟩ := T5
          refine ⟨a', b', k', ?_, g2.1, g2.2.1, g2.2.2.1, g2.2.2.2.1, by have := g2.2.2.2.2; omega⟩
          rw [upd_ne nDt.symm]
          exact g1
        · intro b o e n
          rw [upd_ne (ne_of_none e hD)]
          exact S5 _ _ (SBi _ _ e n) n
      · rintro H' ⟨ns, hns, lns, hN, Ti, SBi⟩
        have lns' : ns.length = 4 := lns
        refine ⟨D, _, rfl, .inl ⟨SqL.of hns, fun p hp => ?_⟩⟩
        have e4 : (((4 : Int).toNat : Nat) : Int) = 4 := by decide
        rw [e4] at Ti
        exact q p ns _ ⟨lns', hN⟩ upd_same ((Ti.new hp).mono (by omega)) ((S1.trans SBi).new hp)
/-! ### Gang.pace -/
def PaceOf (ts hs : List Int) (tp bt : Int) : Prop := (tp, bt) ∈ ts.zip hs ∧ ∀ q ∈ ts.zip hs, q.1 * bt ≤ tp * q.2
def spPace (C : Addr) : Sp := fun vs H Q _ => ∃ (p : Addr) (ts hs : List Int), vs = [.ref p] ∧ GangAt C H p ts hs ∧
  ∀ (r : Addr) (tp bt : Int) (H' : Hp), PaceOf ts hs tp bt → H' r = some (.tup [.int (tp / (Int.gcd tp bt : Nat)), .int (bt / (Int.gcd tp bt : Nat))]) → Same H H' → Q (.ref r) H'
abbrev sGang_pace : Stmt := inClass (top 19) 8
theorem scGang_pace : FnScope ["self", "top", "bottom", "take", "many", "shared"] ["self"] (defScope sGang_pace) := ⟨rfl, rfl, rfl, by decide +kernel, rfl, by decide +kernel, by decide +kernel⟩
theorem zip_at {ts hs : List Int} {i : Nat} {x y : Int} (h1 : ts[i]? = some x) (h2 : hs[i]? = some y) : (ts.zip hs)[i]? = some (x, y) := by
  rw [List.getElem?_zip_eq_some]
  exact ⟨h1, h2⟩
theorem cross {t h T B T' B' : Int} (hB : 0 < B) (hh : 0 ≤ h) (h1 : t * B ≤ T * h) (h2 : T * B' ≤ T' * B) (hB' : 0 < B') (hh' : 0 < h) : t * B' ≤ T' * h := by
  have e1 : t * B * B' ≤ T * h * B' := Int.mul_le_mul_of_nonneg_right h1 (by omega)
  have e2 : T * B' * h ≤ T' * B * h := Int.mul_le_mul_of_nonneg_right h2 hh
  have e3 : T * h * B' = T * B' * h := by rw [Int.mul_assoc, Int.mul_comm h B', ← Int.mul_assoc]
  have e4 : t * B * B' = t * B' * B := by rw [Int.mul_assoc, Int.mul_comm B B', ← Int.mul_assoc]
  have e5 : T' * B * h = T' * h * B := by rw [Int.mul_assoc, Int.mul_comm B h, ← Int.mul_assoc]
  exact Int.le_of_mul_le_mul_right (by omega) hB
theorem ok_pace {f C : Addr} {fd : FuncData} (F : Fun K "pace" "Gang.pace" sGang_pace f fd) (T : Txt mg tM tL) (GT : GangTxt K C) (Dcommon_divisor : Df P w K mg base "common_divisor" 1 ["one", "other"] spGcd) : FnOk P w K mg base CX0 2 f fd ["self"] (spPace C) := by
  refine F.ok scGang_pace (fun vs H Q E h => ?_) (fun cdv A outer s H vs Q E hr h => ?_)
  · obtain ⟨p, ts, hs, rfl, _⟩ := h
    rfl
  · obtain ⟨p, ts, hs, rfl, M, q⟩ := h
    obtain ⟨⟨z, dx, tk, hd, hp, htk, hhd⟩, ⟨t4, tB⟩, ⟨h4, hB⟩⟩ := M
    refine ⟨_, (pss_cons (ps_par (i := 1) (j := 2) (by rfl) scGang_pace.nd rfl rfl (by decide) rfl rfl (pa_cons (pe_ix ix_tup (pe_fld (pv 0) rfl) pe_int (fun _ _ => rfl)) (pa_cons (pe_ix ix_tup (pe_fld (pv 0) rfl) pe_int (fun _ _ => rfl)) pa_nil)) (by rfl))
    (pss_cons (ps_for PassesOwn.never rfl (RZ.pi_zipA (by rfl) T.zzip (pa_cons (pe_fld (pv 0) rfl) (pa_cons (pe_fld (pv 0) rfl) pa_nil))) (pg_tup rfl (pgs_cons (pg_name (i := 3) scGang_pace.nd rfl (Or.inl rfl)) (pgs_cons (pg_name (i := 4) scGang_pace.nd rfl (Or.inl rfl)) pgs_nil)))
    (pss_one (ps_if (pt_cmp (pc_gt (pe_op op_mul (pv 3) (pv 2)) (pe_op op_mul (pv 1) (pv 4)))) (pss_one (ps_par (i := 1) (j := 2) (by rfl) scGang_pace.nd rfl rfl (by decide) rfl rfl (pa_cons (pv 3) (pa_cons (pv 4) pa_nil)) (by rfl))) pss_nil)))
    (pss_cons (ps_set (i := 5) scGang_pace.nd rfl (Or.inl rfl) (pe_fn Dcommon_divisor (hr.mono (by decide)) (pa_cons (pv 1) (pa_cons (pv 2) pa_nil))))
    (pss_one (ps_ret (pe_tup (pa_cons (pe_op op_fdivW (pv 1) (pv 5)) (pa_cons (pe_op op_fdivW (pv 2) (pv 5)) pa_nil)))))))), ?_⟩
    obtain ⟨t0, ht0⟩ : ∃ x, ts[0]? = some x := ⟨_, List.getElem?_eq_getElem (by omega)⟩
    obtain ⟨h0, hh0⟩ : ∃ x, hs[0]? = some x := ⟨_, List.getElem?_eq_getElem (by omega)⟩
    have at0 : ∀ {l : List Int} {x : Int}, l[0]? = some x → atI (l.map V.int) 0 = some (.int x) := fun {l x} h => at_of (j := 0) rfl (by rw [List.getElem?_map, h]; rfl)
    refine ⟨_, rfl, p, C, dx, _, _, rfl, hp, GT.cl, GT.n2, gf_takes _ _ _, tk, _, 0, _, rfl, rfl, SqT.of htk, at0 ht0, _, rfl, p, C, dx, _, _, rfl, hp, GT.cl, GT.n3, gf_hands _ _ _, hd, _, 0, _, rfl, rfl, SqT.of hhd, at0 hh0, _, _, rfl, ?_⟩
    refine ⟨_, rfl, p, C, dx, _, _, rfl, hp, GT.cl, GT.n2, gf_takes _ _ _, _, rfl, p, C, dx, _, _, rfl, hp, GT.cl, GT.n3, gf_hands _ _ _, tk, hd, _, _, rfl, .inr ⟨SqT.of htk, SqT.of hhd, ?_⟩⟩
    refine RZ.for_zipT (K := K) (a := tk) (b := hd) (xs := ts.map V.int) (ys := hs.map V.int) (by rw [List.length_map, List.length_map, t4, h4]) (fun i σ H' => ∃ (tp bt : Int) (v3 v4 v5 : Option V), σ = [some (.ref p), some (.int tp), some (.int bt), v3, v4, v5] ∧ (tp, bt) ∈ ts.zip hs ∧ (∀ q ∈ (ts.zip hs).take i, q.1 * bt ≤ tp * q.2) ∧ Same H H')
      ⟨t0, h0, _, _, _, rfl, List.mem_of_getElem? (zip_at ht0 hh0), (fun q hq => by rw [List.take_zero] at hq; cases hq), Same.refl H⟩ (fun i σ H' ⟨_, _, _, _, _, _, _, _, s⟩ => ⟨SqT.of (s _ _ htk), SqT.of (s _ _ hhd)⟩) ?_ ?_
    · rintro i x y T' σ H' hx hy ⟨tp, bt, v3, v4, v5, rfl, hm, hle, s1⟩ hT'
      obtain ⟨tt, htt, rfl⟩ := map_int hx
      obtain ⟨hh, hhh, rfl⟩ := map_int hy
      have b1 := tB tt (List.mem_of_getElem? htt)
      have b2 := hB hh (List.mem_of_getElem? hhh)
      have zm := List.of_mem_zip hm
      have b3 := tB tp zm.1
      have b4 := hB bt zm.2
      have hz := zip_at htt hhh
      refine ⟨T', _, rfl, SqT.of upd_same, rfl, _, _, rfl, _, _, rfl, rfl, ?_⟩
      have s2 : Same H (upd H' T' (.tup [.int tt, .int hh])) := s1.trans (same_new hT')
      refine ⟨_, rfl, _, rfl, tt, bt, rfl, rfl, .inl ⟨by omega, by omega⟩, _, rfl, _, rfl, tp, hh, rfl, rfl, .inl ⟨by omega, by omega⟩, _, _, rfl, rfl, _, rfl, iteD (fun c => ?_) (fun c => ?_)⟩
      · refine ⟨_, rfl, _, rfl, _, _, rfl, ?_⟩
        refine ⟨tt, hh, _, _, _, rfl, List.mem_of_getElem? hz, fun q hq => ?_, s2⟩
        rw [take_more hz] at hq
        rcases List.mem_append.mp hq with h | h
        · have hb := hle q h
          have zq := List.of_mem_zip (List.mem_of_mem_take h)
          have b5 := hB q.2 zq.2
          have c' : tp * hh < tt * bt := c
          exact cross (by omega) (by omega) hb (by omega) (by omega) (by omega)
        · rw [List.mem_singleton] at h
          rw [h]
          exact Int.le_refl _
      · refine ⟨tp, bt, _, _, _, rfl, hm, fun q hq => ?_, s2⟩
        rw [take_more hz] at hq
        rcases List.mem_append.mp hq with h | h
        · exact hle q h
        · rw [List.mem_singleton] at h
          rw [h]
          exact Int.not_lt.mp c
    · rintro σ H' ⟨tp, bt, v3, v4, v5, rfl, hm, hle, s1⟩
      have zm := List.of_mem_zip hm
      have b3 := tB tp zm.1
      have b4 := hB bt zm.2
      have hlz : (ts.zip hs).length = 4 := by rw [List.length_zip, t4, h4]; rfl
      rw [List.length_map, List.take_of_length_le (by omega)] at hle
      refine ⟨_, rfl, _, rfl, tp, bt, rfl, b3.1, by omega, ?_⟩
      have gpos : 0 < ((Int.gcd tp bt : Nat) : Int) := by
        have : 0 < Int.gcd tp bt := Int.gcd_pos_of_ne_zero_left _ (by omega)
        omega
      have gle : ((Int.gcd tp bt : Nat) : Int) ≤ 10000000000000 := by
        have h1 : ((Int.gcd tp bt : Nat) : Int) ∣ tp := Int.gcd_dvd_left ..
        have := Int.le_of_dvd (by omega) h1
        omega
      refine ⟨_, rfl, _, rfl, tp, _, rfl, rfl, wd gpos gle, _, rfl, _, rfl, bt, _, rfl, rfl, wd gpos gle, (by show 2 ≤ sizeLine; decide), fun r hr' => ?_⟩
      exact q r tp bt _ ⟨hm, hle⟩ upd_same (s1.trans (same_new hr'))
/-! ### keeps -/
def keptB (ts hs : List Int) (beats pieces : Int) : Bool := (ts.zip hs).all fun q => decide (q.1 * pieces ≤ beats * q.2)
end
end HP
namespace HP
open PySem L2
section
variable {P : Program} {w : World} {K : PySem.W.Frag} {mg : Str → Option Value} {base : Heap} {tM tL : Tok}
/-! ### a method of an own class, called -/
structure Dm (P : Program) (w : World) (K : PySem.W.Frag) (mg : Str → Option Value) (base : Heap) (C : Addr) (m : Str) (k : Nat) (ps : List Str) (sp : Sp) : Prop where
  ex : ∃ (f : Addr) (fd : FuncData), FnOk P w K mg base CX0 k f fd ps sp ∧ Cls K C ∧ Meth K C m f ∧ Binds K fd ps []
theorem pe_mt {X : Cx} {C : Addr} {m : Str} {k : Nat} {ps : List Str} {sp : Sp} {apos pos : Pos} {o e : Expr} {es : List Expr} {ta : TE} {t : TA} {pl : Sem Bool} (Z : Dm X.prog X.w X.K X.mg X.base C m k ps sp) (hr : Room k X.A) (he : PE X o ta) (ha : PA X (e :: es) t)
    (hst : starEach (e :: es) X.env = (false, eval e X.env) :: starEach es X.env := by rfl) (hpl : (backTo pos (starEach es X.env)).any (·.1) = false := by rfl)
    (ht : eval (.Call (.Attribute o m apos) (e :: es) [] pos) X.env = (do
      let ov ← eval o X.env
      standAt apos.atName
      let (f, first) ← holding [ov] (getMethod ov m pl)
      callWith pos f first (backTo pos (starEach (e :: es) X.env)) (backToKw pos (keywordEach [] X.env))) := by rfl) :
    PE X (.Call (.Attribute o m apos) (e :: es) [] pos) (tMeth C m sp [] E0 ta t) := by
  obtain ⟨f, fd, F, c, m, b⟩ := Z.ex
  exact pe_meth he c m F hr b .nil pass0 ha hst hpl ht
theorem pe_mt0 {X : Cx} {C : Addr} {m : Str} {k : Nat} {ps : List Str} {sp : Sp} {apos pos : Pos} {o : Expr} {ta : TE} {pl : Sem Bool} (Z : Dm X.prog X.w X.K X.mg X.base C m k ps sp) (hr : Room k X.A) (he : PE X o ta)
    (ht : eval (.Call (.Attribute o m apos) [] [] pos) X.env = (do
      let ov ← eval o X.env
      standAt apos.atName
      let (f, first) ← holding [ov] (getMethod ov m pl)
      callWith pos f first (backTo pos (starEach [] X.env)) (backToKw pos (keywordEach [] X.env))) := by rfl) :
    PE X (.Call (.Attribute o m apos) [] [] pos) (tMeth C m sp [] E0 ta tNil) := by
  obtain ⟨f, fd, F, c, m, b⟩ := Z.ex
  exact pe_meth0 he c m F hr b .nil pass0 ht
/-- the same by keywords alone, all that lacks given -/
structure DmK (P : Program) (w : World) (K : PySem.W.Frag) (mg : Str → Option Value) (base : Heap) (C : Addr) (m : Str) (k : Nat) (ps ks : List Str) (sp : Sp) : Prop where
  ex : ∃ (f : Addr) (fd : FuncData), FnOk P w K mg base CX0 k f fd ps sp ∧ Cls K C ∧ Meth K C m f ∧ KBn K fd ps 1 ks (fun us ws => us ++ ws) (fun vs zs => vs ++ zs)
theorem pe_mtK {X : Cx} {C : Addr} {m : Str} {k : Nat} {ps ks : List Str} {sp : Sp} {apos pos : Pos} {o : Expr} {kws : List Keyword} {ta : TE} {tk : TA} {pl : Sem Bool} (Z : DmK X.prog X.w X.K X.mg X.base C m k ps ks sp) (hr : Room k X.A) (he : PE X o ta) (hkw : PK X kws tk)
    (hall : (backToKw pos (keywordEach kws X.env)).all (·.1.isSome) = true := by rfl) (hks : (backToKw pos (keywordEach kws X.env)).filterMap (·.1) = ks := by rfl)
    (hpl : ((backTo pos (starEach [] X.env)).any (·.1) || (backToKw pos (keywordEach kws X.env)).any (·.1.isNone)) = false := by rfl)
    (ht : eval (.Call (.Attribute o m apos) [] kws pos) X.env = (do
      let ov ← eval o X.env
      standAt apos.atName
      let (f, first) ← holding [ov] (getMethod ov m pl)
      callWith pos f first (backTo pos (starEach [] X.env)) (backToKw pos (keywordEach kws X.env))) := by rfl) :
    PE X (.Call (.Attribute o m apos) [] kws pos) (tMethK C m ks.length sp (fun vs zs => vs ++ zs) E0 ta tk) := by
  obtain ⟨f, fd, F, c, m, b⟩ := Z.ex
  exact pe_methK0 he c m F hr b pass0 hkw hall hks hpl ht
/-- keywords of a def without defaults -/
theorem fun_kbn {x qual : Str} {st : Stmt} {f : Addr} {fd : FuncData} {ps ks : List Str} {n : Nat} (F : Fun K x qual st f fd)
    (h : ∀ (kV doc pm : Value) (an : Option Addr) (cdv ct : Value) (us ws : List Value), us.length = n → ws.length = ks.length → bindArgs (PySem.W.fnOf x qual (defArgs st) (defBody st) (defScope st) .none kV doc pm an cdv ct) ⟨us, ks.zip ws⟩ = pure (ps.zip (us ++ ws))) :
    KBn K fd ps n ks (fun us ws => us ++ ws) (fun vs zs => vs ++ zs) := by
  obtain ⟨oc, od, kV, doc, pm, an, cdv, ct, osl, rfl, lk, hcd⟩ := F.ex
  exact ⟨fun s us ws _ l1 l2 => .of_eq (h kV doc pm an cdv ct us ws l1 l2), fun r1 r2 => r1.append r2⟩
end
end HP
namespace HP
open PySem L2
section
variable {P : Program} {w : World} {K : PySem.W.Frag} {mg : Str → Option Value} {base : Heap} {tM tL : Tok}
/-! ### a def called by keywords alone, or with a default left out -/
def tCallK0 (m : Nat) (sp : Sp) (gV : List V → List V → List V) (E : XK) (tk : TA) : TE := fun σ H Q => tk σ H fun zs H2 => zs.length = m ∧ sp (gV [] zs) H2 Q E
structure DfK (P : Program) (w : World) (K : PySem.W.Frag) (mg : Str → Option Value) (base : Heap) (x : Str) (k : Nat) (ps ks : List Str) (gV : List V → List V → List V) (sp : Sp) : Prop where
  ex : ∃ (f : Addr) (fd : FuncData) (g : List Value → List Value → List Value), FnOk P w K mg base CX0 k f fd ps sp ∧ mg x = some (.ref f) ∧ PySem.W.keepIn K (.ref f) = true ∧ KBn K fd ps 0 ks g gV
theorem pe_fnK {X : Cx} {x : Str} {k : Nat} {ps ks : List Str} {gV : List V → List V → List V} {sp : Sp} {p pos : Pos} {kws : List Keyword} {tk : TA} (D : DfK X.prog X.w X.K X.mg X.base x k ps ks gV sp) (hr : Room k X.A) (hkw : PK X kws tk) (hg : Gl X x := by rfl)
    (hall : (backToKw pos (keywordEach kws X.env)).all (·.1.isSome) = true := by rfl) (hks : (backToKw pos (keywordEach kws X.env)).filterMap (·.1) = ks := by rfl) (hdb : (x == ("__debug__" : Str)) = false := by decide)
    (hpl : ((backTo pos (starEach [] X.env)).any (·.1) || (backToKw pos (keywordEach kws X.env)).any (·.1.isNone)) = false := by rfl) :
    PE X (.Call (.Name x p) [] kws pos) (tCallK0 ks.length sp gV E0 tk) := by
  obtain ⟨f, fd, g, F, hm, kp, b⟩ := D.ex
  refine ⟨fun pins s σ H Q I h => ?_⟩
  refine wpAny_Call_Name_kw (ld_glob I hg hm ?_ hdb)
  refine PySem.W.callWith_KW0 (first := []) (h₀ := X.base) I.ok.mod.kin kp hall ?_ hpl
  refine thn (hkw.run pos pins s σ H _ I h) fun ws s2 ⟨zs, H2, I2, rz, l2, q2⟩ => ⟨I2.kIn, ?_⟩
  rw [hks]
  exact run_fnN (us := []) (vs := []) F hr b pass0 I2 .nil rz rfl l2 q2
structure DfD (P : Program) (w : World) (K : PySem.W.Frag) (mg : Str → Option Value) (base : Heap) (x : Str) (k : Nat) (ps : List Str) (dvs : List V) (sp : Sp) : Prop where
  ex : ∃ (f : Addr) (fd : FuncData) (ds : List Value), FnOk P w K mg base CX0 k f fd ps sp ∧ mg x = some (.ref f) ∧ PySem.W.keepIn K (.ref f) = true ∧ Vals dvs ds ∧ Binds K fd ps ds
theorem pe_fnD {X : Cx} {x : Str} {k : Nat} {ps : List Str} {dvs : List V} {sp : Sp} {p pos : Pos} {e : Expr} {es : List Expr} {t : TA} (D : DfD X.prog X.w X.K X.mg X.base x k ps dvs sp) (hr : Room k X.A) (ha : PA X (e :: es) t)
    (hg : Gl X x := by rfl) (hdb : (x == ("__debug__" : Str)) = false := by decide) (he : starEach (e :: es) X.env = (false, eval e X.env) :: starEach es X.env := by rfl) (hpl : (backTo pos (starEach es X.env)).any (·.1) = false := by rfl) :
    PE X (.Call (.Name x p) (e :: es) [] pos) (tCall sp dvs E0 t) := by
  obtain ⟨f, fd, ds, F, hm, kp, v, b⟩ := D.ex
  exact pe_call F hr hg hm kp b v pass0 ha hdb he hpl
/-! ### a plan: a pair, in a tuple (b = true) or in a list -/
def PlanAt (b : Bool) (H : Hp) (p : Addr) (beats pieces : Int) : Prop := H p = some (if b = true then .tup [.int beats, .int pieces] else .lst [.int beats, .int pieces])
structure GoodP (beats pieces : Int) : Prop where
  b1 : 1 ≤ beats
  b2 : beats ≤ 1000000
  p1 : 1 ≤ pieces
  p2 : pieces ≤ 6
/-! ### asked_at -/
def askOf (beats pieces number first : Int) : Int := first + number * beats / pieces
def spAskedAt (b : Bool) : Sp := fun vs H Q _ => ∃ (p : Addr) (beats pieces number first : Int), vs = [.ref p, .int number, .int first] ∧ PlanAt b H p beats pieces ∧ GoodP beats pieces ∧ Q (.int (askOf beats pieces number first)) H
abbrev sasked_at : Stmt := top 2
theorem scasked_at : FnScope ["plan", "number", "first", "beats", "pieces"] ["plan", "number", "first"] (defScope sasked_at) := ⟨rfl, rfl, rfl, by decide +kernel, rfl, by decide +kernel, by decide +kernel⟩
theorem FunD_ok1 {x qual : Str} {st : Stmt} {dvs : List V} {f : Addr} {fd : FuncData} {N ps : List Str} {k : Nat} {sp : Sp} (F : FunD K x qual (defArgs st) (defBody st) (defScope st) dvs [] f fd) (S : FnScope N ps (defScope st)) (len : ∀ vs H Q E, sp vs H Q E → vs.length = ps.length)
    (hbody : ∀ (cdv : Value) (A : Around) (outer : List Env) (s : Shared) (H : Hp) (vs : List V) (Q : VK) (E : XK), Room k (A.deeper (PyProof.Rows.envOfC qual (defScope st) s.heap.objs.size f cdv)) → sp vs H Q E →
      ∃ t, PSs (cxOf CX0 P w K mg base N qual (defScope st) f cdv A outer s H E).nox (defBody st) t ∧ t { nx := fun _ H' => Q .non H', rt := Q } (start N vs) H) : FnOk P w K mg base CX0 (k + 1) f fd ps sp :=
  F.ok S len fun cdv A outer s H vs Q E hr h => let ⟨t, a, b⟩ := hbody cdv A outer s H vs Q E hr h; ⟨t, a.nox, b⟩
theorem ok_asked_at (b : Bool) {f : Addr} {fd : FuncData} {dvs : List V} (F : FunD K "asked_at" "asked_at" (defArgs sasked_at) (defBody sasked_at) (defScope sasked_at) dvs [] f fd) : FnOk P w K mg base CX0 1 f fd ["plan", "number", "first"] (spAskedAt b) := by
  refine FunD_ok1 F scasked_at (fun vs H Q E h => ?_) (fun cdv A outer s H vs Q E hr h => ?_)
  · obtain ⟨p, beats, pieces, number, first, rfl, _⟩ := h
    rfl
  · obtain ⟨p, beats, pieces, number, first, rfl, hp, G, q⟩ := h
    have cm : CMul number beats := .inr ⟨by have := G.b1; omega, by have := G.b2; omega⟩
    have dv : CDivW (number * beats) pieces := wd (by have := G.p1; omega) (by have := G.p2; omega)
    cases b with
    | true =>
      refine ⟨_, (pss_cons (ps_asg (pv 0) (pg_tup rfl (pgs_cons (pg_name (i := 3) scasked_at.nd rfl (Or.inl rfl)) (pgs_cons (pg_name (i := 4) scasked_at.nd rfl (Or.inl rfl)) pgs_nil))))
      (pss_one (ps_ret (pe_op op_add (pv 2) (pe_op op_fdivW (pe_op op_mul (pv 1) (pv 3)) (pv 4)))))), ?_⟩
      refine ⟨_, rfl, p, _, rfl, SqT.of hp, rfl, _, _, rfl, _, _, rfl, rfl, ?_⟩
      exact ⟨_, rfl, _, rfl, _, rfl, number, beats, rfl, rfl, cm, _, rfl, _, pieces, rfl, rfl, dv, first, _, rfl, rfl, q⟩
    | false =>
      refine ⟨_, (pss_cons (ps_asg (pv 0) (pg_unl rfl (pgs_cons (pg_name (i := 3) scasked_at.nd rfl (Or.inl rfl)) (pgs_cons (pg_name (i := 4) scasked_at.nd rfl (Or.inl rfl)) pgs_nil))))
      (pss_one (ps_ret (pe_op op_add (pv 2) (pe_op op_fdivW (pe_op op_mul (pv 1) (pv 3)) (pv 4)))))), ?_⟩
      refine ⟨_, rfl, p, _, rfl, SqL.of hp, rfl, _, _, rfl, _, _, rfl, rfl, ?_⟩
      exact ⟨_, rfl, _, rfl, _, rfl, number, beats, rfl, rfl, cm, _, rfl, _, pieces, rfl, rfl, dv, first, _, rfl, rfl, q⟩
/-! ### asks_of -/
def asksL (beats pieces : Int) (many : Nat) (first : Int) : List Int := (List.range many).map fun (i : Nat) => askOf beats pieces (i : Int) first
def spAsksOf (b : Bool) : Sp := fun vs H Q _ => ∃ (p : Addr) (beats pieces first : Int) (many : Nat), vs = [.ref p, .int (many : Int), .int first] ∧ PlanAt b H p beats pieces ∧ GoodP beats pieces ∧ many ≤ 1000 ∧
  ∀ (r : Addr) (H' : Hp), H r = none → H' r = some (.lst ((asksL beats pieces many first).map V.int)) → Same H H' → Q (.ref r) H'
abbrev sasks_of : Stmt := top 3
theorem scasks_of : FnScope ["plan", "many", "first", "number"] ["plan", "many", "first"] (defScope sasks_of) := ⟨rfl, rfl, rfl, by decide +kernel, rfl, by decide +kernel, by decide +kernel⟩
theorem asks_more (beats pieces first : Int) (i : Nat) : asksL beats pieces (i + 1) first = asksL beats pieces i first ++ [askOf beats pieces (i : Int) first] := by
  unfold asksL
  rw [List.range_succ, List.map_append]
  rfl
theorem ok_asks_of (b : Bool) {f : Addr} {fd : FuncData} {dvs : List V} (F : FunD K "asks_of" "asks_of" (defArgs sasks_of) (defBody sasks_of) (defScope sasks_of) dvs [] f fd) (T : Txt mg tM tL) (Dasked_at : Df P w K mg base "asked_at" 1 ["plan", "number", "first"] (spAskedAt b)) : FnOk P w K mg base CX0 2 f fd ["plan", "many", "first"] (spAsksOf b) := by
  refine FunD_ok1 F scasks_of (fun vs H Q E h => ?_) (fun cdv A outer s H vs Q E hr h => ?_)
  · obtain ⟨p, beats, pieces, first, many, rfl, _⟩ := h
    rfl
  · obtain ⟨p, beats, pieces, first, many, rfl, hp, G, hm, q⟩ := h
    refine ⟨_, (pss_one (ps_ret (pe_lc (own := [("number", 3)]) (g := gName 3) (tt := tYes) (by rfl) scasks_of.nd (pi_range1 (by rfl) T.zrange (pa_cons (pv 1) pa_nil)) (blkOk_by (own := [("number", 3)]) (N := ["plan", "many", "first", "number"]) (sc := defScope sasks_of) (by decide +kernel)) (fun _ _ _ _ _ => (pg_name (i := 3) scasks_of.nd rfl (Or.inl rfl))) (fun _ _ _ _ _ => pts_nil) (fun _ _ _ _ _ => (pe_fn Dasked_at (hr.mono (by decide)) (pa_cons (pv 0) (pa_cons (pv 3) (pa_cons (pv 2) pa_nil)))))))), ?_⟩
    refine ⟨_, rfl, (many : Int), rfl, by omega, by omega, fun D hD => ?_⟩
    refine lc_range (lo := 0) (n := ((many : Int)).toNat) (fun i H' => H' D = some (.lst ((asksL beats pieces i first).map V.int)) ∧ Same H H') ⟨upd_same, same_new hD⟩ ?_ ?_
    · rintro i H' hi ⟨hd, s1⟩
      refine ⟨rfl, ?_⟩
      refine ⟨_, rfl, _, rfl, _, rfl, p, beats, pieces, 0 + (i : Int), first, rfl, s1 _ _ hp, G, _, hd, ?_, ?_, ?_⟩
      · rw [List.length_map]
        unfold asksL
        rw [List.length_map, List.length_range]
        exact Nat.lt_of_lt_of_le (show i < 1000 by omega) (by decide)
      · rw [upd_same, asks_more, List.map_append, show (0 : Int) + (i : Int) = (i : Int) by omega]
        rfl
      · intro c o e
        rw [upd_ne (ne_of_none e hD)]
        exact s1 _ _ e
    · rintro H' ⟨hd, s1⟩
      exact q D H' hD hd s1
/-! ### keeps -/
theorem kept_iff {ts hs : List Int} {tp bt beats pieces : Int} (ft : Four ts 1000000) (fh : Four hs 4) (h : PaceOf ts hs tp bt) (G : GoodP beats pieces) :
    decide ((tp / (Int.gcd tp bt : Nat)) * pieces ≤ beats * (bt / (Int.gcd tp bt : Nat))) = keptB ts hs beats pieces := by
  obtain ⟨hm, hle⟩ := h
  have zm := List.of_mem_zip hm
  have b3 := ft.2 tp zm.1
  have b4 := fh.2 bt zm.2
  have gp : 0 < ((Int.gcd tp bt : Nat) : Int) := by
    have : 0 < Int.gcd tp bt := Int.gcd_pos_of_ne_zero_left _ (by omega)
    omega
  have e1 : tp / (Int.gcd tp bt : Nat) * (Int.gcd tp bt : Nat) = tp := Int.ediv_mul_cancel (Int.gcd_dvd_left ..)
  have e2 : bt / (Int.gcd tp bt : Nat) * (Int.gcd tp bt : Nat) = bt := Int.ediv_mul_cancel (Int.gcd_dvd_right ..)
  generalize ((Int.gcd tp bt : Nat) : Int) = g at gp e1 e2
  generalize tp / g = a at e1
  generalize bt / g = b at e2
  have key : a * pieces ≤ beats * b ↔ tp * pieces ≤ beats * bt := by
    rw [← e1, ← e2]
    have f1 : a * g * pieces = a * pieces * g := by rw [Int.mul_assoc, Int.mul_comm g pieces, ← Int.mul_assoc]
    have f2 : beats * (b * g) = beats * b * g := by rw [Int.mul_assoc]
    rw [f1, f2]
    exact ⟨fun h => Int.mul_le_mul_of_nonneg_right h (by omega), fun h => Int.le_of_mul_le_mul_right h gp⟩
  have key2 : (tp * pieces ≤ beats * bt) ↔ ∀ q ∈ ts.zip hs, q.1 * pieces ≤ beats * q.2 := by
    constructor
    · intro h q hq
      have zq := List.of_mem_zip hq
      have b5 := fh.2 q.2 zq.2
      have := hle q hq
      exact cross (T := tp) (B := bt) (by omega) (by omega) this h (by have := G.p1; omega) (by omega)
    · intro h
      exact h (tp, bt) hm
  unfold keptB
  rw [Bool.eq_iff_iff, decide_eq_true_eq, List.all_eq_true, key, key2]
  exact ⟨fun h q hq => decide_eq_true (h q hq), fun h q hq => of_decide_eq_true (h q hq)⟩
def spKeeps (C : Addr) (b : Bool) : Sp := fun vs H Q _ => ∃ (p pl : Addr) (ts hs : List Int) (beats pieces : Int), vs = [.ref p, .ref pl] ∧ GangAt C H p ts hs ∧ PlanAt b H pl beats pieces ∧ GoodP beats pieces ∧
  ∀ H', Same H H' → Q (.bl (keptB ts hs beats pieces)) H'
abbrev skeeps : Stmt := top 4
theorem sckeeps : FnScope ["gang", "plan", "beats", "pieces", "top", "bottom"] ["gang", "plan"] (defScope skeeps) := ⟨rfl, rfl, rfl, by decide +kernel, rfl, by decide +kernel, by decide +kernel⟩
theorem gf_pace (z : Str) (tk hd : Addr) : (gf z tk hd).lookup ("pace" : Str) = none := gf_no _ _ _ (by decide +kernel) (by decide +kernel) (by decide +kernel)
theorem ok_keeps (b : Bool) {f C : Addr} {fd : FuncData} (F : Fun K "keeps" "keeps" skeeps f fd) (Dpace : Dm P w K mg base C "pace" 2 ["self"] (spPace C)) : FnOk P w K mg base CX0 3 f fd ["gang", "plan"] (spKeeps C b) := by
  refine F.ok sckeeps (fun vs H Q E h => ?_) (fun cdv A outer s H vs Q E hr h => ?_)
  · obtain ⟨p, pl, ts, hs, beats, pieces, rfl, _⟩ := h
    rfl
  · obtain ⟨p, pl, ts, hs, beats, pieces, rfl, M, hpl, G, q⟩ := h
    obtain ⟨⟨z, dx, tk, hd, hp, htk, hhd⟩, ft, fh⟩ := id M
    have fin : ∀ (r : Addr) (tp bt : Int) (H' : Hp), PaceOf ts hs tp bt → Same H H' → CMul beats (bt / (Int.gcd tp bt : Nat)) ∧ CMul (tp / (Int.gcd tp bt : Nat)) pieces ∧ Q (.bl (decide ((tp / (Int.gcd tp bt : Nat)) * pieces ≤ beats * (bt / (Int.gcd tp bt : Nat))))) H' := by
      intro r tp bt H' hP s'
      refine ⟨.inl ⟨by have := G.b1; omega, by have := G.b2; omega⟩, .inr ⟨by have := G.p1; omega, by have := G.p2; omega⟩, ?_⟩
      rw [kept_iff ft fh hP G]
      exact q H' s'
    cases b with
    | true =>
      refine ⟨_, (pss_cons (ps_asg (pv 1) (pg_tup rfl (pgs_cons (pg_name (i := 2) sckeeps.nd rfl (Or.inl rfl)) (pgs_cons (pg_name (i := 3) sckeeps.nd rfl (Or.inl rfl)) pgs_nil))))
      (pss_cons (ps_asg (pe_mt0 (C := C) Dpace (hr.mono (by decide)) (pv 0)) (pg_tup rfl (pgs_cons (pg_name (i := 4) sckeeps.nd rfl (Or.inl rfl)) (pgs_cons (pg_name (i := 5) sckeeps.nd rfl (Or.inl rfl)) pgs_nil))))
      (pss_one (ps_ret (pe_cmp (pc_ge (pe_op op_mul (pv 2) (pv 5)) (pe_op op_mul (pv 4) (pv 3)))))))), ?_⟩
      refine ⟨_, rfl, pl, _, rfl, SqT.of hpl, rfl, _, _, rfl, _, _, rfl, rfl, ?_⟩
      refine ⟨_, rfl, p, dx, _, rfl, hp, gf_pace _ _ _, p, ts, hs, rfl, M, fun r tp bt H' hP hr' s' => ?_⟩
      obtain ⟨c1, c2, c3⟩ := fin r tp bt H' hP s'
      refine ⟨r, _, rfl, SqT.of hr', rfl, _, _, rfl, _, _, rfl, rfl, ?_⟩
      exact ⟨_, rfl, _, rfl, beats, _, rfl, rfl, c1, _, rfl, _, rfl, _, pieces, rfl, rfl, c2, _, _, rfl, rfl, c3⟩
    | false =>
      refine ⟨_, (pss_cons (ps_asg (pv 1) (pg_unl rfl (pgs_cons (pg_name (i := 2) sckeeps.nd rfl (Or.inl rfl)) (pgs_cons (pg_name (i := 3) sckeeps.nd rfl (Or.inl rfl)) pgs_nil))))
      (pss_cons (ps_asg (pe_mt0 (C := C) Dpace (hr.mono (by decide)) (pv 0)) (pg_tup rfl (pgs_cons (pg_name (i := 4) sckeeps.nd rfl (Or.inl rfl)) (pgs_cons (pg_name (i := 5) sckeeps.nd rfl (Or.inl rfl)) pgs_nil))))
      (pss_one (ps_ret (pe_cmp (pc_ge (pe_op op_mul (pv 2) (pv 5)) (pe_op op_mul (pv 4) (pv 3)))))))), ?_⟩
      refine ⟨_, rfl, pl, _, rfl, SqL.of hpl, rfl, _, _, rfl, _, _, rfl, rfl, ?_⟩
      refine ⟨_, rfl, p, dx, _, rfl, hp, gf_pace _ _ _, p, ts, hs, rfl, M, fun r tp bt H' hP hr' s' => ?_⟩
      obtain ⟨c1, c2, c3⟩ := fin r tp bt H' hP s'
      refine ⟨r, _, rfl, SqT.of hr', rfl, _, _, rfl, _, _, rfl, rfl, ?_⟩
      exact ⟨_, rfl, _, rfl, beats, _, rfl, rfl, c1, _, rfl, _, rfl, _, pieces, rfl, rfl, c2, _, _, rfl, rfl, c3⟩
end
end HP
namespace HP
open PySem L2
section
variable {P : Program} {w : World} {K : PySem.W.Frag} {mg : Str → Option Value} {base : Heap} {tM tL : Tok}
/-! ### _law_plan -/
def spPlan : Sp := fun vs H Q _ => ∃ (t : Addr) (c : Int), vs = [.ref t] ∧ TapeAt H t c ∧ c ≤ 90000 ∧
  ∀ (p : Addr) (beats pieces : Int) (H' : Hp), GoodP beats pieces → H' p = some (.tup [.int beats, .int pieces]) → TapeAt H' t (c + 3) → SameBut t H H' → Q (.ref p) H'
abbrev sLplan : Stmt := top 28
theorem scLplan : FnScope ["_law_tape_here", "_law_beats"] ["_law_tape_here"] (defScope sLplan) := ⟨rfl, rfl, rfl, by decide +kernel, rfl, by decide +kernel, by decide +kernel⟩
theorem ok_plan {f : Addr} {fd : FuncData} (F : Fun K "_law_plan" "_law_plan" sLplan f fd) (DLdraw : DDraw P w K mg base) : FnOk P w K mg base CX0 2 f fd ["_law_tape_here"] spPlan := by
  refine F.ok scLplan (fun vs H Q E h => ?_) (fun cdv A outer s H vs Q E hr h => ?_)
  · obtain ⟨t, c, rfl, _⟩ := h
    rfl
  · obtain ⟨t, c, rfl, hT, hc, q⟩ := h
    refine ⟨_, (pss_cons (ps_set (i := 1) scLplan.nd rfl (Or.inl rfl) (pe_op op_add pe_int (pe_fn DLdraw (hr.mono (by decide)) (pa_cons (pv 0) (pa_cons (pe_ix ix_list (pe_lst (pa_cons pe_int (pa_cons pe_int (pa_cons (pe_op op_pow pe_int pe_int) pa_nil)))) (pe_fn DLdraw (hr.mono (by decide)) (pa_cons (pv 0) (pa_cons pe_int pa_nil))) (fun _ _ => rfl)) pa_nil)))))
    (pss_one (ps_ret (pe_tup (pa_cons (pv 1) (pa_cons (pe_op op_add pe_int (pe_fn DLdraw (hr.mono (by decide)) (pa_cons (pv 0) (pa_cons pe_int pa_nil)))) pa_nil)))))), ?_⟩
    have e6 : (10 : Int) ^ (6 : Int).toNat = 1000000 := by decide
    refine ⟨_, rfl, 10, 6, rfl, rfl, pow6, (by show 3 ≤ sizeLine; decide), fun d hd => ?_⟩
    refine ⟨_, rfl, t, c, 3, rfl, hT.new hd, by omega, by decide, by decide, fun r1 H1 b0 b1 T1 S1 => ?_⟩
    have hd1 : H1 d = some (.lst [.int 9, .int 240, .int ((10 : Int) ^ (6 : Int).toNat)]) := S1 _ _ upd_same (hT.ne hd)
    obtain ⟨m1, hm1, em1⟩ := at3 (x := 9) (y := 240) (z := (10 : Int) ^ (6 : Int).toNat) b0 b1
    rw [e6] at em1
    refine ⟨d, _, _, _, rfl, rfl, SqL.of hd1, hm1, t, _, m1, rfl, T1, by omega, by omega, by omega, fun r2 H2 c0 c1 T2 S2 => ?_⟩
    refine ⟨1, r2, rfl, rfl, ?_⟩
    refine ⟨_, rfl, _, rfl, t, _, 6, rfl, T2, by omega, by decide, by decide, fun r3 H3 d0 d1 T3 S3 => ?_⟩
    refine ⟨1, r3, rfl, rfl, (by show 2 ≤ sizeLine; decide), fun p hp => ?_⟩
    exact q p (1 + r2) (1 + r3) _ ⟨by omega, by omega, by omega, by omega⟩ upd_same ((T3.new hp).mono (by omega)) (((((Same.but (same_new hd)).trans S1).trans S2).trans S3).new hp)
/-! ### _law_asked -/
def spAsked : Sp := fun vs H Q _ => ∃ (p : Addr) (beats pieces number first : Int), vs = [.ref p, .int number, .int first] ∧ H p = some (.tup [.int beats, .int pieces]) ∧ GoodP beats pieces ∧ 0 ≤ number ∧ number ≤ 1000000000000 ∧
  ∀ H', Same H H' → Q (.int (askOf beats pieces number first)) H'
abbrev sLasked : Stmt := top 29
theorem scLasked : FnScope ["_law_a_plan", "_law_a_number", "_law_a_first", "_law_beats", "_law_pieces", "_law_rounds", "_law_rest", "_law_found", "_law_left", "_law_step", "_law_turn"] ["_law_a_plan", "_law_a_number", "_law_a_first"] (defScope sLasked) := ⟨rfl, rfl, rfl, by decide +kernel, rfl, by decide +kernel, by decide +kernel⟩
def stepAt : Nat → Int
  | 0 => 1048576
  | i + 1 => stepAt i / 2
theorem step_end : stepAt 20 = 1 := by decide
theorem stepAt_le : ∀ i : Nat, 0 ≤ stepAt i ∧ stepAt i ≤ 1048576
  | 0 => by decide
  | i + 1 => by
    have := stepAt_le i
    show 0 ≤ stepAt i / 2 ∧ stepAt i / 2 ≤ 1048576
    omega
theorem step_even : ∀ i : Nat, i < 20 → stepAt i = 2 * stepAt (i + 1) := by
  intro i hi
  have : ∀ j : Fin 20, stepAt j.val = 2 * stepAt (j.val + 1) := by decide
  exact this ⟨i, hi⟩
theorem ok_asked {f : Addr} {fd : FuncData} (F : Fun K "_law_asked" "_law_asked" sLasked f fd) (T : Txt mg tM tL) : FnOk P w K mg base CX0 1 f fd ["_law_a_plan", "_law_a_number", "_law_a_first"] spAsked := by
  refine F.ok scLasked (fun vs H Q E h => ?_) (fun cdv A outer s H vs Q E hr h => ?_)
  · obtain ⟨p, beats, pieces, number, first, rfl, _⟩ := h
    rfl
  · obtain ⟨p, beats, pieces, number, first, rfl, hp, ⟨b1, b2, p1, p2⟩, n0, n1, q⟩ := h
    refine ⟨_, (pss_cons (ps_asg (pv 0) (pg_tup rfl (pgs_cons (pg_name (i := 3) scLasked.nd rfl (Or.inl rfl)) (pgs_cons (pg_name (i := 4) scLasked.nd rfl (Or.inl rfl)) pgs_nil))))
    (pss_cons (ps_asg (pe_callB call_divmod (by rfl) T.zdivmod (by decide +kernel) (pa_cons (pv 1) (pa_cons (pv 4) pa_nil))) (pg_tup rfl (pgs_cons (pg_name (i := 5) scLasked.nd rfl (Or.inl rfl)) (pgs_cons (pg_name (i := 6) scLasked.nd rfl (Or.inl rfl)) pgs_nil))))
    (pss_cons (ps_par3 (i := 7) (j := 8) (l := 9) (by rfl) scLasked.nd rfl rfl rfl (by decide) (by decide) (by decide) rfl rfl rfl (pa_cons (pe_op op_add (pv 2) (pe_op op_mul (pv 5) (pv 3))) (pa_cons (pe_op op_mul (pv 6) (pv 3)) (pa_cons pe_int pa_nil))) (by rfl))
    (pss_cons (ps_for PassesOwn.never rfl (pi_range1 (by rfl) T.zrange (pa_cons pe_int pa_nil)) (pg_name (i := 10) scLasked.nd rfl (Or.inl rfl))
    (pss_cons (ps_if (pt_cmp (pc_ge (pv 8) (pe_op op_mul (pv 4) (pv 9)))) (pss_one (ps_par (i := 7) (j := 8) (by rfl) scLasked.nd rfl rfl (by decide) rfl rfl (pa_cons (pe_op op_add (pv 7) (pv 9)) (pa_cons (pe_op op_sub (pv 8) (pe_op op_mul (pv 4) (pv 9))) pa_nil)) (by rfl))) pss_nil)
    (pss_one (ps_set (i := 9) scLasked.nd rfl (Or.inl rfl) (pe_op op_fdivW (pv 9) pe_int)))))
    (pss_one (ps_ret (pv 7))))))), ?_⟩
    refine ⟨_, rfl, p, _, rfl, SqT.of hp, rfl, _, _, rfl, _, _, rfl, rfl, ?_⟩
    refine ⟨_, rfl, _, rfl, number, pieces, rfl, ⟨by omega, by omega⟩, fun tp htp => ⟨tp, _, rfl, SqT.of upd_same, rfl, _, _, rfl, _, _, rfl, rfl, ?_⟩⟩
    have r0 : 0 ≤ number % pieces := Int.emod_nonneg _ (by omega)
    have r1 : number % pieces < pieces := Int.emod_lt_of_pos _ (by omega)
    have cb : ∀ x : Int, CMul x beats := fun x => .inr ⟨by omega, by omega⟩
    have cp : ∀ x : Int, CMul pieces x := fun x => .inl ⟨by omega, by omega⟩
    refine ⟨_, rfl, _, rfl, _, rfl, _, beats, rfl, rfl, cb _, first, _, rfl, rfl, _, rfl, _, rfl, _, beats, rfl, rfl, cb _, _, _, _, rfl, ?_⟩
    -- what is left is rest * beats; each turn takes step from it if it can
    have hrb : 0 ≤ number % pieces * beats := Int.mul_nonneg r0 (by omega)
    have hrb2 : number % pieces * beats ≤ 5 * 1000000 := by
      have h1 : number % pieces * beats ≤ 5 * beats := Int.mul_le_mul_of_nonneg_right (by omega) (by omega)
      omega
    refine ⟨21, rfl, by decide, by decide, ?_⟩
    refine for_range (lo := 0) (n := (21 : Int).toNat) (fun i σ H' => ∃ (found left step : Int) (v10 : Option V), σ = [some (.ref p), some (.int number), some (.int first), some (.int beats), some (.int pieces), some (.int (number / pieces)), some (.int (number % pieces)), some (.int found), some (.int left), some (.int step), v10] ∧
        step = stepAt i ∧ 0 ≤ left ∧ pieces * found + left = pieces * (first + number / pieces * beats) + number % pieces * beats ∧ (i ≤ 20 → left < pieces * (2 * stepAt i)) ∧ (i = 21 → left < pieces) ∧ Same H H')
      ⟨first + number / pieces * beats, number % pieces * beats, 1048576, _, rfl, rfl, hrb, rfl, (fun _ => ?_), (fun h => by omega), same_new htp⟩ ?_ ?_
    · show number % pieces * beats < pieces * (2 * 1048576)
      have h1 : number % pieces * beats < pieces * beats := Int.mul_lt_mul_of_pos_right r1 (by omega)
      have h2 : pieces * beats ≤ pieces * (2 * 1048576) := Int.mul_le_mul_of_nonneg_left (by omega) (by omega)
      omega
    · rintro i σ H' hi ⟨found, left, step, v10, rfl, hst, l0, heq, hA, hB, s1⟩
      have hi21 : i < 21 := hi
      have hA' := hA (by omega)
      have sl := stepAt_le i
      have e2 : pieces * (2 * stepAt i) = pieces * stepAt i + pieces * stepAt i := by
        rw [show 2 * stepAt i = stepAt i + stepAt i by omega, Int.mul_add]
      have nxt : ∀ left' : Int, left' < pieces * stepAt i → (i + 1 ≤ 20 → left' < pieces * (2 * stepAt (i + 1))) ∧ (i + 1 = 21 → left' < pieces) := by
        intro left' hl
        refine ⟨fun h => ?_, fun h => ?_⟩
        · rw [← step_even i (by omega)]
          exact hl
        · have : i = 20 := by omega
          rw [this, step_end, Int.mul_one] at hl
          exact hl
      refine ⟨_, rfl, _, rfl, _, rfl, pieces, step, rfl, rfl, cp _, left, _, rfl, rfl, _, rfl, iteD (fun c => ?_) (fun c => ?_)⟩
      · have c' : pieces * step ≤ left := c
        refine ⟨_, rfl, _, rfl, found, step, rfl, rfl, _, rfl, _, rfl, _, rfl, pieces, step, rfl, rfl, cp _, left, _, rfl, rfl, _, _, rfl, ?_⟩
        refine ⟨_, rfl, step, 2, rfl, rfl, wd (by decide) (by decide), ?_⟩
        rw [hst] at c'
        obtain ⟨x1, x2⟩ := nxt (left - pieces * stepAt i) (by omega)
        refine ⟨found + step, left - pieces * step, step / 2, _, rfl, by rw [hst]; rfl, by rw [hst]; omega, ?_, by rw [hst]; exact x1, by rw [hst]; exact x2, s1⟩
        rw [Int.mul_add]
        omega
      · have c' : left < pieces * step := Int.not_le.mp c
        refine ⟨_, rfl, step, 2, rfl, rfl, wd (by decide) (by decide), ?_⟩
        rw [hst] at c'
        obtain ⟨x1, x2⟩ := nxt left c'
        exact ⟨found, left, step / 2, _, rfl, by rw [hst]; rfl, l0, heq, x1, x2, s1⟩
    · rintro σ H' ⟨found, left, step, v10, rfl, hst, l0, heq, hA, hB, s1⟩
      refine ⟨_, rfl, ?_⟩
      have hl : left < pieces := hB (by decide)
      have en : number * beats = pieces * (number / pieces * beats) + number % pieces * beats := by
        have h1 := Int.mul_ediv_add_emod number pieces
        have h2 : number * beats = (pieces * (number / pieces) + number % pieces) * beats := by rw [h1]
        rw [h2, Int.add_mul, Int.mul_assoc]
      have hf : found = askOf beats pieces number first := by
        unfold askOf
        have h3 : number * beats = pieces * (found - first) + left := by
          rw [en]
          have h4 : pieces * (first + number / pieces * beats) = pieces * first + pieces * (number / pieces * beats) := Int.mul_add ..
          have h5 : pieces * (found - first) = pieces * found - pieces * first := Int.mul_sub ..
          omega
        have h6 : number * beats / pieces = found - first := by
          rw [h3, Int.mul_add_ediv_left _ _ (by omega), Int.ediv_eq_zero_of_lt l0 hl, Int.add_zero]
        omega
      rw [hf]
      exact q _ s1
/-! ### _law_kept -/
theorem lc_zipT {a b : Addr} {xs ys : List V} {g : TG} {tt : TT} {te : TE} {vs : List Nat} {σ : L2.St} {H1 : Hp} {D : Addr} {Qd : Hp → Prop} (hl : xs.length = ys.length) (Pv : Nat → Hp → Prop) (h0 : Pv 0 (upd H1 D (.lst []))) (hq : ∀ i H, Pv i H → SqT K H a xs ∧ SqT K H b ys)
    (hs : ∀ (i : Nat) (x y : V) (T : Addr) (H : Hp), xs[i]? = some x → ys[i]? = some y → Pv i H → H T = none → g (.ref T) (wipe σ vs) (upd H T (.tup [x, y])) fun σ2 H2 => wipe σ2 vs = wipe σ vs ∧ tt σ2 H2 fun b H3 =>
      if b = true then te σ2 H3 fun y H4 => ∃ acc, H4 D = some (.lst acc) ∧ acc.length < sizeLine ∧ Pv (i + 1) (upd H4 D (.lst (acc ++ [y]))) else Pv (i + 1) H3) (hd : ∀ H, Pv xs.length H → Qd H) :
    ∃ W : Nat → Nat → Hp → Prop, (∃ m, W 0 m (upd H1 D (.lst []))) ∧ ∀ i m H, W i m H →
      ((RZ.ItzT K a b).stop i H ∧ Qd H) ∨ ((RZ.ItzT K a b).go i H ∧ ∃ Nx : Hp → Prop, (∀ H', Nx H' → ∃ m', m' < m ∧ W (i + 1) m' H') ∧ ∀ v H', (RZ.ItzT K a b).yld i H v H' → g v (wipe σ vs) H' fun σ2 H2 => wipe σ2 vs = wipe σ vs ∧ tt σ2 H2 fun b H3 =>
        if b = true then te σ2 H3 fun y H4 => ∃ acc, H4 D = some (.lst acc) ∧ acc.length < sizeLine ∧ Nx (upd H4 D (.lst (acc ++ [y]))) else Nx H3) := by
  refine ⟨fun i m H => m = xs.length - i ∧ i ≤ xs.length ∧ Pv i H, ⟨xs.length, rfl, Nat.zero_le _, h0⟩, ?_⟩
  rintro i m H ⟨rfl, hi, p⟩
  obtain ⟨qx, qy⟩ := hq i H p
  by_cases hlt : i < xs.length
  · refine .inr ⟨⟨xs, ys, xs[i], ys[i]'(by omega), qx, qy, by simp [hlt], by simp [show i < ys.length by omega]⟩, Pv (i + 1), fun H' p' => ⟨xs.length - (i + 1), by omega, rfl, hlt, p'⟩, fun v H' y => ?_⟩
    obtain ⟨T, x, y, rfl, hT, rfl, hx, hy⟩ := y
    exact hs i x y T H (hx xs qx) (hy ys qy) p hT
  · have e : i = xs.length := by omega
    subst e
    exact .inl ⟨⟨xs, ys, qx, qy, .inl (Nat.le_refl _)⟩, hd H p⟩
theorem lc_zipL {a b : Addr} {xs ys : List V} {g : TG} {tt : TT} {te : TE} {vs : List Nat} {σ : L2.St} {H1 : Hp} {D : Addr} {Qd : Hp → Prop} (hl : xs.length = ys.length) (Pv : Nat → Hp → Prop) (h0 : Pv 0 (upd H1 D (.lst []))) (hq : ∀ i H, Pv i H → SqL K H a xs ∧ SqL K H b ys)
    (hs : ∀ (i : Nat) (x y : V) (T : Addr) (H : Hp), xs[i]? = some x → ys[i]? = some y → Pv i H → H T = none → g (.ref T) (wipe σ vs) (upd H T (.tup [x, y])) fun σ2 H2 => wipe σ2 vs = wipe σ vs ∧ tt σ2 H2 fun b H3 =>
      if b = true then te σ2 H3 fun y H4 => ∃ acc, H4 D = some (.lst acc) ∧ acc.length < sizeLine ∧ Pv (i + 1) (upd H4 D (.lst (acc ++ [y]))) else Pv (i + 1) H3) (hd : ∀ H, Pv xs.length H → Qd H) :
    ∃ W : Nat → Nat → Hp → Prop, (∃ m, W 0 m (upd H1 D (.lst []))) ∧ ∀ i m H, W i m H →
      ((Itz K a b).stop i H ∧ Qd H) ∨ ((Itz K a b).go i H ∧ ∃ Nx : Hp → Prop, (∀ H', Nx H' → ∃ m', m' < m ∧ W (i + 1) m' H') ∧ ∀ v H', (Itz K a b).yld i H v H' → g v (wipe σ vs) H' fun σ2 H2 => wipe σ2 vs = wipe σ vs ∧ tt σ2 H2 fun b H3 =>
        if b = true then te σ2 H3 fun y H4 => ∃ acc, H4 D = some (.lst acc) ∧ acc.length < sizeLine ∧ Nx (upd H4 D (.lst (acc ++ [y]))) else Nx H3) := by
  refine ⟨fun i m H => m = xs.length - i ∧ i ≤ xs.length ∧ Pv i H, ⟨xs.length, rfl, Nat.zero_le _, h0⟩, ?_⟩
  rintro i m H ⟨rfl, hi, p⟩
  obtain ⟨qx, qy⟩ := hq i H p
  by_cases hlt : i < xs.length
  · refine .inr ⟨⟨xs, ys, xs[i], ys[i]'(by omega), qx, qy, by simp [hlt], by simp [show i < ys.length by omega]⟩, Pv (i + 1), fun H' p' => ⟨xs.length - (i + 1), by omega, rfl, hlt, p'⟩, fun v H' y => ?_⟩
    obtain ⟨T, x, y, rfl, hT, rfl, hx, hy⟩ := y
    exact hs i x y T H (hx xs qx) (hy ys qy) p hT
  · have e : i = xs.length := by omega
    subst e
    exact .inl ⟨⟨xs, ys, qx, qy, .inl (Nat.le_refl _)⟩, hd H p⟩
def spKept : Sp := fun vs H Q _ => ∃ (pl tk hd : Addr) (beats pieces : Int) (ts hs : List Int), vs = [.ref pl, .ref tk, .ref hd] ∧ H pl = some (.tup [.int beats, .int pieces]) ∧ GoodP beats pieces ∧ H tk = some (.tup (ts.map V.int)) ∧ H hd = some (.tup (hs.map V.int)) ∧ Four ts 1000000 ∧ Four hs 4 ∧
  ∀ H', Same H H' → Q (.bl (keptB ts hs beats pieces)) H'
abbrev sLkept : Stmt := top 30
theorem scLkept : FnScope ["_law_a_plan", "_law_takes_here", "_law_hands_here", "_law_take", "_law_a_many"] ["_law_a_plan", "_law_takes_here", "_law_hands_here"] (defScope sLkept) := ⟨rfl, rfl, rfl, by decide +kernel, rfl, by decide +kernel, by decide +kernel⟩
theorem ok_kept {f : Addr} {fd : FuncData} (F : Fun K "_law_kept" "_law_kept" sLkept f fd) (T : Txt mg tM tL) : FnOk P w K mg base CX0 1 f fd ["_law_a_plan", "_law_takes_here", "_law_hands_here"] spKept := by
  refine F.ok scLkept (fun vs H Q E h => ?_) (fun cdv A outer s H vs Q E hr h => ?_)
  · obtain ⟨pl, tk, hd, beats, pieces, ts, hs, rfl, _⟩ := h
    rfl
  · obtain ⟨pl, tk, hd, beats, pieces, ts, hs, rfl, hpl, ⟨b1, b2, p1, p2⟩, htk, hhd, ⟨t4, tB⟩, ⟨h4, hB⟩, q⟩ := h
    refine ⟨_, (pss_one (ps_ret (pe_callB (cr_all rfl) (by rfl) T.zall (by decide +kernel) (pa_cons (pe_lc (own := [("_law_take", 3), ("_law_a_many", 4)]) (g := gTup K 2 (gCons (gName 3) (gCons (gName 4) gNil))) (tt := tYes) (te := tGe (tOp (rI CMul fun i j => .int (i * j)) (tOp (rIxT K) (tVar 0) (tC (.int 0))) (tVar 4)) (tOp (rI CMul fun i j => .int (i * j)) (tVar 3) (tOp (rIxT K) (tVar 0) (tC (.int 1))))) (by rfl) scLkept.nd (RZ.pi_zipA (by rfl) T.zzip (pa_cons (pv 1) (pa_cons (pv 2) pa_nil))) (blkOk_by (own := [("_law_take", 3), ("_law_a_many", 4)]) (N := ["_law_a_plan", "_law_takes_here", "_law_hands_here", "_law_take", "_law_a_many"]) (sc := defScope sLkept) (by decide +kernel)) (fun _ _ _ _ _ => (pg_tup rfl (pgs_cons (pg_name (i := 3) scLkept.nd rfl (Or.inl rfl)) (pgs_cons (pg_name (i := 4) scLkept.nd rfl (Or.inl rfl)) pgs_nil)))) (fun _ _ _ _ _ => pts_nil) (fun _ _ _ _ _ => (pe_cmp (pc_ge (pe_op op_mul (pe_ix ix_tup (pv 0) pe_int (fun _ _ => rfl)) (pv 4)) (pe_op op_mul (pv 3) (pe_ix ix_tup (pv 0) pe_int (fun _ _ => rfl))))))) pa_nil)))), ?_⟩
    refine ⟨_, rfl, _, rfl, tk, hd, _, _, rfl, .inr ⟨SqT.of htk, SqT.of hhd, fun D hD => ?_⟩⟩
    refine lc_zipT (K := K) (a := tk) (b := hd) (xs := ts.map V.int) (ys := hs.map V.int) (by rw [List.length_map, List.length_map, t4, h4]) (fun i H' => H' D = some (.lst ((((ts.zip hs).take i).map fun q => decide (q.1 * pieces ≤ beats * q.2)).map V.bl)) ∧ Same H H')
      ⟨by rw [upd_same, List.take_zero]; rfl, same_new hD⟩ (fun i H' ⟨_, s⟩ => ⟨SqT.of (s _ _ htk), SqT.of (s _ _ hhd)⟩) ?_ ?_
    · rintro i x y T' H' hx hy ⟨hd', s1⟩ hT'
      obtain ⟨tt, htt, rfl⟩ := map_int hx
      obtain ⟨hh, hhh, rfl⟩ := map_int hy
      have bb1 := tB tt (List.mem_of_getElem? htt)
      have hz := zip_at htt hhh
      have s2 : Same H (upd H' T' (.tup [.int tt, .int hh])) := s1.trans (same_new hT')
      have nDT : D ≠ T' := ne_of_none hd' hT'
      refine ⟨T', _, rfl, SqT.of upd_same, rfl, _, _, rfl, _, _, rfl, rfl, rfl, ?_⟩
      refine ⟨_, rfl, pl, _, 0, _, rfl, rfl, SqT.of (s2 _ _ hpl), rfl, _, rfl, beats, hh, rfl, rfl, .inl ⟨by omega, by omega⟩, _, rfl, _, rfl, pl, _, 1, _, rfl, rfl, SqT.of (s2 _ _ hpl), rfl, tt, pieces, rfl, rfl, .inl ⟨by omega, by omega⟩, _, _, rfl, rfl, _, (by rw [upd_ne nDT]; exact hd'), ?_, ?_, ?_⟩
      · rw [List.length_map, List.length_map, List.length_take]
        exact Nat.lt_of_le_of_lt (show min i (ts.zip hs).length ≤ 4 by rw [List.length_zip, t4, h4]; omega) (by decide)
      · rw [upd_same, take_more hz, List.map_append, List.map_append]
        rfl
      · intro b o e
        rw [upd_ne (ne_of_none e hD)]
        exact s2 _ _ e
    · rintro H' ⟨hd', s1⟩
      rw [List.length_map, List.take_of_length_le (by rw [List.length_zip, t4, h4]; exact Nat.le_refl _)] at hd'
      refine ⟨D, _, rfl, SqL.of hd', ?_⟩
      have e : (((ts.zip hs).map fun q => decide (q.1 * pieces ≤ beats * q.2)).all id) = keptB ts hs beats pieces := by
        unfold keptB
        rw [List.all_map]
        rfl
      rw [e]
      exact q _ s1
end
end HP
namespace HP
open PySem L2
section
variable {P : Program} {w : World} {K : PySem.W.Frag} {mg : Str → Option Value} {base : Heap} {tM tL : Tok}
/-! ### _law_same, of two numbers or of two truths -/
theorem kt1 : kitB "int" "list" = some false := by decide +kernel
theorem kt2 : kitB "int" "tuple" = some false := by decide +kernel
theorem kt3 : kitB "int" "str" = some false := by decide +kernel
theorem kt4 : kitB "bool" "list" = some false := by decide +kernel
theorem kt5 : kitB "bool" "tuple" = some false := by decide +kernel
theorem kt6 : kitB "bool" "str" = some false := by decide +kernel
theorem kt7 : kitB "bool" "bool" = some true := by decide +kernel
theorem kt8 : kitB "list" "list" = some true := by decide +kernel
theorem kt9 : kitB "list" "tuple" = some false := by decide +kernel
theorem kitNo {K : PySem.W.Frag} {t : Value} {a b : Value} (h1 : PySem.W.kitOne K t a = some false) (h2 : PySem.W.kitOne K t b = some false) : PySem.W.kitAny K t [a, b] = some false :=
  kitAny_cons (b := false) h1 (fun _ => kitAny_cons (b := false) h2 (fun _ => rfl) (fun z => by cases z)) (fun z => by cases z)
theorem kitSnd {K : PySem.W.Frag} {t : Value} {a b : Value} (h1 : PySem.W.kitOne K t a = some false) (h2 : PySem.W.kitOne K t b = some true) : PySem.W.kitAny K t [a, b] = some true :=
  kitAny_cons (b := false) h1 (fun _ => kitAny_cons (b := true) h2 (fun z => by cases z) (fun _ => rfl)) (fun z => by cases z)
theorem kitFst {K : PySem.W.Frag} {t : Value} {a b : Value} (h1 : PySem.W.kitOne K t a = some true) : PySem.W.kitAny K t [a, b] = some true :=
  kitAny_cons (b := true) h1 (fun z => by cases z) (fun _ => rfl)
def spSame1 : Sp := fun vs H Q _ => ((∃ i : Int, vs = [.int i, .int i]) ∨ (∃ b : Bool, vs = [.bl b, .bl b])) ∧ ∀ H', Same H H' → Q (.bl true) H'
abbrev sLsame : Stmt := top 27
theorem scLsame : FnScope ["_law_found", "_law_due", "_law_one", "_law_other"] ["_law_found", "_law_due"] (defScope sLsame) := ⟨rfl, rfl, rfl, by decide +kernel, rfl, by decide +kernel, by decide +kernel⟩
theorem ok_same1 {f : Addr} {fd : FuncData} (F : Fun K "_law_same" "_law_same" sLsame f fd) (T : Txt mg tM tL) : FnOk P w K mg base CX0 1 f fd ["_law_found", "_law_due"] spSame1 := by
  refine F.ok scLsame (fun vs H Q E h => ?_) (fun cdv A outer s H vs Q E hr h => ?_)
  · obtain ⟨⟨i, rfl⟩ | ⟨b, rfl⟩, _⟩ := h <;> rfl
  · refine ⟨_, (pss_cons (ps_if (pt_val (pe_callB call_isiT (by rfl) T.zisinstance (by decide +kernel) (pa_cons (pv 1) (pa_cons (pe_tup (pa_cons (pe_bltn (v := .ty "list") (u := .type "list") (by rfl) T.zlist (by decide +kernel) rfl) (pa_cons (pe_bltn (v := .ty "tuple") (u := .type "tuple") (by rfl) T.ztuple (by decide +kernel) rfl) pa_nil))) pa_nil)))) pss_never pss_nil)
    (pss_cons (ps_if (PW.pt (pw_or (pt_cmp (pc_isN (pv 1))) (pw_or1 (pt_val (pe_callB call_isiT (by rfl) T.zisinstance (by decide +kernel) (pa_cons (pv 1) (pa_cons (pe_tup (pa_cons (pe_bltn (v := .ty "str") (u := .type "str") (by rfl) T.zstr (by decide +kernel) rfl) (pa_cons (pe_bltn (v := .ty "bool") (u := .type "bool") (by rfl) T.zbool (by decide +kernel) rfl) pa_nil))) pa_nil))))))) (pss_one (ps_ret (pe_and (pe_cmpR op_eq (pe_callB call_isi (by rfl) T.zisinstance (by decide +kernel) (pa_cons (pv 0) (pa_cons (pe_bltn (v := .ty "bool") (u := .type "bool") (by rfl) T.zbool (by decide +kernel) rfl) pa_nil))) (pe_callB call_isi (by rfl) T.zisinstance (by decide +kernel) (pa_cons (pv 1) (pa_cons (pe_bltn (v := .ty "bool") (u := .type "bool") (by rfl) T.zbool (by decide +kernel) rfl) pa_nil))) (nomark _)) (pe_one (pe_cmpR op_eq (pv 0) (pv 1) (nomark _)))))) pss_nil)
    (pss_one (ps_ret (pe_and (pe_callB call_isi (by rfl) T.zisinstance (by decide +kernel) (pa_cons (pv 0) (pa_cons (pe_bltn (v := .ty "int") (u := .type "int") (by rfl) T.zint (by decide +kernel) rfl) pa_nil))) (pe_and (pe_not (pe_callB call_isi (by rfl) T.zisinstance (by decide +kernel) (pa_cons (pv 0) (pa_cons (pe_bltn (v := .ty "bool") (u := .type "bool") (by rfl) T.zbool (by decide +kernel) rfl) pa_nil)))) (pe_one (pe_cmpR op_eq (pv 0) (pv 1) (nomark _))))))))), ?_⟩
    obtain ⟨⟨i, rfl⟩ | ⟨b, rfl⟩, q⟩ := h
    · refine ⟨_, rfl, (by show 2 ≤ sizeLine; decide), fun d hd => ?_⟩
      refine ⟨_, d, _, _, _, false, rfl, upd_same, .cons (.ty "list") (.cons (.ty "tuple") .nil), .base (.int i), kitNo (kit_ty kt1) (kit_ty kt2), false, rfl, iteF ?_⟩
      refine ⟨_, rfl, false, rfl, iteF ?_⟩
      refine ⟨_, rfl, (by show 2 ≤ sizeLine; decide), fun d2 hd2 => ?_⟩
      refine ⟨_, d2, _, _, _, false, rfl, upd_same, .cons (.ty "str") (.cons (.ty "bool") .nil), .base (.int i), kitNo (kit_ty kt3) (kit_ty kit2), false, rfl, iteF ?_⟩
      refine ⟨_, rfl, _, _, _, _, true, rfl, .ty "int", .base (.int i), kit_ty kit1, true, rfl, iteT ?_⟩
      refine ⟨_, rfl, _, _, _, _, false, rfl, .ty "bool", .base (.int i), kit_ty kit2, false, rfl, true, rfl, iteT ?_⟩
      refine ⟨_, rfl, _, rfl, rfl, ?_⟩
      rw [decide_eq_true (rfl : V.int i = V.int i)]
      exact q _ ((same_new hd).trans (same_new hd2))
    · refine ⟨_, rfl, (by show 2 ≤ sizeLine; decide), fun d hd => ?_⟩
      refine ⟨_, d, _, _, _, false, rfl, upd_same, .cons (.ty "list") (.cons (.ty "tuple") .nil), .base (.bl b), kitNo (kit_ty kt4) (kit_ty kt5), false, rfl, iteF ?_⟩
      refine ⟨_, rfl, false, rfl, iteF ?_⟩
      refine ⟨_, rfl, (by show 2 ≤ sizeLine; decide), fun d2 hd2 => ?_⟩
      refine ⟨_, d2, _, _, _, true, rfl, upd_same, .cons (.ty "str") (.cons (.ty "bool") .nil), .base (.bl b), kitSnd (kit_ty kt6) (kit_ty kt7), true, rfl, iteT ?_⟩
      refine ⟨_, rfl, _, _, _, _, true, rfl, .ty "bool", .base (.bl b), kit_ty kt7, ?_⟩
      refine ⟨_, rfl, _, _, _, _, true, rfl, .ty "bool", .base (.bl b), kit_ty kt7, rfl, true, rfl, iteT ?_⟩
      refine ⟨_, rfl, _, rfl, rfl, ?_⟩
      rw [decide_eq_true (rfl : V.bl b = V.bl b)]
      exact q _ ((same_new hd).trans (same_new hd2))
/-! ### _law_same, of two lists of the same numbers -/
def spSameL : Sp := fun vs H Q _ => ∃ (a b : Addr) (ns : List Int), vs = [.ref a, .ref b] ∧ H a = some (.lst (ns.map V.int)) ∧ H b = some (.lst (ns.map V.int)) ∧ ns.length ≤ 1000 ∧ ∀ H', Same H H' → Q (.bl true) H'
theorem ok_sameL {f : Addr} {fd : FuncData} (F : Fun K "_law_same" "_law_same" sLsame f fd) (T : Txt mg tM tL) (DLsame : Df P w K mg base "_law_same" 1 ["_law_found", "_law_due"] spSame1) : FnOk P w K mg base CX0 2 f fd ["_law_found", "_law_due"] spSameL := by
  refine F.ok scLsame (fun vs H Q E h => ?_) (fun cdv A outer s H vs Q E hr h => ?_)
  · obtain ⟨a, b, ns, rfl, _⟩ := h
    rfl
  · obtain ⟨a, b, ns, rfl, ha, hb, hn, q⟩ := h
    refine ⟨_, (pss_cons (ps_if (pt_val (pe_callB call_isiT (by rfl) T.zisinstance (by decide +kernel) (pa_cons (pv 1) (pa_cons (pe_tup (pa_cons (pe_bltn (v := .ty "list") (u := .type "list") (by rfl) T.zlist (by decide +kernel) rfl) (pa_cons (pe_bltn (v := .ty "tuple") (u := .type "tuple") (by rfl) T.ztuple (by decide +kernel) rfl) pa_nil))) pa_nil)))) (pss_cons (ps_if (PW.pt (pw_or (pt_cmpR op_ne (pe_callB call_isi (by rfl) T.zisinstance (by decide +kernel) (pa_cons (pv 0) (pa_cons (pe_bltn (v := .ty "list") (u := .type "list") (by rfl) T.zlist (by decide +kernel) rfl) pa_nil))) (pe_callB call_isi (by rfl) T.zisinstance (by decide +kernel) (pa_cons (pv 1) (pa_cons (pe_bltn (v := .ty "list") (u := .type "list") (by rfl) T.zlist (by decide +kernel) rfl) pa_nil))) (nomark _)) (pw_or1 (pt_cmpR op_ne (pe_callB call_isi (by rfl) T.zisinstance (by decide +kernel) (pa_cons (pv 0) (pa_cons (pe_bltn (v := .ty "tuple") (u := .type "tuple") (by rfl) T.ztuple (by decide +kernel) rfl) pa_nil))) (pe_callB call_isi (by rfl) T.zisinstance (by decide +kernel) (pa_cons (pv 1) (pa_cons (pe_bltn (v := .ty "tuple") (u := .type "tuple") (by rfl) T.ztuple (by decide +kernel) rfl) pa_nil))) (nomark _))))) (pss_one (ps_ret pe_bl)) pss_nil)
    (pss_one (ps_ret (pe_and (pe_cmp (pc_eqI (pe_callB call_len_seq (by rfl) T.zlen (by decide +kernel) (pa_cons (pv 0) pa_nil)) (pe_callB call_len_seq (by rfl) T.zlen (by decide +kernel) (pa_cons (pv 1) pa_nil)))) (pe_one (pe_callB (cr_all rfl) (by rfl) T.zall (by decide +kernel) (pa_cons (pe_lc (own := [("_law_one", 2), ("_law_other", 3)]) (g := gTup K 2 (gCons (gName 2) (gCons (gName 3) gNil))) (tt := tYes) (by rfl) scLsame.nd (RZ.pi_zipA (by rfl) T.zzip (pa_cons (pv 0) (pa_cons (pv 1) pa_nil))) (blkOk_by (own := [("_law_one", 2), ("_law_other", 3)]) (N := ["_law_found", "_law_due", "_law_one", "_law_other"]) (sc := defScope sLsame) (by decide +kernel)) (fun _ _ _ _ _ => (pg_tup rfl (pgs_cons (pg_name (i := 2) scLsame.nd rfl (Or.inl rfl)) (pgs_cons (pg_name (i := 3) scLsame.nd rfl (Or.inl rfl)) pgs_nil)))) (fun _ _ _ _ _ => pts_nil) (fun _ _ _ _ _ => (pe_fn DLsame (hr.mono (by decide)) (pa_cons (pv 2) (pa_cons (pv 3) pa_nil))))) pa_nil))))))) pss_nil)
    pss_never), ?_⟩
    refine ⟨_, rfl, (by show 2 ≤ sizeLine; decide), fun d hd => ?_⟩
    have s0 : Same H (upd H d (.tup [.ty "list", .ty "tuple"])) := same_new hd
    have ha0 := s0 _ _ ha
    have hb0 := s0 _ _ hb
    refine ⟨_, d, _, _, _, true, rfl, upd_same, .cons (.ty "list") (.cons (.ty "tuple") .nil), .base (.lst hb0), kitFst (kit_ty kt8), true, rfl, iteT ?_⟩
    generalize upd H d (.tup [.ty "list", .ty "tuple"]) = H0 at s0 ha0 hb0
    show tSeq _ _ _ _ _
    refine ⟨_, rfl, _, _, _, _, true, rfl, .ty "list", .base (.lst ha0), kit_ty kt8, ?_⟩
    refine ⟨_, rfl, _, _, _, _, true, rfl, .ty "list", .base (.lst hb0), kit_ty kt8, rfl, false, rfl, iteF ?_⟩
    refine ⟨_, rfl, _, _, _, _, false, rfl, .ty "tuple", .base (.lst ha0), kit_ty kt9, ?_⟩
    refine ⟨_, rfl, _, _, _, _, false, rfl, .ty "tuple", .base (.lst hb0), kit_ty kt9, rfl, false, rfl, iteF ?_⟩
    refine ⟨_, rfl, a, _, rfl, .inl (SqL.of ha0), _, rfl, b, _, rfl, .inl (SqL.of hb0), _, _, rfl, rfl, _, rfl, iteD (fun _ => ?_) (fun c => absurd rfl c)⟩
    refine ⟨_, rfl, _, rfl, a, b, _, _, rfl, .inl ⟨SqL.of ha0, SqL.of hb0, fun D hD => ?_⟩⟩
    refine lc_zipL (K := K) (a := a) (b := b) (xs := ns.map V.int) (ys := ns.map V.int) rfl (fun i H' => H' D = some (.lst ((List.replicate i true).map V.bl)) ∧ Same H0 H')
      ⟨upd_same, same_new hD⟩ (fun i H' ⟨_, s⟩ => ⟨SqL.of (s _ _ ha0), SqL.of (s _ _ hb0)⟩) ?_ ?_
    · rintro i x y T' H' hx hy ⟨hd', s1⟩ hT'
      obtain ⟨n, hn1, rfl⟩ := map_int hx
      obtain rfl : V.int n = y := Option.some.inj (hx.symm.trans hy)
      have hil : i < ns.length := (List.getElem?_eq_some_iff.mp hn1).1
      have nDT : D ≠ T' := ne_of_none hd' hT'
      have s2 : Same H0 (upd H' T' (.tup [.int n, .int n])) := s1.trans (same_new hT')
      refine ⟨T', _, rfl, SqT.of upd_same, rfl, _, _, rfl, _, _, rfl, rfl, rfl, ?_⟩
      refine ⟨_, rfl, _, rfl, .inl ⟨n, rfl⟩, fun H3 s3 => ⟨_, s3 _ _ (by rw [upd_ne nDT]; exact hd'), ?_, ?_, ?_⟩⟩
      · rw [List.length_map, List.length_replicate]
        exact Nat.lt_of_lt_of_le (show i < 1000 by omega) (by decide)
      · rw [upd_same, ← rep_snoc, List.map_append]
        rfl
      · intro c o e
        rw [upd_ne (ne_of_none e hD)]
        exact s3 _ _ (s2 _ _ e)
    · rintro H' ⟨hd', s1⟩
      refine ⟨D, _, rfl, SqL.of hd', ?_⟩
      rw [all_rep]
      exact q _ (s0.trans s1)
end
end HP
namespace HP
open PySem L2
section
variable {P : Program} {w : World} {K : PySem.W.Frag} {mg : Str → Option Value} {base : Heap} {tM tL : Tok}
/-! ### _law_about -/
def GoodPs (L : List (Int × Int)) : Prop := ∀ q ∈ L, GoodP q.1 q.2
def spAbout : Sp := fun vs H Q _ => ∃ (t tk hd : Addr) (c : Int) (ts hs : List Int), vs = [.ref t, .ref tk, .ref hd] ∧ TapeAt H t c ∧ c ≤ 90000 ∧ H tk = some (.tup (ts.map V.int)) ∧ H hd = some (.tup (hs.map V.int)) ∧ Four ts 1000000 ∧ Four hs 4 ∧
  ∀ (p : Addr) (xs : List V) (L : List (Int × Int)) (H' : Hp), L.length = 3 → GoodPs L → H' p = some (.lst xs) → PairsAt H' xs L → TapeAt H' t (c + 3) → SameBut t H H' → Q (.ref p) H'
abbrev sLabout : Stmt := top 31
theorem scLabout : FnScope ["_law_tape_here", "_law_takes_here", "_law_hands_here", "_law_kind", "_law_times", "_law_pieces", "_law_just", "_law_more"] ["_law_tape_here", "_law_takes_here", "_law_hands_here"] (defScope sLabout) := ⟨rfl, rfl, rfl, by decide +kernel, rfl, by decide +kernel, by decide +kernel⟩
theorem at_mem {ns : List Int} {k : Int} (h0 : 0 ≤ k) (h1 : k < (ns.length : Int)) : ∃ z, atI (ns.map V.int) k = some (V.int z) ∧ z ∈ ns := by
  have hl : k.toNat < ns.length := by omega
  refine ⟨ns[k.toNat], at_of (j := k.toNat) (by omega) ?_, List.getElem_mem hl⟩
  rw [List.getElem?_map, List.getElem?_eq_getElem hl]
  rfl
theorem at2 {x y r : Int} (h0 : 0 ≤ r) (h1 : r < 2) : ∃ b : Int, atI [V.int x, V.int y] r = some (V.int b) ∧ (b = x ∨ b = y) := by
  have : r = 0 ∨ r = 1 := by omega
  rcases this with rfl | rfl
  · exact ⟨x, rfl, .inl rfl⟩
  · exact ⟨y, rfl, .inr rfl⟩
theorem ok_about {f : Addr} {fd : FuncData} (F : Fun K "_law_about" "_law_about" sLabout f fd) (T : Txt mg tM tL) (DLdraw : DDraw P w K mg base) : FnOk P w K mg base CX0 2 f fd ["_law_tape_here", "_law_takes_here", "_law_hands_here"] spAbout := by
  refine F.ok scLabout (fun vs H Q E h => ?_) (fun cdv A outer s H vs Q E hr h => ?_)
  · obtain ⟨t, tk, hd, c, ts, hs, rfl, _⟩ := h
    rfl
  · obtain ⟨t, tk, hd, c, ts, hs, rfl, hT, hc, htk, hhd, ⟨t4, tB⟩, ⟨h4, hB⟩, q⟩ := h
    refine ⟨_, (pss_cons (ps_par (i := 3) (j := 4) (by rfl) scLabout.nd rfl rfl (by decide) rfl rfl (pa_cons (pe_fn DLdraw (hr.mono (by decide)) (pa_cons (pv 0) (pa_cons pe_int pa_nil))) (pa_cons (pe_op op_add pe_int (pe_fn DLdraw (hr.mono (by decide)) (pa_cons (pv 0) (pa_cons pe_int pa_nil)))) pa_nil)) (by rfl))
    (pss_cons (ps_set (i := 5) scLabout.nd rfl (Or.inr rfl) (pe_ix ix_list (pe_lst (pa_cons (pe_ix ix_tup (pv 2) (pv 3) (fun _ _ => rfl)) (pa_cons (pv 4) pa_nil))) (pe_fn DLdraw (hr.mono (by decide)) (pa_cons (pv 0) (pa_cons pe_int pa_nil))) (fun _ _ => rfl)))
    (pss_cons (ps_set (i := 6) scLabout.nd rfl (Or.inr rfl) (pe_op op_fdivW (pe_op op_mul (pe_ix ix_tup (pv 1) (pv 3) (fun _ _ => rfl)) (pv 5)) (pe_ix ix_tup (pv 2) (pv 3) (fun _ _ => rfl))))
    (pss_one (ps_ret (pe_lc (own := [("_law_more", 7)]) (g := gName 7) (tt := tYes) (by rfl) scLabout.nd (pi_tup (pe_tup (pa_cons pe_int (pa_cons pe_int (pa_cons (pe_un un_neg pe_int) pa_nil))))) (blkOk_by (own := [("_law_more", 7)]) (N := ["_law_tape_here", "_law_takes_here", "_law_hands_here", "_law_kind", "_law_times", "_law_pieces", "_law_just", "_law_more"]) (sc := defScope sLabout) (by decide +kernel)) (fun _ _ _ _ _ => (pg_name (i := 7) scLabout.nd rfl (Or.inl rfl))) (fun _ _ _ _ _ => pts_nil) (fun _ _ _ _ _ => (pe_tup (pa_cons (pe_callB (call_min2 rfl) (by rfl) T.zmin (by decide +kernel) (pa_cons (pe_op op_pow pe_int pe_int) (pa_cons (pe_callB (call_max2 rfl) (by rfl) T.zmax (by decide +kernel) (pa_cons pe_int (pa_cons (pe_op op_add (pv 6) (pv 7)) pa_nil))) pa_nil))) (pa_cons (pv 5) pa_nil)))))))))), ?_⟩
    refine ⟨_, rfl, t, c, 4, rfl, hT, by omega, by decide, by decide, fun kd H1 a0 a1 T1 S1 => ?_⟩
    refine ⟨_, rfl, t, _, 6, rfl, T1, by omega, by decide, by decide, fun tm H2 b0 b1 T2 S2 => ?_⟩
    refine ⟨1, tm, rfl, rfl, _, _, rfl, ?_⟩
    have S12 := S1.trans S2
    have htk2 := S12.tup hT htk
    have hhd2 := S12.tup hT hhd
    obtain ⟨hh, ehh, mhh⟩ := at_mem (ns := hs) a0 (by rw [h4]; exact a1)
    obtain ⟨tt, ett, mtt⟩ := at_mem (ns := ts) a0 (by rw [t4]; exact a1)
    have bh := hB hh mhh
    have bt := tB tt mtt
    -- pieces
    refine ⟨_, rfl, _, rfl, hd, _, kd, .int hh, rfl, rfl, SqT.of hhd2, ehh, _, rfl, (by show 2 ≤ sizeLine; decide), fun d hd0 => ?_⟩
    refine ⟨_, rfl, t, _, 2, rfl, T2.new hd0, by omega, by decide, by decide, fun r H3 c0 c1 T3 S3 => ?_⟩
    obtain ⟨pc, epc, mpc⟩ := at2 (x := hh) (y := 1 + tm) c0 c1
    have bp : 1 ≤ pc ∧ pc ≤ 6 := by omega
    have S23 := S3.trans (Same.but (t := t) (Same.refl H3))
    have hd3 : H3 d = some (.lst [.int hh, .int (1 + tm)]) := S3 _ _ upd_same (T2.ne hd0)
    refine ⟨d, _, _, _, rfl, rfl, SqL.of hd3, epc, ?_⟩
    have SB3 : SameBut t H H3 := (S12.trans (Same.but (same_new hd0))).trans S3
    have htk3 := SB3.tup hT htk
    have hhd3 := SB3.tup hT hhd
    -- just
    refine ⟨_, rfl, _, rfl, tk, _, kd, .int tt, rfl, rfl, SqT.of htk3, ett, _, rfl, tt, pc, rfl, rfl, .inl ⟨by omega, by omega⟩, _, rfl, _, rfl, hd, _, kd, .int hh, rfl, rfl, SqT.of hhd3, ehh, _, hh, rfl, rfl, wd (by omega) (by omega), ?_⟩
    refine ⟨1, rfl, (by show 3 ≤ sizeLine; decide), fun tp htp => ⟨tp, rfl, ⟨_, SqT.of upd_same⟩, fun D hD => ?_⟩⟩
    have s4 : Same H3 (upd H3 tp (.tup [.int 0, .int 1, .int (-1)])) := same_new htp
    have h4tp : (upd H3 tp (.tup [.int 0, .int 1, .int (-1)])) tp = some (.tup [.int 0, .int 1, .int (-1)]) := upd_same
    have T4 := T3.same s4
    generalize upd H3 tp (.tup [.int 0, .int 1, .int (-1)]) = H4 at s4 h4tp hD T4
    refine lc_tup (K := K) (a := tp) (xs := [.int 0, .int 1, .int (-1)]) (fun i H' => ∃ (xs : List V) (L : List (Int × Int)), H' D = some (.lst xs) ∧ PairsAt H' xs L ∧ L.length = i ∧ GoodPs L ∧ Same H4 H')
      ⟨[], [], upd_same, .nil, rfl, (fun z hz => by cases hz), same_new hD⟩ (fun i H' _ ⟨_, _, _, _, _, _, h⟩ => SqT.of (h _ _ h4tp)) ?_ ?_
    · rintro i x H' hi ⟨xs, L, hd', hP, hl, hG, s5⟩
      obtain ⟨more, rfl⟩ : ∃ more : Int, x = .int more := by
        have := List.mem_of_getElem? hi
        simp only [List.mem_cons, List.not_mem_nil, or_false] at this
        rcases this with rfl | rfl | rfl <;> exact ⟨_, rfl⟩
      have hi3 : i < 3 := (List.getElem?_eq_some_iff.mp hi).1
      have e6 : (10 : Int) ^ (6 : Int).toNat = 1000000 := by decide
      refine ⟨rfl, ?_⟩
      refine ⟨10, 6, rfl, rfl, pow6, _, rfl, _, rfl, _, more, rfl, rfl, 1, _, rfl, _, _, rfl, _, rfl, (by show 2 ≤ sizeLine; decide), fun z hz => ?_⟩
      dsimp only
      generalize tt * pc / hh = just
      rw [e6]
      have nDz : D ≠ z := ne_of_none hd' hz
      refine ⟨_, (by rw [upd_ne nDz]; exact hd'), ?_, _, L ++ [((if (if 1 < just + more then just + more else 1) < 1000000 then (if 1 < just + more then just + more else 1) else 1000000), pc)], upd_same, ?_, ?_, ?_, ?_⟩
      · have := hP.len
        exact Nat.lt_of_lt_of_le (show xs.length < 3 by omega) (by decide)
      · refine PairsAt.snoc (hP.move fun a ys e => ?_) ?_
        · have n1 : a ≠ D := ne_of e hd' (by intro z; cases z)
          rw [upd_ne n1, upd_ne (ne_of_none e hz)]
          exact e
        · rw [upd_ne nDz.symm, upd_same]
      · rw [List.length_append, hl]
        rfl
      · intro p hp
        rcases List.mem_append.mp hp with h | h
        · exact hG p h
        · rw [List.mem_singleton] at h
          rw [h]
          refine ⟨?_, ?_, bp.1, bp.2⟩
          · show 1 ≤ _
            split <;> split <;> omega
          · show _ ≤ 1000000
            split <;> omega
      · intro b o e
        rw [upd_ne (ne_of_none e hD), upd_ne (ne_of_none (s5 _ _ e) hz)]
        exact s5 _ _ e
    · rintro H' ⟨xs, L, hd', hP, hl, hG, s5⟩
      exact q D xs L H' hl hG hd' hP ((T4.same s5).mono (by omega)) (SB3.trans (Same.but (s4.trans s5)))
end
end HP
namespace HP
open PySem L2
section
variable {P : Program} {w : World} {K : PySem.W.Frag} {mg : Str → Option Value} {base : Heap} {tM tL : Tok}
theorem dp_ints {K : PySem.W.Frag} {H : Hp} : ∀ ns : List Int, DpAll K H (ns.map V.int) (ns.map PyData.int)
  | [] => .nil
  | n :: ns => .cons (.int n) (dp_ints ns)
theorem eqv_ints (ns : List Int) : PyData.eqv (.list (ns.map PyData.int)) (.list (ns.map PyData.int)) = true := SeqAt.eqv_refl _ (SeqAt.canLay_of_shaped (PySem.W.ke_shaped_ints ns))
def spLaw (K : PySem.W.Frag) : Sp := fun vs H Q _ => ∃ (a : Addr) (ns : List Int), vs = [.ref a] ∧ SqL K H a (ns.map V.int) ∧ ns.length ≤ 63 ∧ ∀ H', Q (.bl true) H'
theorem e12 : (10 : Int) ^ (12 : Int).toNat = 1000000000000 := by decide
/-! ### _law_asked_right -/
def revV : List V → List V → List V := fun _ zs => zs.reverse
def rotV : List V → List V → List V := fun _ zs => zs.drop 2 ++ zs.take 2
def spAskedRight : Sp := fun vs H Q _ => ∃ (t pl : Addr) (c beats pieces : Int), vs = [.ref t, .ref pl] ∧ TapeAt H t c ∧ c ≤ 80000 ∧ H pl = some (.tup [.int beats, .int pieces]) ∧ GoodP beats pieces ∧
  ∀ H', TapeAt H' t (c + 10) → SameBut t H H' → Q (.bl true) H'
theorem asks_len (beats pieces first : Int) (n : Nat) : (asksL beats pieces n first).length = n := by
  unfold asksL
  rw [List.length_map, List.length_range]
theorem asks_less (beats pieces first : Int) (n : Nat) : (asksL beats pieces n first).map (fun x => x - first) = asksL beats pieces n 0 := by
  unfold asksL
  rw [List.map_map]
  refine List.map_congr_left fun i _ => ?_
  show askOf beats pieces (i : Int) first - first = askOf beats pieces (i : Int) 0
  unfold askOf
  omega
abbrev sLasked_right : Stmt := top 32
theorem scLasked_right : FnScope ["_law_tape_here", "_law_a_plan", "_law_a_first", "_law_numbers", "_law_a_number", "_law_due", "_law_handed", "_law_found", "_law_a_many", "_law_turn", "_law_one"] ["_law_tape_here", "_law_a_plan"] (defScope sLasked_right) := ⟨rfl, rfl, rfl, by decide +kernel, rfl, by decide +kernel, by decide +kernel⟩
theorem ok_asked_right {f : Addr} {fd : FuncData} (F : Fun K "_law_asked_right" "_law_asked_right" sLasked_right f fd) (T : Txt mg tM tL) (DLdraw : DDraw P w K mg base)
    (DLasked : Df P w K mg base "_law_asked" 1 ["_law_a_plan", "_law_a_number", "_law_a_first"] spAsked) (DLsameL : Df P w K mg base "_law_same" 2 ["_law_found", "_law_due"] spSameL)
    (Dasked_at : Df P w K mg base "asked_at" 1 ["plan", "number", "first"] (spAskedAt true)) (Dasked_atK3 : DfK P w K mg base "asked_at" 1 ["plan", "number", "first"] ["first", "number", "plan"] revV (spAskedAt false)) (Dasked_atD : DfD P w K mg base "asked_at" 1 ["plan", "number", "first"] [.int 0] (spAskedAt true))
    (Dasks_of : Df P w K mg base "asks_of" 2 ["plan", "many", "first"] (spAsksOf true)) (Dasks_ofK3 : DfK P w K mg base "asks_of" 2 ["plan", "many", "first"] ["many", "first", "plan"] rotV (spAsksOf false)) (Dasks_ofD : DfD P w K mg base "asks_of" 2 ["plan", "many", "first"] [.int 0] (spAsksOf true)) :
    FnOk P w K mg base CX0 3 f fd ["_law_tape_here", "_law_a_plan"] spAskedRight := by
  refine F.ok scLasked_right (fun vs H Q E h => ?_) (fun cdv A outer s H vs Q E hr h => ?_)
  · obtain ⟨t, pl, c, beats, pieces, rfl, _⟩ := h
    rfl
  · obtain ⟨t, pl, c, beats, pieces, rfl, hT, hc, hpl, G, q⟩ := h
    refine ⟨_, (pss_cons (ps_set (i := 2) scLasked_right.nd rfl (Or.inr rfl) (pe_ix ix_list (pe_lst (pa_cons pe_int (pa_cons (pe_fn DLdraw (hr.mono (by decide)) (pa_cons (pv 0) (pa_cons pe_int pa_nil))) (pa_cons (pe_fn DLdraw (hr.mono (by decide)) (pa_cons (pv 0) (pa_cons (pe_op op_pow pe_int pe_int) pa_nil))) pa_nil)))) (pe_fn DLdraw (hr.mono (by decide)) (pa_cons (pv 0) (pa_cons pe_int pa_nil))) (fun _ _ => rfl)))
    (pss_cons (ps_set (i := 3) scLasked_right.nd rfl (Or.inl rfl) (pe_lst (pa_cons pe_int (pa_cons pe_int (pa_cons (pe_ix ix_tup (pv 1) pe_int (fun _ _ => rfl)) (pa_cons (pe_op op_sub (pe_ix ix_tup (pv 1) pe_int (fun _ _ => rfl)) pe_int) (pa_cons (pe_fn DLdraw (hr.mono (by decide)) (pa_cons (pv 0) (pa_cons pe_int pa_nil))) (pa_cons (pe_fn DLdraw (hr.mono (by decide)) (pa_cons (pv 0) (pa_cons (pe_op op_pow pe_int pe_int) pa_nil))) (pa_cons (pe_op op_pow pe_int pe_int) pa_nil)))))))))
    (pss_cons (ps_for PassesOwn.never rfl (pi_list (pv 3)) (pg_name (i := 4) scLasked_right.nd rfl (Or.inl rfl))
    (pss_cons (ps_par (i := 5) (j := 6) (by rfl) scLasked_right.nd rfl rfl (by decide) rfl rfl (pa_cons (pe_fn DLasked (hr.mono (by decide)) (pa_cons (pv 1) (pa_cons (pv 4) (pa_cons (pv 2) pa_nil)))) (pa_cons (pe_lst (pa_cons (pe_ix ix_tup (pv 1) pe_int (fun _ _ => rfl)) (pa_cons (pe_ix ix_tup (pv 1) pe_int (fun _ _ => rfl)) pa_nil))) pa_nil)) (by rfl))
    (pss_cons (ps_set (i := 7) scLasked_right.nd rfl (Or.inl rfl) (pe_lst (pa_cons (pe_fn Dasked_at (hr.mono (by decide)) (pa_cons (pv 1) (pa_cons (pv 4) (pa_cons (pv 2) pa_nil)))) (pa_cons (pe_fnK Dasked_atK3 (hr.mono (by decide)) (pk_cons (pv 2) (pk_cons (pv 4) (pk_cons (pv 6) pk_nil)))) pa_nil))))
    (pss_cons (ps_expr (pe_bm PySem.F.plainAttrs_list PySem.F.slot_list_append PySem.F.type_list_append mt_append (pv 7) (pa_cons (pe_op op_add (pe_fnD Dasked_atD (hr.mono (by decide)) (pa_cons (pv 1) (pa_cons (pv 4) pa_nil))) (pv 2)) pa_nil)))
    (pss_one (ps_if (PW.pt (pw_or (pt_not (pt_val (pe_fn DLsameL (hr.mono (by decide)) (pa_cons (pv 7) (pa_cons (pe_lst (pa_cons (pv 5) (pa_cons (pv 5) (pa_cons (pv 5) pa_nil)))) pa_nil))))) (pw_or1 (pt_cmpR (op_neD hr.units) (pv 6) (pe_lst (pa_cons (pe_ix ix_tup (pv 1) pe_int (fun _ _ => rfl)) (pa_cons (pe_ix ix_tup (pv 1) pe_int (fun _ _ => rfl)) pa_nil))) (nomark _))))) (pss_one (ps_ret pe_bl)) pss_nil))))))
    (pss_cons (ps_set (i := 8) scLasked_right.nd rfl (Or.inl rfl) (pe_ix ix_list (pe_lst (pa_cons pe_int (pa_cons pe_int (pa_cons pe_int (pa_cons (pe_fn DLdraw (hr.mono (by decide)) (pa_cons (pv 0) (pa_cons pe_int pa_nil))) pa_nil))))) (pe_fn DLdraw (hr.mono (by decide)) (pa_cons (pv 0) (pa_cons pe_int pa_nil))) (fun _ _ => rfl)))
    (pss_cons (ps_setLc (i := 5) (own := [("_law_a_number", 4)]) (g := gName 4) (tt := tYes) (by rfl) scLasked_right.nd rfl rfl (sw_true rfl rfl rfl (by decide +kernel)) (pi_range1 (by rfl) T.zrange (pa_cons (pv 8) pa_nil)) (blkOk_by (own := [("_law_a_number", 4)]) (N := ["_law_tape_here", "_law_a_plan", "_law_a_first", "_law_numbers", "_law_a_number", "_law_due", "_law_handed", "_law_found", "_law_a_many", "_law_turn", "_law_one"]) (sc := defScope sLasked_right) (by decide +kernel)) (fun _ _ _ _ _ => (pg_name (i := 4) scLasked_right.nd rfl (Or.inl rfl))) (fun _ _ _ _ _ => pts_nil) (fun _ _ _ _ _ => (pe_fn DLasked (hr.mono (by decide)) (pa_cons (pv 1) (pa_cons (pv 4) (pa_cons (pv 2) pa_nil))))))
    (pss_cons (ps_for PassesOwn.never rfl (pi_range1 (by rfl) T.zrange (pa_cons pe_int pa_nil)) (pg_name (i := 9) scLasked_right.nd rfl (Or.inl rfl))
    (pss_cons (ps_set (i := 7) scLasked_right.nd rfl (Or.inl rfl) (pe_fn Dasks_of (hr.mono (by decide)) (pa_cons (pv 1) (pa_cons (pv 8) (pa_cons (pv 2) pa_nil)))))
    (C8.pss_cut (ps_if (pt_cmp (pc_eqI (pv 9) pe_int)) (pss_one (ps_set (i := 7) scLasked_right.nd rfl (Or.inl rfl) (pe_fnK Dasks_ofK3 (hr.mono (by decide)) (pk_cons (pv 8) (pk_cons (pv 2) (pk_cons (pe_callTy call_list_of (by rfl) T.zlist (by decide +kernel) (pa_cons (pv 1) pa_nil)) pk_nil)))))) pss_nil)
    (pss_cons (ps_if (pt_not (pt_val (pe_fn DLsameL (hr.mono (by decide)) (pa_cons (pv 7) (pa_cons (pv 5) pa_nil))))) (pss_one (ps_ret pe_bl)) pss_nil)
    (pss_cons (ps_expr (pe_bm PySem.F.plainAttrs_list PySem.F.slot_list_append PySem.F.type_list_append mt_append (pv 7) (pa_cons pe_int pa_nil)))
    (pss_one (ps_expr (pe_bm0 PySem.F.plainAttrs_list PySem.F.slot_list_reverse PySem.F.type_list_reverse mt_reverse (pv 7)))))))))
    (pss_one (ps_ret (pe_fn DLsameL (hr.mono (by decide)) (pa_cons (pe_fnD Dasks_ofD (hr.mono (by decide)) (pa_cons (pv 1) (pa_cons (pv 8) pa_nil))) (pa_cons (pe_lc (own := [("_law_one", 10)]) (g := gName 10) (tt := tYes) (by rfl) scLasked_right.nd (pi_list (pv 5)) (blkOk_by (own := [("_law_one", 10)]) (N := ["_law_tape_here", "_law_a_plan", "_law_a_first", "_law_numbers", "_law_a_number", "_law_due", "_law_handed", "_law_found", "_law_a_many", "_law_turn", "_law_one"]) (sc := defScope sLasked_right) (by decide +kernel)) (fun _ _ _ _ _ => (pg_name (i := 10) scLasked_right.nd rfl (Or.inl rfl))) (fun _ _ _ _ _ => pts_nil) (fun _ _ _ _ _ => (pe_op op_sub (pv 10) (pv 2)))) pa_nil))))))))))), ?_⟩
    have G' := G
    obtain ⟨b1, b2, p1, p2⟩ := G'
    -- first
    refine ⟨_, rfl, t, c, 100, rfl, hT, by omega, by decide, by decide, fun r1 H1 a0 a1 T1 S1 => ?_⟩
    refine ⟨_, rfl, 10, 12, rfl, rfl, pow12, t, _, _, rfl, T1, by omega, by rw [e12]; decide, by rw [e12]; decide, fun r2 H2 a2 a3 T2 S2 => ?_⟩
    refine ⟨(by show 3 ≤ sizeLine; decide), fun d hd => ?_⟩
    refine ⟨_, rfl, t, _, 3, rfl, T2.new hd, by omega, by decide, by decide, fun r3 H3 a4 a5 T3 S3 => ?_⟩
    obtain ⟨first, hf, -⟩ := at3 (x := 0) (y := r1) (z := r2) a4 a5
    have hd3 : H3 d = some (.lst [.int 0, .int r1, .int r2]) := S3 _ _ upd_same (T2.ne hd)
    refine ⟨d, _, _, _, rfl, rfl, SqL.of hd3, hf, ?_⟩
    have SB3 : SameBut t H H3 := ((S1.trans S2).trans (Same.but (same_new hd))).trans S3
    have hpl3 := SB3.tup hT hpl
    -- numbers
    refine ⟨_, rfl, pl, _, 1, _, rfl, rfl, SqT.of hpl3, rfl, _, rfl, pl, _, 1, _, rfl, rfl, SqT.of hpl3, rfl, pieces, 1, rfl, rfl, ?_⟩
    refine ⟨_, rfl, t, _, 200, rfl, T3, by omega, by decide, by decide, fun r4 H4 a6 a7 T4 S4 => ?_⟩
    refine ⟨_, rfl, 10, 12, rfl, rfl, pow12, t, _, _, rfl, T4, by omega, by rw [e12]; decide, by rw [e12]; decide, fun r5 H5 a8 a9 T5 S5 => ?_⟩
    refine ⟨10, 12, rfl, rfl, pow12, (by show 7 ≤ sizeLine; decide), fun nl hnl => ?_⟩
    dsimp only
    rw [e12] at a9 ⊢
    have SB5 : SameBut t H H5 := (SB3.trans S4).trans S5
    have hpl5 := SB5.tup hT hpl
    generalize hns : ([0, 1, pieces, pieces - 1, r4, r5, 1000000000000] : List Int) = ns
    have hnsB : ∀ n ∈ ns, 0 ≤ n ∧ n ≤ 1000000000000 := by
      rw [← hns]
      intro n hn
      simp only [List.mem_cons, List.not_mem_nil, or_false] at hn
      omega
    have hnl6 : (upd H5 nl (.lst [.int 0, .int 1, .int pieces, .int (pieces - 1), .int r4, .int r5, .int 1000000000000])) nl = some (.lst (ns.map V.int)) := by
      rw [upd_same, ← hns]
      rfl
    have s6 : Same H5 (upd H5 nl (.lst [.int 0, .int 1, .int pieces, .int (pieces - 1), .int r4, .int r5, .int 1000000000000])) := same_new hnl
    generalize upd H5 nl (.lst [.int 0, .int 1, .int pieces, .int (pieces - 1), .int r4, .int r5, .int 1000000000000]) = H6 at hnl6 s6
    have hpl6 := s6 _ _ hpl5
    have T6 := T5.same s6
    have SB6 : SameBut t H H6 := SB5.trans (Same.but s6)
    -- for number in numbers
    refine ⟨_, rfl, nl, rfl, ⟨_, SqL.of hnl6⟩, ?_⟩
    refine for_list (K := K) (a := nl) (xs := ns.map V.int) (fun i σ H' => ∃ (v4 v5 v6 v7 v8 v9 v10 : Option V), σ = [some (.ref t), some (.ref pl), some (.int first), some (.ref nl), v4, v5, v6, v7, v8, v9, v10] ∧ Same H6 H')
      ⟨_, _, _, _, _, _, _, rfl, Same.refl _⟩ (fun i σ H' _ ⟨_, _, _, _, _, _, _, _, s⟩ => SqL.of (s _ _ hnl6)) ?_ ?_
    · rintro i x σ H' hi ⟨v4, v5, v6, v7, v8, v9, v10, rfl, s7⟩
      obtain ⟨n, hn, rfl⟩ := map_int hi
      obtain ⟨n0, n1⟩ := hnsB n (List.mem_of_getElem? hn)
      -- due, handed
      refine ⟨_, rfl, _, rfl, _, rfl, pl, beats, pieces, n, first, rfl, s7 _ _ hpl6, G, n0, n1, fun H8 s8 => ?_⟩
      have s78 := s7.trans s8
      refine ⟨_, rfl, pl, _, 0, _, rfl, rfl, SqT.of (s78 _ _ hpl6), rfl, _, rfl, pl, _, 1, _, rfl, rfl, SqT.of (s78 _ _ hpl6), rfl, (by show 2 ≤ sizeLine; decide), fun ha hha => ⟨_, _, rfl, ?_⟩⟩
      have s9 : Same H6 (upd H8 ha (.lst [.int beats, .int pieces])) := s78.trans (same_new hha)
      have hha9 : (upd H8 ha (.lst [.int beats, .int pieces])) ha = some (.lst [.int beats, .int pieces]) := upd_same
      generalize upd H8 ha (.lst [.int beats, .int pieces]) = H9 at s9 hha9
      -- found
      refine ⟨_, rfl, _, rfl, _, rfl, pl, beats, pieces, n, first, rfl, s9 _ _ hpl6, G, ?_⟩
      refine ⟨_, rfl, _, rfl, _, rfl, rfl, ha, beats, pieces, n, first, rfl, hha9, G, (by show 2 ≤ sizeLine; decide), fun fo hfo => ?_⟩
      have s10 : Same H9 (upd H9 fo (.lst [.int (askOf beats pieces n first), .int (askOf beats pieces n first)])) := same_new hfo
      refine ⟨_, rfl, .inl ⟨rfl, _, SqL.of upd_same⟩, ?_⟩
      refine ⟨_, rfl, _, rfl, pl, beats, pieces, n, 0, rfl, s10 _ _ (s9 _ _ hpl6), G, _, rfl, _, first, rfl, rfl, ?_⟩
      have ef : askOf beats pieces n 0 + first = askOf beats pieces n first := by
        unfold askOf
        omega
      refine ⟨fo, _, .int (askOf beats pieces n first), rfl, by rw [← ef], upd_same, (by show 2 < sizeLine; decide), ?_⟩
      have s11 : Same H9 (upd (upd H9 fo (.lst [.int (askOf beats pieces n first), .int (askOf beats pieces n first)])) fo (.lst ([.int (askOf beats pieces n first), .int (askOf beats pieces n first)] ++ [.int (askOf beats pieces n first)]))) := by rw [upd_upd]; exact same_new hfo
      have hfo11 : (upd (upd H9 fo (.lst [.int (askOf beats pieces n first), .int (askOf beats pieces n first)])) fo (.lst ([.int (askOf beats pieces n first), .int (askOf beats pieces n first)] ++ [.int (askOf beats pieces n first)]))) fo = some (.lst ([(askOf beats pieces n first), (askOf beats pieces n first), (askOf beats pieces n first)].map V.int)) := upd_same
      refine ⟨_, rfl, _, rfl, _, rfl, _, rfl, (by show 3 ≤ sizeLine; decide), fun d3 hd3' => ?_⟩
      have s12 : Same (upd (upd H9 fo (.lst [.int (askOf beats pieces n first), .int (askOf beats pieces n first)])) fo (.lst ([.int (askOf beats pieces n first), .int (askOf beats pieces n first)] ++ [.int (askOf beats pieces n first)]))) (upd (upd (upd H9 fo (.lst [.int (askOf beats pieces n first), .int (askOf beats pieces n first)])) fo (.lst ([.int (askOf beats pieces n first), .int (askOf beats pieces n first)] ++ [.int (askOf beats pieces n first)]))) d3 (.lst [.int (askOf beats pieces n first), .int (askOf beats pieces n first), .int (askOf beats pieces n first)])) := same_new hd3'
      refine ⟨fo, d3, [(askOf beats pieces n first), (askOf beats pieces n first), (askOf beats pieces n first)], rfl, s12 _ _ hfo11, upd_same, (by show 3 ≤ 1000; decide), fun H13 s13 => ⟨true, rfl, iteF ?_⟩⟩
      have s913 : Same H9 H13 := (s11.trans s12).trans s13
      have hpl13 := s913 _ _ (s9 _ _ hpl6)
      refine ⟨_, rfl, _, rfl, pl, _, 0, _, rfl, rfl, SqT.of hpl13, rfl, _, rfl, pl, _, 1, _, rfl, rfl, SqT.of hpl13, rfl, (by show 2 ≤ sizeLine; decide), fun d4 hd4 => ?_⟩
      have s14 : Same H13 (upd H13 d4 (.lst [.int beats, .int pieces])) := same_new hd4
      refine ⟨_, _, .lst (SqL.of (s14 _ _ (s913 _ _ hha9))) (dp_ints [beats, pieces]), .lst (SqL.of upd_same) (dp_ints [beats, pieces]), PySem.W.ke_shaped_ints _, PySem.W.ke_shaped_ints _, ?_⟩
      rw [eqv_ints]
      refine ⟨false, rfl, iteF ?_⟩
      exact ⟨_, _, _, _, _, _, _, rfl, (s9.trans s913).trans s14⟩
    rintro σ H7 ⟨v4, v5, v6, v7, v8, v9, v10, rfl, s7⟩
    have T7 := T6.same s7
    have SB7 : SameBut t H H7 := SB6.trans (Same.but s7)
    have hpl7 := s7 _ _ hpl6
    -- many
    refine ⟨_, rfl, t, _, 201, rfl, T7, by omega, by decide, by decide, fun r6 H8 c0 c1 T8 S8 => ?_⟩
    refine ⟨(by show 4 ≤ sizeLine; decide), fun d5 hd5 => ?_⟩
    refine ⟨_, rfl, t, _, 4, rfl, T8.new hd5, by omega, by decide, by decide, fun r7 H9 c2 c3 T9 S9 => ?_⟩
    obtain ⟨many, hm, em⟩ := at4 (x := 0) (y := 1) (z := 200) (u := r6) c2 c3
    have hd59 : H9 d5 = some (.lst [.int 0, .int 1, .int 200, .int r6]) := S9 _ _ upd_same (T8.ne hd5)
    refine ⟨d5, _, _, _, rfl, rfl, SqL.of hd59, hm, ?_⟩
    have SB9 : SameBut t H H9 := ((SB7.trans S8).trans (Same.but (same_new hd5))).trans S9
    have hpl9 := SB9.tup hT hpl
    obtain ⟨mn, rfl⟩ : ∃ mn : Nat, many = (mn : Int) := ⟨many.toNat, by omega⟩
    have hmn : mn ≤ 200 := by omega
    -- due
    refine ⟨_, rfl, (mn : Int), rfl, by omega, by omega, fun D hD => ?_⟩
    refine lc_range (lo := 0) (n := ((mn : Int)).toNat) (fun i H' => H' D = some (.lst ((asksL beats pieces i first).map V.int)) ∧ Same H9 H') ⟨upd_same, same_new hD⟩ ?_ ?_
    · rintro i H' hi ⟨hd', s10⟩
      refine ⟨rfl, ?_⟩
      refine ⟨_, rfl, _, rfl, _, rfl, pl, beats, pieces, 0 + (i : Int), first, rfl, s10 _ _ hpl9, G, by omega, by omega, fun H11 s11 => ⟨_, s11 _ _ hd', ?_, ?_, ?_⟩⟩
      · rw [List.length_map, asks_len]
        exact Nat.lt_of_lt_of_le (show i < 1000 by omega) (by decide)
      · rw [upd_same, asks_more, List.map_append, show (0 : Int) + (i : Int) = (i : Int) by omega]
        rfl
      · intro b o e
        rw [upd_ne (ne_of_none e hD)]
        exact s11 _ _ (s10 _ _ e)
    rintro H10 ⟨hD10, s10⟩
    rw [show ((mn : Int)).toNat = mn by omega] at hD10
    have hpl10 := s10 _ _ hpl9
    have T10 := T9.same s10
    have SB10 : SameBut t H H10 := SB9.trans (Same.but s10)
    -- for turn in range(2)
    refine ⟨2, rfl, by decide, by decide, ?_⟩
    refine for_range (lo := 0) (n := (2 : Int).toNat) (fun i σ H' => ∃ (v4 v6 v7 v9 v10 : Option V), σ = [some (.ref t), some (.ref pl), some (.int first), some (.ref nl), v4, some (.ref D), v6, v7, some (.int (mn : Int)), v9, v10] ∧ Same H10 H')
      ⟨_, _, _, _, _, rfl, Same.refl _⟩ ?_ ?_
    · rintro i σ H' hi ⟨v4, v6, v7, v9, v10, rfl, s11⟩
      refine ⟨_, rfl, _, rfl, _, rfl, pl, beats, pieces, first, mn, rfl, s11 _ _ hpl10, G, by omega, fun r H12 hr0 hr12 s12 => ?_⟩
      have s112 := s11.trans s12
      refine ⟨fun σ' H' => ∃ (v4 v6 v9 v10 : Option V) (r : Addr), σ' = [some (.ref t), some (.ref pl), some (.int first), some (.ref nl), v4, some (.ref D), v6, some (.ref r), some (.int (mn : Int)), v9, v10] ∧ Same H10 H' ∧ H10 r = none ∧ H' r = some (.lst ((asksL beats pieces mn first).map V.int)), ?_, ?_⟩
      · refine ⟨_, rfl, _, 1, rfl, rfl, _, rfl, iteD (fun _ => ?_) (fun _ => ?_)⟩
        · refine ⟨_, rfl, _, rfl, _, rfl, pl, _, rfl, .inr (SqT.of (s112 _ _ hpl10)), fun l hl => ?_⟩
          refine ⟨rfl, l, beats, pieces, first, mn, rfl, upd_same, G, by omega, fun r' H13 hr0' hr13 s13 => ?_⟩
          have s113 : Same H10 (upd H12 l (.lst [.int beats, .int pieces])) := s112.trans (same_new hl)
          exact ⟨_, _, _, _, r', rfl, s113.trans s13, s113.free hr0', hr13⟩
        · exact ⟨_, _, _, _, r, rfl, s112, s11.free hr0, hr12⟩
      · rintro σ' H13 ⟨v4, v6, v9, v10, r', rfl, s13, hr0', hr13⟩
        refine ⟨_, rfl, _, rfl, r', D, asksL beats pieces mn first, rfl, hr13, s13 _ _ hD10, by rw [asks_len]; omega, fun H14 s14 => ⟨true, rfl, iteF ?_⟩⟩
        have hr14 := s14 _ _ hr13
        refine ⟨_, rfl, .inl ⟨rfl, _, SqL.of hr14⟩, r', _, _, rfl, rfl, hr14, ?_, ?_⟩
        · rw [List.length_map, asks_len]
          exact Nat.lt_of_lt_of_le (show mn < 1000 by omega) (by decide)
        refine ⟨_, rfl, .inl ⟨rfl, _, SqL.of upd_same⟩, r', _, rfl, rfl, upd_same, ?_⟩
        refine ⟨_, _, _, _, _, rfl, fun b o e => ?_⟩
        rw [upd_ne (ne_of_none e hr0'), upd_ne (ne_of_none e hr0')]
        exact s14 _ _ (s13 _ _ e)
    rintro σ H11 ⟨v4, v6, v7, v9, v10, rfl, s11⟩
    have hpl11 := s11 _ _ hpl10
    have hD11 := s11 _ _ hD10
    -- the last row
    refine ⟨_, rfl, _, rfl, pl, beats, pieces, 0, mn, rfl, hpl11, G, by omega, fun r H12 hr0 hr12 s12 => ?_⟩
    have hD12 := s12 _ _ hD11
    refine ⟨_, rfl, D, rfl, ⟨_, SqL.of hD12⟩, fun D2 hD2 => ?_⟩
    refine lc_list (K := K) (a := D) (xs := (asksL beats pieces mn first).map V.int) (fun i H' => H' D2 = some (.lst ((((asksL beats pieces mn first).take i).map (fun x => x - first)).map V.int)) ∧ Same H12 H')
      ⟨by rw [upd_same, List.take_zero]; rfl, same_new hD2⟩ (fun i H' _ ⟨_, h⟩ => SqL.of (h _ _ hD12)) ?_ ?_
    · rintro i x H' hi ⟨hd', s13⟩
      obtain ⟨n, hn, rfl⟩ := map_int hi
      have hil : i < (asksL beats pieces mn first).length := (List.getElem?_eq_some_iff.mp hn).1
      rw [asks_len] at hil
      refine ⟨rfl, ?_⟩
      refine ⟨_, rfl, _, rfl, n, first, rfl, rfl, _, hd', ?_, ?_, ?_⟩
      · rw [List.length_map, List.length_map, List.length_take, asks_len]
        exact Nat.lt_of_lt_of_le (show min i mn < 1000 by omega) (by decide)
      · rw [upd_same, take_more hn, List.map_append, List.map_append]
        rfl
      · intro b o e
        rw [upd_ne (ne_of_none e hD2)]
        exact s13 _ _ e
    rintro H13 ⟨hD2', s13⟩
    rw [List.length_map, List.take_length, asks_less] at hD2'
    refine ⟨r, D2, asksL beats pieces mn 0, rfl, s13 _ _ hr12, hD2', by rw [asks_len]; omega, fun H14 s14 => ?_⟩
    have sE : Same H10 H14 := ((s11.trans s12).trans s13).trans s14
    exact q H14 ((T10.same sE).mono (by omega)) (SB10.trans (Same.but sE))
end
end HP
namespace HP
open PySem L2
section
variable {P : Program} {w : World} {K : PySem.W.Frag} {mg : Str → Option Value} {base : Heap} {tM tL : Tok}
theorem PairsAt.append {H : Hp} {xs ys : List V} {L M : List (Int × Int)} (h : PairsAt H xs L) (g : PairsAt H ys M) : PairsAt H (xs ++ ys) (L ++ M) := by
  induction h with
  | nil => exact g
  | cons h1 _ ih => exact .cons h1 ih
theorem GoodPs.append {L M : List (Int × Int)} (h : GoodPs L) (g : GoodPs M) : GoodPs (L ++ M) := fun q hq => by
  rcases List.mem_append.mp hq with z | z
  · exact h q z
  · exact g q z
abbrev slaw : Stmt := top 33
theorem sclaw : FnScope ["_law_script", "_law_cells", "_law_k", "_law_tape_here", "_law_takes_here", "_law_hands_here", "_law_a_gang", "_law_plans", "_law_a_plan"] ["_law_script"] (defScope slaw) := ⟨rfl, rfl, rfl, by decide +kernel, rfl, by decide +kernel, by decide +kernel⟩
def swapV : List V → List V → List V := fun _ zs => zs.reverse
theorem ok_law {f C : Addr} {fd : FuncData} (F : Fun K "law" "law" slaw f fd) (T : Txt mg tM tL) (DLfolded : Df P w K mg base "_law_folded" 1 ["_law_script", "_law_a_many"] (spFolded K)) (DLtape : Df P w K mg base "_law_tape" 1 ["_law_script", "_law_k"] (spTape K)) (DLdraw : DDraw P w K mg base)
    (DLtakes : Df P w K mg base "_law_takes" 2 ["_law_tape_here", "_law_most"] spTakes) (DLhands : Df P w K mg base "_law_hands" 2 ["_law_tape_here"] spHands) (DLnames : Df P w K mg base "_law_names" 2 ["_law_tape_here", "_law_a_many"] spNames) (DG : DGk P w K mg base C)
    (DLplan : Df P w K mg base "_law_plan" 2 ["_law_tape_here"] spPlan) (DLabout : Df P w K mg base "_law_about" 2 ["_law_tape_here", "_law_takes_here", "_law_hands_here"] spAbout) (DLsame : Df P w K mg base "_law_same" 1 ["_law_found", "_law_due"] spSame1)
    (DLkept : Df P w K mg base "_law_kept" 1 ["_law_a_plan", "_law_takes_here", "_law_hands_here"] spKept) (Dkeeps : Df P w K mg base "keeps" 3 ["gang", "plan"] (spKeeps C true)) (DkeepsK2 : DfK P w K mg base "keeps" 3 ["gang", "plan"] ["plan", "gang"] revV (spKeeps C false))
    (DLasked_right : Df P w K mg base "_law_asked_right" 3 ["_law_tape_here", "_law_a_plan"] spAskedRight) : FnOk P w K mg base CX0 5 f fd ["_law_script"] (spLaw K) := by
  refine F.ok sclaw (fun vs H Q E h => ?_) (fun cdv A outer s H vs Q E hr h => ?_)
  · obtain ⟨a, ns, rfl, _⟩ := h
    rfl
  · obtain ⟨a, ns, rfl, hS, hn, q⟩ := h
    refine ⟨_, (C8.pss_cut (ps_set (i := 1) sclaw.nd rfl (Or.inl rfl) (pe_ifExp (pt_cmpR (op_neD hr.units) (pv 0) (pe_lst pa_nil) (nomark _)) (pe_fn DLfolded (hr.mono (by decide)) (pa_cons (pv 0) (pa_cons pe_int pa_nil))) (pe_lst (pa_cons pe_int pa_nil))))
    (pss_cons (ps_for PassesOwn.never rfl (pi_range1 (by rfl) T.zrange (pa_cons (pe_callB call_len_seq (by rfl) T.zlen (by decide +kernel) (pa_cons (pv 1) pa_nil)) pa_nil)) (pg_name (i := 2) sclaw.nd rfl (Or.inl rfl))
    (pss_cons (ps_set (i := 3) sclaw.nd rfl (Or.inr rfl) (pe_fn DLtape (hr.mono (by decide)) (pa_cons (pv 1) (pa_cons (pv 2) pa_nil))))
    (pss_cons (ps_par (i := 4) (j := 5) (by rfl) sclaw.nd rfl rfl (by decide) rfl rfl (pa_cons (pe_fn DLtakes (hr.mono (by decide)) (pa_cons (pv 3) (pa_cons (pe_ix ix_list (pe_lst (pa_cons pe_int (pa_cons (pe_op op_pow pe_int pe_int) pa_nil))) (pe_fn DLdraw (hr.mono (by decide)) (pa_cons (pv 3) (pa_cons pe_int pa_nil))) (fun _ _ => rfl)) pa_nil))) (pa_cons (pe_fn DLhands (hr.mono (by decide)) (pa_cons (pv 3) pa_nil)) pa_nil)) (by rfl))
    (pss_cons (ps_set (i := 6) sclaw.nd rfl (Or.inl rfl) (pe_gang (C := C) DG (hr.mono (by decide)) (pa_cons (pe_ix ix_list (pe_fn DLnames (hr.mono (by decide)) (pa_cons (pv 3) (pa_cons pe_int pa_nil))) pe_int (fun _ _ => rfl)) (pa_cons (pv 4) (pa_cons (pv 5) pa_nil)))))
    (pss_cons (ps_set (i := 7) sclaw.nd rfl (Or.inl rfl) (pe_lst (pa_cons (pe_fn DLplan (hr.mono (by decide)) (pa_cons (pv 3) pa_nil)) (pa_cons (pe_fn DLplan (hr.mono (by decide)) (pa_cons (pv 3) pa_nil)) pa_nil))))
    (pss_cons (ps_for PassesOwn.never rfl (pi_list (pe_op op_cat (pe_op op_cat (pv 7) (pe_fn DLabout (hr.mono (by decide)) (pa_cons (pv 3) (pa_cons (pv 4) (pa_cons (pv 5) pa_nil))))) (pe_fn DLabout (hr.mono (by decide)) (pa_cons (pv 3) (pa_cons (pv 4) (pa_cons (pv 5) pa_nil)))))) (pg_name (i := 8) sclaw.nd rfl (Or.inl rfl))
    (pss_cons (ps_if (pt_not (pt_val (pe_fn DLsame (hr.mono (by decide)) (pa_cons (pe_fn Dkeeps (hr.mono (by decide)) (pa_cons (pv 6) (pa_cons (pv 8) pa_nil))) (pa_cons (pe_fn DLkept (hr.mono (by decide)) (pa_cons (pv 8) (pa_cons (pv 4) (pa_cons (pv 5) pa_nil)))) pa_nil))))) (pss_one (ps_ret pe_bl)) pss_nil)
    (pss_one (ps_if (pt_not (pt_val (pe_fn DLsame (hr.mono (by decide)) (pa_cons (pe_fnK DkeepsK2 (hr.mono (by decide)) (pk_cons (pe_callTy call_list_of (by rfl) T.zlist (by decide +kernel) (pa_cons (pv 8) pa_nil)) (pk_cons (pv 6) pk_nil))) (pa_cons (pe_fn DLkept (hr.mono (by decide)) (pa_cons (pv 8) (pa_cons (pv 4) (pa_cons (pv 5) pa_nil)))) pa_nil))))) (pss_one (ps_ret pe_bl)) pss_nil))))
    (pss_one (ps_if (pt_not (pt_val (pe_callB (cr_all rfl) (by rfl) T.zall (by decide +kernel) (pa_cons (pe_lc (own := [("_law_a_plan", 8)]) (g := gName 8) (tt := tYes) (by rfl) sclaw.nd (pi_list (pv 7)) (blkOk_by (own := [("_law_a_plan", 8)]) (N := ["_law_script", "_law_cells", "_law_k", "_law_tape_here", "_law_takes_here", "_law_hands_here", "_law_a_gang", "_law_plans", "_law_a_plan"]) (sc := defScope slaw) (by decide +kernel)) (fun _ _ _ _ _ => (pg_name (i := 8) sclaw.nd rfl (Or.inl rfl))) (fun _ _ _ _ _ => pts_nil) (fun _ _ _ _ _ => (pe_fn DLasked_right (hr.mono (by decide)) (pa_cons (pv 3) (pa_cons (pv 8) pa_nil))))) pa_nil)))) (pss_one (ps_ret pe_bl)) pss_nil))))))))
    (pss_one (ps_ret pe_bl)))), ?_⟩
    -- _law_cells
    refine ⟨fun σ H1 => ∃ (pc : Addr) (cs : List Int), σ = [some (.ref a), some (.ref pc), none, none, none, none, none, none, none] ∧ H1 pc = some (.lst (cs.map V.int)) ∧ cs.length ≤ 6, ?_, ?_⟩
    · refine ⟨_, rfl, (by show 0 ≤ sizeLine; decide), fun d hd => ?_⟩
      have hS' : SqL K (upd H d (.lst [])) a (ns.map V.int) := Same.seq (same_new hd) hS
      refine ⟨_, _, .lst hS' (dp_ints ns), .lst (SqL.of upd_same) .nil, PySem.W.ke_shaped_ints ns, PySem.W.ke_shaped_ints [], _, rfl, ?_⟩
      refine ite2 (fun _ => ?_) (fun _ => ?_)
      · refine ⟨_, rfl, a, ns, 6, rfl, hS', by decide, by decide, hn, fun p cs H1 hp hl hc s1 => ?_⟩
        exact ⟨p, cs, rfl, hc, by omega⟩
      · refine ⟨(by show 1 ≤ sizeLine; decide), fun p hp => ?_⟩
        exact ⟨p, [0], rfl, upd_same, by decide⟩
    · rintro σ H1 ⟨pc, cs, rfl, hpc, hcs⟩
      refine ⟨_, rfl, pc, _, rfl, .inl (SqL.of hpc), _, rfl, ?_, ?_, ?_⟩
      · rw [List.length_map]; omega
      · rw [List.length_map]; omega
      refine for_range (lo := 0) (n := ((cs.map V.int).length : Int).toNat) (fun i σ H' => ∃ (v2 v3 v4 v5 v6 v7 v8 : Option V), σ = [some (.ref a), some (.ref pc), v2, v3, v4, v5, v6, v7, v8] ∧ H' pc = some (.lst (cs.map V.int)))
        ⟨_, _, _, _, _, _, _, rfl, hpc⟩ ?_ ?_
      · rintro i σ H2 hi ⟨v2, v3, v4, v5, v6, v7, v8, rfl, hpc2⟩
        rw [List.length_map] at hi
        -- the tape
        refine ⟨_, rfl, _, rfl, pc, cs, _, rfl, SqL.of hpc2, by omega, by omega, fun t H3 ht T3 s3 => ?_⟩
        have hpc3 := s3 _ _ hpc2
        have npc : pc ≠ t := ne_of_none hpc2 ht
        -- takes, hands
        refine ⟨_, rfl, 10, 6, rfl, rfl, pow6, (by show 2 ≤ sizeLine; decide), fun d hd => ?_⟩
        have e6 : (10 : Int) ^ (6 : Int).toNat = 1000000 := by decide
        refine ⟨_, rfl, t, 0, 2, rfl, T3.new hd, by decide, by decide, by decide, fun r1 H4 a0 a1 T4 S4 => ?_⟩
        obtain ⟨most, hm, em⟩ := at2 (x := 40) (y := (10 : Int) ^ (6 : Int).toNat) a0 a1
        rw [e6] at em
        refine ⟨d, _, _, _, rfl, rfl, SqL.of (S4 _ _ upd_same (T3.ne hd)), hm, ?_⟩
        have SB4 : SameBut t H3 H4 := (Same.but (same_new hd)).trans S4
        refine ⟨t, _, most, rfl, T4, by omega, by omega, by omega, fun tk ts H5 ft htk T5 S5 => ?_⟩
        refine ⟨_, rfl, t, _, rfl, T5, by omega, fun hd hs H6 fh hhd T6 S6 => ⟨_, _, rfl, ?_⟩⟩
        have ft' : Four ts 1000000 := ⟨ft.1, fun n hn => by have := ft.2 n hn; omega⟩
        have htk6 := S6.tup T5 htk
        have SB6 : SameBut t H3 H6 := (SB4.trans S5).trans S6
        -- the gang
        refine ⟨_, rfl, t, _, 1, rfl, T6, by omega, by decide, fun nl zs H7 hnl0 lzs hZ hnl T7 S7 => ?_⟩
        obtain ⟨z, rfl⟩ : ∃ z, zs = [z] := by
          match zs, lzs with
          | [z], _ => exact ⟨z, rfl⟩
        refine ⟨nl, _, 0, .str z, rfl, rfl, SqL.of hnl, rfl, _, rfl, _, rfl, fun x dx hx hdx ne => ?_⟩
        have SB7 : SameBut t H3 H7 := SB6.trans S7
        have htk7 := S7.tup T6 htk6
        have hhd7 := S7.tup T6 hhd
        have s8 : Same H7 (upd (upd H7 dx (.own x)) x (.ins C dx [])) := fun b o e => by
          rw [upd_ne (ne_of_none e hx), upd_ne (ne_of_none e hdx)]
          exact e
        refine ⟨x, dx, tk, hd, z, ts, hs, rfl, upd_same, hZ z List.mem_cons_self, s8 _ _ htk7, s8 _ _ hhd7, ft', fh, fun H8 GA k4 => ⟨rfl, ?_⟩⟩
        have s78 : Same H7 H8 := fun b o e => k4 b o (s8 b o e) (ne_of_none e hx)
        have T8 := T7.same s78
        have SB8 : SameBut t H3 H8 := SB7.trans (Same.but s78)
        have htk8 := s78 _ _ htk7
        have hhd8 := s78 _ _ hhd7
        -- the plans
        refine ⟨_, rfl, t, _, rfl, T8, by omega, fun p1 be1 pi1 H9 G1 hp1 T9 S9 => ?_⟩
        refine ⟨_, rfl, t, _, rfl, T9, by omega, fun p2 be2 pi2 H10 G2 hp2 T10 S10 => ?_⟩
        refine ⟨(by show 2 ≤ sizeLine; decide), fun pls hpls => ?_⟩
        have npls : pls ≠ t := T10.ne hpls
        have P0 : PairsAt H10 [.ref p1, .ref p2] [(be1, pi1), (be2, pi2)] := .cons (S10.tup T9 hp1) (.cons hp2 .nil)
        have hG0 : GoodPs [(be1, pi1), (be2, pi2)] := fun q hq => by
          simp only [List.mem_cons, List.not_mem_nil, or_false] at hq
          rcases hq with rfl | rfl
          · exact G1
          · exact G2
        have s11 : Same H10 (upd H10 pls (.lst [.ref p1, .ref p2])) := same_new hpls
        have hpls11 : (upd H10 pls (.lst [.ref p1, .ref p2])) pls = some (.lst [.ref p1, .ref p2]) := upd_same
        generalize upd H10 pls (.lst [.ref p1, .ref p2]) = H11 at s11 hpls11
        have T11 := T10.same s11
        have SB811 : SameBut t H8 H11 := (S9.trans S10).trans (Same.but s11)
        have htk11 := SB811.tup T8 htk8
        have hhd11 := SB811.tup T8 hhd8
        have P11 := Same.pairs s11 P0
        -- about
        refine ⟨_, rfl, _, rfl, _, rfl, _, rfl, t, tk, hd, _, ts, hs, rfl, T11, by omega, htk11, hhd11, ft', fh, fun b1 xs1 L1 H12 lL1 gL1 hb1 hP1 T12 S12 => ?_⟩
        have hpls12 := S12 _ _ hpls11 npls
        refine ⟨pls, b1, _, _, rfl, rfl, hpls12, hb1, ?_, fun c1 hc1 => ?_⟩
        · have := hP1.len
          exact Nat.le_trans (show 2 + xs1.length ≤ 5 by omega) (by decide)
        have s13 : Same H12 (upd H12 c1 (.lst ([.ref p1, .ref p2] ++ xs1))) := same_new hc1
        have hc13 : (upd H12 c1 (.lst ([.ref p1, .ref p2] ++ xs1))) c1 = some (.lst ([.ref p1, .ref p2] ++ xs1)) := upd_same
        have T13' := T12.same s13
        have nc1 : c1 ≠ t := T12.ne hc1
        refine ⟨_, rfl, _, rfl, _, rfl, t, tk, hd, _, ts, hs, rfl, T13', by omega, s13 _ _ (S12.tup T11 htk11), s13 _ _ (S12.tup T11 hhd11), ft', fh, fun b2 xs2 L2 H14 lL2 gL2 hb2 hP2 T14 S14 => ?_⟩
        have SB1114 : SameBut t H11 H14 := (S12.trans (Same.but s13)).trans S14
        refine ⟨c1, b2, _, _, rfl, rfl, S14 _ _ hc13 nc1, hb2, ?_, fun lc hlc => ?_⟩
        · have z1 := hP1.len
          have z2 := hP2.len
          rw [List.length_append]
          exact Nat.le_trans (show 2 + xs1.length + xs2.length ≤ 8 by omega) (by decide)
        have hP12 : PairsAt H14 xs1 L1 := S14.pairs T13' (Same.pairs s13 hP1)
        have P14 : PairsAt H14 ([.ref p1, .ref p2] ++ xs1 ++ xs2) ([(be1, pi1), (be2, pi2)] ++ L1 ++ L2) := ((SB1114.pairs T11 P11).append hP12).append hP2
        have G14 : GoodPs ([(be1, pi1), (be2, pi2)] ++ L1 ++ L2) := (hG0.append gL1).append gL2
        have s15 : Same H14 (upd H14 lc (.lst ([.ref p1, .ref p2] ++ xs1 ++ xs2))) := same_new hlc
        have hlc15 : (upd H14 lc (.lst ([.ref p1, .ref p2] ++ xs1 ++ xs2))) lc = some (.lst ([.ref p1, .ref p2] ++ xs1 ++ xs2)) := upd_same
        have llen : ([.ref p1, .ref p2] ++ xs1 ++ xs2 : List V).length = ([(be1, pi1), (be2, pi2)] ++ L1 ++ L2).length := P14.len
        generalize upd H14 lc (.lst ([.ref p1, .ref p2] ++ xs1 ++ xs2)) = H15 at s15 hlc15
        have P15 := Same.pairs s15 P14
        generalize ([.ref p1, .ref p2] ++ xs1 ++ xs2 : List V) = xsA at P15 hlc15
        generalize ([(be1, pi1), (be2, pi2)] ++ L1 ++ L2 : List (Int × Int)) = LA at P15 G14
        have SB815 : SameBut t H8 H15 := (SB811.trans SB1114).trans (Same.but s15)
        have T15 := T14.same s15
        have htk15 := SB815.tup T8 htk8
        have hhd15 := SB815.tup T8 hhd8
        have GA15 := GA.but SB815 T8
        have hpls15 : H15 pls = some (.lst [.ref p1, .ref p2]) := s15 _ _ (SB1114 _ _ hpls11 npls)
        have Pp15 : PairsAt H15 [.ref p1, .ref p2] [(be1, pi1), (be2, pi2)] := Same.pairs s15 (SB1114.pairs T11 P11)
        have hpc15 : H15 pc = some (.lst (cs.map V.int)) := SB815 _ _ (SB8 _ _ hpc3 npc) npc
        -- over all plans
        refine ⟨lc, rfl, ⟨_, SqL.of hlc15⟩, ?_⟩
        refine for_list (K := K) (a := lc) (xs := xsA) (fun i σ H' => ∃ (v2 v8 : Option V), σ = [some (.ref a), some (.ref pc), v2, some (.ref t), some (.ref tk), some (.ref hd), some (.ref x), some (.ref pls), v8] ∧ Same H15 H')
          ⟨_, _, rfl, Same.refl _⟩ (fun i σ H' _ ⟨_, _, _, s⟩ => SqL.of (s _ _ hlc15)) ?_ ?_
        · rintro j y σ H' hj ⟨v2, v8, rfl, s16⟩
          obtain ⟨pl, be, pi, rfl, hpl, hLj⟩ := P15.get hj
          have Gj : GoodP be pi := G14 _ (List.mem_of_getElem? hLj)
          have hpl16 := s16 _ _ hpl
          refine ⟨_, rfl, _, rfl, x, pl, ts, hs, be, pi, rfl, GA15.same s16, hpl16, Gj, fun H17 s17 => ?_⟩
          have t17 := s16.trans s17
          refine ⟨_, rfl, _, rfl, _, rfl, pl, tk, hd, be, pi, ts, hs, rfl, t17 _ _ hpl, Gj, t17 _ _ htk15, t17 _ _ hhd15, ft', fh, fun H18 s18 => ?_⟩
          have t18 := t17.trans s18
          refine ⟨.inr ⟨_, rfl⟩, fun H19 s19 => ⟨true, rfl, iteF ?_⟩⟩
          have t19 := t18.trans s19
          refine ⟨_, rfl, pl, _, rfl, .inr (SqT.of (t19 _ _ hpl)), fun l hl => ?_⟩
          have t20 : Same H15 (upd H19 l (.lst [.int be, .int pi])) := t19.trans (same_new hl)
          refine ⟨_, rfl, rfl, x, l, ts, hs, be, pi, rfl, GA15.same t20, upd_same, Gj, fun H21 s21 => ?_⟩
          have t21 := t20.trans s21
          refine ⟨_, rfl, _, rfl, _, rfl, pl, tk, hd, be, pi, ts, hs, rfl, t21 _ _ hpl, Gj, t21 _ _ htk15, t21 _ _ hhd15, ft', fh, fun H22 s22 => ?_⟩
          have t22 := t21.trans s22
          refine ⟨.inr ⟨_, rfl⟩, fun H23 s23 => ⟨true, rfl, iteF ?_⟩⟩
          exact ⟨_, _, rfl, t22.trans s23⟩
        · rintro σ H16 ⟨v2, v8, rfl, s16⟩
          have T16 := T15.same s16
          have hpls16 := s16 _ _ hpls15
          have P16 := Same.pairs s16 Pp15
          refine ⟨_, rfl, pls, rfl, ⟨_, SqL.of hpls16⟩, fun D hD => ?_⟩
          have nD : D ≠ t := T16.ne hD
          refine lc_list (K := K) (a := pls) (xs := [.ref p1, .ref p2]) (fun i H' => H' D = some (.lst ((List.replicate i true).map V.bl)) ∧ TapeAt H' t (200 + 10 * (i : Int)) ∧ SameBut t H16 H')
            ⟨upd_same, (T16.new hD).mono (by omega), Same.but (same_new hD)⟩ (fun i H' _ ⟨_, _, h⟩ => SqL.of (h _ _ hpls16 npls)) ?_ ?_
          · rintro j y H' hj ⟨hD', Tj, Sj⟩
            have hj2 : j < 2 := (List.getElem?_eq_some_iff.mp hj).1
            obtain ⟨pl, be, pi, rfl, hpl, hLj⟩ := P16.get hj
            have Gj : GoodP be pi := hG0 _ (List.mem_of_getElem? hLj)
            refine ⟨rfl, ?_⟩
            refine ⟨_, rfl, _, rfl, t, pl, _, be, pi, rfl, Tj, by omega, Sj.tup T16 hpl, Gj, fun H17 T17 S17 => ?_⟩
            refine ⟨_, S17 _ _ hD' nD, ?_, ?_, ?_, ?_⟩
            · rw [List.length_map, List.length_replicate]
              exact Nat.lt_of_lt_of_le hj2 (by decide)
            · rw [upd_same, ← rep_snoc, List.map_append]
              rfl
            · obtain ⟨a', b', k', g1, g2⟩ := T17
              refine ⟨a', b', k', ?_, g2.1, g2.2.1, g2.2.2.1, g2.2.2.2.1, by have := g2.2.2.2.2; omega⟩
              rw [upd_ne nD.symm]
              exact g1
            · intro b o e n
              rw [upd_ne (ne_of_none e hD)]
              exact S17 _ _ (Sj _ _ e n) n
          · rintro H17 ⟨hD', T17, S17⟩
            refine ⟨D, _, rfl, SqL.of hD', ?_⟩
            rw [all_rep]
            refine ⟨true, rfl, iteF ?_⟩
            exact ⟨_, _, _, _, _, _, _, rfl, S17 _ _ (s16 _ _ hpc15) npc⟩
      · rintro σ H2 ⟨v2, v3, v4, v5, v6, v7, v8, rfl, hpc2⟩
        exact q H2
end
end HP
namespace HP
open PySem L2
/-- keywords alone, of a def without defaults, in the order turned about -/
theorem fun_kbr {K : PySem.W.Frag} {x qual : Str} {st : Stmt} {f : Addr} {fd : FuncData} {ps ks : List Str} (F : Fun K x qual st f fd)
    (h : ∀ (kV doc pm : Value) (an : Option Addr) (cdv ct : Value) (ws : List Value), ws.length = ks.length → bindArgs (PySem.W.fnOf x qual (defArgs st) (defBody st) (defScope st) .none kV doc pm an cdv ct) ⟨[], ks.zip ws⟩ = pure (ps.zip ws.reverse)) :
    KBn K fd ps 0 ks (fun _ ws => ws.reverse) revV := by
  obtain ⟨oc, od, kV, doc, pm, an, cdv, ct, osl, rfl, lk, hcd⟩ := F.ex
  refine ⟨fun s us ws _ l1 l2 => ?_, fun _ r2 => r2.reverse⟩
  obtain rfl : us = [] := List.eq_nil_of_length_eq_zero l1
  exact .of_eq (h kV doc pm an cdv ct ws l2)
end HP
namespace HP
open PySem L2
theorem all_mk {l : PySem.W.OpenLaw} {w : World} {K : PySem.W.Frag} {h : Heap} {mg : Str → Option Value} {fa : Addr} {C : Addr} {f_isn T_isn : Addr} {oc_isn kV_isn dc_isn pm_isn cd_isn ct_isn ot_isn : Value} {od_isn an_isn dt_isn : Option Addr} {sl_isn st_isn : Array (Option Value)} {n_isn : Nat} {f_isr : Addr} {oc_isr kV_isr dc_isr pm_isr cd_isr ct_isr : Value} {od_isr an_isr : Option Addr} {sl_isr : Array (Option Value)} {f_ism : Addr} {oc_ism kV_ism dc_ism pm_ism cd_ism ct_ism : Value} {od_ism an_ism : Option Addr} {sl_ism : Array (Option Value)} {f_afk : Addr} {oc_afk kV_afk dc_afk pm_afk cd_afk ct_afk : Value} {od_afk an_afk : Option Addr} {sl_afk : Array (Option Value)} {f_gcd : Addr} {oc_gcd kV_gcd dc_gcd pm_gcd cd_gcd ct_gcd : Value} {od_gcd an_gcd : Option Addr} {sl_gcd : Array (Option Value)} {f_keep : Addr} {oc_keep kV_keep dc_keep pm_keep cd_keep ct_keep : Value} {od_keep an_keep : Option Addr} {sl_keep : Array (Option Value)} {f_tape : Addr} {oc_tape kV_tape dc_tape pm_tape cd_tape ct_tape : Value} {od_tape an_tape : Option Addr} {sl_tape : Array (Option Value)} {f_draw : Addr} {oc_draw kV_draw dc_draw pm_draw cd_draw ct_draw : Value} {od_draw an_draw : Option Addr} {sl_draw : Array (Option Value)} {f_fold : Addr} {oc_fold kV_fold dc_fold pm_fold cd_fold ct_fold : Value} {od_fold an_fold : Option Addr} {sl_fold : Array (Option Value)} {f_nam : Addr} {oc_nam kV_nam dc_nam pm_nam cd_nam ct_nam : Value} {od_nam an_nam : Option Addr} {sl_nam : Array (Option Value)} {f_tak : Addr} {oc_tak kV_tak dc_tak pm_tak cd_tak ct_tak : Value} {od_tak an_tak : Option Addr} {sl_tak : Array (Option Value)} {f_han : Addr} {oc_han kV_han dc_han pm_han cd_han ct_han : Value} {od_han an_han : Option Addr} {sl_han : Array (Option Value)} {f_same : Addr} {oc_same kV_same dc_same pm_same cd_same ct_same : Value} {od_same an_same : Option Addr} {sl_same : Array (Option Value)} {f_plan : Addr} {oc_plan kV_plan dc_plan pm_plan cd_plan ct_plan : Value} {od_plan an_plan : Option Addr} {sl_plan : Array (Option Value)} {f_asked : Addr} {oc_asked kV_asked dc_asked pm_asked cd_asked ct_asked : Value} {od_asked an_asked : Option Addr} {sl_asked : Array (Option Value)} {f_kept : Addr} {oc_kept kV_kept dc_kept pm_kept cd_kept ct_kept : Value} {od_kept an_kept : Option Addr} {sl_kept : Array (Option Value)} {f_abt : Addr} {oc_abt kV_abt dc_abt pm_abt cd_abt ct_abt : Value} {od_abt an_abt : Option Addr} {sl_abt : Array (Option Value)} {f_ar : Addr} {oc_ar kV_ar dc_ar pm_ar cd_ar ct_ar : Value} {od_ar an_ar : Option Addr} {sl_ar : Array (Option Value)} {f_law : Addr} {oc_law kV_law dc_law pm_law cd_law ct_law : Value} {od_law an_law : Option Addr} {sl_law : Array (Option Value)} {f_aat T_aat : Addr} {oc_aat kV_aat dc_aat pm_aat cd_aat ct_aat ot_aat : Value} {od_aat an_aat dt_aat : Option Addr} {sl_aat st_aat : Array (Option Value)} {n_aat : Nat} {tk_aat0 : Tok} {f_aof T_aof : Addr} {oc_aof kV_aof dc_aof pm_aof cd_aof ct_aof ot_aof : Value} {od_aof an_aof dt_aof : Option Addr} {sl_aof st_aof : Array (Option Value)} {n_aof : Nat} {tk_aof0 : Tok} {f_init T_init : Addr} {oc_init kV_init dc_init pm_init cd_init ct_init ot_init : Value} {od_init an_init dt_init : Option Addr} {sl_init st_init : Array (Option Value)} {n_init : Nat} {f_pace : Addr} {oc_pace kV_pace dc_pace pm_pace cd_pace ct_pace : Value} {od_pace an_pace : Option Addr} {sl_pace : Array (Option Value)} {t1 : Tok} {t2 : Tok} {t3 : Tok} {t4 : Tok} {t5 : Tok} (X : K.In h) (G : h.Ns mainGlobals mg) (hfa : mg "law" = some (.ref fa))
    (g_C : PySem.W.nsIn K mainGlobals "Gang" = some (some (.ref C)))
    (pg_C : PySem.W.plainGet K C Str.empty = true)
    (hd_C : PySem.W.hasDictIn K C = true)
    (po_C : PySem.W.plainOver K C = true)
    (sa_C : PySem.W.findIn K (.ref C) "__setattr__" = some (some (.builtin "object.__setattr__")))
    (mk_C : PySem.W.makesIn K C = true)
    (kc_C : PySem.W.keepIn K (.ref C) = true)
    (at_C_name : PySem.W.findIn K (.ref C) "name" = some none)
    (at_C_takes : PySem.W.findIn K (.ref C) "takes" = some none)
    (at_C_hands : PySem.W.findIn K (.ref C) "hands" = some none)
    (a_isn : PySem.W.nsIn K mainGlobals "is_number" = some (some (.ref f_isn)))
    (l_isn : K.lookup f_isn = some ⟨oc_isn, od_isn, .func (PySem.W.fnOf "is_number" "is_number" (defArgs sis_number) (defBody sis_number) (defScope sis_number) (.ref T_isn) kV_isn dc_isn pm_isn an_isn cd_isn ct_isn), sl_isn⟩)
    (c_isn : PySem.W.codeIn K cd_isn "is_number" = true)
    (k_isn : PySem.W.keepIn K (.ref f_isn) = true)
    (d_isn : K.lookup T_isn = some ⟨ot_isn, dt_isn, .seq #[.none] n_isn, st_isn⟩)
    (a_isr : PySem.W.nsIn K mainGlobals "is_row" = some (some (.ref f_isr)))
    (l_isr : K.lookup f_isr = some ⟨oc_isr, od_isr, .func (PySem.W.fnOf "is_row" "is_row" (defArgs sis_row) (defBody sis_row) (defScope sis_row) .none kV_isr dc_isr pm_isr an_isr cd_isr ct_isr), sl_isr⟩)
    (c_isr : PySem.W.codeIn K cd_isr "is_row" = true)
    (k_isr : PySem.W.keepIn K (.ref f_isr) = true)
    (a_ism : PySem.W.nsIn K mainGlobals "is_name" = some (some (.ref f_ism)))
    (l_ism : K.lookup f_ism = some ⟨oc_ism, od_ism, .func (PySem.W.fnOf "is_name" "is_name" (defArgs sis_name) (defBody sis_name) (defScope sis_name) .none kV_ism dc_ism pm_ism an_ism cd_ism ct_ism), sl_ism⟩)
    (c_ism : PySem.W.codeIn K cd_ism "is_name" = true)
    (k_ism : PySem.W.keepIn K (.ref f_ism) = true)
    (a_afk : PySem.W.nsIn K mainGlobals "are_for_kinds" = some (some (.ref f_afk)))
    (l_afk : K.lookup f_afk = some ⟨oc_afk, od_afk, .func (PySem.W.fnOf "are_for_kinds" "are_for_kinds" (defArgs sare_for_kinds) (defBody sare_for_kinds) (defScope sare_for_kinds) .none kV_afk dc_afk pm_afk an_afk cd_afk ct_afk), sl_afk⟩)
    (c_afk : PySem.W.codeIn K cd_afk "are_for_kinds" = true)
    (k_afk : PySem.W.keepIn K (.ref f_afk) = true)
    (a_gcd : PySem.W.nsIn K mainGlobals "common_divisor" = some (some (.ref f_gcd)))
    (l_gcd : K.lookup f_gcd = some ⟨oc_gcd, od_gcd, .func (PySem.W.fnOf "common_divisor" "common_divisor" (defArgs scommon_divisor) (defBody scommon_divisor) (defScope scommon_divisor) .none kV_gcd dc_gcd pm_gcd an_gcd cd_gcd ct_gcd), sl_gcd⟩)
    (c_gcd : PySem.W.codeIn K cd_gcd "common_divisor" = true)
    (k_gcd : PySem.W.keepIn K (.ref f_gcd) = true)
    (a_keep : PySem.W.nsIn K mainGlobals "keeps" = some (some (.ref f_keep)))
    (l_keep : K.lookup f_keep = some ⟨oc_keep, od_keep, .func (PySem.W.fnOf "keeps" "keeps" (defArgs skeeps) (defBody skeeps) (defScope skeeps) .none kV_keep dc_keep pm_keep an_keep cd_keep ct_keep), sl_keep⟩)
    (c_keep : PySem.W.codeIn K cd_keep "keeps" = true)
    (k_keep : PySem.W.keepIn K (.ref f_keep) = true)
    (a_tape : PySem.W.nsIn K mainGlobals "_law_tape" = some (some (.ref f_tape)))
    (l_tape : K.lookup f_tape = some ⟨oc_tape, od_tape, .func (PySem.W.fnOf "_law_tape" "_law_tape" (defArgs sLtape) (defBody sLtape) (defScope sLtape) .none kV_tape dc_tape pm_tape an_tape cd_tape ct_tape), sl_tape⟩)
    (c_tape : PySem.W.codeIn K cd_tape "_law_tape" = true)
    (k_tape : PySem.W.keepIn K (.ref f_tape) = true)
    (a_draw : PySem.W.nsIn K mainGlobals "_law_draw" = some (some (.ref f_draw)))
    (l_draw : K.lookup f_draw = some ⟨oc_draw, od_draw, .func (PySem.W.fnOf "_law_draw" "_law_draw" (defArgs sLdraw) (defBody sLdraw) (defScope sLdraw) .none kV_draw dc_draw pm_draw an_draw cd_draw ct_draw), sl_draw⟩)
    (c_draw : PySem.W.codeIn K cd_draw "_law_draw" = true)
    (k_draw : PySem.W.keepIn K (.ref f_draw) = true)
    (a_fold : PySem.W.nsIn K mainGlobals "_law_folded" = some (some (.ref f_fold)))
    (l_fold : K.lookup f_fold = some ⟨oc_fold, od_fold, .func (PySem.W.fnOf "_law_folded" "_law_folded" (defArgs sLfolded) (defBody sLfolded) (defScope sLfolded) .none kV_fold dc_fold pm_fold an_fold cd_fold ct_fold), sl_fold⟩)
    (c_fold : PySem.W.codeIn K cd_fold "_law_folded" = true)
    (k_fold : PySem.W.keepIn K (.ref f_fold) = true)
    (a_nam : PySem.W.nsIn K mainGlobals "_law_names" = some (some (.ref f_nam)))
    (l_nam : K.lookup f_nam = some ⟨oc_nam, od_nam, .func (PySem.W.fnOf "_law_names" "_law_names" (defArgs sLnames) (defBody sLnames) (defScope sLnames) .none kV_nam dc_nam pm_nam an_nam cd_nam ct_nam), sl_nam⟩)
    (c_nam : PySem.W.codeIn K cd_nam "_law_names" = true)
    (k_nam : PySem.W.keepIn K (.ref f_nam) = true)
    (a_tak : PySem.W.nsIn K mainGlobals "_law_takes" = some (some (.ref f_tak)))
    (l_tak : K.lookup f_tak = some ⟨oc_tak, od_tak, .func (PySem.W.fnOf "_law_takes" "_law_takes" (defArgs sLtakes) (defBody sLtakes) (defScope sLtakes) .none kV_tak dc_tak pm_tak an_tak cd_tak ct_tak), sl_tak⟩)
    (c_tak : PySem.W.codeIn K cd_tak "_law_takes" = true)
    (k_tak : PySem.W.keepIn K (.ref f_tak) = true)
    (a_han : PySem.W.nsIn K mainGlobals "_law_hands" = some (some (.ref f_han)))
    (l_han : K.lookup f_han = some ⟨oc_han, od_han, .func (PySem.W.fnOf "_law_hands" "_law_hands" (defArgs sLhands) (defBody sLhands) (defScope sLhands) .none kV_han dc_han pm_han an_han cd_han ct_han), sl_han⟩)
    (c_han : PySem.W.codeIn K cd_han "_law_hands" = true)
    (k_han : PySem.W.keepIn K (.ref f_han) = true)
    (a_same : PySem.W.nsIn K mainGlobals "_law_same" = some (some (.ref f_same)))
    (l_same : K.lookup f_same = some ⟨oc_same, od_same, .func (PySem.W.fnOf "_law_same" "_law_same" (defArgs sLsame) (defBody sLsame) (defScope sLsame) .none kV_same dc_same pm_same an_same cd_same ct_same), sl_same⟩)
    (c_same : PySem.W.codeIn K cd_same "_law_same" = true)
    (k_same : PySem.W.keepIn K (.ref f_same) = true)
    (a_plan : PySem.W.nsIn K mainGlobals "_law_plan" = some (some (.ref f_plan)))
    (l_plan : K.lookup f_plan = some ⟨oc_plan, od_plan, .func (PySem.W.fnOf "_law_plan" "_law_plan" (defArgs sLplan) (defBody sLplan) (defScope sLplan) .none kV_plan dc_plan pm_plan an_plan cd_plan ct_plan), sl_plan⟩)
    (c_plan : PySem.W.codeIn K cd_plan "_law_plan" = true)
    (k_plan : PySem.W.keepIn K (.ref f_plan) = true)
    (a_asked : PySem.W.nsIn K mainGlobals "_law_asked" = some (some (.ref f_asked)))
    (l_asked : K.lookup f_asked = some ⟨oc_asked, od_asked, .func (PySem.W.fnOf "_law_asked" "_law_asked" (defArgs sLasked) (defBody sLasked) (defScope sLasked) .none kV_asked dc_asked pm_asked an_asked cd_asked ct_asked), sl_asked⟩)
    (c_asked : PySem.W.codeIn K cd_asked "_law_asked" = true)
    (k_asked : PySem.W.keepIn K (.ref f_asked) = true)
    (a_kept : PySem.W.nsIn K mainGlobals "_law_kept" = some (some (.ref f_kept)))
    (l_kept : K.lookup f_kept = some ⟨oc_kept, od_kept, .func (PySem.W.fnOf "_law_kept" "_law_kept" (defArgs sLkept) (defBody sLkept) (defScope sLkept) .none kV_kept dc_kept pm_kept an_kept cd_kept ct_kept), sl_kept⟩)
    (c_kept : PySem.W.codeIn K cd_kept "_law_kept" = true)
    (k_kept : PySem.W.keepIn K (.ref f_kept) = true)
    (a_abt : PySem.W.nsIn K mainGlobals "_law_about" = some (some (.ref f_abt)))
    (l_abt : K.lookup f_abt = some ⟨oc_abt, od_abt, .func (PySem.W.fnOf "_law_about" "_law_about" (defArgs sLabout) (defBody sLabout) (defScope sLabout) .none kV_abt dc_abt pm_abt an_abt cd_abt ct_abt), sl_abt⟩)
    (c_abt : PySem.W.codeIn K cd_abt "_law_about" = true)
    (k_abt : PySem.W.keepIn K (.ref f_abt) = true)
    (a_ar : PySem.W.nsIn K mainGlobals "_law_asked_right" = some (some (.ref f_ar)))
    (l_ar : K.lookup f_ar = some ⟨oc_ar, od_ar, .func (PySem.W.fnOf "_law_asked_right" "_law_asked_right" (defArgs sLasked_right) (defBody sLasked_right) (defScope sLasked_right) .none kV_ar dc_ar pm_ar an_ar cd_ar ct_ar), sl_ar⟩)
    (c_ar : PySem.W.codeIn K cd_ar "_law_asked_right" = true)
    (k_ar : PySem.W.keepIn K (.ref f_ar) = true)
    (a_law : PySem.W.nsIn K mainGlobals "law" = some (some (.ref f_law)))
    (l_law : K.lookup f_law = some ⟨oc_law, od_law, .func (PySem.W.fnOf "law" "law" (defArgs slaw) (defBody slaw) (defScope slaw) .none kV_law dc_law pm_law an_law cd_law ct_law), sl_law⟩)
    (c_law : PySem.W.codeIn K cd_law "law" = true)
    (k_law : PySem.W.keepIn K (.ref f_law) = true)
    (a_aat : PySem.W.nsIn K mainGlobals "asked_at" = some (some (.ref f_aat)))
    (l_aat : K.lookup f_aat = some ⟨oc_aat, od_aat, .func (PySem.W.fnOf "asked_at" "asked_at" (defArgs sasked_at) (defBody sasked_at) (defScope sasked_at) (.ref T_aat) kV_aat dc_aat pm_aat an_aat cd_aat ct_aat), sl_aat⟩)
    (c_aat : PySem.W.codeIn K cd_aat "asked_at" = true)
    (k_aat : PySem.W.keepIn K (.ref f_aat) = true)
    (d_aat : K.lookup T_aat = some ⟨ot_aat, dt_aat, .seq #[.int 0 tk_aat0] n_aat, st_aat⟩)
    (a_aof : PySem.W.nsIn K mainGlobals "asks_of" = some (some (.ref f_aof)))
    (l_aof : K.lookup f_aof = some ⟨oc_aof, od_aof, .func (PySem.W.fnOf "asks_of" "asks_of" (defArgs sasks_of) (defBody sasks_of) (defScope sasks_of) (.ref T_aof) kV_aof dc_aof pm_aof an_aof cd_aof ct_aof), sl_aof⟩)
    (c_aof : PySem.W.codeIn K cd_aof "asks_of" = true)
    (k_aof : PySem.W.keepIn K (.ref f_aof) = true)
    (d_aof : K.lookup T_aof = some ⟨ot_aof, dt_aof, .seq #[.int 0 tk_aof0] n_aof, st_aof⟩)
    (a_init : PySem.W.findIn K (.ref C) "__init__" = some (some (.ref f_init)))
    (i_init : PySem.W.isFn K (.ref f_init) = true)
    (l_init : K.lookup f_init = some ⟨oc_init, od_init, .func (PySem.W.fnOf "__init__" "Gang.__init__" (defArgs sGang_init) (defBody sGang_init) (defScope sGang_init) (.ref T_init) kV_init dc_init pm_init an_init cd_init ct_init), sl_init⟩)
    (c_init : PySem.W.codeIn K cd_init "Gang.__init__" = true)
    (k_init : PySem.W.keepIn K (.ref f_init) = true)
    (d_init : K.lookup T_init = some ⟨ot_init, dt_init, .seq #[.none] n_init, st_init⟩)
    (a_pace : PySem.W.findIn K (.ref C) "pace" = some (some (.ref f_pace)))
    (i_pace : PySem.W.isFn K (.ref f_pace) = true)
    (l_pace : K.lookup f_pace = some ⟨oc_pace, od_pace, .func (PySem.W.fnOf "pace" "Gang.pace" (defArgs sGang_pace) (defBody sGang_pace) (defScope sGang_pace) .none kV_pace dc_pace pm_pace an_pace cd_pace ct_pace), sl_pace⟩)
    (c_pace : PySem.W.codeIn K cd_pace "Gang.pace" = true)
    (k_pace : PySem.W.keepIn K (.ref f_pace) = true)
    (z_len : PySem.W.nsIn K mainGlobals "len" = some none)
    (z_range : PySem.W.nsIn K mainGlobals "range" = some none)
    (z_enumerate : PySem.W.nsIn K mainGlobals "enumerate" = some none)
    (z_abs : PySem.W.nsIn K mainGlobals "abs" = some none)
    (z_min : PySem.W.nsIn K mainGlobals "min" = some none)
    (z_max : PySem.W.nsIn K mainGlobals "max" = some none)
    (z_any : PySem.W.nsIn K mainGlobals "any" = some none)
    (z_all : PySem.W.nsIn K mainGlobals "all" = some none)
    (z_sum : PySem.W.nsIn K mainGlobals "sum" = some none)
    (z_zip : PySem.W.nsIn K mainGlobals "zip" = some none)
    (z_divmod : PySem.W.nsIn K mainGlobals "divmod" = some none)
    (z_isinstance : PySem.W.nsIn K mainGlobals "isinstance" = some none)
    (z_int : PySem.W.nsIn K mainGlobals "int" = some none)
    (z_bool : PySem.W.nsIn K mainGlobals "bool" = some none)
    (z_list : PySem.W.nsIn K mainGlobals "list" = some none)
    (z_tuple : PySem.W.nsIn K mainGlobals "tuple" = some none)
    (z_str : PySem.W.nsIn K mainGlobals "str" = some none)
    (g_LETTERS : PySem.W.nsIn K mainGlobals "LETTERS" = some (some (.str (Str.ofString "abcdefghijklmnopqrstuvwxyz") t1)))
    (g_MOST_LETTERS : PySem.W.nsIn K mainGlobals "MOST_LETTERS" = some (some (.int 8 t2)))
    (g_KINDS : PySem.W.nsIn K mainGlobals "KINDS" = some (some (.int 4 t3)))
    (g_MOST_TAKE : PySem.W.nsIn K mainGlobals "MOST_TAKE" = some (some (.int 1000000 t4)))
    (g_MOST_HANDS : PySem.W.nsIn K mainGlobals "MOST_HANDS" = some (some (.int 4 t5))) :
    ∃ fd : FuncData, (∀ (s : Shared) (v : Value), BindsTo s fd ⟨[v], []⟩ [("_law_script", v)]) ∧ ∀ base : Heap, K.In base → base.Ns mainGlobals mg → FnOk l.prog w K mg base CX0 5 fa fd ["_law_script"] (spLaw K) := by
  have e := hfa.symm.trans (PySem.W.mg_of X G a_law)
  cases e
  have T : Txt mg default default := ⟨PySem.W.mg_none_of X G z_len, PySem.W.mg_none_of X G z_range, PySem.W.mg_none_of X G z_enumerate, PySem.W.mg_none_of X G z_abs, PySem.W.mg_none_of X G z_min, PySem.W.mg_none_of X G z_max, PySem.W.mg_none_of X G z_any, PySem.W.mg_none_of X G z_all, PySem.W.mg_none_of X G z_sum, PySem.W.mg_none_of X G z_zip, PySem.W.mg_none_of X G z_divmod, PySem.W.mg_none_of X G z_isinstance, PySem.W.mg_none_of X G z_int, PySem.W.mg_none_of X G z_bool, PySem.W.mg_none_of X G z_list, PySem.W.mg_none_of X G z_tuple, PySem.W.mg_none_of X G z_str, ⟨_, PySem.W.mg_of X G g_LETTERS⟩, ⟨_, PySem.W.mg_of X G g_MOST_LETTERS⟩, ⟨_, PySem.W.mg_of X G g_KINDS⟩, ⟨_, PySem.W.mg_of X G g_MOST_TAKE⟩, ⟨_, PySem.W.mg_of X G g_MOST_HANDS⟩⟩
  have GT : GangTxt K C := ⟨⟨pg_C, hd_C, po_C, sa_C⟩, at_C_name, at_C_takes, at_C_hands⟩
  have F_isn : FunD K "is_number" "is_number" (defArgs sis_number) (defBody sis_number) (defScope sis_number) [.non] [] f_isn _ := ⟨⟨_, _, _, _, _, _, _, _, _, _, rfl, l_isn, c_isn, .inr ⟨by simp, T_isn, _, [.none], _, rfl, d_isn, rfl, .cons rfl .nil⟩, .inl rfl⟩, k_isn⟩
  obtain ⟨ds_isn, vd_isn, b_isn⟩ := F_isn.binds1 (ps := ["thing", "least", "most"]) 3 1 (by simp) rfl fun T kV doc pm an cdv ct us its h1 h2 => match us, h1, its, h2 with | [_, _, _], _, [_], _ => ⟨_, rfl, rfl⟩
  cases vd_isn
  have F_isr := fun_mk (st := sis_row) l_isr c_isr k_isr
  have b_isr := F_isr.binds (ps := ["thing", "least", "most"]) fun _ _ _ _ _ _ us hl => match us, hl with | [_, _, _], _ => rfl
  have F_ism := fun_mk (st := sis_name) l_ism c_ism k_ism
  have b_ism := F_ism.binds (ps := ["thing"]) fun _ _ _ _ _ _ us hl => match us, hl with | [_], _ => rfl
  have F_afk := fun_mk (st := sare_for_kinds) l_afk c_afk k_afk
  have b_afk := F_afk.binds (ps := ["thing", "most"]) fun _ _ _ _ _ _ us hl => match us, hl with | [_, _], _ => rfl
  have F_gcd := fun_mk (st := scommon_divisor) l_gcd c_gcd k_gcd
  have b_gcd := F_gcd.binds (ps := ["one", "other"]) fun _ _ _ _ _ _ us hl => match us, hl with | [_, _], _ => rfl
  have F_keep := fun_mk (st := skeeps) l_keep c_keep k_keep
  have b_keep := F_keep.binds (ps := ["gang", "plan"]) fun _ _ _ _ _ _ us hl => match us, hl with | [_, _], _ => rfl
  have F_tape := fun_mk (st := sLtape) l_tape c_tape k_tape
  have b_tape := F_tape.binds (ps := ["_law_script", "_law_k"]) fun _ _ _ _ _ _ us hl => match us, hl with | [_, _], _ => rfl
  have F_draw := fun_mk (st := sLdraw) l_draw c_draw k_draw
  have b_draw := F_draw.binds (ps := ["_law_tape_here", "_law_a_many"]) fun _ _ _ _ _ _ us hl => match us, hl with | [_, _], _ => rfl
  have F_fold := fun_mk (st := sLfolded) l_fold c_fold k_fold
  have b_fold := F_fold.binds (ps := ["_law_script", "_law_a_many"]) fun _ _ _ _ _ _ us hl => match us, hl with | [_, _], _ => rfl
  have F_nam := fun_mk (st := sLnames) l_nam c_nam k_nam
  have b_nam := F_nam.binds (ps := ["_law_tape_here", "_law_a_many"]) fun _ _ _ _ _ _ us hl => match us, hl with | [_, _], _ => rfl
  have F_tak := fun_mk (st := sLtakes) l_tak c_tak k_tak
  have b_tak := F_tak.binds (ps := ["_law_tape_here", "_law_most"]) fun _ _ _ _ _ _ us hl => match us, hl with | [_, _], _ => rfl
  have F_han := fun_mk (st := sLhands) l_han c_han k_han
  have b_han := F_han.binds (ps := ["_law_tape_here"]) fun _ _ _ _ _ _ us hl => match us, hl with | [_], _ => rfl
  have F_same := fun_mk (st := sLsame) l_same c_same k_same
  have b_same := F_same.binds (ps := ["_law_found", "_law_due"]) fun _ _ _ _ _ _ us hl => match us, hl with | [_, _], _ => rfl
  have F_plan := fun_mk (st := sLplan) l_plan c_plan k_plan
  have b_plan := F_plan.binds (ps := ["_law_tape_here"]) fun _ _ _ _ _ _ us hl => match us, hl with | [_], _ => rfl
  have F_asked := fun_mk (st := sLasked) l_asked c_asked k_asked
  have b_asked := F_asked.binds (ps := ["_law_a_plan", "_law_a_number", "_law_a_first"]) fun _ _ _ _ _ _ us hl => match us, hl with | [_, _, _], _ => rfl
  have F_kept := fun_mk (st := sLkept) l_kept c_kept k_kept
  have b_kept := F_kept.binds (ps := ["_law_a_plan", "_law_takes_here", "_law_hands_here"]) fun _ _ _ _ _ _ us hl => match us, hl with | [_, _, _], _ => rfl
  have F_abt := fun_mk (st := sLabout) l_abt c_abt k_abt
  have b_abt := F_abt.binds (ps := ["_law_tape_here", "_law_takes_here", "_law_hands_here"]) fun _ _ _ _ _ _ us hl => match us, hl with | [_, _, _], _ => rfl
  have F_ar := fun_mk (st := sLasked_right) l_ar c_ar k_ar
  have b_ar := F_ar.binds (ps := ["_law_tape_here", "_law_a_plan"]) fun _ _ _ _ _ _ us hl => match us, hl with | [_, _], _ => rfl
  have F_pace := fun_mk (st := sGang_pace) l_pace c_pace k_pace
  have b_pace := F_pace.binds (ps := ["self"]) fun _ _ _ _ _ _ us hl => match us, hl with | [_], _ => rfl
  have kb_keep := fun_kbr (ps := ["gang", "plan"]) (ks := ["plan", "gang"]) F_keep fun _ _ _ _ _ _ ws hl => match ws, hl with | [_, _], _ => rfl
  have F_init : FunD K "__init__" "Gang.__init__" (defArgs sGang_init) (defBody sGang_init) (defScope sGang_init) [.non] [] f_init _ := ⟨⟨_, _, _, _, _, _, _, _, _, _, rfl, l_init, c_init, .inr ⟨by simp, T_init, _, [.none], _, rfl, d_init, rfl, .cons rfl .nil⟩, .inl rfl⟩, k_init⟩
  have F_aat : FunD K "asked_at" "asked_at" (defArgs sasked_at) (defBody sasked_at) (defScope sasked_at) [.int 0] [] f_aat _ := ⟨⟨_, _, _, _, _, _, _, _, _, _, rfl, l_aat, c_aat, .inr ⟨by simp, T_aat, _, [.int 0 tk_aat0], _, rfl, d_aat, rfl, .cons ⟨_, rfl⟩ .nil⟩, .inl rfl⟩, k_aat⟩
  have F_aof : FunD K "asks_of" "asks_of" (defArgs sasks_of) (defBody sasks_of) (defScope sasks_of) [.int 0] [] f_aof _ := ⟨⟨_, _, _, _, _, _, _, _, _, _, rfl, l_aof, c_aof, .inr ⟨by simp, T_aof, _, [.int 0 tk_aof0], _, rfl, d_aof, rfl, .cons ⟨_, rfl⟩ .nil⟩, .inl rfl⟩, k_aof⟩
  obtain ⟨ds1, vd1, b_init⟩ := F_init.binds1 (ps := ["self", "name", "takes", "hands"]) 4 1 (by simp) rfl fun T kV doc pm an cdv ct us its h1 h2 => match us, h1, its, h2 with | [_, _, _, _], _, [_], _ => ⟨_, rfl, rfl⟩
  cases vd1
  obtain ⟨ds2, vd2, b_aat⟩ := F_aat.binds1 (ps := ["plan", "number", "first"]) 3 1 (by simp) rfl fun T kV doc pm an cdv ct us its h1 h2 => match us, h1, its, h2 with | [_, _, _], _, [_], _ => ⟨_, rfl, rfl⟩
  cases vd2
  obtain ⟨ds3, vd3, b_aof⟩ := F_aof.binds1 (ps := ["plan", "many", "first"]) 3 1 (by simp) rfl fun T kV doc pm an cdv ct us its h1 h2 => match us, h1, its, h2 with | [_, _, _], _, [_], _ => ⟨_, rfl, rfl⟩
  cases vd3
  obtain ⟨ds4, vd4, b_aatD⟩ := F_aat.binds1 (ps := ["plan", "number", "first"]) 2 0 (by simp) rfl fun T kV doc pm an cdv ct us its h1 h2 => match us, h1, its, h2 with | [_, _], _, [_], _ => ⟨_, rfl, rfl⟩
  obtain ⟨ds5, vd5, b_aofD⟩ := F_aof.binds1 (ps := ["plan", "many", "first"]) 2 0 (by simp) rfl fun T kV doc pm an cdv ct us its h1 h2 => match us, h1, its, h2 with | [_, _], _, [_], _ => ⟨_, rfl, rfl⟩
  obtain ⟨its1, kb_aat⟩ := F_aat.kbindsD (ps := ["plan", "number", "first"]) 0 ["first", "number", "plan"] (fun _ _ ws => ws.reverse) (by simp) (fun _ _ r2 => r2.reverse) fun T kV doc pm an cdv ct us its ws h1 h2 h3 => match us, h1, its, h2, ws, h3 with | [], _, [_], _, [_, _, _], _ => ⟨_, rfl, rfl⟩
  obtain ⟨its2, kb_aof⟩ := F_aof.kbindsD (ps := ["plan", "many", "first"]) 0 ["many", "first", "plan"] (fun _ _ ws => ws.drop 2 ++ ws.take 2) (by simp) (fun _ _ r2 => (r2.drop 2).append (r2.take 2)) fun T kV doc pm an cdv ct us its ws h1 h2 h3 => match us, h1, its, h2, ws, h3 with | [], _, [_], _, [_, _, _], _ => ⟨_, rfl, rfl⟩
  refine ⟨PySem.W.fnOf "law" "law" (defArgs slaw) (defBody slaw) (defScope slaw) .none kV_law dc_law pm_law an_law cd_law ct_law, fun s v => .of_eq rfl, fun base _ _ => ?_⟩
  have Disn : Df l.prog w K mg base "is_number" 1 ["thing", "least", "most"] spIsNumber := ⟨⟨_, _, ok_is_number F_isn T, PySem.W.mg_of X G a_isn, k_isn, b_isn⟩⟩
  have Disr : Df l.prog w K mg base "is_row" 1 ["thing", "least", "most"] spIsRow := ⟨⟨_, _, ok_is_row F_isr T, PySem.W.mg_of X G a_isr, k_isr, b_isr⟩⟩
  have Dism : Df l.prog w K mg base "is_name" 1 ["thing"] spIsName := ⟨⟨_, _, ok_is_name F_ism T, PySem.W.mg_of X G a_ism, k_ism, b_ism⟩⟩
  have Dafk : Df l.prog w K mg base "are_for_kinds" 2 ["thing", "most"] spKinds := ⟨⟨_, _, ok_kinds F_afk T Disr Disn, PySem.W.mg_of X G a_afk, k_afk, b_afk⟩⟩
  have Dgcd : Df l.prog w K mg base "common_divisor" 1 ["one", "other"] spGcd := ⟨⟨_, _, ok_gcd F_gcd, PySem.W.mg_of X G a_gcd, k_gcd, b_gcd⟩⟩
  have Ddraw : Df l.prog w K mg base "_law_draw" 1 ["_law_tape_here", "_law_a_many"] spDraw := ⟨⟨_, _, ok_draw F_draw, PySem.W.mg_of X G a_draw, k_draw, b_draw⟩⟩
  have Dtape : Df l.prog w K mg base "_law_tape" 1 ["_law_script", "_law_k"] (spTape K) := ⟨⟨_, _, ok_tape F_tape T, PySem.W.mg_of X G a_tape, k_tape, b_tape⟩⟩
  have Dfold : Df l.prog w K mg base "_law_folded" 1 ["_law_script", "_law_a_many"] (spFolded K) := ⟨⟨_, _, ok_folded F_fold T, PySem.W.mg_of X G a_fold, k_fold, b_fold⟩⟩
  have Dnam : Df l.prog w K mg base "_law_names" 2 ["_law_tape_here", "_law_a_many"] spNames := ⟨⟨_, _, ok_names F_nam T Ddraw, PySem.W.mg_of X G a_nam, k_nam, b_nam⟩⟩
  have Dtak : Df l.prog w K mg base "_law_takes" 2 ["_law_tape_here", "_law_most"] spTakes := ⟨⟨_, _, ok_takes F_tak T Ddraw, PySem.W.mg_of X G a_tak, k_tak, b_tak⟩⟩
  have Dhan : Df l.prog w K mg base "_law_hands" 2 ["_law_tape_here"] spHands := ⟨⟨_, _, ok_hands F_han T Ddraw, PySem.W.mg_of X G a_han, k_han, b_han⟩⟩
  have Dsame : Df l.prog w K mg base "_law_same" 1 ["_law_found", "_law_due"] spSame1 := ⟨⟨_, _, ok_same1 F_same T, PySem.W.mg_of X G a_same, k_same, b_same⟩⟩
  have DsameL : Df l.prog w K mg base "_law_same" 2 ["_law_found", "_law_due"] spSameL := ⟨⟨_, _, ok_sameL F_same T Dsame, PySem.W.mg_of X G a_same, k_same, b_same⟩⟩
  have Dplan : Df l.prog w K mg base "_law_plan" 2 ["_law_tape_here"] spPlan := ⟨⟨_, _, ok_plan F_plan Ddraw, PySem.W.mg_of X G a_plan, k_plan, b_plan⟩⟩
  have Dasked : Df l.prog w K mg base "_law_asked" 1 ["_law_a_plan", "_law_a_number", "_law_a_first"] spAsked := ⟨⟨_, _, ok_asked F_asked T, PySem.W.mg_of X G a_asked, k_asked, b_asked⟩⟩
  have Dkept : Df l.prog w K mg base "_law_kept" 1 ["_law_a_plan", "_law_takes_here", "_law_hands_here"] spKept := ⟨⟨_, _, ok_kept F_kept T, PySem.W.mg_of X G a_kept, k_kept, b_kept⟩⟩
  have Dabt : Df l.prog w K mg base "_law_about" 2 ["_law_tape_here", "_law_takes_here", "_law_hands_here"] spAbout := ⟨⟨_, _, ok_about F_abt T Ddraw, PySem.W.mg_of X G a_abt, k_abt, b_abt⟩⟩
  have Daat : Df l.prog w K mg base "asked_at" 1 ["plan", "number", "first"] (spAskedAt true) := ⟨⟨_, _, ok_asked_at true F_aat, PySem.W.mg_of X G a_aat, k_aat, b_aat⟩⟩
  have DaatF : Df l.prog w K mg base "asked_at" 1 ["plan", "number", "first"] (spAskedAt false) := ⟨⟨_, _, ok_asked_at false F_aat, PySem.W.mg_of X G a_aat, k_aat, b_aat⟩⟩
  have Daof : Df l.prog w K mg base "asks_of" 2 ["plan", "many", "first"] (spAsksOf true) := ⟨⟨_, _, ok_asks_of true F_aof T Daat, PySem.W.mg_of X G a_aof, k_aof, b_aof⟩⟩
  have DaatK : DfK l.prog w K mg base "asked_at" 1 ["plan", "number", "first"] ["first", "number", "plan"] revV (spAskedAt false) := ⟨⟨_, _, _, ok_asked_at false F_aat, PySem.W.mg_of X G a_aat, k_aat, kb_aat⟩⟩
  have DaatD : DfD l.prog w K mg base "asked_at" 1 ["plan", "number", "first"] [.int 0] (spAskedAt true) := ⟨⟨_, _, ds4, ok_asked_at true F_aat, PySem.W.mg_of X G a_aat, k_aat, vd4, b_aatD⟩⟩
  have DaofK : DfK l.prog w K mg base "asks_of" 2 ["plan", "many", "first"] ["many", "first", "plan"] rotV (spAsksOf false) := ⟨⟨_, _, _, ok_asks_of false F_aof T DaatF, PySem.W.mg_of X G a_aof, k_aof, kb_aof⟩⟩
  have DaofD : DfD l.prog w K mg base "asks_of" 2 ["plan", "many", "first"] [.int 0] (spAsksOf true) := ⟨⟨_, _, ds5, ok_asks_of true F_aof T Daat, PySem.W.mg_of X G a_aof, k_aof, vd5, b_aofD⟩⟩
  have Dar : Df l.prog w K mg base "_law_asked_right" 3 ["_law_tape_here", "_law_a_plan"] spAskedRight := ⟨⟨_, _, ok_asked_right F_ar T Ddraw Dasked DsameL Daat DaatK DaatD Daof DaofK DaofD, PySem.W.mg_of X G a_ar, k_ar, b_ar⟩⟩
  have Dpace : Dm l.prog w K mg base C "pace" 2 ["self"] (spPace C) := ⟨⟨f_pace, _, ok_pace F_pace T GT Dgcd, GT.cl, ⟨a_pace, i_pace, k_pace⟩, b_pace⟩⟩
  have DG : DGk l.prog w K mg base C := ⟨⟨f_init, _, ⟨mk_C, a_init, i_init, kc_C⟩, ok_ginit F_init T GT Dism Dafk, PySem.W.mg_of X G g_C, b_init⟩⟩
  have Dkeep : Df l.prog w K mg base "keeps" 3 ["gang", "plan"] (spKeeps C true) := ⟨⟨_, _, ok_keeps true F_keep Dpace, PySem.W.mg_of X G a_keep, k_keep, b_keep⟩⟩
  have DkeepK : DfK l.prog w K mg base "keeps" 3 ["gang", "plan"] ["plan", "gang"] revV (spKeeps C false) := ⟨⟨_, _, _, ok_keeps false F_keep Dpace, PySem.W.mg_of X G a_keep, k_keep, kb_keep⟩⟩
  exact ok_law (fun_mk (st := slaw) l_law c_law k_law) T Dfold Dtape Ddraw Dtak Dhan Dnam DG Dplan Dabt Dsame Dkept Dkeep DkeepK Dar
theorem walk {l : PySem.W.OpenLaw} {q : Program} {loose : List Str} {XP : (Str → Option Value) → Heap → Prop} {YP : World → Heap → Prop} {d : DefRec} {K : Params → PySem.W.Frag} (hn : l.most = some 63) (hdf : d.params.defaults = [])
    (hY : ∀ (w : World) (h : Heap), YP w h → (K w.params).In h)
    (F : ∀ (w : World) (mg : Str → Option Value) (fa : Addr) (h : Heap), (K w.params).In h → h.Ns mainGlobals mg → mg d.name = some (.ref fa) →
      ∃ fd : FuncData, (∀ (s : Shared) (u : Value), BindsTo s fd ⟨[u], []⟩ [("_law_script", u)]) ∧ ∀ base : Heap, (K w.params).In base → base.Ns mainGlobals mg → FnOk l.prog w (K w.params) mg base CX0 5 fa fd ["_law_script"] (spLaw (K w.params))) :
    PySem.W.WalkO q loose XP YP l.row.toRowW d [] (fun f vs => PySem.call f vs) :=
  L2.walk_of (n := 63) (k := 5) (x := "_law_script") (CX := fun _ => CX0) (sp := fun w => spLaw (K w.params)) hn (by decide) hdf ⟨rfl, by decide, by decide⟩ hY F (fun _ _ a ns hl _ hS => ⟨a, ns, rfl, hS, hl, fun _ => rfl⟩) fun _ _ _ _ _ z => z
end HP
open PySem PySem.W PyProof.Rows in
set_option maxRecDepth 100000 in
set_option maxHeartbeats 0 in
theorem PySem.Challenge.cw_hotpass_k12_plans_holds : PySem.Challenge.rw_hotpass_k12_plans.Holds := by
  w_on; o_law; k_head; (case hw => w_witness2)
  k_fill
  refine HP.walk (l := PySem.Challenge.rw_hotpass_k12_plans) rfl rfl (fun w h Y => PySem.W.kIn_of Y) ?F
  case F =>
    intro w mg fa h KX G hmg
    refine' HP.all_mk KX G hmg ?g_C ?pg_C ?hd_C ?po_C ?sa_C ?mk_C ?kc_C ?at_C_name ?at_C_takes ?at_C_hands ?a_isn ?l_isn ?c_isn ?k_isn ?d_isn ?a_isr ?l_isr ?c_isr ?k_isr ?a_ism ?l_ism ?c_ism ?k_ism ?a_afk ?l_afk ?c_afk ?k_afk ?a_gcd ?l_gcd ?c_gcd ?k_gcd ?a_keep ?l_keep ?c_keep ?k_keep ?a_tape ?l_tape ?c_tape ?k_tape ?a_draw ?l_draw ?c_draw ?k_draw ?a_fold ?l_fold ?c_fold ?k_fold ?a_nam ?l_nam ?c_nam ?k_nam ?a_tak ?l_tak ?c_tak ?k_tak ?a_han ?l_han ?c_han ?k_han ?a_same ?l_same ?c_same ?k_same ?a_plan ?l_plan ?c_plan ?k_plan ?a_asked ?l_asked ?c_asked ?k_asked ?a_kept ?l_kept ?c_kept ?k_kept ?a_abt ?l_abt ?c_abt ?k_abt ?a_ar ?l_ar ?c_ar ?k_ar ?a_law ?l_law ?c_law ?k_law ?a_aat ?l_aat ?c_aat ?k_aat ?d_aat ?a_aof ?l_aof ?c_aof ?k_aof ?d_aof ?a_init ?i_init ?l_init ?c_init ?k_init ?d_init ?a_pace ?i_pace ?l_pace ?c_pace ?k_pace ?z_len ?z_range ?z_enumerate ?z_abs ?z_min ?z_max ?z_any ?z_all ?z_sum ?z_zip ?z_divmod ?z_isinstance ?z_int ?z_bool ?z_list ?z_tuple ?z_str ?g_LETTERS ?g_MOST_LETTERS ?g_KINDS ?g_MOST_TAKE ?g_MOST_HANDS
    (case g_C => k_is)
    (case pg_C => k_is)
    (case hd_C => k_is)
    (case po_C => k_is)
    (case sa_C => k_is)
    (case mk_C => k_is)
    (case kc_C => k_is)
    (case at_C_name => k_is)
    (case at_C_takes => k_is)
    (case at_C_hands => k_is)
    (case a_isn => k_is)
    (case l_isn => k_is)
    (case c_isn => k_is)
    (case k_isn => k_is)
    (case d_isn => k_is)
    (case a_isr => k_is)
    (case l_isr => k_is)
    (case c_isr => k_is)
    (case k_isr => k_is)
    (case a_ism => k_is)
    (case l_ism => k_is)
    (case c_ism => k_is)
    (case k_ism => k_is)
    (case a_afk => k_is)
    (case l_afk => k_is)
    (case c_afk => k_is)
    (case k_afk => k_is)
    (case a_gcd => k_is)
    (case l_gcd => k_is)
    (case c_gcd => k_is)
    (case k_gcd => k_is)
    (case a_keep => k_is)
    (case l_keep => k_is)
    (case c_keep => k_is)
    (case k_keep => k_is)
    (case a_tape => k_is)
    (case l_tape => k_is)
    (case c_tape => k_is)
    (case k_tape => k_is)
    (case a_draw => k_is)
    (case l_draw => k_is)
    (case c_draw => k_is)
    (case k_draw => k_is)
    (case a_fold => k_is)
    (case l_fold => k_is)
    (case c_fold => k_is)
    (case k_fold => k_is)
    (case a_nam => k_is)
    (case l_nam => k_is)
    (case c_nam => k_is)
    (case k_nam => k_is)
    (case a_tak => k_is)
    (case l_tak => k_is)
    (case c_tak => k_is)
    (case k_tak => k_is)
    (case a_han => k_is)
    (case l_han => k_is)
    (case c_han => k_is)
    (case k_han => k_is)
    (case a_same => k_is)
    (case l_same => k_is)
    (case c_same => k_is)
    (case k_same => k_is)
    (case a_plan => k_is)
    (case l_plan => k_is)
    (case c_plan => k_is)
    (case k_plan => k_is)
    (case a_asked => k_is)
    (case l_asked => k_is)
    (case c_asked => k_is)
    (case k_asked => k_is)
    (case a_kept => k_is)
    (case l_kept => k_is)
    (case c_kept => k_is)
    (case k_kept => k_is)
    (case a_abt => k_is)
    (case l_abt => k_is)
    (case c_abt => k_is)
    (case k_abt => k_is)
    (case a_ar => k_is)
    (case l_ar => k_is)
    (case c_ar => k_is)
    (case k_ar => k_is)
    (case a_law => k_is)
    (case l_law => k_is)
    (case c_law => k_is)
    (case k_law => k_is)
    (case a_aat => k_is)
    (case l_aat => k_is)
    (case c_aat => k_is)
    (case k_aat => k_is)
    (case d_aat => k_is)
    (case a_aof => k_is)
    (case l_aof => k_is)
    (case c_aof => k_is)
    (case k_aof => k_is)
    (case d_aof => k_is)
    (case a_init => k_is)
    (case i_init => k_is)
    (case l_init => k_is)
    (case c_init => k_is)
    (case k_init => k_is)
    (case d_init => k_is)
    (case a_pace => k_is)
    (case i_pace => k_is)
    (case l_pace => k_is)
    (case c_pace => k_is)
    (case k_pace => k_is)
    (case z_len => k_is)
    (case z_range => k_is)
    (case z_enumerate => k_is)
    (case z_abs => k_is)
    (case z_min => k_is)
    (case z_max => k_is)
    (case z_any => k_is)
    (case z_all => k_is)
    (case z_sum => k_is)
    (case z_zip => k_is)
    (case z_divmod => k_is)
    (case z_isinstance => k_is)
    (case z_int => k_is)
    (case z_bool => k_is)
    (case z_list => k_is)
    (case z_tuple => k_is)
    (case z_str => k_is)
    (case g_LETTERS => k_is)
    (case g_MOST_LETTERS => k_is)
    (case g_KINDS => k_is)
    (case g_MOST_TAKE => k_is)
    (case g_MOST_HANDS => k_is)

