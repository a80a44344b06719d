import PyProof.Rows.All
import Wide.All
import OpenK.AllK
import Wide.FinOn
import HandS.Base
import HandS.Call
import HandS.List
import HandS.Comp
import HandS.Ends
import HandS.Iter
import HandS.Text
import HandS.Words
import HandS.WordsList
import HandS.IsInst
import HandS.Wide
import HandS.Defaults
import HandS.MakeKw
import HandS.Style
import HandS.Codes
import KE.KEqSeq
import HandS.Zip
import HandS.NoneIn
import HandS.TupAny
import KE.KTupSum
import KE.KRevSl
import PySem.Challenge.RW_hotpass_k08_paces_and_who_binds
set_option Elab.async false
set_option linter.all false
set_option maxRecDepth 100000
set_option maxHeartbeats 4000000
namespace HP
open PySem L2
def top (i : Nat) : Stmt := PySem.Challenge.pw_hotpass_k08_paces_and_who_binds.main.body.getD i (.Pass ⟨0, 0, 0, 0⟩)
/-! ### a def called by its name -/
structure Df (P : Program) (w : World) (K : PySem.W.Frag) (mg : Str → Option Value) (base : Heap) (x : Str) (k : Nat) (ps : List Str) (sp : Sp) : Prop where
  ex : ∃ (f : Addr) (fd : FuncData), FnOk P w K mg base CX0 k f fd ps sp ∧ mg x = some (.ref f) ∧ PySem.W.keepIn K (.ref f) = true ∧ Binds K fd ps []
theorem pe_fn {X : Cx} {x : Str} {k : Nat} {ps : List Str} {sp : Sp} {p pos : Pos} {e : Expr} {es : List Expr} {t : TA} (D : Df X.prog X.w X.K X.mg X.base x k ps sp) (hr : Room k X.A) (ha : PA X (e :: es) t)
    (hg : Gl X x := by rfl) (hdb : (x == ("__debug__" : Str)) = false := by decide) (he : starEach (e :: es) X.env = (false, eval e X.env) :: starEach es X.env := by rfl) (hpl : (backTo pos (starEach es X.env)).any (·.1) = false := by rfl) :
    PE X (.Call (.Name x p) (e :: es) [] pos) (tCall sp [] E0 t) := by
  obtain ⟨f, fd, F, hm, kp, b⟩ := D.ex
  exact pe_call F hr hg hm kp b .nil pass0 ha hdb he hpl
/-! ### o.m(k = v) -/
def tMethK (C : Addr) (m : Str) (n : Nat) (sp : Sp) (gV : List V → List V → List V) (E : XK) (ta : TE) (tk : TA) : TE := fun σ H Q => ta σ H fun x H1 => ∃ a dx fs, x = .ref a ∧ H1 a = some (.ins C dx fs) ∧ fs.lookup m = none ∧
  tk σ H1 fun zs H2 => zs.length = n ∧ sp (gV [x] zs) H2 Q E
theorem pe_methK0 {X : Cx} {CX : CXT} {k : Nat} {f C : Addr} {fd : FuncData} {ps ks : List Str} {sp : Sp} {E : XK} {m : Str} {apos pos : Pos} {o : Expr} {kws : List Keyword} {ta : TE} {tk : TA} {g : List Value → List Value → List Value} {gV : List V → List V → List V} {pl : Sem Bool}
    (he : PE X o ta) (c : Cls X.K C) (hm : Meth X.K C m f) (F : FnOk X.prog X.w X.K X.mg X.base CX k f fd ps sp) (hr : Room k X.A) (hb : KBn X.K fd ps 1 ks g gV) (hx : Passes CX X E) (hkw : PK X kws tk)
    (hall : (backToKw pos (keywordEach kws X.env)).all (·.1.isSome) = true := by rfl) (hks : (backToKw pos (keywordEach kws X.env)).filterMap (·.1) = ks := by rfl)
    (hpl : ((backTo pos (starEach [] X.env)).any (·.1) || (backToKw pos (keywordEach kws X.env)).any (·.1.isNone)) = false := by rfl)
    (ht : eval (.Call (.Attribute o m apos) [] kws pos) X.env = (do
      let ov ← eval o X.env
      standAt apos.atName
      let (f, first) ← holding [ov] (getMethod ov m pl)
      callWith pos f first (backTo pos (starEach [] X.env)) (backToKw pos (keywordEach kws X.env))) := by rfl) :
    PE X (.Call (.Attribute o m apos) [] kws pos) (tMethK C m ks.length sp gV E ta tk) := by
  refine ⟨fun pins s σ H Q I h => ?_⟩
  refine PySem.W.methodCall_KW (pl := pl) (thn (he.run pins s σ H _ I h) fun u s1 ⟨x, H1, I1, rx, a, dx, fs, ex, ea, l, q⟩ => ?_) ht
  subst ex
  obtain rfl : u = Value.ref a := rx
  refine getmeth_ok I1 ea c hm l ?_
  refine PySem.W.callWith_KW0 (first := [.ref a]) (h₀ := X.base) I.ok.mod.kin hm.kp hall ?_ hpl
  refine thn (hkw.run pos pins s1 σ H1 _ I1 q) fun ws s2 ⟨zs, H2, I2, rz, l2, q2⟩ => ⟨I2.kIn, ?_⟩
  rw [hks]
  exact run_fnN (us := [.ref a]) (vs := [.ref a]) F hr hb hx I2 (.cons rfl .nil) rz rfl l2 q2
/-! ### the names of Python's own that the text reads, its constants -/
structure Txt (mg : Str → Option Value) (tM tL : Tok) : Prop where
  zlen : mg "len" = none
  zrange : mg "range" = none
  zenumerate : mg "enumerate" = none
  zabs : mg "abs" = none
  zmin : mg "min" = none
  zmax : mg "max" = none
  zany : mg "any" = none
  zall : mg "all" = none
  zsum : mg "sum" = none
  zzip : mg "zip" = none
  zdivmod : mg "divmod" = none
  zisinstance : mg "isinstance" = none
  zint : mg "int" = none
  zbool : mg "bool" = none
  zlist : mg "list" = none
  ztuple : mg "tuple" = none
  zstr : mg "str" = none
  gLETTERS : ∃ t, mg "LETTERS" = some (.str (Str.ofString "abcdefghijklmnopqrstuvwxyz") t)
  gMOST_LETTERS : ∃ t, mg "MOST_LETTERS" = some (.int 8 t)
  gKINDS : ∃ t, mg "KINDS" = some (.int 4 t)
  gMOST_TAKE : ∃ t, mg "MOST_TAKE" = some (.int 1000000 t)
  gMOST_HANDS : ∃ t, mg "MOST_HANDS" = some (.int 4 t)
theorem pe_gi {X : Cx} {x : Str} {i : Int} {pos : Pos} (h : ∃ t, X.mg x = some (.int i t)) (hg : Gl X x := by rfl) (hd : (x == ("__debug__" : Str)) = false := by decide) : PE X (.Name x pos) (tC (.int i)) := by
  obtain ⟨t, h⟩ := h
  exact pe_glob hg h ⟨_, rfl⟩ hd
theorem pe_gs {X : Cx} {x z : Str} {pos : Pos} (h : ∃ t, X.mg x = some (.str z t)) (hg : Gl X x := by rfl) (hd : (x == ("__debug__" : Str)) = false := by decide) : PE X (.Name x pos) (tC (.str z)) := by
  obtain ⟨t, h⟩ := h
  exact pe_glob hg h ⟨_, rfl⟩ hd
theorem iteD {c A B : Prop} [Decidable c] (h1 : c → A) (h2 : ¬ c → B) : if decide c = true then A else B := by
  by_cases h : c
  · rw [decide_eq_true h, if_pos rfl]
    exact h1 h
  · rw [decide_eq_false h, if_neg Bool.false_ne_true]
    exact h2 h
/-! ### heaps -/
/-- all but t is as it was -/
def SameBut (t : Addr) (H H' : Hp) : Prop := ∀ b o, H b = some o → b ≠ t → H' b = some o
theorem SameBut.trans {t : Addr} {H H1 H2 : Hp} (a : SameBut t H H1) (b : SameBut t H1 H2) : SameBut t H H2 := fun c o h n => b c o (a c o h n) n
theorem Same.but {t : Addr} {H H' : Hp} (s : Same H H') : SameBut t H H' := fun b o h _ => s b o h
theorem same_new {H : Hp} {p : Addr} {o : HO} (h : H p = none) : Same H (upd H p o) := fun b u e => by
  rw [upd_ne (ne_of_none e h)]
  exact e
/-- a tape of which at most c numbers were counted -/
def TapeAt (H : Hp) (t : Addr) (c : Int) : Prop := ∃ a b k : Int, H t = some (.lst [.int a, .int b, .int k]) ∧ 0 ≤ a ∧ 0 ≤ b ∧ b ≤ 2305843009300000000 ∧ 0 ≤ k ∧ k ≤ c
theorem TapeAt.mono {H : Hp} {t : Addr} {c d : Int} (h : TapeAt H t c) (l : c ≤ d) : TapeAt H t d := by
  obtain ⟨a, b, k, h1, h2, h3, h4, h5, h6⟩ := h
  exact ⟨a, b, k, h1, h2, h3, h4, h5, Int.le_trans h6 l⟩
theorem TapeAt.same {H H' : Hp} {t : Addr} {c : Int} (h : TapeAt H t c) (s : Same H H') : TapeAt H' t c := by
  obtain ⟨a, b, k, h1, h2⟩ := h
  exact ⟨a, b, k, s _ _ h1, h2⟩
theorem TapeAt.some {H : Hp} {t : Addr} {c : Int} (h : TapeAt H t c) : ∃ zs, H t = some (.lst zs) := by
  obtain ⟨a, b, k, h1, h2⟩ := h
  exact ⟨_, h1⟩
theorem SameBut.tup {t : Addr} {c : Int} {H H' : Hp} {a : Addr} {xs : List V} (s : SameBut t H H') (ht : TapeAt H t c) (h : H a = some (.tup xs)) : H' a = some (.tup xs) := by
  obtain ⟨zs, hz⟩ := ht.some
  exact s _ _ h (ne_of h hz (by intro z; cases z))
theorem SameBut.ins {t : Addr} {c : Int} {H H' : Hp} {a C dx : Addr} {fs : List (Str × V)} (s : SameBut t H H') (ht : TapeAt H t c) (h : H a = some (.ins C dx fs)) : H' a = some (.ins C dx fs) := by
  obtain ⟨zs, hz⟩ := ht.some
  exact s _ _ h (ne_of h hz (by intro z; cases z))
/-- pairs of numbers, each a tuple -/
inductive PairsAt (H : Hp) : List V → List (Int × Int) → Prop
  | nil : PairsAt H [] []
  | cons {t : Addr} {m l : Int} {xs : List V} {L : List (Int × Int)} (h : H t = some (.tup [.int m, .int l])) (r : PairsAt H xs L) : PairsAt H (.ref t :: xs) ((m, l) :: L)
theorem PairsAt.len {H : Hp} {xs : List V} {L : List (Int × Int)} (h : PairsAt H xs L) : xs.length = L.length := by
  induction h with
  | nil => rfl
  | cons _ _ ih => rw [List.length_cons, List.length_cons, ih]
theorem PairsAt.get {H : Hp} {xs : List V} {L : List (Int × Int)} (h : PairsAt H xs L) : ∀ {i : Nat} {x : V}, xs[i]? = some x → ∃ t m l, x = .ref t ∧ H t = some (.tup [.int m, .int l]) ∧ L[i]? = some (m, l) := by
  induction h with
  | nil => intro i x e; simp at e
  | @cons t m l xs L h1 r ih =>
    intro i x e
    cases i with
    | zero =>
      have e' : V.ref t = x := Option.some.inj e
      exact ⟨t, m, l, e'.symm, h1, rfl⟩
    | succ j => exact ih (i := j) e
theorem PairsAt.move {H H' : Hp} {xs : List V} {L : List (Int × Int)} (h : PairsAt H xs L) (s : ∀ a ys, H a = some (.tup ys) → H' a = some (.tup ys)) : PairsAt H' xs L := by
  induction h with
  | nil => exact .nil
  | cons h1 _ ih => exact .cons (s _ _ h1) ih
theorem PairsAt.snoc {H : Hp} {xs : List V} {L : List (Int × Int)} {t : Addr} {m l : Int} (h : PairsAt H xs L) (ht : H t = some (.tup [.int m, .int l])) : PairsAt H (xs ++ [.ref t]) (L ++ [(m, l)]) := by
  induction h with
  | nil => exact .cons ht .nil
  | cons h1 _ ih => exact .cons h1 ih
theorem PairsAt.take {H : Hp} {xs : List V} {L : List (Int × Int)} (h : PairsAt H xs L) : ∀ n : Nat, PairsAt H (xs.take n) (L.take n) := by
  induction h with
  | nil => intro n; simp only [List.take_nil]; exact .nil
  | cons h1 _ ih =>
    intro n
    cases n with
    | zero => exact .nil
    | succ j => exact .cons h1 (ih j)
def GoodL (L : List (Int × Int)) : Prop := L ≠ [] ∧ L.length ≤ 6 ∧ ∀ p ∈ L, 1 ≤ p.1 ∧ p.1 ≤ 1000000 ∧ 0 ≤ p.2 ∧ p.2 ≤ 1000000
/-! ### _law_draw -/
def spDraw : Sp := fun vs H Q _ => ∃ (t : Addr) (c many : Int), vs = [.ref t, .int many] ∧ TapeAt H t c ∧ c ≤ 100000 ∧ 0 < many ∧ many ≤ 10000000000000 ∧
  ∀ (r : Int) (H' : Hp), 0 ≤ r → r < many → TapeAt H' t (c + 1) → SameBut t H H' → Q (.int r) H'
section
variable {P : Program} {w : World} {K : PySem.W.Frag} {mg : Str → Option Value} {base : Heap}
abbrev sLdraw : Stmt := top 19
theorem scLdraw : FnScope ["_law_tape_here", "_law_many", "_law_found", "_law_once", "_law_twice", "_law_wide"] ["_law_tape_here", "_law_many"] (defScope sLdraw) := ⟨rfl, rfl, rfl, by decide +kernel, rfl, by decide +kernel, by decide +kernel⟩
theorem wd {i j : Int} (h : 0 < j) (h2 : j ≤ 10000000000000) : CDivW i j := wide_div (b := 64) h (by omega) (by decide) (by decide)
theorem ok_draw {f : Addr} {fd : FuncData} (F : Fun K "_law_draw" "_law_draw" sLdraw f fd) : FnOk P w K mg base CX0 1 f fd ["_law_tape_here", "_law_many"] spDraw := by
  refine F.ok scLdraw (fun vs H Q E h => ?_) (fun cdv A outer s H vs Q E hr h => ?_)
  · obtain ⟨t, c, many, rfl, _⟩ := h
    rfl
  · obtain ⟨t, c, many, rfl, ⟨a, b, k, ht, ha, hb, hb2, hk, hkc⟩, hc, hm, hm2, q⟩ := h
    refine ⟨_, (pss_cons (ps_if (pt_cmp (pc_gt (pe_ix ix_list (pv 0) pe_int (fun _ _ => rfl)) pe_int)) (pss_cons (ps_set (i := 2) scLdraw.nd rfl (Or.inl rfl) (pe_op op_mod (pe_ix ix_list (pv 0) pe_int (fun _ _ => rfl)) (pv 1)))
    (pss_cons (ps_asg (pe_op op_fdivW (pe_ix ix_list (pv 0) pe_int (fun _ _ => rfl)) (pv 1)) (pg_sub (pv 0) pe_int set_list))
    (pss_one (ps_ret (pv 2))))) pss_nil)
    (pss_cons (ps_asg (pe_op op_add (pe_ix ix_list (pv 0) pe_int (fun _ _ => rfl)) pe_int) (pg_sub (pv 0) pe_int set_list))
    (pss_cons (ps_set (i := 3) scLdraw.nd rfl (Or.inl rfl) (pe_op op_mod (pe_op op_pow (pe_op op_add (pe_ix ix_list (pv 0) pe_int (fun _ _ => rfl)) (pe_op op_mul pe_int (pe_ix ix_list (pv 0) pe_int (fun _ _ => rfl)))) pe_int) pe_int))
    (pss_cons (ps_set (i := 4) scLdraw.nd rfl (Or.inl rfl) (pe_op op_mod (pe_op op_mul (pe_op op_add (pv 3) (pe_ix ix_list (pv 0) pe_int (fun _ _ => rfl))) (pe_op op_add (pe_op op_add (pe_op op_mod (pv 3) pe_int) pe_int) (pe_ix ix_list (pv 0) pe_int (fun _ _ => rfl)))) pe_int))
    (pss_cons (ps_set (i := 5) scLdraw.nd rfl (Or.inl rfl) (pe_op op_mod (pe_op op_add (pe_op op_add (pe_op op_fdivW (pe_ix ix_list (pv 0) pe_int (fun _ _ => rfl)) pe_int) (pe_op op_mul (pv 4) pe_int)) (pe_ix ix_list (pv 0) pe_int (fun _ _ => rfl))) pe_int))
    (pss_one (ps_ret (pe_op op_mod (pe_op op_fdivW (pe_op op_mod (pe_op op_add (pe_op op_add (pe_op op_mul (pv 4) pe_int) (pe_op op_mul (pv 5) pe_int)) (pv 3)) pe_int) pe_int) (pv 1))))))))), ?_⟩
    have S0 : SqL K H t [.int a, .int b, .int k] := SqL.of ht
    refine ⟨_, rfl, t, _, 0, .int a, rfl, rfl, S0, rfl, a, 0, rfl, rfl, _, rfl, ?_⟩
    refine iteD (fun ca => ?_) (fun ca => ?_)
    · show tSeq _ _ _ _ _
      refine ⟨_, rfl, t, _, 0, .int a, rfl, rfl, S0, rfl, _, rfl, a, many, rfl, rfl, hm, ?_⟩
      refine ⟨_, rfl, t, _, 0, .int a, rfl, rfl, S0, rfl, _, rfl, a, many, rfl, rfl, wd hm hm2, ?_⟩
      refine ⟨_, rfl, t, _, 0, 0, rfl, rfl, ht, rfl, ?_⟩
      refine ⟨_, rfl, ?_⟩
      refine q (a % many) _ (Int.emod_nonneg _ (by omega)) (Int.emod_lt_of_pos _ hm) ⟨a / many, b, k, upd_same, Int.ediv_nonneg (by omega) (by omega), hb, hb2, hk, by omega⟩ (fun x o e n => ?_)
      rw [upd_ne n]
      exact e
    · show tNext _ _ _
      refine ⟨_, rfl, t, _, 2, .int k, rfl, rfl, S0, rfl, k, 1, rfl, rfl, ?_⟩
      refine ⟨_, rfl, t, _, 2, 2, rfl, rfl, ht, rfl, ?_⟩
      have S1 : SqL K (upd H t (.lst [.int a, .int b, .int (k + 1)])) t [.int a, .int b, .int (k + 1)] := SqL.of upd_same
      show tSeq _ _ _ _ (upd H t (.lst [.int a, .int b, .int (k + 1)]))
      refine ⟨_, rfl, t, _, 1, .int b, rfl, rfl, S1, rfl, _, rfl, t, _, 2, .int (k + 1), rfl, rfl, S1, rfl, 39373, k + 1, rfl, rfl, .inl ⟨by decide, by decide⟩, b, 39373 * (k + 1), rfl, rfl, _, 5, rfl, rfl, ⟨by decide, by decide, by omega⟩, _, 2147483647, rfl, rfl, (show (0 : Int) < 2147483647 by decide), ?_⟩
      dsimp only
      have o1 : 0 ≤ ((b + 39373 * (k + 1)) ^ (5 : Int).toNat) % 2147483647 := Int.emod_nonneg _ (by decide)
      have o2 : ((b + 39373 * (k + 1)) ^ (5 : Int).toNat) % 2147483647 < 2147483647 := Int.emod_lt_of_pos _ (by decide)
      generalize ((b + 39373 * (k + 1)) ^ (5 : Int).toNat) % 2147483647 = once at o1 o2
      refine ⟨_, rfl, _, rfl, t, _, 2, .int (k + 1), rfl, rfl, S1, rfl, once, k + 1, rfl, rfl, _, rfl, once, 40009, rfl, rfl, (show (0 : Int) < 40009 by decide), _, 7, rfl, rfl, _, rfl, t, _, 2, .int (k + 1), rfl, rfl, S1, rfl, _, k + 1, rfl, rfl, _, _, rfl, rfl, .inl ⟨by omega, by omega⟩, _, 2147483629, rfl, rfl, (show (0 : Int) < 2147483629 by decide), ?_⟩
      dsimp only
      generalize hz2 : ((once + (k + 1)) * (once % 40009 + 7 + (k + 1))) % 2147483629 = twice
      have t1 : 0 ≤ twice := by rw [← hz2]; exact Int.emod_nonneg _ (by decide)
      have t2 : twice < 2147483629 := by rw [← hz2]; exact Int.emod_lt_of_pos _ (by decide)
      refine ⟨_, rfl, t, _, 1, .int b, rfl, rfl, S1, rfl, b, 2147483647, rfl, rfl, wd (by decide) (by decide), _, rfl, twice, 40009, rfl, rfl, .inl ⟨by omega, by omega⟩, _, _, rfl, rfl, _, rfl, t, _, 2, .int (k + 1), rfl, rfl, S1, rfl, _, k + 1, rfl, rfl, _, 2305843009213693951, rfl, rfl, (show (0 : Int) < 2305843009213693951 by decide), ?_⟩
      dsimp only
      generalize hz3 : (b / 2147483647 + twice * 40009 + (k + 1)) % 2305843009213693951 = wide
      have w1 : 0 ≤ wide := by rw [← hz3]; exact Int.emod_nonneg _ (by decide)
      have w2 : wide < 2305843009213693951 := by rw [← hz3]; exact Int.emod_lt_of_pos _ (by decide)
      refine ⟨_, rfl, twice, 48271, rfl, rfl, .inl ⟨by omega, by omega⟩, _, rfl, wide, 39373, rfl, rfl, .inl ⟨by omega, by omega⟩, _, _, rfl, rfl, _, rfl, _, once, rfl, rfl, _, 2305843009213693921, rfl, rfl, (show (0 : Int) < 2305843009213693921 by decide), _, 64, rfl, rfl, wd (by decide) (by decide), _, rfl, _, many, rfl, rfl, hm, ?_⟩
      refine q _ _ (Int.emod_nonneg _ (by omega)) (Int.emod_lt_of_pos _ hm) ⟨a, b, k + 1, upd_same, ha, hb, hb2, by omega, by omega⟩ (fun x o e n => ?_)
      rw [upd_ne n]
      exact e
end
end HP
namespace HP
open PySem L2
section
variable {P : Program} {w : World} {K : PySem.W.Frag} {mg : Str → Option Value} {base : Heap} {tM tL : Tok}
/-! ### _law_tape -/
def spTape (K : PySem.W.Frag) : Sp := fun vs H Q _ => ∃ (a : Addr) (ns : List Int) (k : Int), vs = [.ref a, .int k] ∧ SqL K H a (ns.map V.int) ∧ 0 ≤ k ∧ k ≤ 1000 ∧
  ∀ (t : Addr) (H' : Hp), H t = none → TapeAt H' t 0 → Same H H' → Q (.ref t) H'
abbrev sLtape : Stmt := top 18
theorem scLtape : FnScope ["_law_script", "_law_k", "_law_cell"] ["_law_script", "_law_k"] (defScope sLtape) := ⟨rfl, rfl, rfl, by decide +kernel, rfl, by decide +kernel, by decide +kernel⟩
theorem map_int {ns : List Int} {i : Nat} {y : V} (h : (ns.map V.int)[i]? = some y) : ∃ z, ns[i]? = some z ∧ y = .int z := by
  rw [List.getElem?_map] at h
  cases e : ns[i]? with
  | none => rw [e] at h; cases h
  | some z => rw [e] at h; exact ⟨z, rfl, (Option.some.inj h).symm⟩
theorem at_int {ns : List Int} {k : Int} (h0 : 0 ≤ k) (h1 : k < ((ns.map V.int).length : Int)) : ∃ z, atI (ns.map V.int) k = some (V.int z) := by
  have hl : k.toNat < ns.length := by rw [List.length_map] at h1; omega
  refine ⟨ns[k.toNat], at_of (j := k.toNat) (by omega) ?_⟩
  rw [List.getElem?_map, List.getElem?_eq_getElem hl]
  rfl
theorem cm01 (x : Int) (b : Bool) : CMul x (if b = true then 1 else 0) := .inr (by cases b <;> decide)
theorem ok_tape {f : Addr} {fd : FuncData} (F : Fun K "_law_tape" "_law_tape" sLtape f fd) (T : Txt mg tM tL) : FnOk P w K mg base CX0 1 f fd ["_law_script", "_law_k"] (spTape K) := by
  refine F.ok scLtape (fun vs H Q E h => ?_) (fun cdv A outer s H vs Q E hr h => ?_)
  · obtain ⟨a, ns, k, rfl, _⟩ := h
    rfl
  · obtain ⟨a, ns, k, rfl, hS, h0, h1, q⟩ := h
    refine ⟨_, (pss_cons (ps_set (i := 2) scLtape.nd rfl (Or.inl rfl) (pe_ifExp (pt_cmp (pc_lt (pv 1) (pe_callB call_len_seq (by rfl) T.zlen (by decide +kernel) (pa_cons (pv 0) pa_nil)))) (pe_ix ix_list (pv 0) (pv 1) (fun _ _ => rfl)) pe_int))
    (pss_one (ps_ret (pe_lst (pa_cons (pe_op op_mul (pe_callB call_abs (by rfl) T.zabs (by decide +kernel) (pa_cons (pv 2) pa_nil)) (pe_callTy call_int1 (by rfl) T.zint (by decide +kernel) (pa_cons (pe_cmp (pc_ge (pe_callB call_abs (by rfl) T.zabs (by decide +kernel) (pa_cons (pv 2) pa_nil)) (pe_op op_pow pe_int pe_int))) pa_nil))) (pa_cons (pe_op op_add (pe_op op_add (pe_op op_mod (pv 2) pe_int) (pe_op op_mul pe_int (pv 1))) pe_int) (pa_cons pe_int pa_nil))))))), ?_⟩
    have fin : ∀ z : Int, ∀ p, H p = none → Q (.ref p) (upd H p (.lst [.int ((if z < 0 then -z else z) * (if decide ((10 : Int) ^ (18 : Int).toNat ≤ (if z < 0 then -z else z)) then 1 else 0)), .int (z % 2305843009213693951 + 39373 * k + 17), .int 0])) := by
      intro z p hp
      refine q p _ hp ⟨_, _, _, upd_same, ?_, ?_, ?_, Int.le_refl _, Int.le_refl _⟩ (same_new hp)
      · refine Int.mul_nonneg ?_ ?_ <;> split <;> omega
      · omega
      · omega
    refine ⟨_, rfl, _, rfl, a, _, rfl, .inl hS, k, _, rfl, rfl, _, rfl, ?_⟩
    refine iteD (fun c1 => ?_) (fun c1 => ?_)
    · obtain ⟨z, hz⟩ := at_int h0 c1
      refine ⟨_, rfl, _, rfl, a, _, k, .int z, rfl, rfl, hS, hz, ?_⟩
      refine ⟨_, rfl, z, rfl, _, rfl, z, rfl, 10, 18, rfl, rfl, ⟨by decide, by decide, by decide⟩, _, _, rfl, rfl, .inr ⟨_, rfl, _, _, rfl, rfl, cm01 _ _, ?_⟩⟩
      refine ⟨_, rfl, z, 2305843009213693951, rfl, rfl, (show (0 : Int) < 2305843009213693951 by decide), _, rfl, 39373, k, rfl, rfl, .inl ⟨by decide, by decide⟩, _, _, rfl, rfl, _, 17, rfl, rfl, (by show 3 ≤ sizeLine; decide), fun p hp => ?_⟩
      exact fin z p hp
    · refine ⟨_, rfl, 0, rfl, _, rfl, 0, rfl, 10, 18, rfl, rfl, ⟨by decide, by decide, by decide⟩, _, _, rfl, rfl, .inr ⟨_, rfl, _, _, rfl, rfl, cm01 _ _, ?_⟩⟩
      refine ⟨_, rfl, 0, 2305843009213693951, rfl, rfl, (show (0 : Int) < 2305843009213693951 by decide), _, rfl, 39373, k, rfl, rfl, .inl ⟨by decide, by decide⟩, _, _, rfl, rfl, _, 17, rfl, rfl, (by show 3 ≤ sizeLine; decide), fun p hp => ?_⟩
      exact fin 0 p hp
/-! ### over enumerate -/
theorem for_enum {K : PySem.W.Frag} {a : Addr} {xs : List V} {g : TG} {tb : TS} {D : Ends} {σ : L2.St} {H : Hp} (Pv : Nat → L2.St → Hp → Prop) (h0 : Pv 0 σ H) (hl : ∀ i σ H, i ≤ xs.length → Pv i σ H → SqL K H a xs)
    (hs : ∀ i x σ H T, xs[i]? = some x → Pv i σ H → H T = none → g (.ref T) σ (upd H T (.tup [.int (i : Nat), x])) fun σ2 H2 => tb { D with nx := Pv (i + 1), ct := Pv (i + 1), bk := D.nx } σ2 H2) (hd : ∀ σ H, Pv xs.length σ H → D.nx σ H) :
    ∃ W : Nat → Nat → L2.St → Hp → Prop, (∃ m, W 0 m σ H) ∧ ∀ i m σ H, W i m σ H →
      ((Ite K a).stop i H ∧ D.nx σ H) ∨ ((Ite K a).go i H ∧ ∃ N : L2.St → Hp → Prop, (∀ σ' H', N σ' H' → ∃ m', m' < m ∧ W (i + 1) m' σ' H') ∧ ∀ x H', (Ite K a).yld i H x H' → g x σ H' fun σ2 H2 => tb { D with nx := N, ct := N, bk := D.nx } σ2 H2) := by
  refine ⟨fun i m σ H => m = xs.length - i ∧ i ≤ xs.length ∧ Pv i σ H, ⟨xs.length, by simp, Nat.zero_le _, h0⟩, ?_⟩
  rintro i m σ H ⟨rfl, hi, p⟩
  have q := hl i σ H hi p
  by_cases hlt : i < xs.length
  · refine .inr ⟨⟨xs, xs[i], q, by simp [hlt]⟩, Pv (i + 1), fun σ' H' p' => ⟨xs.length - (i + 1), by omega, rfl, hlt, p'⟩, fun x H' y => ?_⟩
    obtain ⟨T, z, rfl, hT, rfl, y⟩ := y
    exact hs i z σ H T (y xs q) p hT
  · have e : i = xs.length := by omega
    subst e
    exact .inl ⟨⟨xs, q, Nat.le_refl _⟩, hd σ H p⟩
/-! ### _law_folded -/
theorem cut_ints (ns : List Int) (lo hi : Option Int) : ∃ ys : List Int, cutV (ns.map V.int) lo hi = ys.map V.int ∧ ys.length = min (HT.sIx ns.length ns.length hi - HT.sIx ns.length 0 lo) (ns.length - HT.sIx ns.length 0 lo) := by
  refine ⟨(ns.drop (HT.sIx ns.length 0 lo)).take (HT.sIx ns.length ns.length hi - HT.sIx ns.length 0 lo), ?_, ?_⟩
  · unfold cutV
    rw [List.length_map, List.map_take, List.map_drop]
  · rw [List.length_take, List.length_drop]
def spFolded (K : PySem.W.Frag) : Sp := fun vs H Q _ => ∃ (a : Addr) (ns : List Int) (m : Nat), vs = [.ref a, .int (m : Int)] ∧ SqL K H a (ns.map V.int) ∧ 0 < m ∧ m ≤ 100 ∧ ns.length ≤ 63 ∧
  ∀ (p : Addr) (cs : List Int) (H' : Hp), H p = none → cs.length = min m ns.length → H' p = some (.lst (cs.map V.int)) → Same H H' → Q (.ref p) H'
abbrev sLfolded : Stmt := top 20
theorem scLfolded : FnScope ["_law_script", "_law_many", "_law_cells", "_law_k", "_law_cell"] ["_law_script", "_law_many"] (defScope sLfolded) := ⟨rfl, rfl, rfl, by decide +kernel, rfl, by decide +kernel, by decide +kernel⟩
theorem sIx_pos (n d : Nat) (m : Nat) : HT.sIx n d (some (m : Int)) = min m n := HT.sIx_nat n d m
theorem ok_folded {f : Addr} {fd : FuncData} (F : Fun K "_law_folded" "_law_folded" sLfolded f fd) (T : Txt mg tM tL) : FnOk P w K mg base CX0 1 f fd ["_law_script", "_law_many"] (spFolded K) := by
  refine F.ok scLfolded (fun vs H Q E h => ?_) (fun cdv A outer s H vs Q E hr h => ?_)
  · obtain ⟨a, ns, m, rfl, _⟩ := h
    rfl
  · obtain ⟨a, ns, m, rfl, hS, h0, h1, hn, q⟩ := h
    refine ⟨_, (pss_cons (ps_set (i := 2) scLfolded.nd rfl (Or.inl rfl) (pe_callTy call_list_of (by rfl) T.zlist (by decide +kernel) (pa_cons (pe_slice sl_list (pv 0) po_none (po_some (pv 1))) pa_nil)))
    (pss_cons (ps_for PassesOwn.never rfl (pi_enum (by rfl) T.zenumerate (pa_cons (pe_slice sl_list (pv 0) (po_some (pv 1)) (po_some pe_int)) pa_nil)) (pg_tup rfl (pgs_cons (pg_name (i := 3) scLfolded.nd rfl (Or.inl rfl)) (pgs_cons (pg_name (i := 4) scLfolded.nd rfl (Or.inl rfl)) pgs_nil)))
    (pss_one (ps_asg (pe_op op_add (pe_ix ix_list (pv 2) (pe_op op_mod (pv 3) (pv 1)) (fun _ _ => rfl)) (pe_op op_mul (pv 4) (pe_op op_add (pv 3) pe_int))) (pg_sub (pv 2) (pe_op op_mod (pv 3) (pv 1)) set_list))))
    (pss_one (ps_ret (pv 2))))), ?_⟩
    obtain ⟨c0, e0, l0⟩ := cut_ints ns none (some (m : Int))
    obtain ⟨ys, ey, ly⟩ := cut_ints ns (some (m : Int)) (some 63)
    rw [sIx_pos, HT.sIx_none] at l0
    rw [sIx_pos, show HT.sIx ns.length ns.length (some 63) = min 63 ns.length from HT.sIx_nat ns.length ns.length 63] at ly
    -- _law_cells = list(_law_script[:_law_many])
    refine ⟨_, rfl, _, rfl, _, rfl, a, _, rfl, hS, fun p hp => ⟨p, _, rfl, .inl (SqL.of upd_same), fun l hl => ?_⟩⟩
    have npl : p ≠ l := fun e => by
      rw [e, upd_same] at hl
      cases hl
    have hl0 : H l = none := by
      rw [upd_ne npl.symm] at hl
      exact hl
    have s1 : Same H (upd (upd H p (.lst (cutV (ns.map V.int) none (some (m : Int))))) l (.lst (cutV (ns.map V.int) none (some (m : Int))))) := fun b o e => by
      rw [upd_ne (ne_of_none e hl0), upd_ne (ne_of_none e hp)]
      exact e
    -- for _law_k, _law_cell in enumerate(_law_script[_law_many:63])
    refine ⟨_, rfl, _, rfl, _, rfl, _, rfl, a, _, rfl, s1.seq hS, fun z hz => ⟨z, _, rfl, SqL.of upd_same, ?_⟩⟩
    have nlz : l ≠ z := fun e => by
      rw [← e, upd_same] at hz
      cases hz
    have hz0 : H z = none := s1.free hz
    refine for_enum (K := K) (a := z) (xs := ys.map V.int) (fun i σ H' => ∃ (cs : List Int) (u v : Option V), σ = [some (.ref a), some (.int (m : Int)), some (.ref l), u, v] ∧ H' l = some (.lst (cs.map V.int)) ∧ cs.length = c0.length ∧ H' z = some (.lst (ys.map V.int)) ∧ Same H H')
      ⟨c0, _, _, rfl, by rw [upd_ne nlz, upd_same, e0], rfl, by rw [upd_same, ey], fun b o e => by rw [upd_ne (ne_of_none e hz0)]; exact s1 b o e⟩ (fun i σ H' _ ⟨_, _, _, _, _, _, h, _⟩ => SqL.of h) ?_ ?_
    · rintro i x σ H' T hi ⟨cs, u, v, rfl, hcs, lcs, hys, s2⟩ hT
      obtain ⟨y, hy, rfl⟩ := map_int hi
      have hil : i < ys.length := (List.getElem?_eq_some_iff.mp hy).1
      have lm : cs.length = m := by omega
      have nTl : l ≠ T := ne_of_none hcs hT
      have nTz : z ≠ T := ne_of_none hys hT
      have hcs' : (upd H' T (.tup [.int (i : Nat), .int y])) l = some (.lst (cs.map V.int)) := by rw [upd_ne nTl]; exact hcs
      refine ⟨T, _, rfl, SqT.of upd_same, rfl, _, _, rfl, _, _, rfl, rfl, ?_⟩
      have im0 : 0 ≤ ((i : Nat) : Int) % (m : Int) := Int.emod_nonneg _ (by omega)
      have im1 : ((i : Nat) : Int) % (m : Int) < (m : Int) := Int.emod_lt_of_pos _ (by omega)
      obtain ⟨c, hc⟩ := at_int (ns := cs) (k := ((i : Nat) : Int) % (m : Int)) im0 (by rw [List.length_map]; omega)
      refine ⟨_, rfl, _, rfl, _, rfl, _, _, rfl, rfl, (show (0 : Int) < (m : Int) by omega), l, _, _, _, rfl, rfl, SqL.of hcs', hc, _, rfl, _, rfl, _, 2, rfl, rfl, y, _, rfl, rfl, .inr ⟨?_, ?_⟩, _, _, rfl, rfl, ?_⟩
      · omega
      · omega
      refine ⟨_, rfl, _, rfl, _, rfl, _, _, rfl, rfl, (show (0 : Int) < (m : Int) by omega), l, _, _, (((i : Nat) : Int) % (m : Int)).toNat, rfl, rfl, hcs', ?_, ?_⟩
      · unfold ixN
        rw [if_pos im0, if_pos (by rw [List.length_map]; omega)]
      refine ⟨cs.set (((i : Nat) : Int) % (m : Int)).toNat (c + y * (((i : Nat) : Int) + 2)), _, _, rfl, ?_, ?_, ?_, ?_⟩
      · rw [upd_same, List.map_set]
      · rw [List.length_set]
        exact lcs
      · rw [upd_ne nlz.symm, upd_ne nTz]
        exact hys
      · intro b o e
        rw [upd_ne (ne_of_none e hl0), upd_ne (ne_of_none (s2 _ _ e) hT)]
        exact s2 _ _ e
    · rintro σ H' ⟨cs, u, v, rfl, hcs, lcs, hys, s2⟩
      refine ⟨_, rfl, ?_⟩
      exact q l cs H' hl0 (by rw [lcs, l0]; omega) hcs s2
end
end HP
namespace HP
open PySem L2
section
variable {P : Program} {w : World} {K : PySem.W.Frag} {mg : Str → Option Value} {base : Heap} {tM tL : Tok}
theorem at3 {x y z r : Int} (h0 : 0 ≤ r) (h1 : r < 3) : ∃ b : Int, atI [V.int x, V.int y, V.int z] r = some (V.int b) ∧ (b = x ∨ b = y ∨ b = z) := by
  have : r = 0 ∨ r = 1 ∨ r = 2 := by omega
  rcases this with rfl | rfl | rfl
  · exact ⟨x, rfl, .inl rfl⟩
  · exact ⟨y, rfl, .inr (.inl rfl)⟩
  · exact ⟨z, rfl, .inr (.inr rfl)⟩
theorem at4 {x y z u r : Int} (h0 : 0 ≤ r) (h1 : r < 4) : ∃ b : Int, atI [V.int x, V.int y, V.int z, V.int u] r = some (V.int b) ∧ (b = x ∨ b = y ∨ b = z ∨ b = u) := by
  have : r = 0 ∨ r = 1 ∨ r = 2 ∨ r = 3 := by omega
  rcases this with rfl | rfl | rfl | rfl
  · exact ⟨x, rfl, .inl rfl⟩
  · exact ⟨y, rfl, .inr (.inl rfl)⟩
  · exact ⟨z, rfl, .inr (.inr (.inl rfl))⟩
  · exact ⟨u, rfl, .inr (.inr (.inr rfl))⟩
theorem TapeAt.ne {H : Hp} {t p : Addr} {c : Int} (h : TapeAt H t c) (hp : H p = none) : p ≠ t := by
  obtain ⟨zs, hz⟩ := h.some
  exact (ne_of_none hz hp).symm
theorem TapeAt.new {H : Hp} {t p : Addr} {c : Int} {o : HO} (h : TapeAt H t c) (hp : H p = none) : TapeAt (upd H p o) t c := h.same (same_new hp)
theorem SameBut.new {t p : Addr} {H H' : Hp} {o : HO} (s : SameBut t H H') (hp : H' p = none) : SameBut t H (upd H' p o) := s.trans (Same.but (same_new hp))
theorem SameBut.free {t p : Addr} {c : Int} {H H' : Hp} (s : SameBut t H H') (ht : TapeAt H' t c) (hp : H' p = none) : H p = none := by
  cases q : H p with
  | none => rfl
  | some o =>
    have n : p ≠ t := ht.ne hp
    rw [s p o q n] at hp
    cases hp
theorem SameBut.pairs {t : Addr} {c : Int} {H H' : Hp} {xs : List V} {L : List (Int × Int)} (s : SameBut t H H') (ht : TapeAt H t c) (h : PairsAt H xs L) : PairsAt H' xs L := h.move fun _ _ e => s.tup ht e
theorem Same.pairs {H H' : Hp} {xs : List V} {L : List (Int × Int)} (s : Same H H') (h : PairsAt H xs L) : PairsAt H' xs L := h.move fun _ _ e => s _ _ e
theorem pow6 : CPow 10 6 := ⟨by decide, by decide, by decide⟩
theorem pow12 : CPow 10 12 := ⟨by decide, by decide, by decide⟩
abbrev DDraw (P : Program) (w : World) (K : PySem.W.Frag) (mg : Str → Option Value) (base : Heap) : Prop := Df P w K mg base "_law_draw" 1 ["_law_tape_here", "_law_many"] spDraw
end
end HP
namespace HP
open PySem L2
section
variable {P : Program} {w : World} {K : PySem.W.Frag} {mg : Str → Option Value} {base : Heap} {tM tL : Tok}
theorem FunD_ok0 {x qual : Str} {st : Stmt} {dvs : List V} {f : Addr} {fd : FuncData} {N ps : List Str} {k : Nat} {sp : Sp} (F : FunD K x qual (defArgs st) (defBody st) (defScope st) dvs [] f fd) (S : FnScope N ps (defScope st)) (len : ∀ vs H Q E, sp vs H Q E → vs.length = ps.length)
    (hbody : ∀ (cdv : Value) (A : Around) (outer : List Env) (s : Shared) (H : Hp) (vs : List V) (Q : VK) (E : XK), Room k (A.deeper (PyProof.Rows.envOfC qual (defScope st) s.heap.objs.size f cdv)) → sp vs H Q E →
      ∃ t, PSs (cxOf CX0 P w K mg base N qual (defScope st) f cdv A outer s H E).nox (defBody st) t ∧ t { nx := fun _ H' => Q .non H', rt := Q } (start N vs) H) : FnOk P w K mg base CX0 (k + 1) f fd ps sp :=
  F.ok S len fun cdv A outer s H vs Q E hr h => let ⟨t, a, b⟩ := hbody cdv A outer s H vs Q E hr h; ⟨t, a.nox, b⟩
/-! ### is_number, of a number -/
def spIsNumber : Sp := fun vs H Q _ => ∃ (i lo hi : Int), vs = [.int i, .int lo, .int hi] ∧ lo ≤ i ∧ i ≤ hi ∧ Q (.bl true) H
abbrev sis_number : Stmt := top 4
theorem scis_number : FnScope ["thing", "least", "most"] ["thing", "least", "most"] (defScope sis_number) := ⟨rfl, rfl, rfl, by decide +kernel, rfl, by decide +kernel, by decide +kernel⟩
theorem kit1 : kitB "int" "int" = some true := by decide +kernel
theorem kit2 : kitB "int" "bool" = some false := by decide +kernel
theorem kit3 : kitB "tuple" "tuple" = some true := by decide +kernel
theorem kit4 : kitB "list" "list" = some true := by decide +kernel
theorem ok_is_number {f : Addr} {fd : FuncData} {dvs : List V} (F : FunD K "is_number" "is_number" (defArgs sis_number) (defBody sis_number) (defScope sis_number) dvs [] f fd) (T : Txt mg tM tL) : FnOk P w K mg base CX0 1 f fd ["thing", "least", "most"] spIsNumber := by
  refine FunD_ok0 F scis_number (fun vs H Q E h => ?_) (fun cdv A outer s H vs Q E hr h => ?_)
  · obtain ⟨i, lo, hi, rfl, _⟩ := h
    rfl
  · obtain ⟨i, lo, hi, rfl, h1, h2, q⟩ := h
    refine ⟨_, (pss_cons (ps_if (PW.pt (pw_or (pt_not (pt_val (pe_callB call_isi (by rfl) T.zisinstance (by decide +kernel) (pa_cons (pv 0) (pa_cons (pe_bltn (v := .ty "int") (u := .type "int") (by rfl) T.zint (by decide +kernel) rfl) pa_nil))))) (pw_or1 (pt_val (pe_callB call_isi (by rfl) T.zisinstance (by decide +kernel) (pa_cons (pv 0) (pa_cons (pe_bltn (v := .ty "bool") (u := .type "bool") (by rfl) T.zbool (by decide +kernel) rfl) pa_nil))))))) (pss_one (ps_ret pe_bl)) pss_nil)
      (pss_one (ps_ret (pe_and (pe_cmp (pc_le (pv 1) (pv 0)) rfl) (pe_one (pe_or (pe_cmp (pc_isN (pv 2)) rfl) (pe_one (pe_cmp (pc_le (pv 0) (pv 2)) rfl)))))))), ?_⟩
    refine ⟨_, rfl, _, _, _, _, true, rfl, .ty "int", .base (.int i), kit_ty kit1, true, rfl, iteF ?_⟩
    refine ⟨_, rfl, _, _, _, _, false, rfl, .ty "bool", .base (.int i), kit_ty kit2, false, rfl, iteF ?_⟩
    refine ⟨_, rfl, _, rfl, lo, i, rfl, rfl, _, rfl, iteD (fun _ => ?_) (fun c => absurd h1 c)⟩
    refine ⟨_, rfl, _, rfl, iteD (fun c => absurd c (by simp)) (fun _ => ?_)⟩
    refine ⟨_, rfl, _, rfl, i, hi, rfl, rfl, ?_⟩
    show Q (.bl (decide (i ≤ hi))) H
    rw [decide_eq_true h2]
    exact q
abbrev DIsNumber (P : Program) (w : World) (K : PySem.W.Frag) (mg : Str → Option Value) (base : Heap) : Prop := Df P w K mg base "is_number" 1 ["thing", "least", "most"] spIsNumber
end
end HP
namespace HP
open PySem L2
section
variable {P : Program} {w : World} {K : PySem.W.Frag} {mg : Str → Option Value} {base : Heap} {tM tL : Tok}
/-! ### texts of letters -/
abbrev lettersS : Str := Str.ofString "abcdefghijklmnopqrstuvwxyz"
theorem letters_len : lettersS.cps.toList.length = 26 := by decide +kernel
theorem letters_size : lettersS.length ≤ sizeLine := by decide +kernel
theorem letters_all : lettersS.cps.toList.all (fun c => decide (97 ≤ c ∧ c ≤ 122)) = true := by decide +kernel
theorem letters_has : (List.range 26).all (fun i => decide ((97 + i) ∈ lettersS.cps.toList)) = true := by decide +kernel
def Lets (z : Str) : Prop := ∀ c ∈ z.cps.toList, 97 ≤ c ∧ c ≤ 122
theorem atI_int {α : Type} {xs : List α} {i : Int} {v : α} (h0 : 0 ≤ i) (_ : 0 ≤ i) (h : xs[i.toNat]? = some v) : atI xs i = some v := by
  have := atI_nat h
  rw [show ((i.toNat : Nat) : Int) = i by omega] at this
  exact this
theorem letter_at {i : Int} (h0 : 0 ≤ i) (h1 : i < 26) : ∃ c, atI lettersS.cps.toList i = some c ∧ 97 ≤ c ∧ c ≤ 122 := by
  have hl : i.toNat < lettersS.cps.toList.length := by rw [letters_len]; omega
  refine ⟨lettersS.cps.toList[i.toNat], atI_int (by omega) (by omega) (List.getElem?_eq_getElem hl), ?_⟩
  have := List.all_eq_true.mp letters_all _ (List.getElem_mem hl)
  exact of_decide_eq_true this
theorem letter_in {c : Nat} (h : 97 ≤ c ∧ c ≤ 122) : c ∈ lettersS.cps.toList := by
  have := List.all_eq_true.mp letters_has (c - 97) (List.mem_range.mpr (by omega))
  have := of_decide_eq_true this
  rw [show 97 + (c - 97) = c by omega] at this
  exact this
theorem Lets.one {c : Nat} (h : 97 ≤ c ∧ c ≤ 122) : Lets ⟨#[c]⟩ := fun d hd => by
  have : d = c := by simpa using hd
  rw [this]
  exact h
theorem len_cps (z : Str) : z.length = z.cps.toList.length := by rw [Array.length_toList]; rfl
theorem Lets.append {x y : Str} (hx : Lets x) (hy : Lets y) : Lets (x ++ y) := fun c hc => by
  have e : (x ++ y).cps = x.cps ++ y.cps := Str.cps_append x y
  rw [e, Array.toList_append] at hc
  rcases List.mem_append.mp hc with h | h
  · exact hx c h
  · exact hy c h
theorem Lets.cut {z : Str} (h : Lets z) (lo hi : Option Int) : Lets (cutS z lo hi) := fun c hc => by
  unfold cutS at hc
  exact h c (List.mem_of_mem_drop (List.mem_of_mem_take hc))
theorem cut_size (z : Str) (lo hi : Option Int) : (cutS z lo hi).length ≤ z.length := by
  rw [len_cps, len_cps]
  unfold cutS
  show List.length (List.take _ (List.drop _ _)) ≤ _
  rw [List.length_take, List.length_drop]
  omega
theorem cut_parts (z : Str) (n : Nat) (h : n ≤ z.length) : (cutS z none (some (n : Int))).length = n ∧ (cutS z (some (n : Int)) none).length = z.length - n := by
  rw [len_cps, len_cps]
  unfold cutS
  show List.length (List.take _ (List.drop _ _)) = _ ∧ List.length (List.take _ (List.drop _ _)) = _
  rw [HT.sIx_none, HT.sIx_none, HT.sIx_nat, HT.sIx_nat, List.length_take, List.length_drop, List.length_take, List.length_drop, ← len_cps]
  omega
/-- a text times a number -/
def rMulS : R2 := fun x y H Q => ∃ z n, x = .str z ∧ y = .int n ∧ MulOk z n ∧ Q (.str (Txt.mul z n)) H
theorem op_mul_str {X : Cx} : OpR X (binaryOp .Mult) rMulS := by
  intro pins s σ H x y v u Q I rx ry h
  obtain ⟨z, n, rfl, rfl, hz, q⟩ := h
  obtain ⟨t, rfl⟩ := rx
  obtain ⟨t', rfl⟩ := ry
  exact SB.mul hz fun t' tk => ⟨.str (Txt.mul z n), H, I.tok _, ⟨_, rfl⟩, q⟩
theorem mul01 {z : Str} {n : Int} (h0 : 0 ≤ n) (h1 : n ≤ 1) : MulOk z n ∧ (Txt.mul z n = z ∨ Txt.mul z n = Str.empty) := by
  have : n = 0 ∨ n = 1 := by omega
  rcases this with rfl | rfl
  · exact ⟨⟨by decide, fun h => absurd (by decide) h, fun h => absurd (by decide) h⟩, .inr rfl⟩
  · exact ⟨⟨by decide, fun _ h => by simp at h, fun _ h => by simp at h⟩, .inl rfl⟩
theorem Lets.empty : Lets Str.empty := fun c hc => by cases hc
theorem fold_mem (sep : Str) : ∀ (rest : List Str) (acc : Array Nat) (c : Nat), c ∈ (rest.foldl (fun acc p => acc ++ sep.cps ++ p.cps) acc).toList → c ∈ acc.toList ∨ c ∈ sep.cps.toList ∨ ∃ p ∈ rest, c ∈ p.cps.toList
  | [], acc, c, h => .inl h
  | q :: rest, acc, c, h => by
    rcases fold_mem sep rest _ c h with h | h | ⟨p, hp, h⟩
    · rw [Array.toList_append, Array.toList_append] at h
      rcases List.mem_append.mp h with h | h
      · rcases List.mem_append.mp h with h | h
        · exact .inl h
        · exact .inr (.inl h)
      · exact .inr (.inr ⟨q, List.mem_cons_self, h⟩)
    · exact .inr (.inl h)
    · exact .inr (.inr ⟨p, List.mem_cons_of_mem _ hp, h⟩)
theorem sum_ones : ∀ zs : List Str, (∀ z ∈ zs, z.length = 1) → (zs.map (·.length)).sum = zs.length
  | [], _ => rfl
  | z :: zs, h => by
    rw [List.map_cons, List.sum_cons, h z List.mem_cons_self, sum_ones zs fun y hy => h y (List.mem_cons_of_mem _ hy), List.length_cons]
    omega
/-- letters one by one, glued -/
theorem join_lets {sep : Str} (hs : sep.cps = #[]) (zs : List Str) (h : ∀ z ∈ zs, Lets z ∧ z.length = 1) : Lets (Txt.join sep zs) ∧ (Txt.join sep zs).length = zs.length := by
  have hsl : sep.length = 0 := by show sep.cps.size = 0; rw [hs]; rfl
  refine ⟨fun c hc => ?_, ?_⟩
  · cases zs with
    | nil => cases hc
    | cons z zs =>
      have hc' : c ∈ (zs.foldl (fun acc p => acc ++ sep.cps ++ p.cps) z.cps).toList := hc
      rcases fold_mem sep zs z.cps c hc' with h' | h' | ⟨p, hp, h'⟩
      · exact (h z List.mem_cons_self).1 c h'
      · rw [hs] at h'; cases h'
      · exact (h p (List.mem_cons_of_mem _ hp)).1 c h'
  · have := PySem.size_glued sep zs
    rw [hsl, Nat.mul_zero, Nat.add_zero, sum_ones zs fun z hz => (h z hz).2] at this
    exact this
def GoodName (z : Str) : Prop := 1 ≤ z.length ∧ z.length ≤ 8 ∧ Lets z
end
end HP
namespace HP
open PySem L2
section
variable {P : Program} {w : World} {K : PySem.W.Frag} {mg : Str → Option Value} {base : Heap} {tM tL : Tok}
theorem take_more {α : Type} {l : List α} {i : Nat} {x : α} (h : l[i]? = some x) : l.take (i + 1) = l.take i ++ [x] := by
  rw [List.take_add_one, h]
  rfl
theorem rep_snoc {α : Type} (i : Nat) (x : α) : List.replicate i x ++ [x] = List.replicate (i + 1) x := by
  rw [List.replicate_succ']
theorem all_rep (n : Nat) : (List.replicate n true).all id = true := by
  induction n with
  | zero => rfl
  | succ k ih => rw [List.replicate_succ, List.all_cons, ih]; rfl
theorem kit5 : kitB "tuple" "list" = some false := by decide +kernel
theorem kit6 : kitB "str" "str" = some true := by decide +kernel
/-! ### is_row, of a tuple -/
def spIsRow : Sp := fun vs H Q _ => ∃ (p : Addr) (xs : List V) (lo hi : Int), vs = [.ref p, .int lo, .int hi] ∧ H p = some (.tup xs) ∧ lo ≤ (xs.length : Int) ∧ (xs.length : Int) ≤ hi ∧ ∀ H', Same H H' → Q (.bl true) H'
abbrev sis_row : Stmt := top 5
theorem scis_row : FnScope ["thing", "least", "most"] ["thing", "least", "most"] (defScope sis_row) := ⟨rfl, rfl, rfl, by decide +kernel, rfl, by decide +kernel, by decide +kernel⟩
theorem ok_is_row {f : Addr} {fd : FuncData} (F : Fun K "is_row" "is_row" sis_row f fd) (T : Txt mg tM tL) : FnOk P w K mg base CX0 1 f fd ["thing", "least", "most"] spIsRow := by
  refine F.ok scis_row (fun vs H Q E h => ?_) (fun cdv A outer s H vs Q E hr h => ?_)
  · obtain ⟨p, xs, lo, hi, rfl, _⟩ := h
    rfl
  · obtain ⟨p, xs, lo, hi, rfl, hp, h1, h2, q⟩ := h
    refine ⟨_, (pss_one (ps_ret (pe_and (pe_callB call_isiT (by rfl) T.zisinstance (by decide +kernel) (pa_cons (pv 0) (pa_cons (pe_tup (pa_cons (pe_bltn (v := .ty "list") (u := .type "list") (by rfl) T.zlist (by decide +kernel) rfl) (pa_cons (pe_bltn (v := .ty "tuple") (u := .type "tuple") (by rfl) T.ztuple (by decide +kernel) rfl) pa_nil))) pa_nil))) (pe_one (pe_chain op_le op_le (pv 1) (pe_callB call_len_seq (by rfl) T.zlen (by decide +kernel) (pa_cons (pv 0) pa_nil)) (pv 2)))))), ?_⟩
    refine ⟨_, rfl, (by show 2 ≤ sizeLine; decide), fun d hd => ?_⟩
    have hp1 : (upd H d (.tup [.ty "list", .ty "tuple"])) p = some (.tup xs) := by rw [upd_ne (ne_of_none hp hd)]; exact hp
    refine ⟨_, d, _, _, _, true, rfl, upd_same, .cons (.ty "list") (.cons (.ty "tuple") .nil), .base (.tup hp1), kitAny_cons (b := false) (kit_ty kit5) (fun _ => kitAny_cons (b := true) (kit_ty kit3) (fun z => by cases z) (fun _ => rfl)) (fun z => by cases z), true, rfl, iteT ?_⟩
    refine ⟨_, rfl, _, rfl, p, _, rfl, .inr (SqT.of hp1), lo, _, rfl, rfl, _, rfl, iteD (fun _ => ?_) (fun c => absurd h1 c)⟩
    refine ⟨_, rfl, _, hi, rfl, rfl, ?_⟩
    show Q (.bl (decide ((xs.length : Int) ≤ hi))) _
    rw [decide_eq_true h2]
    exact q _ (same_new hd)
/-! ### is_name -/
theorem lc_str {x : Str} {g : TG} {tt : TT} {te : TE} {vs : List Nat} {σ : L2.St} {H1 : Hp} {D : Addr} {Qd : Hp → Prop} (Pv : Nat → Hp → Prop) (h0 : Pv 0 (upd H1 D (.lst [])))
    (hs : ∀ i c H, x.cps[i]? = some c → Pv i H → g (.str ⟨#[c]⟩) (wipe σ vs) H fun σ2 H2 => wipe σ2 vs = wipe σ vs ∧ tt σ2 H2 fun b H3 =>
      if b = true then te σ2 H3 fun y H4 => ∃ acc, H4 D = some (.lst acc) ∧ acc.length < sizeLine ∧ Pv (i + 1) (upd H4 D (.lst (acc ++ [y]))) else Pv (i + 1) H3) (hd : ∀ H, Pv x.cps.size H → Qd H) :
    ∃ W : Nat → Nat → Hp → Prop, (∃ m, W 0 m (upd H1 D (.lst []))) ∧ ∀ i m H, W i m H →
      ((Its x).stop i H ∧ Qd H) ∨ ((Its x).go i H ∧ ∃ Nx : Hp → Prop, (∀ H', Nx H' → ∃ m', m' < m ∧ W (i + 1) m' H') ∧ ∀ v H', (Its x).yld i H v H' → g v (wipe σ vs) H' fun σ2 H2 => wipe σ2 vs = wipe σ vs ∧ tt σ2 H2 fun b H3 =>
        if b = true then te σ2 H3 fun y H4 => ∃ acc, H4 D = some (.lst acc) ∧ acc.length < sizeLine ∧ Nx (upd H4 D (.lst (acc ++ [y]))) else Nx H3) := by
  refine ⟨fun i m H => m = x.cps.size - i ∧ i ≤ x.cps.size ∧ Pv i H, ⟨x.cps.size, rfl, Nat.zero_le _, h0⟩, ?_⟩
  rintro i m H ⟨rfl, hi, p⟩
  by_cases hlt : i < x.cps.size
  · refine .inr ⟨hlt, Pv (i + 1), fun H' p' => ⟨x.cps.size - (i + 1), by omega, rfl, hlt, p'⟩, fun v H' y => ?_⟩
    obtain ⟨rfl, c, hc, rfl⟩ := y
    exact hs i c _ hc p
  · have e : i = x.cps.size := by omega
    subst e
    exact .inl ⟨Nat.le_refl _, hd H p⟩
def spIsName : Sp := fun vs H Q _ => ∃ z : Str, vs = [.str z] ∧ GoodName z ∧ ∀ H', Same H H' → Q (.bl true) H'
abbrev sis_name : Stmt := top 6
theorem scis_name : FnScope ["thing", "letter"] ["thing"] (defScope sis_name) := ⟨rfl, rfl, rfl, by decide +kernel, rfl, by decide +kernel, by decide +kernel⟩
theorem ok_is_name {f : Addr} {fd : FuncData} (F : Fun K "is_name" "is_name" sis_name f fd) (T : Txt mg tM tL) : FnOk P w K mg base CX0 1 f fd ["thing"] spIsName := by
  refine F.ok scis_name (fun vs H Q E h => ?_) (fun cdv A outer s H vs Q E hr h => ?_)
  · obtain ⟨z, rfl, _⟩ := h
    rfl
  · obtain ⟨z, rfl, ⟨g1, g2, g3⟩, q⟩ := h
    refine ⟨_, (pss_cons (ps_if (PW.pt (pw_or (pt_not (pt_val (pe_callB call_isi (by rfl) T.zisinstance (by decide +kernel) (pa_cons (pv 0) (pa_cons (pe_bltn (v := .ty "str") (u := .type "str") (by rfl) T.zstr (by decide +kernel) rfl) pa_nil))))) (pw_or1 (pt_not (pt_chain op_le op_le pe_int (pe_callB call_len_str (by rfl) T.zlen (by decide +kernel) (pa_cons (pv 0) pa_nil)) (pe_gi T.gMOST_LETTERS)))))) (pss_one (ps_ret pe_bl)) pss_nil)
    (pss_one (ps_ret (pe_callB (cr_all rfl) (by rfl) T.zall (by decide +kernel) (pa_cons (pe_lc (own := [("letter", 1)]) (g := gName 1) (tt := tYes) (by rfl) scis_name.nd (pi_str (pv 0)) (blkOk_by (own := [("letter", 1)]) (N := ["thing", "letter"]) (sc := defScope sis_name) (by decide +kernel)) (fun _ _ _ _ _ => (pg_name (i := 1) scis_name.nd rfl (Or.inl rfl))) (fun _ _ _ _ _ => pts_nil) (fun _ _ _ _ _ => (pe_cmpR op_in_sign (pv 1) (pe_gs T.gLETTERS) (by rfl)))) pa_nil))))), ?_⟩
    have hsz : z.length ≤ sizeLine := Nat.le_trans g2 (by decide)
    refine ⟨_, rfl, _, _, _, _, true, rfl, .ty "str", .base (.str z), kit_ty kit6, true, rfl, iteF ?_⟩
    refine ⟨_, rfl, z, rfl, hsz, 1, _, rfl, rfl, _, rfl, iteD (fun _ => ?_) (fun c => absurd (by omega) c)⟩
    refine ⟨_, 8, rfl, rfl, true, ?_, iteF ?_⟩
    · show V.bl (decide ((z.length : Int) ≤ 8)) = V.bl true
      rw [decide_eq_true (by omega)]
    refine ⟨_, rfl, z, rfl, fun D hD => ?_⟩
    refine lc_str (x := z) (fun i H' => H' D = some (.lst ((List.replicate i true).map V.bl)) ∧ Same H H') ⟨upd_same, same_new hD⟩ ?_ ?_
    · rintro i c H' hi ⟨hd, s1⟩
      have hil : i < z.cps.size := by
        by_cases cc : i < z.cps.size
        · exact cc
        · rw [Array.getElem?_eq_none (by omega)] at hi
          cases hi
      have g2' : z.cps.size ≤ 8 := g2
      refine ⟨rfl, ?_⟩
      refine ⟨_, rfl, c, lettersS, rfl, rfl, _, hd, ?_, ?_, ?_⟩
      · rw [List.length_map, List.length_replicate]
        exact Nat.lt_of_lt_of_le (show i < 8 by omega) (by decide)
      · rw [upd_same, ← rep_snoc, List.map_append]
        show some (HO.lst (_ ++ [V.bl (decide (c ∈ lettersS.cps.toList))])) = _
        rw [decide_eq_true (letter_in (g3 c (by
          rw [← Array.getElem?_toList] at hi
          exact List.mem_of_getElem? hi)))]
        rfl
      · intro b o e
        rw [upd_ne (ne_of_none e hD)]
        exact s1 _ _ e
    · rintro H' ⟨hd, s1⟩
      refine ⟨D, _, rfl, SqL.of hd, ?_⟩
      rw [all_rep]
      exact q _ s1
/-! ### are_for_kinds, of a tuple of four numbers -/
def Four (ns : List Int) (most : Int) : Prop := ns.length = 4 ∧ ∀ n ∈ ns, 1 ≤ n ∧ n ≤ most
def spKinds : Sp := fun vs H Q _ => ∃ (p : Addr) (ns : List Int) (most : Int), vs = [.ref p, .int most] ∧ H p = some (.tup (ns.map V.int)) ∧ Four ns most ∧ ∀ H', Same H H' → Q (.bl true) H'
abbrev sare_for_kinds : Stmt := top 14
theorem scare_for_kinds : FnScope ["thing", "most", "item"] ["thing", "most"] (defScope sare_for_kinds) := ⟨rfl, rfl, rfl, by decide +kernel, rfl, by decide +kernel, by decide +kernel⟩
theorem ok_kinds {f : Addr} {fd : FuncData} (F : Fun K "are_for_kinds" "are_for_kinds" sare_for_kinds f fd) (T : Txt mg tM tL) (Dis_row : Df P w K mg base "is_row" 1 ["thing", "least", "most"] spIsRow) (Dis_number : DIsNumber P w K mg base) : FnOk P w K mg base CX0 2 f fd ["thing", "most"] spKinds := by
  refine F.ok scare_for_kinds (fun vs H Q E h => ?_) (fun cdv A outer s H vs Q E hr h => ?_)
  · obtain ⟨p, ns, most, rfl, _⟩ := h
    rfl
  · obtain ⟨p, ns, most, rfl, hp, ⟨h4, hB⟩, q⟩ := h
    refine ⟨_, (pss_one (ps_ret (pe_and (pe_fn Dis_row (hr.mono (by decide)) (pa_cons (pv 0) (pa_cons (pe_gi T.gKINDS) (pa_cons (pe_gi T.gKINDS) pa_nil)))) (pe_one (pe_callB (cr_all rfl) (by rfl) T.zall (by decide +kernel) (pa_cons (pe_lc (own := [("item", 2)]) (g := gName 2) (tt := tYes) (by rfl) scare_for_kinds.nd (pi_tup (pv 0)) (blkOk_by (own := [("item", 2)]) (N := ["thing", "most", "item"]) (sc := defScope sare_for_kinds) (by decide +kernel)) (fun _ _ _ _ _ => (pg_name (i := 2) scare_for_kinds.nd rfl (Or.inl rfl))) (fun _ _ _ _ _ => pts_nil) (fun _ _ _ _ _ => (pe_fn Dis_number (hr.mono (by decide)) (pa_cons (pv 2) (pa_cons pe_int (pa_cons (pv 1) pa_nil)))))) pa_nil)))))), ?_⟩
    refine ⟨_, rfl, p, _, 4, 4, rfl, hp, by rw [List.length_map, h4]; decide, by rw [List.length_map, h4]; decide, fun H1 s1 => ⟨true, rfl, iteT ?_⟩⟩
    refine ⟨_, rfl, p, rfl, ⟨_, SqT.of (s1 _ _ hp)⟩, fun D hD => ?_⟩
    refine lc_tup (K := K) (a := p) (xs := ns.map V.int) (fun i H' => H' D = some (.lst ((List.replicate i true).map V.bl)) ∧ Same H H')
      ⟨upd_same, s1.trans (same_new hD)⟩ (fun i H' _ ⟨_, h⟩ => SqT.of (h _ _ hp)) ?_ ?_
    · rintro i x H' hi ⟨hd, s2⟩
      obtain ⟨n, hn, rfl⟩ := map_int hi
      have hil : i < ns.length := (List.getElem?_eq_some_iff.mp hn).1
      obtain ⟨b1, b2⟩ := hB n (List.mem_of_getElem? hn)
      refine ⟨rfl, ?_⟩
      refine ⟨_, rfl, _, rfl, n, 1, most, rfl, b1, b2, _, hd, ?_, ?_, ?_⟩
      · rw [List.length_map, List.length_replicate]
        exact Nat.lt_of_lt_of_le (show i < 4 by omega) (by decide)
      · rw [upd_same, ← rep_snoc, List.map_append]
        rfl
      · intro b o e
        rw [upd_ne (ne_of_none e (s1.free hD))]
        exact s2 _ _ e
    · rintro H' ⟨hd, s2⟩
      refine ⟨D, _, rfl, SqL.of hd, ?_⟩
      rw [all_rep]
      exact q _ s2
/-! ### common_divisor -/
def spGcd : Sp := fun vs H Q _ => ∃ a b : Int, vs = [.int a, .int b] ∧ 1 ≤ a ∧ 0 ≤ b ∧ Q (.int (Int.gcd a b)) H
abbrev scommon_divisor : Stmt := top 15
theorem sccommon_divisor : FnScope ["one", "other"] ["one", "other"] (defScope scommon_divisor) := ⟨rfl, rfl, rfl, by decide +kernel, rfl, by decide +kernel, by decide +kernel⟩
theorem gcd_step {x y : Int} (hx : 0 ≤ x) (hy : 0 < y) : Int.gcd y (x % y) = Int.gcd x y := by
  have e1 : (x % y).natAbs = x.natAbs % y.natAbs := by
    have h1 : ((x.natAbs % y.natAbs : Nat) : Int) = x % y := by
      rw [Int.natCast_emod, Int.natAbs_of_nonneg hx, Int.natAbs_of_nonneg (by omega)]
    omega
  unfold Int.gcd
  rw [e1, Nat.gcd_comm x.natAbs y.natAbs]
  rw [Nat.gcd_rec y.natAbs x.natAbs, Nat.gcd_comm]
theorem ok_gcd {f : Addr} {fd : FuncData} (F : Fun K "common_divisor" "common_divisor" scommon_divisor f fd) : FnOk P w K mg base CX0 1 f fd ["one", "other"] spGcd := by
  refine F.ok sccommon_divisor (fun vs H Q E h => ?_) (fun cdv A outer s H vs Q E hr h => ?_)
  · obtain ⟨a, b, rfl, _⟩ := h
    rfl
  · obtain ⟨a, b, rfl, ha, hb, q⟩ := h
    refine ⟨_, (pss_cons (ps_while PassesOwn.never (pt_cmp (pc_gt (pv 1) pe_int)) (pss_one (ps_par (i := 0) (j := 1) (by rfl) sccommon_divisor.nd rfl rfl (by decide) rfl rfl (pa_cons (pv 1) (pa_cons (pe_op op_mod (pv 0) (pv 1)) pa_nil)) (by rfl))))
    (pss_one (ps_ret (pv 0)))), ?_⟩
    refine ⟨fun m σ H' => ∃ x y : Int, σ = [some (.int x), some (.int y)] ∧ 1 ≤ x ∧ 0 ≤ y ∧ Int.gcd x y = Int.gcd a b ∧ H' = H ∧ m = y.toNat, ⟨_, a, b, rfl, ha, hb, rfl, rfl, rfl⟩, ?_⟩
    rintro m σ H' ⟨x, y, rfl, hx, hy, hg, rfl, rfl⟩
    refine ⟨_, rfl, y, 0, rfl, rfl, _, rfl, iteD (fun c => ?_) (fun c => ?_)⟩
    · refine ⟨fun σ' H'' => ∃ x' y' : Int, σ' = [some (.int x'), some (.int y')] ∧ 1 ≤ x' ∧ 0 ≤ y' ∧ Int.gcd x' y' = Int.gcd a b ∧ H'' = H' ∧ y' < y, ?_, ?_⟩
      · rintro σ' H'' ⟨x', y', rfl, h1, h2, h3, rfl, h5⟩
        exact ⟨_, by have c' : 0 < y := c; omega, x', y', rfl, h1, h2, h3, rfl, rfl⟩
      · have c' : 0 < y := c
        refine ⟨_, rfl, _, rfl, _, rfl, x, y, rfl, rfl, c', _, _, rfl, ?_⟩
        exact ⟨y, x % y, rfl, by omega, Int.emod_nonneg _ (by omega), (gcd_step (by omega) c').trans hg, rfl, Int.emod_lt_of_pos _ c'⟩
    · have c' : y = 0 := by have : ¬ 0 < y := c; omega
      subst c'
      refine ⟨_, rfl, ?_⟩
      have : Int.gcd x 0 = x.natAbs := Int.gcd_zero_right x
      have e : x = ((Int.gcd a b : Nat) : Int) := by rw [← hg, this]; omega
      rw [e]
      exact q
/-! ### Gang.__init__ -/
def gf (z : Str) (tk hd : Addr) : List (Str × V) := [("name", .str z), ("takes", .ref tk), ("hands", .ref hd)]
theorem gn1 : ¬ (("name" : Str) = "takes") := by decide +kernel
theorem gn2 : ¬ (("name" : Str) = "hands") := by decide +kernel
theorem gn3 : ¬ (("takes" : Str) = "hands") := by decide +kernel
theorem gf_eq (z : Str) (tk hd : Addr) : putF "hands" (.ref hd) (putF "takes" (.ref tk) (putF "name" (.str z) [])) = gf z tk hd := by
  simp only [putF, if_neg gn1, if_neg gn2, if_neg gn3]
  rfl
theorem gf_takes (z : Str) (tk hd : Addr) : (gf z tk hd).lookup ("takes" : Str) = some (.ref tk) := by rw [← gf_eq]; simp only [lookup_putF, if_neg gn3, if_pos]
theorem gf_hands (z : Str) (tk hd : Addr) : (gf z tk hd).lookup ("hands" : Str) = some (.ref hd) := by rw [← gf_eq]; simp only [lookup_putF, if_pos]
theorem gf_no (z : Str) (tk hd : Addr) {m : Str} (h1 : ¬ m = "hands") (h2 : ¬ m = "takes") (h3 : ¬ m = "name") : (gf z tk hd).lookup m = none := by
  rw [← gf_eq]
  simp only [lookup_putF, if_neg h1, if_neg h2, if_neg h3]
  rfl
structure GangTxt (K : PySem.W.Frag) (C : Addr) : Prop where
  cl : Cls K C
  n1 : NoAttr K C "name"
  n2 : NoAttr K C "takes"
  n3 : NoAttr K C "hands"
structure GangAt (C : Addr) (H : Hp) (p : Addr) (ts hs : List Int) : Prop where
  ex : ∃ (z : Str) (dx tk hd : Addr), H p = some (.ins C dx (gf z tk hd)) ∧ H tk = some (.tup (ts.map V.int)) ∧ H hd = some (.tup (hs.map V.int))
  ft : Four ts 1000000
  fh : Four hs 4
theorem GangAt.same {C p : Addr} {H H' : Hp} {ts hs : List Int} (M : GangAt C H p ts hs) (s : Same H H') : GangAt C H' p ts hs := by
  obtain ⟨⟨z, dx, tk, hd, h1, h2, h3⟩, a, b⟩ := M
  exact ⟨⟨z, dx, tk, hd, s _ _ h1, s _ _ h2, s _ _ h3⟩, a, b⟩
theorem GangAt.but {C p t : Addr} {c : Int} {H H' : Hp} {ts hs : List Int} (M : GangAt C H p ts hs) (s : SameBut t H H') (ht : TapeAt H t c) : GangAt C H' p ts hs := by
  obtain ⟨⟨z, dx, tk, hd, h1, h2, h3⟩, a, b⟩ := M
  exact ⟨⟨z, dx, tk, hd, s.ins ht h1, s.tup ht h2, s.tup ht h3⟩, a, b⟩
def spGInit (C : Addr) : Sp := fun vs H Q _ => ∃ (x dx tk hd : Addr) (z : Str) (ts hs : List Int), vs = [.ref x, .str z, .ref tk, .ref hd] ∧ H x = some (.ins C dx []) ∧ GoodName z ∧ H tk = some (.tup (ts.map V.int)) ∧ H hd = some (.tup (hs.map V.int)) ∧ Four ts 1000000 ∧ Four hs 4 ∧
  ∀ H', GangAt C H' x ts hs → (∀ b o, H b = some o → b ≠ x → H' b = some o) → Q .non H'
abbrev sGang_init : Stmt := inClass (top 16) 0
theorem scGang_init : FnScope ["self", "name", "takes", "hands"] ["self", "name", "takes", "hands"] (defScope sGang_init) := ⟨rfl, rfl, rfl, by decide +kernel, rfl, by decide +kernel, by decide +kernel⟩
theorem ok_ginit {f C : Addr} {fd : FuncData} {dvs : List V} (F : FunD K "__init__" "Gang.__init__" (defArgs sGang_init) (defBody sGang_init) (defScope sGang_init) dvs [] f fd) (T : Txt mg tM tL) (GT : GangTxt K C) (Dis_name : Df P w K mg base "is_name" 1 ["thing"] spIsName)
    (Dare_for_kinds : Df P w K mg base "are_for_kinds" 2 ["thing", "most"] spKinds) : FnOk P w K mg base CX0 3 f fd ["self", "name", "takes", "hands"] (spGInit C) := by
  refine FunD_ok0 F scGang_init (fun vs H Q E h => ?_) (fun cdv A outer s H vs Q E hr h => ?_)
  · obtain ⟨x, dx, tk, hd, z, ts, hs, rfl, _⟩ := h
    rfl
  · obtain ⟨x, dx, tk, hd, z, ts, hs, rfl, hx, hz, htk, hhd, ft, fh, q⟩ := h
    refine ⟨_, (pss_cons (ps_if (pt_not (pt_val (pe_fn Dis_name (hr.mono (by decide)) (pa_cons (pv 1) pa_nil)))) (pss_one ps_never) pss_nil)
    (pss_cons (ps_if (pt_not (pt_val (pe_fn Dare_for_kinds (hr.mono (by decide)) (pa_cons (pv 2) (pa_cons (pe_gi T.gMOST_TAKE) pa_nil))))) (pss_one ps_never) pss_nil)
    (pss_cons (ps_if (PW.pt (pw_and (pt_cmp (pc_notN (pv 3))) (pw_and1 (pt_not (pt_val (pe_fn Dare_for_kinds (hr.mono (by decide)) (pa_cons (pv 3) (pa_cons (pe_gi T.gMOST_HANDS) pa_nil)))))))) (pss_one ps_never) pss_nil)
    (pss_cons (ps_fld (pv 0) (pv 1) rfl)
    (pss_cons (ps_fld (pv 0) (pe_callTy call_tuple_of (by rfl) T.ztuple (by decide +kernel) (pa_cons (pv 2) pa_nil)) rfl)
    (pss_one (ps_fld (pv 0) (pe_ifExp (pt_cmp (pc_isN (pv 3))) (pe_tup (pa_cons pe_int (pa_cons pe_int (pa_cons pe_int (pa_cons pe_int pa_nil))))) (pe_callTy call_tuple_of (by rfl) T.ztuple (by decide +kernel) (pa_cons (pv 3) pa_nil))) rfl))))))), ?_⟩
    refine ⟨_, rfl, z, rfl, hz, fun H1 s1 => ⟨true, rfl, iteF ?_⟩⟩
    refine ⟨_, rfl, tk, ts, 1000000, rfl, s1 _ _ htk, ft, fun H2 s2 => ⟨true, rfl, iteF ?_⟩⟩
    refine ⟨_, rfl, true, rfl, iteT ?_⟩
    refine ⟨_, rfl, hd, hs, 4, rfl, s2 _ _ (s1 _ _ hhd), fh, fun H3 s3 => ⟨true, rfl, iteF ?_⟩⟩
    have s13 : Same H H3 := (s1.trans s2).trans s3
    have hx3 := s13 _ _ hx
    have htk3 := s13 _ _ htk
    have hhd3 := s13 _ _ hhd
    have nxt : tk ≠ x := ne_of htk3 hx3 (by intro z; cases z)
    have nxh : hd ≠ x := ne_of hhd3 hx3 (by intro z; cases z)
    refine ⟨_, rfl, _, rfl, x, C, dx, _, rfl, hx3, GT.cl, GT.n1, (by show 0 < 1000; decide), ?_⟩
    refine ⟨_, rfl, tk, _, rfl, .inr ⟨SqT.of (by rw [upd_ne nxt]; exact htk3), _, rfl, x, C, dx, _, rfl, upd_same, GT.cl, GT.n2, (by show 1 < 1000; decide), ?_⟩⟩
    rw [upd_upd]
    refine ⟨_, rfl, false, rfl, iteF ?_⟩
    refine ⟨_, rfl, hd, _, rfl, .inr ⟨SqT.of (by rw [upd_ne nxh]; exact hhd3), _, rfl, x, C, dx, _, rfl, upd_same, GT.cl, GT.n3, (by simp only [putF, if_neg gn1]; show 2 < 1000; decide), ?_⟩⟩
    rw [upd_upd, gf_eq]
    refine q _ ⟨⟨z, dx, tk, hd, upd_same, by rw [upd_ne nxt]; exact htk3, by rw [upd_ne nxh]; exact hhd3⟩, ft, fh⟩ fun b o e n => ?_
    rw [upd_ne n]
    exact s13 _ _ e
structure DGk (P : Program) (w : World) (K : PySem.W.Frag) (mg : Str → Option Value) (base : Heap) (C : Addr) : Prop where
  ex : ∃ (f : Addr) (fd : FuncData), Mk K C f ∧ FnOk P w K mg base CX0 3 f fd ["self", "name", "takes", "hands"] (spGInit C) ∧ mg "Gang" = some (.ref C) ∧ Binds K fd ["self", "name", "takes", "hands"] []
theorem pe_gang {X : Cx} {C : Addr} {p pos : Pos} {e : Expr} {es : List Expr} {t : TA} (M : DGk X.prog X.w X.K X.mg X.base C) (hr : Room 4 X.A) (ha : PA X (e :: es) t) (hg : Gl X "Gang" := by rfl)
    (he : starEach (e :: es) X.env = (false, eval e X.env) :: starEach es X.env := by rfl) (hpl : (backTo pos (starEach es X.env)).any (·.1) = false := by rfl) :
    PE X (.Call (.Name "Gang" p) (e :: es) [] pos) (tMake C (spGInit C) [] E0 t) := by
  obtain ⟨f, fd, mk, F, hm, b⟩ := M.ex
  exact pe_make mk F hr hg hm b .nil pass0 ha (by decide) he hpl
end
end HP
namespace HP
open PySem L2
section
variable {P : Program} {w : World} {K : PySem.W.Frag} {mg : Str → Option Value} {base : Heap} {tM tL : Tok}
/-! ### _law_names -/
def spNames : Sp := fun vs H Q _ => ∃ (t : Addr) (c : Int) (m : Nat), vs = [.ref t, .int (m : Int)] ∧ TapeAt H t c ∧ c ≤ 90000 ∧ m ≤ 26 ∧
  ∀ (p : Addr) (zs : List Str) (H' : Hp), H p = none → zs.length = m → (∀ z ∈ zs, GoodName z) → H' p = some (.lst (zs.map V.str)) → TapeAt H' t (c + 20) → SameBut t H H' → Q (.ref p) H'
abbrev sLnames : Stmt := top 21
theorem scLnames : FnScope ["_law_tape_here", "_law_many", "_law_letters", "_law_shift", "_law_stem", "_law_at", "_law_step", "_law_found", "_law_head", "_law_tail", "_law_k", "_law_way", "_law_sign"] ["_law_tape_here", "_law_many"] (defScope sLnames) := ⟨rfl, rfl, rfl, by decide +kernel, rfl, by decide +kernel, by decide +kernel⟩
theorem sep_empty : (Str.ofString "").cps = #[] := by decide +kernel
theorem ok_names {f : Addr} {fd : FuncData} (F : Fun K "_law_names" "_law_names" sLnames f fd) (T : Txt mg tM tL) (DLdraw : DDraw P w K mg base) : FnOk P w K mg base CX0 2 f fd ["_law_tape_here", "_law_many"] spNames := by
  refine F.ok scLnames (fun vs H Q E h => ?_) (fun cdv A outer s H vs Q E hr h => ?_)
  · obtain ⟨t, c, m, rfl, _⟩ := h
    rfl
  · obtain ⟨t, c, m, rfl, hT, hc, hm, q⟩ := h
    refine ⟨_, (pss_cons (ps_asg (pe_tup (pa_cons pe_str (pa_cons (pe_fn DLdraw (hr.mono (by decide)) (pa_cons (pv 0) (pa_cons pe_int pa_nil))) pa_nil))) (pg_tup rfl (pgs_cons (pg_name (i := 2) scLnames.nd rfl (Or.inr rfl)) (pgs_cons (pg_name (i := 3) scLnames.nd rfl (Or.inl rfl)) pgs_nil))))
    (pss_cons (ps_set (i := 4) scLnames.nd rfl (Or.inl rfl) (pe_join pe_str (pe_lc (own := [("_law_k", 10)]) (g := gName 10) (tt := tYes) (by rfl) scLnames.nd (pi_range1 (by rfl) T.zrange (pa_cons (pe_fn DLdraw (hr.mono (by decide)) (pa_cons (pv 0) (pa_cons pe_int pa_nil))) pa_nil)) (blkOk_by (own := [("_law_k", 10)]) (N := ["_law_tape_here", "_law_many", "_law_letters", "_law_shift", "_law_stem", "_law_at", "_law_step", "_law_found", "_law_head", "_law_tail", "_law_k", "_law_way", "_law_sign"]) (sc := defScope sLnames) (by decide +kernel)) (fun _ _ _ _ _ => (pg_name (i := 10) scLnames.nd rfl (Or.inl rfl))) (fun _ _ _ _ _ => pts_nil) (fun _ _ _ _ _ => (pe_ix ix_str (pv 2) (pe_fn DLdraw (hr.mono (by decide)) (pa_cons (pv 0) (pa_cons pe_int pa_nil))) (fun _ _ => rfl))))))
    (pss_cons (ps_par3 (i := 5) (j := 6) (l := 7) (by rfl) scLnames.nd rfl rfl rfl (by decide) (by decide) (by decide) rfl rfl rfl (pa_cons (pe_fn DLdraw (hr.mono (by decide)) (pa_cons (pv 0) (pa_cons (pe_op op_add (pe_callB call_len_str (by rfl) T.zlen (by decide +kernel) (pa_cons (pv 4) pa_nil)) pe_int) pa_nil))) (pa_cons (pe_ix ix_list (pe_lst (pa_cons pe_int (pa_cons pe_int (pa_cons pe_int pa_nil)))) (pe_fn DLdraw (hr.mono (by decide)) (pa_cons (pv 0) (pa_cons pe_int pa_nil))) (fun _ _ => rfl)) (pa_cons (pe_lst pa_nil) pa_nil))) (by rfl))
    (pss_cons (ps_par (i := 8) (j := 9) (by rfl) scLnames.nd rfl rfl (by decide) rfl rfl (pa_cons (pe_slice sl_str (pv 4) po_none (po_some (pv 5))) (pa_cons (pe_slice sl_str (pv 4) (po_some (pv 5)) po_none) pa_nil)) (by rfl))
    (pss_cons (ps_for PassesOwn.never rfl (pi_range1 (by rfl) T.zrange (pa_cons (pv 1) pa_nil)) (pg_name (i := 10) scLnames.nd rfl (Or.inl rfl))
    (pss_cons (ps_set (i := 11) scLnames.nd rfl (Or.inl rfl) (pe_op op_mul (pe_op op_mod (pe_op op_add (pe_op op_add (pv 3) (pv 5)) (pe_callB call_len_str (by rfl) T.zlen (by decide +kernel) (pa_cons (pv 4) pa_nil))) pe_int) (pe_callTy call_int1 (by rfl) T.zint (by decide +kernel) (pa_cons (pe_cmpR op_ne (pv 9) pe_str (nomark _)) pa_nil))))
    (pss_cons (ps_set (i := 12) scLnames.nd rfl (Or.inl rfl) (pe_ix ix_str (pv 2) (pe_op op_mod (pe_op op_add (pv 3) (pe_op op_mul (pv 6) (pe_ix ix_list (pe_lst (pa_cons (pv 10) (pa_cons (pe_op op_fdivW (pv 10) pe_int) (pa_cons (pv 10) pa_nil)))) (pv 11) (fun _ _ => rfl)))) pe_int) (fun _ _ => rfl)))
    (pss_one (ps_expr (pe_bm PySem.F.plainAttrs_list PySem.F.slot_list_append PySem.F.type_list_append mt_append (pv 7) (pa_cons (pe_op op_add_str (pe_op op_add_str (pv 8) (pv 12)) (pe_ix ix_list (pe_lst (pa_cons (pv 9) (pa_cons (pe_op op_mul_str (pv 9) (pe_op op_mod (pv 10) pe_int)) (pa_cons (pe_slice sl_str (pv 9) po_none (po_some (pe_op op_mod (pv 10) (pe_op op_add (pe_callB call_len_str (by rfl) T.zlen (by decide +kernel) (pa_cons (pv 9) pa_nil)) pe_int)))) pa_nil)))) (pv 11) (fun _ _ => rfl))) pa_nil)))))))
    (pss_one (ps_ret (pv 7)))))))), ?_⟩
    -- _law_letters, _law_shift
    refine ⟨_, rfl, t, c, 26, rfl, hT, by omega, by decide, by decide, fun sh H1 a0 a1 T1 S1 => ?_⟩
    refine ⟨(by show 2 ≤ sizeLine; decide), fun tp htp => ⟨tp, _, rfl, SqT.of upd_same, rfl, _, _, rfl, _, _, rfl, rfl, ?_⟩⟩
    have T1' := T1.new (o := .tup [.str lettersS, .int sh]) htp
    have SB1 : SameBut t H (upd H1 tp (.tup [.str lettersS, .int sh])) := S1.new htp
    -- _law_stem
    refine ⟨⟨_, rfl⟩, ?_⟩
    refine ⟨_, rfl, t, _, 8, rfl, T1', by omega, by decide, by decide, fun n0 H2 b0 b1 T2 S2 => ?_⟩
    have SB2 := SB1.trans S2
    refine ⟨n0, rfl, by omega, by omega, fun D hD => ?_⟩
    have nDt : D ≠ t := T2.ne hD
    refine lc_range (lo := 0) (n := n0.toNat) (fun i H' => ∃ zs : List Str, H' D = some (.lst (zs.map V.str)) ∧ zs.length = i ∧ (∀ z ∈ zs, Lets z ∧ z.length = 1) ∧ TapeAt H' t (c + 2 + (i : Int)) ∧ SameBut t H H')
      ⟨[], upd_same, rfl, (fun z hz => by cases hz), (T2.new hD).mono (by omega), SB2.new hD⟩ ?_ ?_
    · rintro i H' hi ⟨zs, hzs, lzs, hZ, Ti, SBi⟩
      refine ⟨rfl, ?_⟩
      refine ⟨_, rfl, _, rfl, t, _, 26, rfl, Ti, by omega, by decide, by decide, fun r H3 c0 c1 T3 S3 => ?_⟩
      obtain ⟨cc, hcc, hb⟩ := letter_at c0 c1
      have hzs3 := S3 _ _ hzs nDt
      refine ⟨lettersS, r, cc, rfl, rfl, letters_size, hcc, _, hzs3, ?_, zs ++ [⟨#[cc]⟩], ?_, ?_, ?_, ?_, ?_⟩
      · rw [List.length_map, lzs]
        exact Nat.lt_of_lt_of_le (show i < 8 by omega) (by decide)
      · rw [upd_same, List.map_append]
        rfl
      · rw [List.length_append, lzs]
        rfl
      · intro z hz
        rcases List.mem_append.mp hz with h | h
        · exact hZ z h
        · rw [List.mem_singleton] at h
          rw [h]
          exact ⟨Lets.one hb, rfl⟩
      · obtain ⟨a', b', k', g1, g2⟩ := T3
        refine ⟨a', b', k', ?_, g2.1, g2.2.1, g2.2.2.1, g2.2.2.2.1, by have := g2.2.2.2.2; omega⟩
        rw [upd_ne nDt.symm]
        exact g1
      · intro b o e n
        have nbD : b ≠ D := by
          intro e'
          have h2 := SB2 _ _ e n
          rw [e', hD] at h2
          cases h2
        rw [upd_ne nbD]
        exact S3 _ _ (SBi _ _ e n) n
    rintro H' ⟨zs, hzs, lzs, hZ, Ti, SBi⟩
    have hone : ∀ z ∈ zs, z.length = 1 := fun z hz => (hZ z hz).2
    obtain ⟨jl, jn⟩ := join_lets sep_empty zs hZ
    refine ⟨_, D, zs, rfl, rfl, .inl (SqL.of hzs), ?_, ?_⟩
    · rw [sum_ones zs hone, show (Str.ofString "").length = 0 from by decide +kernel, Nat.mul_zero]
      omega
    generalize Txt.join (Str.ofString "") zs = stem at jl jn
    have sl : stem.length ≤ 7 := by omega
    have ssz : stem.length ≤ sizeLine := Nat.le_trans sl (by decide)
    -- _law_at, _law_step, _law_found
    refine ⟨_, rfl, _, rfl, stem, rfl, ssz, _, 1, rfl, rfl, t, _, _, rfl, Ti, by omega, by omega, by omega, fun at_ H3 d0 d1 T3 S3 => ?_⟩
    refine ⟨(by show 3 ≤ sizeLine; decide), fun l3 hl3 => ?_⟩
    refine ⟨_, rfl, t, _, 3, rfl, T3.new hl3, by omega, by decide, by decide, fun r3 H4 e0 e1 T4 S4 => ?_⟩
    obtain ⟨step, hstep, estep⟩ := at3 (x := 1) (y := 7) (z := 25) e0 e1
    refine ⟨l3, _, _, _, rfl, rfl, SqL.of (S4 _ _ upd_same (T3.ne hl3)), hstep, (by show 0 ≤ sizeLine; decide), fun fo hfo => ⟨_, _, _, rfl, ?_⟩⟩
    have nft : fo ≠ t := T4.ne hfo
    have SB4 : SameBut t H H4 := ((SBi.trans S3).trans (Same.but (same_new hl3))).trans S4
    have hfo0 : H fo = none := SB4.free T4 hfo
    have T5 := (T4.new (o := .lst []) hfo)
    -- _law_head, _law_tail
    refine ⟨_, rfl, _, rfl, at_, rfl, stem, rfl, ssz, _, rfl, _, rfl, at_, rfl, stem, rfl, ssz, _, _, rfl, ?_⟩
    obtain ⟨hn1, hn2⟩ := cut_parts stem at_.toNat (by omega)
    rw [show ((at_.toNat : Nat) : Int) = at_ by omega] at hn1 hn2
    have hL1 := jl.cut none (some at_)
    have hL2 := jl.cut (some at_) none
    generalize cutS stem none (some at_) = hd at hn1 hL1
    generalize cutS stem (some at_) none = tl at hn2 hL2
    have tsz : tl.length ≤ sizeLine := Nat.le_trans (show tl.length ≤ 7 by omega) (by decide)
    -- the names
    refine ⟨_, rfl, (m : Int), rfl, by omega, by omega, ?_⟩
    refine for_range (lo := 0) (n := ((m : Int)).toNat) (fun i σ H' => ∃ (ns : List Str) (v10 v11 v12 : Option V), σ = [some (.ref t), some (.int (m : Int)), some (.str lettersS), some (.int sh), some (.str stem), some (.int at_), some (.int step), some (.ref fo), some (.str hd), some (.str tl), v10, v11, v12] ∧
        H' fo = some (.lst (ns.map V.str)) ∧ ns.length = i ∧ (∀ z ∈ ns, GoodName z) ∧ (∀ b o, H4 b = some o → H' b = some o))
      ⟨[], _, _, _, rfl, upd_same, rfl, (fun z hz => by cases hz), same_new hfo⟩ ?_ ?_
    · rintro i σ H' hi ⟨ns, v10, v11, v12, rfl, hns, lns, hN, s5⟩
      have hi26 : i < 26 := by omega
      have w0 : 0 ≤ (sh + at_ + (stem.length : Int)) % 3 := Int.emod_nonneg _ (by decide)
      have w1 : (sh + at_ + (stem.length : Int)) % 3 < 3 := Int.emod_lt_of_pos _ (by decide)
      refine ⟨_, rfl, _, rfl, sh, at_, rfl, rfl, _, rfl, stem, rfl, ssz, _, _, rfl, rfl, _, 3, rfl, rfl, (show (0 : Int) < 3 by decide), _, rfl, rfl, .inr ⟨_, rfl, _, _, rfl, rfl, cm01 _ _, ?_⟩⟩
      have hw : ∃ way : Int, 0 ≤ way ∧ way < 3 ∧ (sh + at_ + (stem.length : Int)) % 3 * (if (!decide (V.str tl = V.str (Str.ofString ""))) = true then (1 : Int) else 0) = way := by
        cases (!decide (V.str tl = V.str (Str.ofString ""))) with
        | true => exact ⟨_, w0, w1, by rw [if_pos rfl, Int.mul_one]⟩
        | false => exact ⟨0, by decide, by decide, by rw [if_neg (by decide), Int.mul_zero]⟩
      obtain ⟨way, ww0, ww1, hway⟩ := hw
      dsimp only
      rw [hway]
      -- the sign
      refine ⟨_, rfl, _, rfl, _, rfl, _, rfl, _, rfl, _, 2, rfl, rfl, wd (by decide) (by decide), _, rfl, (by show 3 ≤ sizeLine; decide), fun l5 hl5 => ?_⟩
      obtain ⟨kk, hkk, ekk⟩ := at3 (x := 0 + (i : Int)) (y := (0 + (i : Int)) / 2) (z := 0 + (i : Int)) ww0 ww1
      refine ⟨_, rfl, l5, _, _, _, rfl, rfl, SqL.of upd_same, hkk, step, kk, rfl, rfl, .inl ⟨by omega, by omega⟩, sh, _, rfl, rfl, _, 26, rfl, rfl, (show (0 : Int) < 26 by decide), ?_⟩
      obtain ⟨sg, hsg, hsb⟩ := letter_at (i := (sh + step * kk) % 26) (Int.emod_nonneg _ (by decide)) (Int.emod_lt_of_pos _ (by decide))
      refine ⟨lettersS, _, sg, rfl, rfl, letters_size, hsg, ?_⟩
      -- the name
      have hns5 : ∀ o, (upd H' l5 o) fo = some (.lst (ns.map V.str)) := fun o => by rw [upd_ne (ne_of_none hns hl5)]; exact hns
      have m0 : 0 ≤ (0 + (i : Int)) % 2 := Int.emod_nonneg _ (by decide)
      have m1 : (0 + (i : Int)) % 2 < 2 := Int.emod_lt_of_pos _ (by decide)
      obtain ⟨mok, mval⟩ := mul01 (z := tl) m0 (by omega : (0 + (i : Int)) % 2 ≤ 1)
      refine ⟨_, rfl, .inl ⟨rfl, _, SqL.of (hns5 _)⟩, _, rfl, _, rfl, hd, ⟨#[sg]⟩, rfl, rfl, ?_, ?_⟩
      · exact Nat.le_trans (show hd.length + 1 ≤ 9 by omega) (by decide)
      refine ⟨_, rfl, _, rfl, _, rfl, _, 2, rfl, rfl, (show (0 : Int) < 2 by decide), tl, _, rfl, rfl, mok, ?_⟩
      have tpos : (0 : Int) < (tl.length : Int) + 1 := by omega
      refine ⟨_, rfl, _, rfl, _, rfl, tl, rfl, tsz, _, 1, rfl, rfl, _, _, rfl, rfl, tpos, _, rfl, tl, rfl, tsz, (by show 3 ≤ sizeLine; decide), fun l6 hl6 => ?_⟩
      have hxt : ∃ y : Str, atI [V.str tl, V.str (Txt.mul tl ((0 + (i : Int)) % 2)), V.str (cutS tl none (some ((0 + (i : Int)) % ((tl.length : Int) + 1))))] way = some (V.str y) ∧ Lets y ∧ y.length ≤ tl.length := by
        have : way = 0 ∨ way = 1 ∨ way = 2 := by omega
        rcases this with rfl | rfl | rfl
        · exact ⟨tl, rfl, hL2, Nat.le_refl _⟩
        · refine ⟨_, rfl, ?_, ?_⟩
          · rcases mval with h | h <;> rw [h]
            · exact hL2
            · exact Lets.empty
          · rcases mval with h | h <;> rw [h]
            · exact Nat.le_refl _
            · exact Nat.zero_le _
        · exact ⟨_, rfl, hL2.cut _ _, cut_size _ _ _⟩
      obtain ⟨y, hy, hyL, hyn⟩ := hxt
      refine ⟨_, rfl, l6, _, _, _, rfl, rfl, SqL.of upd_same, hy, _, y, rfl, rfl, ?_, ?_⟩
      · rw [Str.length_append]
        exact Nat.le_trans (show hd.length + 1 + y.length ≤ 9 by omega) (by decide)
      have hns6 : ∀ o, (upd (upd H' l5 (.lst [.int (0 + (i : Int)), .int ((0 + (i : Int)) / 2), .int (0 + (i : Int))])) l6 o) fo = some (.lst (ns.map V.str)) := fun o => by rw [upd_ne (ne_of_none (hns5 _) hl6)]; exact hns5 _
      refine ⟨fo, _, _, rfl, rfl, hns6 _, ?_, ?_⟩
      · rw [List.length_map, lns]
        exact Nat.lt_of_lt_of_le (show i < 26 by omega) (by decide)
      refine ⟨ns ++ [hd ++ ⟨#[sg]⟩ ++ y], _, _, _, rfl, ?_, ?_, ?_, ?_⟩
      · rw [upd_same, List.map_append]
        rfl
      · rw [List.length_append, lns]
        rfl
      · intro z hz
        rcases List.mem_append.mp hz with h | h
        · exact hN z h
        · rw [List.mem_singleton] at h
          rw [h]
          have hlen : (hd ++ ⟨#[sg]⟩ ++ y).length = hd.length + 1 + y.length := by
            rw [Str.length_append, Str.length_append]
            rfl
          exact ⟨by rw [hlen]; omega, by rw [hlen]; omega, (hL1.append (Lets.one hsb)).append hyL⟩
      · intro b o e
        have nbf : b ≠ fo := ne_of_none e hfo
        have z1 := s5 _ _ e
        have z2 : (upd H' l5 (.lst [.int (0 + (i : Int)), .int ((0 + (i : Int)) / 2), .int (0 + (i : Int))])) b = some o := by rw [upd_ne (ne_of_none z1 hl5)]; exact z1
        rw [upd_ne nbf, upd_ne (ne_of_none z2 hl6)]
        exact z2
    · rintro σ H' ⟨ns, v10, v11, v12, rfl, hns, lns, hN, s5⟩
      refine ⟨_, rfl, ?_⟩
      exact q fo ns H' hfo0 (by omega) hN hns ((T4.same s5).mono (by omega)) (SB4.trans (Same.but s5))
end
end HP
namespace HP
open PySem L2
section
variable {P : Program} {w : World} {K : PySem.W.Frag} {mg : Str → Option Value} {base : Heap} {tM tL : Tok}
/-! ### _law_takes, _law_hands -/
def spTakes : Sp := fun vs H Q _ => ∃ (t : Addr) (c most : Int), vs = [.ref t, .int most] ∧ TapeAt H t c ∧ c ≤ 90000 ∧ 1 ≤ most ∧ most ≤ 1000000 ∧
  ∀ (p : Addr) (ns : List Int) (H' : Hp), Four ns most → H' p = some (.tup (ns.map V.int)) → TapeAt H' t (c + 10) → SameBut t H H' → Q (.ref p) H'
abbrev sLtakes : Stmt := top 22
theorem scLtakes : FnScope ["_law_tape_here", "_law_most", "_law_way", "_law_base", "_law_kind"] ["_law_tape_here", "_law_most"] (defScope sLtakes) := ⟨rfl, rfl, rfl, by decide +kernel, rfl, by decide +kernel, by decide +kernel⟩
theorem ok_takes {f : Addr} {fd : FuncData} (F : Fun K "_law_takes" "_law_takes" sLtakes f fd) (T : Txt mg tM tL) (DLdraw : DDraw P w K mg base) : FnOk P w K mg base CX0 2 f fd ["_law_tape_here", "_law_most"] spTakes := by
  refine F.ok scLtakes (fun vs H Q E h => ?_) (fun cdv A outer s H vs Q E hr h => ?_)
  · obtain ⟨t, c, most, rfl, _⟩ := h
    rfl
  · obtain ⟨t, c, most, rfl, hT, hc, h1, h2, q⟩ := h
    refine ⟨_, (pss_cons (ps_asg (pe_tup (pa_cons (pe_fn DLdraw (hr.mono (by decide)) (pa_cons (pv 0) (pa_cons pe_int pa_nil))) (pa_cons (pe_op op_add pe_int (pe_fn DLdraw (hr.mono (by decide)) (pa_cons (pv 0) (pa_cons (pe_callB (call_min2 rfl) (by rfl) T.zmin (by decide +kernel) (pa_cons (pv 1) (pa_cons pe_int pa_nil))) pa_nil)))) pa_nil))) (pg_tup rfl (pgs_cons (pg_name (i := 2) scLtakes.nd rfl (Or.inr rfl)) (pgs_cons (pg_name (i := 3) scLtakes.nd rfl (Or.inr rfl)) pgs_nil))))
    (pss_cons (ps_if (pt_cmp (pc_eqI (pv 2) pe_int)) (pss_one (ps_ret (pe_callTy call_tuple_of (by rfl) T.ztuple (by decide +kernel) (pa_cons (pe_lc (own := [("_law_kind", 4)]) (g := gName 4) (tt := tYes) (by rfl) scLtakes.nd (pi_range1 (by rfl) T.zrange (pa_cons pe_int pa_nil)) (blkOk_by (own := [("_law_kind", 4)]) (N := ["_law_tape_here", "_law_most", "_law_way", "_law_base", "_law_kind"]) (sc := defScope sLtakes) (by decide +kernel)) (fun _ _ _ _ _ => (pg_name (i := 4) scLtakes.nd rfl (Or.inl rfl))) (fun _ _ _ _ _ => pts_nil) (fun _ _ _ _ _ => (pv 3))) pa_nil)))) pss_nil)
    (pss_one (ps_ret (pe_callTy call_tuple_of (by rfl) T.ztuple (by decide +kernel) (pa_cons (pe_lc (own := [("_law_kind", 4)]) (g := gName 4) (tt := tYes) (te := tOp (rI0 fun i j => .int (i + j)) (tC (.int 1)) (tCall spDraw [] E0 (tCons (tVar 0) (tCons (tOp (rIxL K) (tLst (tCons (tCB (fun xs H Q => ∃ i j, xs = [.int i, .int j] ∧ Q (.int (if j < i then j else i)) H) (tCons (tVar 1) (tCons (tC (.int 4)) tNil))) (tCons (tCB (fun xs H Q => ∃ i j, xs = [.int i, .int j] ∧ Q (.int (if j < i then j else i)) H) (tCons (tVar 1) (tCons (tC (.int 12)) tNil))) (tCons (tVar 1) tNil)))) (tOp (rI0 fun i j => .int (i - j)) (tVar 2) (tC (.int 1)))) tNil)))) (by rfl) scLtakes.nd (pi_range1 (by rfl) T.zrange (pa_cons pe_int pa_nil)) (blkOk_by (own := [("_law_kind", 4)]) (N := ["_law_tape_here", "_law_most", "_law_way", "_law_base", "_law_kind"]) (sc := defScope sLtakes) (by decide +kernel)) (fun _ _ _ _ _ => (pg_name (i := 4) scLtakes.nd rfl (Or.inl rfl))) (fun _ _ _ _ _ => pts_nil) (fun _ _ _ _ _ => (pe_op op_add pe_int (pe_fn DLdraw (hr.mono (by decide)) (pa_cons (pv 0) (pa_cons (pe_ix ix_list (pe_lst (pa_cons (pe_callB (call_min2 rfl) (by rfl) T.zmin (by decide +kernel) (pa_cons (pv 1) (pa_cons pe_int pa_nil))) (pa_cons (pe_callB (call_min2 rfl) (by rfl) T.zmin (by decide +kernel) (pa_cons (pv 1) (pa_cons pe_int pa_nil))) (pa_cons (pv 1) pa_nil)))) (pe_op op_sub (pv 2) pe_int) (fun _ _ => rfl)) pa_nil)))))) pa_nil)))))), ?_⟩
    refine ⟨_, rfl, t, c, 4, rfl, hT, by omega, by decide, by decide, fun way H1 a0 a1 T1 S1 => ?_⟩
    have mn : ∀ x : Int, 1 ≤ x → 1 ≤ (if x < most then x else most) ∧ (if x < most then x else most) ≤ most := fun x hx => by split <;> omega
    refine ⟨_, rfl, _, rfl, most, 6, rfl, t, _, _, rfl, T1, by omega, by have := mn 6 (by decide); omega, by have := mn 6 (by decide); omega, fun bs H2 b0 b1 T2 S2 => ?_⟩
    have mn6 := mn 6 (by decide)
    refine ⟨1, bs, rfl, rfl, (by show 2 ≤ sizeLine; decide), fun tp htp => ⟨tp, _, rfl, SqT.of upd_same, rfl, _, _, rfl, _, _, rfl, rfl, ?_⟩⟩
    have SB : SameBut t H (upd H2 tp (.tup [.int way, .int (1 + bs)])) := (S1.trans S2).new htp
    have T3 : TapeAt (upd H2 tp (.tup [.int way, .int (1 + bs)])) t (c + 2) := (T2.new htp).mono (by omega)
    generalize upd H2 tp (.tup [.int way, .int (1 + bs)]) = H3 at SB T3
    refine ⟨_, rfl, way, 0, rfl, rfl, _, rfl, iteD (fun d1 => ?_) (fun d1 => ?_)⟩
    · -- all alike
      refine ⟨4, rfl, by decide, by decide, fun D hD => ?_⟩
      refine lc_range (lo := 0) (n := (4 : Int).toNat) (fun i H' => H' D = some (.lst ((List.replicate i (1 + bs)).map V.int)) ∧ Same H3 H') ⟨upd_same, same_new hD⟩ ?_ ?_
      · rintro i H' hi ⟨hd, s1⟩
        have hi4 : i < 4 := hi
        refine ⟨rfl, ?_⟩
        refine ⟨_, rfl, _, hd, ?_, ?_, ?_⟩
        · rw [List.length_map, List.length_replicate]
          exact Nat.lt_of_lt_of_le hi4 (by decide)
        · rw [upd_same, ← rep_snoc, List.map_append]
          rfl
        · intro b o e
          rw [upd_ne (ne_of_none e hD)]
          exact s1 _ _ e
      · rintro H' ⟨hd, s1⟩
        refine ⟨D, _, rfl, .inl ⟨SqL.of hd, fun p hp => ?_⟩⟩
        refine q p (List.replicate 4 (1 + bs)) _ ⟨List.length_replicate, fun n hn => ?_⟩ upd_same (((T3.same s1).new hp).mono (by omega)) ((SB.trans (Same.but s1)).new hp)
        rw [(List.mem_replicate.mp hn).2]
        omega
    · refine ⟨4, rfl, by decide, by decide, fun D hD => ?_⟩
      have nDt : D ≠ t := T3.ne hD
      have d1' : ¬ way = 0 := d1
      refine lc_range (lo := 0) (n := (4 : Int).toNat) (fun i H' => ∃ ns : List Int, H' D = some (.lst (ns.map V.int)) ∧ ns.length = i ∧ (∀ n ∈ ns, 1 ≤ n ∧ n ≤ most) ∧ TapeAt H' t (c + 2 + (i : Int)) ∧ SameBut t H3 H')
        ⟨[], upd_same, rfl, (fun z hz => by cases hz), (T3.new hD).mono (by omega), Same.but (same_new hD)⟩ ?_ ?_
      · rintro i H' hi ⟨ns, hns, lns, hN, Ti, SBi⟩
        have hi4 : i < 4 := hi
        refine ⟨rfl, ?_⟩
        refine ⟨_, rfl, _, rfl, most, 4, rfl, _, rfl, most, 12, rfl, _, rfl, (by show 3 ≤ sizeLine; decide), fun l3 hl3 => ?_⟩
        obtain ⟨mm, hmm, emm⟩ := at3 (x := if 4 < most then 4 else most) (y := if 12 < most then 12 else most) (z := most) (r := way - 1) (by omega) (by omega)
        have mmb : 1 ≤ mm ∧ mm ≤ most := by
          rcases emm with h | h | h
          · rw [h]; exact mn 4 (by decide)
          · rw [h]; exact mn 12 (by decide)
          · rw [h]; exact ⟨h1, Int.le_refl _⟩
        refine ⟨_, rfl, way, 1, rfl, rfl, l3, _, _, _, rfl, rfl, SqL.of upd_same, hmm, t, _, mm, rfl, Ti.new hl3, by omega, by omega, by omega, fun r H5 e0 e1 T5 S5 => ?_⟩
        have hns5 : H5 D = some (.lst (ns.map V.int)) := S5 _ _ (by rw [upd_ne (ne_of_none hns hl3)]; exact hns) nDt
        refine ⟨1, r, rfl, rfl, _, hns5, ?_, ns ++ [1 + r], ?_, ?_, ?_, ?_, ?_⟩
        · rw [List.length_map, lns]
          exact Nat.lt_of_lt_of_le hi4 (by decide)
        · rw [upd_same, List.map_append]
          rfl
        · rw [List.length_append, lns]
          rfl
        · intro n hn
          rcases List.mem_append.mp hn with h | h
          · exact hN n h
          · rw [List.mem_singleton] at h
            omega
        · obtain ⟨a', b', k', g1, g2⟩ := T5
          refine ⟨a', b', k', ?_, g2.1, g2.2.1, g2.2.2.1, g2.2.2.2.1, by have := g2.2.2.2.2; omega⟩
          rw [upd_ne nDt.symm]
          exact g1
        · intro b o e n
          rw [upd_ne (ne_of_none e hD)]
          exact S5 _ _ ((same_new hl3) _ _ (SBi _ _ e n)) n
      · rintro H' ⟨ns, hns, lns, hN, Ti, SBi⟩
        have lns' : ns.length = 4 := lns
        refine ⟨D, _, rfl, .inl ⟨SqL.of hns, fun p hp => ?_⟩⟩
        have e4 : (((4 : Int).toNat : Nat) : Int) = 4 := by decide
        rw [e4] at Ti
        exact q p ns _ ⟨lns', hN⟩ upd_same ((Ti.new hp).mono (by omega)) ((SB.trans SBi).new hp)
def spHands : Sp := fun vs H Q _ => ∃ (t : Addr) (c : Int), vs = [.ref t] ∧ TapeAt H t c ∧ c ≤ 90000 ∧
  ∀ (p : Addr) (ns : List Int) (H' : Hp), Four ns 4 → H' p = some (.tup (ns.map V.int)) → TapeAt H' t (c + 10) → SameBut t H H' → Q (.ref p) H'
abbrev sLhands : Stmt := top 23
theorem scLhands : FnScope ["_law_tape_here", "_law_kind"] ["_law_tape_here"] (defScope sLhands) := ⟨rfl, rfl, rfl, by decide +kernel, rfl, by decide +kernel, by decide +kernel⟩
theorem ok_hands {f : Addr} {fd : FuncData} (F : Fun K "_law_hands" "_law_hands" sLhands f fd) (T : Txt mg tM tL) (DLdraw : DDraw P w K mg base) : FnOk P w K mg base CX0 2 f fd ["_law_tape_here"] spHands := by
  refine F.ok scLhands (fun vs H Q E h => ?_) (fun cdv A outer s H vs Q E hr h => ?_)
  · obtain ⟨t, c, rfl, _⟩ := h
    rfl
  · obtain ⟨t, c, rfl, hT, hc, q⟩ := h
    refine ⟨_, (pss_cons (ps_if (pt_cmp (pc_eqI (pe_fn DLdraw (hr.mono (by decide)) (pa_cons (pv 0) (pa_cons pe_int pa_nil))) pe_int)) (pss_one (ps_ret (pe_tup (pa_cons pe_int (pa_cons pe_int (pa_cons pe_int (pa_cons pe_int pa_nil))))))) pss_nil)
    (pss_one (ps_ret (pe_callTy call_tuple_of (by rfl) T.ztuple (by decide +kernel) (pa_cons (pe_lc (own := [("_law_kind", 1)]) (g := gName 1) (tt := tYes) (by rfl) scLhands.nd (pi_range1 (by rfl) T.zrange (pa_cons pe_int pa_nil)) (blkOk_by (own := [("_law_kind", 1)]) (N := ["_law_tape_here", "_law_kind"]) (sc := defScope sLhands) (by decide +kernel)) (fun _ _ _ _ _ => (pg_name (i := 1) scLhands.nd rfl (Or.inl rfl))) (fun _ _ _ _ _ => pts_nil) (fun _ _ _ _ _ => (pe_op op_add pe_int (pe_fn DLdraw (hr.mono (by decide)) (pa_cons (pv 0) (pa_cons pe_int pa_nil)))))) pa_nil))))), ?_⟩
    refine ⟨_, rfl, t, c, 3, rfl, hT, by omega, by decide, by decide, fun way H1 a0 a1 T1 S1 => ?_⟩
    refine ⟨way, 0, rfl, rfl, _, rfl, iteD (fun d1 => ?_) (fun d1 => ?_)⟩
    · refine ⟨(by show 4 ≤ sizeLine; decide), fun p hp => ?_⟩
      refine q p [1, 1, 1, 1] _ ⟨rfl, fun n hn => ?_⟩ upd_same ((T1.new hp).mono (by omega)) (S1.new hp)
      simp only [List.mem_cons, List.not_mem_nil, or_false, or_self] at hn
      omega
    · refine ⟨4, rfl, by decide, by decide, fun D hD => ?_⟩
      have nDt : D ≠ t := T1.ne hD
      refine lc_range (lo := 0) (n := (4 : Int).toNat) (fun i H' => ∃ ns : List Int, H' D = some (.lst (ns.map V.int)) ∧ ns.length = i ∧ (∀ n ∈ ns, 1 ≤ n ∧ n ≤ 4) ∧ TapeAt H' t (c + 1 + (i : Int)) ∧ SameBut t H1 H')
        ⟨[], upd_same, rfl, (fun z hz => by cases hz), (T1.new hD).mono (by omega), Same.but (same_new hD)⟩ ?_ ?_
      · rintro i H' hi ⟨ns, hns, lns, hN, Ti, SBi⟩
        have hi4 : i < 4 := hi
        refine ⟨rfl, ?_⟩
        refine ⟨_, rfl, t, _, 4, rfl, Ti, by omega, by decide, by decide, fun r H5 e0 e1 T5 S5 => ?_⟩
        have hns5 : H5 D = some (.lst (ns.map V.int)) := S5 _ _ hns nDt
        refine ⟨1, r, rfl, rfl, _, hns5, ?_, ns ++ [1 + r], ?_, ?_, ?_, ?_, ?_⟩
        · rw [List.length_map, lns]
          exact Nat.lt_of_lt_of_le hi4 (by decide)
        · rw [upd_same, List.map_append]
          rfl
        · rw [List.length_append, lns]
          rfl
        · intro n hn
          rcases List.mem_append.mp hn with h | h
          · exact hN n h
          · rw [List.mem_singleton] at h
            omega
        · obtain ⟨a', b', k', g1, g2⟩ := T5
          refine ⟨a', b', k', ?_, g2.1, g2.2.1, g2.2.2.1, g2.2.2.2.1, by have := g2.2.2.2.2; omega⟩
          rw [upd_ne nDt.symm]
          exact g1
        · intro b o e n
          rw [upd_ne (ne_of_none e hD)]
          exact S5 _ _ (SBi _ _ e n) n
      · rintro H' ⟨ns, hns, lns, hN, Ti, SBi⟩
        have lns' : ns.length = 4 := lns
        refine ⟨D, _, rfl, .inl ⟨SqL.of hns, fun p hp => ?_⟩⟩
        have e4 : (((4 : Int).toNat : Nat) : Int) = 4 := by decide
        rw [e4] at Ti
        exact q p ns _ ⟨lns', hN⟩ upd_same ((Ti.new hp).mono (by omega)) ((S1.trans SBi).new hp)
/-! ### Gang.pace -/
def PaceOf (ts hs : List Int) (tp bt : Int) : Prop := (tp, bt) ∈ ts.zip hs ∧ ∀ q ∈ ts.zip hs, q.1 * bt ≤ tp * q.2
def spPace (C : Addr) : Sp := fun vs H Q _ => ∃ (p : Addr) (ts hs : List Int), vs = [.ref p] ∧ GangAt C H p ts hs ∧
  ∀ (r : Addr) (tp bt : Int) (H' : Hp), PaceOf ts hs tp bt → H' r = some (.tup [.int (tp / (Int.gcd tp bt : Nat)), .int (bt / (Int.gcd tp bt : Nat))]) → Same H H' → Q (.ref r) H'
abbrev sGang_pace : Stmt := inClass (top 16) 8
theorem scGang_pace : FnScope ["self", "top", "bottom", "take", "many", "shared"] ["self"] (defScope sGang_pace) := ⟨rfl, rfl, rfl, by decide +kernel, rfl, by decide +kernel, by decide +kernel⟩
theorem zip_at {ts hs : List Int} {i : Nat} {x y : Int} (h1 : ts[i]? = some x) (h2 : hs[i]? = some y) : (ts.zip hs)[i]? = some (x, y) := by
  rw [List.getElem?_zip_eq_some]
  exact ⟨h1, h2⟩
theorem cross {t h T B T' B' : Int} (hB : 0 < B) (hh : 0 ≤ h) (h1 : t * B ≤ T * h) (h2 : T * B' ≤ T' * B) (hB' : 0 < B') (hh' : 0 < h) : t * B' ≤ T' * h := by
  have e1 : t * B * B' ≤ T * h * B' := Int.mul_le_mul_of_nonneg_right h1 (by omega)
  have e2 : T * B' * h ≤ T' * B * h := Int.mul_le_mul_of_nonneg_right h2 hh
  have e3 : T * h * B' = T * B' * h := by rw [Int.mul_assoc, Int.mul_comm h B', ← Int.mul_assoc]
  have e4 : t * B * B' = t * B' * B := by rw [Int.mul_assoc, Int.mul_comm B B', ← Int.mul_assoc]
  have e5 : T' * B * h = T' * h * B := by rw [Int.mul_assoc, Int.mul_comm B h, ← Int.mul_assoc]
  exact Int.le_of_mul_le_mul_right (by omega) hB
theorem ok_pace {f C : Addr} {fd : FuncData} (F : Fun K "pace" "Gang.pace" sGang_pace f fd) (T : Txt mg tM tL) (GT : GangTxt K C) (Dcommon_divisor : Df P w K mg base "common_divisor" 1 ["one", "other"] spGcd) : FnOk P w K mg base CX0 2 f fd ["self"] (spPace C) := by
  refine F.ok scGang_pace (fun vs H Q E h => ?_) (fun cdv A outer s H vs Q E hr h => ?_)
  · obtain ⟨p, ts, hs, rfl, _⟩ := h
    rfl
  · obtain ⟨p, ts, hs, rfl, M, q⟩ := h
    obtain ⟨⟨z, dx, tk, hd, hp, htk, hhd⟩, ⟨t4, tB⟩, ⟨h4, hB⟩⟩ := M
    refine ⟨_, (pss_cons (ps_par (i := 1) (j := 2) (by rfl) scGang_pace.nd rfl rfl (by decide) rfl rfl (pa_cons (pe_ix ix_tup (pe_fld (pv 0) rfl) pe_int (fun _ _ => rfl)) (pa_cons (pe_ix ix_tup (pe_fld (pv 0) rfl) pe_int (fun _ _ => rfl)) pa_nil)) (by rfl))
    (pss_cons (ps_for PassesOwn.never rfl (RZ.pi_zipA (by rfl) T.zzip (pa_cons (pe_fld (pv 0) rfl) (pa_cons (pe_fld (pv 0) rfl) pa_nil))) (pg_tup rfl (pgs_cons (pg_name (i := 3) scGang_pace.nd rfl (Or.inl rfl)) (pgs_cons (pg_name (i := 4) scGang_pace.nd rfl (Or.inl rfl)) pgs_nil)))
    (pss_one (ps_if (pt_cmp (pc_gt (pe_op op_mul (pv 3) (pv 2)) (pe_op op_mul (pv 1) (pv 4)))) (pss_one (ps_par (i := 1) (j := 2) (by rfl) scGang_pace.nd rfl rfl (by decide) rfl rfl (pa_cons (pv 3) (pa_cons (pv 4) pa_nil)) (by rfl))) pss_nil)))
    (pss_cons (ps_set (i := 5) scGang_pace.nd rfl (Or.inl rfl) (pe_fn Dcommon_divisor (hr.mono (by decide)) (pa_cons (pv 1) (pa_cons (pv 2) pa_nil))))
    (pss_one (ps_ret (pe_tup (pa_cons (pe_op op_fdivW (pv 1) (pv 5)) (pa_cons (pe_op op_fdivW (pv 2) (pv 5)) pa_nil)))))))), ?_⟩
    obtain ⟨t0, ht0⟩ : ∃ x, ts[0]? = some x := ⟨_, List.getElem?_eq_getElem (by omega)⟩
    obtain ⟨h0, hh0⟩ : ∃ x, hs[0]? = some x := ⟨_, List.getElem?_eq_getElem (by omega)⟩
    have at0 : ∀ {l : List Int} {x : Int}, l[0]? = some x → atI (l.map V.int) 0 = some (.int x) := fun {l x} h => at_of (j := 0) rfl (by rw [List.getElem?_map, h]; rfl)
    refine ⟨_, rfl, p, C, dx, _, _, rfl, hp, GT.cl, GT.n2, gf_takes _ _ _, tk, _, 0, _, rfl, rfl, SqT.of htk, at0 ht0, _, rfl, p, C, dx, _, _, rfl, hp, GT.cl, GT.n3, gf_hands _ _ _, hd, _, 0, _, rfl, rfl, SqT.of hhd, at0 hh0, _, _, rfl, ?_⟩
    refine ⟨_, rfl, p, C, dx, _, _, rfl, hp, GT.cl, GT.n2, gf_takes _ _ _, _, rfl, p, C, dx, _, _, rfl, hp, GT.cl, GT.n3, gf_hands _ _ _, tk, hd, _, _, rfl, .inr ⟨SqT.of htk, SqT.of hhd, ?_⟩⟩
    refine RZ.for_zipT (K := K) (a := tk) (b := hd) (xs := ts.map V.int) (ys := hs.map V.int) (by rw [List.length_map, List.length_map, t4, h4]) (fun i σ H' => ∃ (tp bt : Int) (v3 v4 v5 : Option V), σ = [some (.ref p), some (.int tp), some (.int bt), v3, v4, v5] ∧ (tp, bt) ∈ ts.zip hs ∧ (∀ q ∈ (ts.zip hs).take i, q.1 * bt ≤ tp * q.2) ∧ Same H H')
      ⟨t0, h0, _, _, _, rfl, List.mem_of_getElem? (zip_at ht0 hh0), (fun q hq => by rw [List.take_zero] at hq; cases hq), Same.refl H⟩ (fun i σ H' ⟨_, _, _, _, _, _, _, _, s⟩ => ⟨SqT.of (s _ _ htk), SqT.of (s _ _ hhd)⟩) ?_ ?_
    · rintro i x y T' σ H' hx hy ⟨tp, bt, v3, v4, v5, rfl, hm, hle, s1⟩ hT'
      obtain ⟨tt, htt, rfl⟩ := map_int hx
      obtain ⟨hh, hhh, rfl⟩ := map_int hy
      have b1 := tB tt (List.mem_of_getElem? htt)
      have b2 := hB hh (List.mem_of_getElem? hhh)
      have zm := List.of_mem_zip hm
      have b3 := tB tp zm.1
      have b4 := hB bt zm.2
      have hz := zip_at htt hhh
      refine ⟨T', _, rfl, SqT.of upd_same, rfl, _, _, rfl, _, _, rfl, rfl, ?_⟩
      have s2 : Same H (upd H' T' (.tup [.int tt, .int hh])) := s1.trans (same_new hT')
      refine ⟨_, rfl, _, rfl, tt, bt, rfl, rfl, .inl ⟨by omega, by omega⟩, _, rfl, _, rfl, tp, hh, rfl, rfl, .inl ⟨by omega, by omega⟩, _, _, rfl, rfl, _, rfl, iteD (fun c => ?_) (fun c => ?_)⟩
      · refine ⟨_, rfl, _, rfl, _, _, rfl, ?_⟩
        refine ⟨tt, hh, _, _, _, rfl, List.mem_of_getElem? hz, fun q hq => ?_, s2⟩
        rw [take_more hz] at hq
        rcases List.mem_append.mp hq with h | h
        · have hb := hle q h
          have zq := List.of_mem_zip (List.mem_of_mem_take h)
          have b5 := hB q.2 zq.2
          have c' : tp * hh < tt * bt := c
          exact cross (by omega) (by omega) hb (by omega) (by omega) (by omega)
        · rw [List.mem_singleton] at h
          rw [h]
          exact Int.le_refl _
      · refine ⟨tp, bt, _, _, _, rfl, hm, fun q hq => ?_, s2⟩
        rw [take_more hz] at hq
        rcases List.mem_append.mp hq with h | h
        · exact hle q h
        · rw [List.mem_singleton] at h
          rw [h]
          exact Int.not_lt.mp c
    · rintro σ H' ⟨tp, bt, v3, v4, v5, rfl, hm, hle, s1⟩
      have zm := List.of_mem_zip hm
      have b3 := tB tp zm.1
      have b4 := hB bt zm.2
      have hlz : (ts.zip hs).length = 4 := by rw [List.length_zip, t4, h4]; rfl
      rw [List.length_map, List.take_of_length_le (by omega)] at hle
      refine ⟨_, rfl, _, rfl, tp, bt, rfl, b3.1, by omega, ?_⟩
      have gpos : 0 < ((Int.gcd tp bt : Nat) : Int) := by
        have : 0 < Int.gcd tp bt := Int.gcd_pos_of_ne_zero_left _ (by omega)
        omega
      have gle : ((Int.gcd tp bt : Nat) : Int) ≤ 10000000000000 := by
        have h1 : ((Int.gcd tp bt : Nat) : Int) ∣ tp := Int.gcd_dvd_left ..
        have := Int.le_of_dvd (by omega) h1
        omega
      refine ⟨_, rfl, _, rfl, tp, _, rfl, rfl, wd gpos gle, _, rfl, _, rfl, bt, _, rfl, rfl, wd gpos gle, (by show 2 ≤ sizeLine; decide), fun r hr' => ?_⟩
      exact q r tp bt _ ⟨hm, hle⟩ upd_same (s1.trans (same_new hr'))
/-! ### keeps -/
def keptB (ts hs : List Int) (beats pieces : Int) : Bool := (ts.zip hs).all fun q => decide (q.1 * pieces ≤ beats * q.2)
end
end HP
namespace HP
open PySem L2
section
variable {P : Program} {w : World} {K : PySem.W.Frag} {mg : Str → Option Value} {base : Heap} {tM tL : Tok}
/-! ### a method of an own class, called -/
structure Dm (P : Program) (w : World) (K : PySem.W.Frag) (mg : Str → Option Value) (base : Heap) (C : Addr) (m : Str) (k : Nat) (ps : List Str) (sp : Sp) : Prop where
  ex : ∃ (f : Addr) (fd : FuncData), FnOk P w K mg base CX0 k f fd ps sp ∧ Cls K C ∧ Meth K C m f ∧ Binds K fd ps []
theorem pe_mt {X : Cx} {C : Addr} {m : Str} {k : Nat} {ps : List Str} {sp : Sp} {apos pos : Pos} {o e : Expr} {es : List Expr} {ta : TE} {t : TA} {pl : Sem Bool} (Z : Dm X.prog X.w X.K X.mg X.base C m k ps sp) (hr : Room k X.A) (he : PE X o ta) (ha : PA X (e :: es) t)
    (hst : starEach (e :: es) X.env = (false, eval e X.env) :: starEach es X.env := by rfl) (hpl : (backTo pos (starEach es X.env)).any (·.1) = false := by rfl)
    (ht : eval (.Call (.Attribute o m apos) (e :: es) [] pos) X.env = (do
      let ov ← eval o X.env
      standAt apos.atName
      let (f, first) ← holding [ov] (getMethod ov m pl)
      callWith pos f first (backTo pos (starEach (e :: es) X.env)) (backToKw pos (keywordEach [] X.env))) := by rfl) :
    PE X (.Call (.Attribute o m apos) (e :: es) [] pos) (tMeth C m sp [] E0 ta t) := by
  obtain ⟨f, fd, F, c, m, b⟩ := Z.ex
  exact pe_meth he c m F hr b .nil pass0 ha hst hpl ht
theorem pe_mt0 {X : Cx} {C : Addr} {m : Str} {k : Nat} {ps : List Str} {sp : Sp} {apos pos : Pos} {o : Expr} {ta : TE} {pl : Sem Bool} (Z : Dm X.prog X.w X.K X.mg X.base C m k ps sp) (hr : Room k X.A) (he : PE X o ta)
    (ht : eval (.Call (.Attribute o m apos) [] [] pos) X.env = (do
      let ov ← eval o X.env
      standAt apos.atName
      let (f, first) ← holding [ov] (getMethod ov m pl)
      callWith pos f first (backTo pos (starEach [] X.env)) (backToKw pos (keywordEach [] X.env))) := by rfl) :
    PE X (.Call (.Attribute o m apos) [] [] pos) (tMeth C m sp [] E0 ta tNil) := by
  obtain ⟨f, fd, F, c, m, b⟩ := Z.ex
  exact pe_meth0 he c m F hr b .nil pass0 ht
/-- the same by keywords alone, all that lacks given -/
structure DmK (P : Program) (w : World) (K : PySem.W.Frag) (mg : Str → Option Value) (base : Heap) (C : Addr) (m : Str) (k : Nat) (ps ks : List Str) (sp : Sp) : Prop where
  ex : ∃ (f : Addr) (fd : FuncData), FnOk P w K mg base CX0 k f fd ps sp ∧ Cls K C ∧ Meth K C m f ∧ KBn K fd ps 1 ks (fun us ws => us ++ ws) (fun vs zs => vs ++ zs)
theorem pe_mtK {X : Cx} {C : Addr} {m : Str} {k : Nat} {ps ks : List Str} {sp : Sp} {apos pos : Pos} {o : Expr} {kws : List Keyword} {ta : TE} {tk : TA} {pl : Sem Bool} (Z : DmK X.prog X.w X.K X.mg X.base C m k ps ks sp) (hr : Room k X.A) (he : PE X o ta) (hkw : PK X kws tk)
    (hall : (backToKw pos (keywordEach kws X.env)).all (·.1.isSome) = true := by rfl) (hks : (backToKw pos (keywordEach kws X.env)).filterMap (·.1) = ks := by rfl)
    (hpl : ((backTo pos (starEach [] X.env)).any (·.1) || (backToKw pos (keywordEach kws X.env)).any (·.1.isNone)) = false := by rfl)
    (ht : eval (.Call (.Attribute o m apos) [] kws pos) X.env = (do
      let ov ← eval o X.env
      standAt apos.atName
      let (f, first) ← holding [ov] (getMethod ov m pl)
      callWith pos f first (backTo pos (starEach [] X.env)) (backToKw pos (keywordEach kws X.env))) := by rfl) :
    PE X (.Call (.Attribute o m apos) [] kws pos) (tMethK C m ks.length sp (fun vs zs => vs ++ zs) E0 ta tk) := by
  obtain ⟨f, fd, F, c, m, b⟩ := Z.ex
  exact pe_methK0 he c m F hr b pass0 hkw hall hks hpl ht
/-- keywords of a def without defaults -/
theorem fun_kbn {x qual : Str} {st : Stmt} {f : Addr} {fd : FuncData} {ps ks : List Str} {n : Nat} (F : Fun K x qual st f fd)
    (h : ∀ (kV doc pm : Value) (an : Option Addr) (cdv ct : Value) (us ws : List Value), us.length = n → ws.length = ks.length → bindArgs (PySem.W.fnOf x qual (defArgs st) (defBody st) (defScope st) .none kV doc pm an cdv ct) ⟨us, ks.zip ws⟩ = pure (ps.zip (us ++ ws))) :
    KBn K fd ps n ks (fun us ws => us ++ ws) (fun vs zs => vs ++ zs) := by
  obtain ⟨oc, od, kV, doc, pm, an, cdv, ct, osl, rfl, lk, hcd⟩ := F.ex
  exact ⟨fun s us ws _ l1 l2 => .of_eq (h kV doc pm an cdv ct us ws l1 l2), fun r1 r2 => r1.append r2⟩
end
end HP
namespace HP
open PySem L2
section
variable {P : Program} {w : World} {K : PySem.W.Frag} {mg : Str → Option Value} {base : Heap} {tM tL : Tok}
theorem lc_zipT {a b : Addr} {xs ys : List V} {g : TG} {tt : TT} {te : TE} {vs : List Nat} {σ : L2.St} {H1 : Hp} {D : Addr} {Qd : Hp → Prop} (hl : xs.length = ys.length) (Pv : Nat → Hp → Prop) (h0 : Pv 0 (upd H1 D (.lst []))) (hq : ∀ i H, Pv i H → SqT K H a xs ∧ SqT K H b ys)
    (hs : ∀ (i : Nat) (x y : V) (T : Addr) (H : Hp), xs[i]? = some x → ys[i]? = some y → Pv i H → H T = none → g (.ref T) (wipe σ vs) (upd H T (.tup [x, y])) fun σ2 H2 => wipe σ2 vs = wipe σ vs ∧ tt σ2 H2 fun b H3 =>
      if b = true then te σ2 H3 fun y H4 => ∃ acc, H4 D = some (.lst acc) ∧ acc.length < sizeLine ∧ Pv (i + 1) (upd H4 D (.lst (acc ++ [y]))) else Pv (i + 1) H3) (hd : ∀ H, Pv xs.length H → Qd H) :
    ∃ W : Nat → Nat → Hp → Prop, (∃ m, W 0 m (upd H1 D (.lst []))) ∧ ∀ i m H, W i m H →
      ((RZ.ItzT K a b).stop i H ∧ Qd H) ∨ ((RZ.ItzT K a b).go i H ∧ ∃ Nx : Hp → Prop, (∀ H', Nx H' → ∃ m', m' < m ∧ W (i + 1) m' H') ∧ ∀ v H', (RZ.ItzT K a b).yld i H v H' → g v (wipe σ vs) H' fun σ2 H2 => wipe σ2 vs = wipe σ vs ∧ tt σ2 H2 fun b H3 =>
        if b = true then te σ2 H3 fun y H4 => ∃ acc, H4 D = some (.lst acc) ∧ acc.length < sizeLine ∧ Nx (upd H4 D (.lst (acc ++ [y]))) else Nx H3) := by
  refine ⟨fun i m H => m = xs.length - i ∧ i ≤ xs.length ∧ Pv i H, ⟨xs.length, rfl, Nat.zero_le _, h0⟩, ?_⟩
  rintro i m H ⟨rfl, hi, p⟩
  obtain ⟨qx, qy⟩ := hq i H p
  by_cases hlt : i < xs.length
  · refine .inr ⟨⟨xs, ys, xs[i], ys[i]'(by omega), qx, qy, by simp [hlt], by simp [show i < ys.length by omega]⟩, Pv (i + 1), fun H' p' => ⟨xs.length - (i + 1), by omega, rfl, hlt, p'⟩, fun v H' y => ?_⟩
    obtain ⟨T, x, y, rfl, hT, rfl, hx, hy⟩ := y
    exact hs i x y T H (hx xs qx) (hy ys qy) p hT
  · have e : i = xs.length := by omega
    subst e
    exact .inl ⟨⟨xs, ys, qx, qy, .inl (Nat.le_refl _)⟩, hd H p⟩
theorem lc_zipL {a b : Addr} {xs ys : List V} {g : TG} {tt : TT} {te : TE} {vs : List Nat} {σ : L2.St} {H1 : Hp} {D : Addr} {Qd : Hp → Prop} (hl : xs.length = ys.length) (Pv : Nat → Hp → Prop) (h0 : Pv 0 (upd H1 D (.lst []))) (hq : ∀ i H, Pv i H → SqL K H a xs ∧ SqL K H b ys)
    (hs : ∀ (i : Nat) (x y : V) (T : Addr) (H : Hp), xs[i]? = some x → ys[i]? = some y → Pv i H → H T = none → g (.ref T) (wipe σ vs) (upd H T (.tup [x, y])) fun σ2 H2 => wipe σ2 vs = wipe σ vs ∧ tt σ2 H2 fun b H3 =>
      if b = true then te σ2 H3 fun y H4 => ∃ acc, H4 D = some (.lst acc) ∧ acc.length < sizeLine ∧ Pv (i + 1) (upd H4 D (.lst (acc ++ [y]))) else Pv (i + 1) H3) (hd : ∀ H, Pv xs.length H → Qd H) :
    ∃ W : Nat → Nat → Hp → Prop, (∃ m, W 0 m (upd H1 D (.lst []))) ∧ ∀ i m H, W i m H →
      ((Itz K a b).stop i H ∧ Qd H) ∨ ((Itz K a b).go i H ∧ ∃ Nx : Hp → Prop, (∀ H', Nx H' → ∃ m', m' < m ∧ W (i + 1) m' H') ∧ ∀ v H', (Itz K a b).yld i H v H' → g v (wipe σ vs) H' fun σ2 H2 => wipe σ2 vs = wipe σ vs ∧ tt σ2 H2 fun b H3 =>
        if b = true then te σ2 H3 fun y H4 => ∃ acc, H4 D = some (.lst acc) ∧ acc.length < sizeLine ∧ Nx (upd H4 D (.lst (acc ++ [y]))) else Nx H3) := by
  refine ⟨fun i m H => m = xs.length - i ∧ i ≤ xs.length ∧ Pv i H, ⟨xs.length, rfl, Nat.zero_le _, h0⟩, ?_⟩
  rintro i m H ⟨rfl, hi, p⟩
  obtain ⟨qx, qy⟩ := hq i H p
  by_cases hlt : i < xs.length
  · refine .inr ⟨⟨xs, ys, xs[i], ys[i]'(by omega), qx, qy, by simp [hlt], by simp [show i < ys.length by omega]⟩, Pv (i + 1), fun H' p' => ⟨xs.length - (i + 1), by omega, rfl, hlt, p'⟩, fun v H' y => ?_⟩
    obtain ⟨T, x, y, rfl, hT, rfl, hx, hy⟩ := y
    exact hs i x y T H (hx xs qx) (hy ys qy) p hT
  · have e : i = xs.length := by omega
    subst e
    exact .inl ⟨⟨xs, ys, qx, qy, .inl (Nat.le_refl _)⟩, hd H p⟩
end
end HP
namespace HP
open PySem L2
section
variable {P : Program} {w : World} {K : PySem.W.Frag} {mg : Str → Option Value} {base : Heap} {tM tL : Tok}
/-! ### _law_same, of two numbers or of two truths -/
theorem kt1 : kitB "int" "list" = some false := by decide +kernel
theorem kt2 : kitB "int" "tuple" = some false := by decide +kernel
theorem kt3 : kitB "int" "str" = some false := by decide +kernel
theorem kt4 : kitB "bool" "list" = some false := by decide +kernel
theorem kt5 : kitB "bool" "tuple" = some false := by decide +kernel
theorem kt6 : kitB "bool" "str" = some false := by decide +kernel
theorem kt7 : kitB "bool" "bool" = some true := by decide +kernel
theorem kt8 : kitB "list" "list" = some true := by decide +kernel
theorem kt9 : kitB "list" "tuple" = some false := by decide +kernel
theorem kitNo {K : PySem.W.Frag} {t : Value} {a b : Value} (h1 : PySem.W.kitOne K t a = some false) (h2 : PySem.W.kitOne K t b = some false) : PySem.W.kitAny K t [a, b] = some false :=
  kitAny_cons (b := false) h1 (fun _ => kitAny_cons (b := false) h2 (fun _ => rfl) (fun z => by cases z)) (fun z => by cases z)
theorem kitSnd {K : PySem.W.Frag} {t : Value} {a b : Value} (h1 : PySem.W.kitOne K t a = some false) (h2 : PySem.W.kitOne K t b = some true) : PySem.W.kitAny K t [a, b] = some true :=
  kitAny_cons (b := false) h1 (fun _ => kitAny_cons (b := true) h2 (fun z => by cases z) (fun _ => rfl)) (fun z => by cases z)
theorem kitFst {K : PySem.W.Frag} {t : Value} {a b : Value} (h1 : PySem.W.kitOne K t a = some true) : PySem.W.kitAny K t [a, b] = some true :=
  kitAny_cons (b := true) h1 (fun z => by cases z) (fun _ => rfl)
def spSame1 : Sp := fun vs H Q _ => ((∃ i : Int, vs = [.int i, .int i]) ∨ (∃ b : Bool, vs = [.bl b, .bl b])) ∧ ∀ H', Same H H' → Q (.bl true) H'
abbrev sLsame : Stmt := top 24
theorem scLsame : FnScope ["_law_found", "_law_due", "_law_one", "_law_other"] ["_law_found", "_law_due"] (defScope sLsame) := ⟨rfl, rfl, rfl, by decide +kernel, rfl, by decide +kernel, by decide +kernel⟩
theorem ok_same1 {f : Addr} {fd : FuncData} (F : Fun K "_law_same" "_law_same" sLsame f fd) (T : Txt mg tM tL) : FnOk P w K mg base CX0 1 f fd ["_law_found", "_law_due"] spSame1 := by
  refine F.ok scLsame (fun vs H Q E h => ?_) (fun cdv A outer s H vs Q E hr h => ?_)
  · obtain ⟨⟨i, rfl⟩ | ⟨b, rfl⟩, _⟩ := h <;> rfl
  · refine ⟨_, (pss_cons (ps_if (pt_val (pe_callB call_isiT (by rfl) T.zisinstance (by decide +kernel) (pa_cons (pv 1) (pa_cons (pe_tup (pa_cons (pe_bltn (v := .ty "list") (u := .type "list") (by rfl) T.zlist (by decide +kernel) rfl) (pa_cons (pe_bltn (v := .ty "tuple") (u := .type "tuple") (by rfl) T.ztuple (by decide +kernel) rfl) pa_nil))) pa_nil)))) pss_never pss_nil)
    (pss_cons (ps_if (PW.pt (pw_or (pt_cmp (pc_isN (pv 1))) (pw_or1 (pt_val (pe_callB call_isiT (by rfl) T.zisinstance (by decide +kernel) (pa_cons (pv 1) (pa_cons (pe_tup (pa_cons (pe_bltn (v := .ty "str") (u := .type "str") (by rfl) T.zstr (by decide +kernel) rfl) (pa_cons (pe_bltn (v := .ty "bool") (u := .type "bool") (by rfl) T.zbool (by decide +kernel) rfl) pa_nil))) pa_nil))))))) (pss_one (ps_ret (pe_and (pe_cmpR op_eq (pe_callB call_isi (by rfl) T.zisinstance (by decide +kernel) (pa_cons (pv 0) (pa_cons (pe_bltn (v := .ty "bool") (u := .type "bool") (by rfl) T.zbool (by decide +kernel) rfl) pa_nil))) (pe_callB call_isi (by rfl) T.zisinstance (by decide +kernel) (pa_cons (pv 1) (pa_cons (pe_bltn (v := .ty "bool") (u := .type "bool") (by rfl) T.zbool (by decide +kernel) rfl) pa_nil))) (nomark _)) (pe_one (pe_cmpR op_eq (pv 0) (pv 1) (nomark _)))))) pss_nil)
    (pss_one (ps_ret (pe_and (pe_callB call_isi (by rfl) T.zisinstance (by decide +kernel) (pa_cons (pv 0) (pa_cons (pe_bltn (v := .ty "int") (u := .type "int") (by rfl) T.zint (by decide +kernel) rfl) pa_nil))) (pe_and (pe_not (pe_callB call_isi (by rfl) T.zisinstance (by decide +kernel) (pa_cons (pv 0) (pa_cons (pe_bltn (v := .ty "bool") (u := .type "bool") (by rfl) T.zbool (by decide +kernel) rfl) pa_nil)))) (pe_one (pe_cmpR op_eq (pv 0) (pv 1) (nomark _))))))))), ?_⟩
    obtain ⟨⟨i, rfl⟩ | ⟨b, rfl⟩, q⟩ := h
    · refine ⟨_, rfl, (by show 2 ≤ sizeLine; decide), fun d hd => ?_⟩
      refine ⟨_, d, _, _, _, false, rfl, upd_same, .cons (.ty "list") (.cons (.ty "tuple") .nil), .base (.int i), kitNo (kit_ty kt1) (kit_ty kt2), false, rfl, iteF ?_⟩
      refine ⟨_, rfl, false, rfl, iteF ?_⟩
      refine ⟨_, rfl, (by show 2 ≤ sizeLine; decide), fun d2 hd2 => ?_⟩
      refine ⟨_, d2, _, _, _, false, rfl, upd_same, .cons (.ty "str") (.cons (.ty "bool") .nil), .base (.int i), kitNo (kit_ty kt3) (kit_ty kit2), false, rfl, iteF ?_⟩
      refine ⟨_, rfl, _, _, _, _, true, rfl, .ty "int", .base (.int i), kit_ty kit1, true, rfl, iteT ?_⟩
      refine ⟨_, rfl, _, _, _, _, false, rfl, .ty "bool", .base (.int i), kit_ty kit2, false, rfl, true, rfl, iteT ?_⟩
      refine ⟨_, rfl, _, rfl, rfl, ?_⟩
      rw [decide_eq_true (rfl : V.int i = V.int i)]
      exact q _ ((same_new hd).trans (same_new hd2))
    · refine ⟨_, rfl, (by show 2 ≤ sizeLine; decide), fun d hd => ?_⟩
      refine ⟨_, d, _, _, _, false, rfl, upd_same, .cons (.ty "list") (.cons (.ty "tuple") .nil), .base (.bl b), kitNo (kit_ty kt4) (kit_ty kt5), false, rfl, iteF ?_⟩
      refine ⟨_, rfl, false, rfl, iteF ?_⟩
      refine ⟨_, rfl, (by show 2 ≤ sizeLine; decide), fun d2 hd2 => ?_⟩
      refine ⟨_, d2, _, _, _, true, rfl, upd_same, .cons (.ty "str") (.cons (.ty "bool") .nil), .base (.bl b), kitSnd (kit_ty kt6) (kit_ty kt7), true, rfl, iteT ?_⟩
      refine ⟨_, rfl, _, _, _, _, true, rfl, .ty "bool", .base (.bl b), kit_ty kt7, ?_⟩
      refine ⟨_, rfl, _, _, _, _, true, rfl, .ty "bool", .base (.bl b), kit_ty kt7, rfl, true, rfl, iteT ?_⟩
      refine ⟨_, rfl, _, rfl, rfl, ?_⟩
      rw [decide_eq_true (rfl : V.bl b = V.bl b)]
      exact q _ ((same_new hd).trans (same_new hd2))
/-! ### _law_same, of two lists of the same numbers -/
def spSameL : Sp := fun vs H Q _ => ∃ (a b : Addr) (ns : List Int), vs = [.ref a, .ref b] ∧ H a = some (.lst (ns.map V.int)) ∧ H b = some (.lst (ns.map V.int)) ∧ ns.length ≤ 1000 ∧ ∀ H', Same H H' → Q (.bl true) H'
theorem ok_sameL {f : Addr} {fd : FuncData} (F : Fun K "_law_same" "_law_same" sLsame f fd) (T : Txt mg tM tL) (DLsame : Df P w K mg base "_law_same" 1 ["_law_found", "_law_due"] spSame1) : FnOk P w K mg base CX0 2 f fd ["_law_found", "_law_due"] spSameL := by
  refine F.ok scLsame (fun vs H Q E h => ?_) (fun cdv A outer s H vs Q E hr h => ?_)
  · obtain ⟨a, b, ns, rfl, _⟩ := h
    rfl
  · obtain ⟨a, b, ns, rfl, ha, hb, hn, q⟩ := h
    refine ⟨_, (pss_cons (ps_if (pt_val (pe_callB call_isiT (by rfl) T.zisinstance (by decide +kernel) (pa_cons (pv 1) (pa_cons (pe_tup (pa_cons (pe_bltn (v := .ty "list") (u := .type "list") (by rfl) T.zlist (by decide +kernel) rfl) (pa_cons (pe_bltn (v := .ty "tuple") (u := .type "tuple") (by rfl) T.ztuple (by decide +kernel) rfl) pa_nil))) pa_nil)))) (pss_cons (ps_if (PW.pt (pw_or (pt_cmpR op_ne (pe_callB call_isi (by rfl) T.zisinstance (by decide +kernel) (pa_cons (pv 0) (pa_cons (pe_bltn (v := .ty "list") (u := .type "list") (by rfl) T.zlist (by decide +kernel) rfl) pa_nil))) (pe_callB call_isi (by rfl) T.zisinstance (by decide +kernel) (pa_cons (pv 1) (pa_cons (pe_bltn (v := .ty "list") (u := .type "list") (by rfl) T.zlist (by decide +kernel) rfl) pa_nil))) (nomark _)) (pw_or1 (pt_cmpR op_ne (pe_callB call_isi (by rfl) T.zisinstance (by decide +kernel) (pa_cons (pv 0) (pa_cons (pe_bltn (v := .ty "tuple") (u := .type "tuple") (by rfl) T.ztuple (by decide +kernel) rfl) pa_nil))) (pe_callB call_isi (by rfl) T.zisinstance (by decide +kernel) (pa_cons (pv 1) (pa_cons (pe_bltn (v := .ty "tuple") (u := .type "tuple") (by rfl) T.ztuple (by decide +kernel) rfl) pa_nil))) (nomark _))))) (pss_one (ps_ret pe_bl)) pss_nil)
    (pss_one (ps_ret (pe_and (pe_cmp (pc_eqI (pe_callB call_len_seq (by rfl) T.zlen (by decide +kernel) (pa_cons (pv 0) pa_nil)) (pe_callB call_len_seq (by rfl) T.zlen (by decide +kernel) (pa_cons (pv 1) pa_nil)))) (pe_one (pe_callB (cr_all rfl) (by rfl) T.zall (by decide +kernel) (pa_cons (pe_lc (own := [("_law_one", 2), ("_law_other", 3)]) (g := gTup K 2 (gCons (gName 2) (gCons (gName 3) gNil))) (tt := tYes) (by rfl) scLsame.nd (RZ.pi_zipA (by rfl) T.zzip (pa_cons (pv 0) (pa_cons (pv 1) pa_nil))) (blkOk_by (own := [("_law_one", 2), ("_law_other", 3)]) (N := ["_law_found", "_law_due", "_law_one", "_law_other"]) (sc := defScope sLsame) (by decide +kernel)) (fun _ _ _ _ _ => (pg_tup rfl (pgs_cons (pg_name (i := 2) scLsame.nd rfl (Or.inl rfl)) (pgs_cons (pg_name (i := 3) scLsame.nd rfl (Or.inl rfl)) pgs_nil)))) (fun _ _ _ _ _ => pts_nil) (fun _ _ _ _ _ => (pe_fn DLsame (hr.mono (by decide)) (pa_cons (pv 2) (pa_cons (pv 3) pa_nil))))) pa_nil))))))) pss_nil)
    pss_never), ?_⟩
    refine ⟨_, rfl, (by show 2 ≤ sizeLine; decide), fun d hd => ?_⟩
    have s0 : Same H (upd H d (.tup [.ty "list", .ty "tuple"])) := same_new hd
    have ha0 := s0 _ _ ha
    have hb0 := s0 _ _ hb
    refine ⟨_, d, _, _, _, true, rfl, upd_same, .cons (.ty "list") (.cons (.ty "tuple") .nil), .base (.lst hb0), kitFst (kit_ty kt8), true, rfl, iteT ?_⟩
    generalize upd H d (.tup [.ty "list", .ty "tuple"]) = H0 at s0 ha0 hb0
    show tSeq _ _ _ _ _
    refine ⟨_, rfl, _, _, _, _, true, rfl, .ty "list", .base (.lst ha0), kit_ty kt8, ?_⟩
    refine ⟨_, rfl, _, _, _, _, true, rfl, .ty "list", .base (.lst hb0), kit_ty kt8, rfl, false, rfl, iteF ?_⟩
    refine ⟨_, rfl, _, _, _, _, false, rfl, .ty "tuple", .base (.lst ha0), kit_ty kt9, ?_⟩
    refine ⟨_, rfl, _, _, _, _, false, rfl, .ty "tuple", .base (.lst hb0), kit_ty kt9, rfl, false, rfl, iteF ?_⟩
    refine ⟨_, rfl, a, _, rfl, .inl (SqL.of ha0), _, rfl, b, _, rfl, .inl (SqL.of hb0), _, _, rfl, rfl, _, rfl, iteD (fun _ => ?_) (fun c => absurd rfl c)⟩
    refine ⟨_, rfl, _, rfl, a, b, _, _, rfl, .inl ⟨SqL.of ha0, SqL.of hb0, fun D hD => ?_⟩⟩
    refine lc_zipL (K := K) (a := a) (b := b) (xs := ns.map V.int) (ys := ns.map V.int) rfl (fun i H' => H' D = some (.lst ((List.replicate i true).map V.bl)) ∧ Same H0 H')
      ⟨upd_same, same_new hD⟩ (fun i H' ⟨_, s⟩ => ⟨SqL.of (s _ _ ha0), SqL.of (s _ _ hb0)⟩) ?_ ?_
    · rintro i x y T' H' hx hy ⟨hd', s1⟩ hT'
      obtain ⟨n, hn1, rfl⟩ := map_int hx
      obtain rfl : V.int n = y := Option.some.inj (hx.symm.trans hy)
      have hil : i < ns.length := (List.getElem?_eq_some_iff.mp hn1).1
      have nDT : D ≠ T' := ne_of_none hd' hT'
      have s2 : Same H0 (upd H' T' (.tup [.int n, .int n])) := s1.trans (same_new hT')
      refine ⟨T', _, rfl, SqT.of upd_same, rfl, _, _, rfl, _, _, rfl, rfl, rfl, ?_⟩
      refine ⟨_, rfl, _, rfl, .inl ⟨n, rfl⟩, fun H3 s3 => ⟨_, s3 _ _ (by rw [upd_ne nDT]; exact hd'), ?_, ?_, ?_⟩⟩
      · rw [List.length_map, List.length_replicate]
        exact Nat.lt_of_lt_of_le (show i < 1000 by omega) (by decide)
      · rw [upd_same, ← rep_snoc, List.map_append]
        rfl
      · intro c o e
        rw [upd_ne (ne_of_none e hD)]
        exact s3 _ _ (s2 _ _ e)
    · rintro H' ⟨hd', s1⟩
      refine ⟨D, _, rfl, SqL.of hd', ?_⟩
      rw [all_rep]
      exact q _ (s0.trans s1)
end
end HP
namespace HP
open PySem L2
/-! ### sum(t) of a tuple of numbers -/
def rSumT (K : PySem.W.Frag) : List V → Hp → VK → Prop := fun vs H Q => ∃ (a : Addr) (ns : List Int), vs = [V.ref a] ∧ SqT K H a (ns.map V.int) ∧ Q (.int ns.sum) H
theorem cr_sumT {X : Cx} (hc : X.calm = true) : CallR X (.builtin "sum") (rSumT X.K) := fun pins s σ H vs us Q I r ⟨a, ns, ev, hs, q⟩ => by
  subst ev
  obtain ⟨its, rv, ht, _⟩ := I.tuple hs
  have hi := rv.ints
  obtain ⟨xs, hx⟩ := hi.allInts.items
  have hn : PySem.numsOf (PySem.intItems xs).toList = ns := hx ▸ hi.numsOf
  rw [PySem.nums_intItems] at hn
  rw [hx] at ht
  rw [Vals.ref1 r]
  refine PySem.W.ktm_sumG (I.ok.hd hc) ht fun h' tk t' hk => ⟨.int _, H, I.kept hk, ⟨_, rfl⟩, ?_⟩
  rw [PySem.preSum_eq, List.take_of_length_le (by simp), hn]; exact q
end HP
namespace HP
open PySem L2 PySem.Spec PyProof.Rows
/-! ### t[::-1] of a tuple -/
theorem adj_back (n : Nat) : Builtin.Slice.sliceAdjust none none (-1) (n : Int) = ((n : Int) - 1, -1) := rfl
theorem plc_back (n : Nat) : Builtin.Slice.slicePlaces ((n : Int) - 1) (-1) (-1) = n := by
  show (if (-1 : Int) > 0 then _ else (if ((n : Int) - 1) > -1 then (((n : Int) - 1) - (-1) - 1) / (-(-1)) + 1 else 0)).toNat = n
  rw [if_neg (by decide)]
  by_cases c : (n : Int) - 1 > -1
  · rw [if_pos c, show -(-1 : Int) = 1 from rfl, Int.ediv_one]; omega
  · rw [if_neg c]; omega
theorem pick_back (xs : Array Value) : ((List.range xs.size).filterMap fun (k : Nat) => xs[(((xs.size : Nat) : Int) - 1 + (k : Int) * (-1)).toNat]?) = xs.toList.reverse := by
  have e : (List.range xs.size).filterMap (fun (k : Nat) => xs[(((xs.size : Nat) : Int) - 1 + (k : Int) * (-1)).toNat]?) = ((List.range xs.size).map (fun k => xs.size - 1 - k)).filterMap (xs[·]?) := by
    rw [List.filterMap_map]
    congr 1
    funext k
    show xs[(((xs.size : Nat) : Int) - 1 + (k : Int) * (-1)).toNat]? = xs[xs.size - 1 - k]?
    rw [show (((xs.size : Nat) : Int) - 1 + (k : Int) * (-1)).toNat = xs.size - 1 - k by omega]
  rw [e, PySem.W.krv_range, List.filterMap_reverse, PySem.W.krv_all]
section
variable {prog : Program} {w : World} {A : Around} {E : Value → Shared → Prop} {s : Shared}
theorem applied_back {sl : Addr} {vl vu vs : Value} {n : Nat} {Q : Int × Int × Nat → Shared → Prop} (hs : s.heap.IsSliceOf sl vl vu vs) (pl : IsPart vl none) (pu : IsPart vu none) (ps : IsPart vs (some (-1))) (h : Q ((n : Int) - 1, -1, n) s) :
    wpAny (model prog w) A (Builtin.Slice.sliceApplied (.ref sl) (pure (n : Int))) Q E s := by
  obtain ⟨os, hos, _, hds⟩ := id hs
  unfold Builtin.Slice.sliceApplied Builtin.Slice.sliceFields
  refine wpAny_bind (wpAny_bind (wpAny_field hos hds (x := vl) rfl (wpAny_bind (wpAny_field hos hds (x := vu) rfl ?_))))
  refine wpAny_bind (wpAny_field hos hds (x := vs) rfl (wpAny_pure ?_))
  refine wpAny_bind (HT.slicePart_ ps ?_)
  show wpAny _ _ (if ((-1 : Int) == 0) = true then _ else _) _ _ s
  rw [if_neg (show ¬ (((-1 : Int) == 0) = true) by decide)]
  refine wpAny_bind (HT.slicePart_ pl (wpAny_bind (HT.slicePart_ pu (wpAny_bind (wpAny_pure ?_)))))
  show wpAny _ _ (match Builtin.Slice.sliceAdjust none none (-1) (n : Int) with | (lo, hi) => pure (lo, (-1 : Int), Builtin.Slice.slicePlaces lo hi (-1))) _ _ s
  rw [adj_back n]
  show wpAny _ _ (pure ((n : Int) - 1, (-1 : Int), Builtin.Slice.slicePlaces ((n : Int) - 1) (-1) (-1))) _ _ s
  rw [plc_back]
  exact wpAny_pure h
theorem item_back {t sl : Addr} {items : Array Value} {vl vu vs : Value} {Q : Value → Shared → Prop} (ht : IsTup s.heap t items) (hs : s.heap.IsSliceOf sl vl vu vs) (pl : IsPart vl none) (pu : IsPart vu none) (ps : IsPart vs (some (-1)))
    (h : Q (.ref s.heap.objs.size) { s with heap := s.heap.push { cls := .type "tuple", data := .seq items.toList.reverse.toArray } }) (hsz : items.size ≤ sizeLine) : wpAny (model prog w) A (getItem (.ref t) (.ref sl)) Q E s := by
  have hok : sizeOk (.seq items.toList.reverse.toArray) := by
    show items.toList.reverse.toArray.size ≤ sizeLine
    rw [List.size_toArray, List.length_reverse, Array.length_toList]; exact hsz
  obtain ⟨os, hos, hcs, _⟩ := id hs
  have hTs : s.TypeIs (.ref sl) "slice" := ⟨os, hos, hcs⟩
  unfold getItem; try with_reducible refine wpAny_holding ?_
  first | refine wpAny_bind (wpAny_pure ?_) | skip
  refine wpAny_bind (wpAny_sequenceKey ht.typeIs (by decide) (wpAny_bind ?_))
  refine wpAny_callSpecial?_slot (name := Str.ofString "__getitem__") ht.typeIs PyProof.Rows.slot_tuple_getitem (wpAny_call_entry PyProof.Rows.slot_tuple_getitem ht.typeIs entry_tuple_getitem ?_ (args_tuple_getitem _ _))
  show wpAny _ _ (Builtin.Tuple.tupleItemsOf (.ref t) >>= _) _ _ s; refine wpAny_bind (tupleItemsOf_ ht (wpAny_bind (wpAny_typeOf hTs ?_)))
  rw [if_pos (by decide)]; refine wpAny_bind (applied_back hs pl pu ps ?_)
  have hno : ¬ ((((items.size : Nat) : Int) - 1 == 0 && (-1 : Int) == 1 && items.size == items.size) = true) := by
    rw [show ((-1 : Int) == 1) = false from by decide, Bool.and_false, Bool.false_and]; exact Bool.false_ne_true
  show wpAny _ _ (if (((items.size : Nat) : Int) - 1 == 0 && (-1 : Int) == 1 && items.size == items.size) = true then _ else _) _ _ s
  rw [if_neg hno, pick_back]
  first
    | exact wpAny_bind (m := Builtin.Tuple.tupleExact _) (wpAny_newObj_type (wpAny_pure ⟨_, rfl, wpAny_pure h⟩) hok)
    | exact wpAny_bind (m := Builtin.Tuple.tupleExact _) (wpAny_newObj_type (wpAny_bind (wpAny_pure (wpAny_pure ⟨_, rfl, wpAny_pure h⟩))) hok)
end
def tRevT (K : PySem.W.Frag) (te : TE) : TE := fun σ H Q => te σ H fun x H1 => ∃ a xs, x = .ref a ∧ SqT K H1 a xs ∧ ∀ p, H1 p = none → Q (.ref p) (upd H1 p (.tup xs.reverse))
theorem pe_revT {X : Cx} {e : Expr} {te : TE} {k : Nat} {p1 p2 p3 pos : Pos} (he : PE X e te) : PE X (.Subscript e (.Slice none none (some (.UnaryOp .USub (.Constant (.int 1) k p1) p2)) p3) pos) (tRevT X.K te) := by
  refine ⟨fun pins s σ H Q I h => Subscript_ (thn (he.run pins s σ H _ I h) fun v s1 ⟨x, H1, I1, r1, a, xs, ex, hx, q⟩ => ?_)⟩
  subst ex; cases r1
  have hst : PO X (some (.UnaryOp .USub (.Constant (.int 1) k p1) p2)) _ := po_some (pe_un un_neg pe_int)
  refine wpAny_Slice (thn (po_none.run pins s1 σ H1 (fun o G => o = none ∧ G = H1) I1 ⟨rfl, rfl⟩) fun vl s2 ⟨l, G2, I2, pl, el, e2⟩ => ?_)
  subst el; subst e2
  refine thn (po_none.run pins s2 σ G2 (fun o G => o = none ∧ G = G2) I2 ⟨rfl, rfl⟩) fun vu s3 ⟨u, G3, I3, pu, eu, e3⟩ => ?_
  subst eu; subst e3
  refine thn (hst.run pins s3 σ G3 (fun o G => o = some (-1) ∧ G = G3) I3 ⟨1, rfl, -1, rfl, rfl, rfl⟩) fun vs s4 ⟨o, G4, I4, ps, eo, e4⟩ => ?_
  subst eo; subst e4
  have I5 : Inv X pins σ G4 { s4 with heap := s4.heap.push { cls := .type "slice", data := .fields #[vl, vu, vs] } } := I4.kept (t' := s4.toks) fun b ob z => Heap.get?_push_of_some _ z
  obtain ⟨its, r, ht, hz⟩ := I5.tuple hx
  have hlen := r.length
  show wpAny (model X.prog X.w) X.A (subscriptTail e (.Slice none none (some (.UnaryOp .USub (.Constant (.int 1) k p1) p2)) p3) (.ref a) (.ref s4.heap.objs.size)) (EP X pins σ Q) X.xe _
  refine tail_any (ops := [.ref a, .ref s4.heap.objs.size]) ht.typeIs (PyProof.Rows.slot_tuple_getitem.lookup) ?_ (by with_unfolding_all rfl)
  refine item_back ht (Heap.IsSliceOf.new _ vl vu vs) pl pu ps ?_ (by rw [List.size_toArray]; omega)
  refine ⟨.ref _, _, I5.laid (t' := s4.toks) (o := .tup xs.reverse) (fun b ob z => Heap.get?_push_of_some _ z) (Nat.le_refl _) ?_, rfl, q _ (I5.hok.fresh (Nat.le_refl _))⟩
  exact ⟨by rw [List.length_reverse]; exact hz, _, r.reverse, IsTup.new _ _⟩
end HP
namespace HP
open PySem L2
section
variable {P : Program} {w : World} {K : PySem.W.Frag} {mg : Str → Option Value} {base : Heap} {tM tL : Tok}
/-! ### is_row, of a list -/
def spIsRowL : Sp := fun vs H Q _ => ∃ (p : Addr) (xs : List V) (lo hi : Int), vs = [.ref p, .int lo, .int hi] ∧ H p = some (.lst xs) ∧ lo ≤ (xs.length : Int) ∧ (xs.length : Int) ≤ hi ∧ ∀ H', Same H H' → Q (.bl true) H'
theorem ok_is_rowL {f : Addr} {fd : FuncData} (F : Fun K "is_row" "is_row" sis_row f fd) (T : Txt mg tM tL) : FnOk P w K mg base CX0 1 f fd ["thing", "least", "most"] spIsRowL := by
  refine F.ok scis_row (fun vs H Q E h => ?_) (fun cdv A outer s H vs Q E hr h => ?_)
  · obtain ⟨p, xs, lo, hi, rfl, _⟩ := h
    rfl
  · obtain ⟨p, xs, lo, hi, rfl, hp, h1, h2, q⟩ := h
    refine ⟨_, (pss_one (ps_ret (pe_and (pe_callB call_isiT (by rfl) T.zisinstance (by decide +kernel) (pa_cons (pv 0) (pa_cons (pe_tup (pa_cons (pe_bltn (v := .ty "list") (u := .type "list") (by rfl) T.zlist (by decide +kernel) rfl) (pa_cons (pe_bltn (v := .ty "tuple") (u := .type "tuple") (by rfl) T.ztuple (by decide +kernel) rfl) pa_nil))) pa_nil))) (pe_one (pe_chain op_le op_le (pv 1) (pe_callB call_len_seq (by rfl) T.zlen (by decide +kernel) (pa_cons (pv 0) pa_nil)) (pv 2)))))), ?_⟩
    refine ⟨_, rfl, (by show 2 ≤ sizeLine; decide), fun d hd => ?_⟩
    have hp1 : (upd H d (.tup [.ty "list", .ty "tuple"])) p = some (.lst xs) := by rw [upd_ne (ne_of_none hp hd)]; exact hp
    refine ⟨_, d, _, _, _, true, rfl, upd_same, .cons (.ty "list") (.cons (.ty "tuple") .nil), .base (.lst hp1), kitFst (kit_ty kt8), true, rfl, iteT ?_⟩
    refine ⟨_, rfl, _, rfl, p, _, rfl, .inl (SqL.of hp1), lo, _, rfl, rfl, _, rfl, iteD (fun _ => ?_) (fun c => absurd h1 c)⟩
    refine ⟨_, rfl, _, hi, rfl, rfl, ?_⟩
    show Q (.bl (decide ((xs.length : Int) ≤ hi))) _
    rw [decide_eq_true h2]
    exact q _ (same_new hd)
/-! ### are_for_kinds, of a list of four numbers -/
def spKindsL : Sp := fun vs H Q _ => ∃ (p : Addr) (ns : List Int) (most : Int), vs = [.ref p, .int most] ∧ H p = some (.lst (ns.map V.int)) ∧ Four ns most ∧ ∀ H', Same H H' → Q (.bl true) H'
theorem ok_kindsL {f : Addr} {fd : FuncData} (F : Fun K "are_for_kinds" "are_for_kinds" sare_for_kinds f fd) (T : Txt mg tM tL) (Dis_row : Df P w K mg base "is_row" 1 ["thing", "least", "most"] spIsRowL) (Dis_number : DIsNumber P w K mg base) : FnOk P w K mg base CX0 2 f fd ["thing", "most"] spKindsL := by
  refine F.ok scare_for_kinds (fun vs H Q E h => ?_) (fun cdv A outer s H vs Q E hr h => ?_)
  · obtain ⟨p, ns, most, rfl, _⟩ := h
    rfl
  · obtain ⟨p, ns, most, rfl, hp, ⟨h4, hB⟩, q⟩ := h
    refine ⟨_, (pss_one (ps_ret (pe_and (pe_fn Dis_row (hr.mono (by decide)) (pa_cons (pv 0) (pa_cons (pe_gi T.gKINDS) (pa_cons (pe_gi T.gKINDS) pa_nil)))) (pe_one (pe_callB (cr_all rfl) (by rfl) T.zall (by decide +kernel) (pa_cons (pe_lc (own := [("item", 2)]) (g := gName 2) (tt := tYes) (by rfl) scare_for_kinds.nd (pi_list (pv 0)) (blkOk_by (own := [("item", 2)]) (N := ["thing", "most", "item"]) (sc := defScope sare_for_kinds) (by decide +kernel)) (fun _ _ _ _ _ => (pg_name (i := 2) scare_for_kinds.nd rfl (Or.inl rfl))) (fun _ _ _ _ _ => pts_nil) (fun _ _ _ _ _ => (pe_fn Dis_number (hr.mono (by decide)) (pa_cons (pv 2) (pa_cons pe_int (pa_cons (pv 1) pa_nil)))))) pa_nil)))))), ?_⟩
    refine ⟨_, rfl, p, _, 4, 4, rfl, hp, by rw [List.length_map, h4]; decide, by rw [List.length_map, h4]; decide, fun H1 s1 => ⟨true, rfl, iteT ?_⟩⟩
    refine ⟨_, rfl, p, rfl, ⟨_, SqL.of (s1 _ _ hp)⟩, fun D hD => ?_⟩
    refine lc_list (K := K) (a := p) (xs := ns.map V.int) (fun i H' => H' D = some (.lst ((List.replicate i true).map V.bl)) ∧ Same H H')
      ⟨upd_same, s1.trans (same_new hD)⟩ (fun i H' _ ⟨_, h⟩ => SqL.of (h _ _ hp)) ?_ ?_
    · rintro i x H' hi ⟨hd, s2⟩
      obtain ⟨n, hn, rfl⟩ := map_int hi
      have hil : i < ns.length := (List.getElem?_eq_some_iff.mp hn).1
      obtain ⟨b1, b2⟩ := hB n (List.mem_of_getElem? hn)
      refine ⟨rfl, ?_⟩
      refine ⟨_, rfl, _, rfl, n, 1, most, rfl, b1, b2, _, hd, ?_, ?_, ?_⟩
      · rw [List.length_map, List.length_replicate]
        exact Nat.lt_of_lt_of_le (show i < 4 by omega) (by decide)
      · rw [upd_same, ← rep_snoc, List.map_append]
        rfl
      · intro b o e
        rw [upd_ne (ne_of_none e (s1.free hD))]
        exact s2 _ _ e
    · rintro H' ⟨hd, s2⟩
      refine ⟨D, _, rfl, SqL.of hd, ?_⟩
      rw [all_rep]
      exact q _ s2
def spGInitL (C : Addr) : Sp := fun vs H Q _ => ∃ (x dx tk hd : Addr) (z : Str) (ts hs : List Int), vs = [.ref x, .str z, .ref tk, .ref hd] ∧ H x = some (.ins C dx []) ∧ GoodName z ∧ H tk = some (.lst (ts.map V.int)) ∧ H hd = some (.lst (hs.map V.int)) ∧ Four ts 1000000 ∧ Four hs 4 ∧
  ∀ H', GangAt C H' x ts hs → (∀ b o, H b = some o → b ≠ x → H' b = some o) → Q .non H'
theorem ok_ginitL {f C : Addr} {fd : FuncData} {dvs : List V} (F : FunD K "__init__" "Gang.__init__" (defArgs sGang_init) (defBody sGang_init) (defScope sGang_init) dvs [] f fd) (T : Txt mg tM tL) (GT : GangTxt K C) (Dis_name : Df P w K mg base "is_name" 1 ["thing"] spIsName)
    (Dare_for_kinds : Df P w K mg base "are_for_kinds" 2 ["thing", "most"] spKindsL) : FnOk P w K mg base CX0 3 f fd ["self", "name", "takes", "hands"] (spGInitL C) := by
  refine FunD_ok0 F scGang_init (fun vs H Q E h => ?_) (fun cdv A outer s H vs Q E hr h => ?_)
  · obtain ⟨x, dx, tk, hd, z, ts, hs, rfl, _⟩ := h
    rfl
  · obtain ⟨x, dx, tk, hd, z, ts, hs, rfl, hx, hz, htk, hhd, ft, fh, q⟩ := h
    refine ⟨_, (pss_cons (ps_if (pt_not (pt_val (pe_fn Dis_name (hr.mono (by decide)) (pa_cons (pv 1) pa_nil)))) (pss_one ps_never) pss_nil)
    (pss_cons (ps_if (pt_not (pt_val (pe_fn Dare_for_kinds (hr.mono (by decide)) (pa_cons (pv 2) (pa_cons (pe_gi T.gMOST_TAKE) pa_nil))))) (pss_one ps_never) pss_nil)
    (pss_cons (ps_if (PW.pt (pw_and (pt_cmp (pc_notN (pv 3))) (pw_and1 (pt_not (pt_val (pe_fn Dare_for_kinds (hr.mono (by decide)) (pa_cons (pv 3) (pa_cons (pe_gi T.gMOST_HANDS) pa_nil)))))))) (pss_one ps_never) pss_nil)
    (pss_cons (ps_fld (pv 0) (pv 1) rfl)
    (pss_cons (ps_fld (pv 0) (pe_callTy call_tuple_of (by rfl) T.ztuple (by decide +kernel) (pa_cons (pv 2) pa_nil)) rfl)
    (pss_one (ps_fld (pv 0) (pe_ifExp (pt_cmp (pc_isN (pv 3))) (pe_tup (pa_cons pe_int (pa_cons pe_int (pa_cons pe_int (pa_cons pe_int pa_nil))))) (pe_callTy call_tuple_of (by rfl) T.ztuple (by decide +kernel) (pa_cons (pv 3) pa_nil))) rfl))))))), ?_⟩
    refine ⟨_, rfl, z, rfl, hz, fun H1 s1 => ⟨true, rfl, iteF ?_⟩⟩
    refine ⟨_, rfl, tk, ts, 1000000, rfl, s1 _ _ htk, ft, fun H2 s2 => ⟨true, rfl, iteF ?_⟩⟩
    refine ⟨_, rfl, true, rfl, iteT ?_⟩
    refine ⟨_, rfl, hd, hs, 4, rfl, s2 _ _ (s1 _ _ hhd), fh, fun H3 s3 => ⟨true, rfl, iteF ?_⟩⟩
    have s13 : Same H H3 := (s1.trans s2).trans s3
    have hx3 := s13 _ _ hx
    have htk3 := s13 _ _ htk
    have hhd3 := s13 _ _ hhd
    have nxt : tk ≠ x := ne_of htk3 hx3 (by intro z; cases z)
    have nxh : hd ≠ x := ne_of hhd3 hx3 (by intro z; cases z)
    refine ⟨_, rfl, _, rfl, x, C, dx, _, rfl, hx3, GT.cl, GT.n1, (by show 0 < 1000; decide), ?_⟩
    refine ⟨_, rfl, tk, _, rfl, .inl ⟨SqL.of (by rw [upd_ne nxt]; exact htk3), fun p1 hp1 => ?_⟩⟩
    have n1 : p1 ≠ x := fun e => by rw [e, upd_same] at hp1; cases hp1
    have hp1' : H3 p1 = none := by rw [upd_ne n1] at hp1; exact hp1
    have z1 : (upd (upd H3 x (.ins C dx (putF "name" (.str z) []))) p1 (.tup (ts.map V.int))) x = some (.ins C dx (putF "name" (.str z) [])) := by rw [upd_ne n1.symm]; exact upd_same
    refine ⟨_, rfl, x, C, dx, _, rfl, z1, GT.cl, GT.n2, (by show 1 < 1000; decide), ?_⟩
    refine ⟨_, rfl, false, rfl, iteF ?_⟩
    have nh1 : hd ≠ p1 := ne_of_none hhd3 hp1'
    refine ⟨_, rfl, hd, _, rfl, .inl ⟨SqL.of (by rw [upd_ne nxh, upd_ne nh1, upd_ne nxh]; exact hhd3), fun p2 hp2 => ?_⟩⟩
    have n2 : p2 ≠ x := fun e => by rw [e, upd_same] at hp2; cases hp2
    have hp2a : (upd (upd H3 x (.ins C dx (putF "name" (.str z) []))) p1 (.tup (ts.map V.int))) p2 = none := by rw [upd_ne n2] at hp2; exact hp2
    have n12 : p1 ≠ p2 := fun e => by rw [← e, upd_same] at hp2a; cases hp2a
    have hp2' : H3 p2 = none := by rw [upd_ne n12.symm, upd_ne n2] at hp2a; exact hp2a
    refine ⟨_, rfl, x, C, dx, _, rfl, (by rw [upd_ne n2.symm]; exact upd_same), GT.cl, GT.n3, (by simp only [putF, if_neg gn1]; show 2 < 1000; decide), ?_⟩
    rw [gf_eq]
    refine q _ ⟨⟨z, dx, p1, p2, upd_same, ?_, ?_⟩, ft, fh⟩ fun b o e n => ?_
    · rw [upd_ne n1, upd_ne n12, upd_ne n1, upd_same]
    · rw [upd_ne n2, upd_same]
    · have e3 := s13 _ _ e
      rw [upd_ne n, upd_ne (ne_of_none e3 hp2'), upd_ne n, upd_ne (ne_of_none e3 hp1'), upd_ne n]
      exact e3
structure DGL (P : Program) (w : World) (K : PySem.W.Frag) (mg : Str → Option Value) (base : Heap) (C : Addr) : Prop where
  ex : ∃ (f : Addr) (fd : FuncData), Mk K C f ∧ FnOk P w K mg base CX0 3 f fd ["self", "name", "takes", "hands"] (spGInitL C) ∧ mg "Gang" = some (.ref C) ∧ Binds K fd ["self", "name", "takes", "hands"] []
theorem pe_gangL {X : Cx} {C : Addr} {p pos : Pos} {e : Expr} {es : List Expr} {t : TA} (M : DGL X.prog X.w X.K X.mg X.base C) (hr : Room 4 X.A) (ha : PA X (e :: es) t) (hg : Gl X "Gang" := by rfl)
    (he : starEach (e :: es) X.env = (false, eval e X.env) :: starEach es X.env := by rfl) (hpl : (backTo pos (starEach es X.env)).any (·.1) = false := by rfl) :
    PE X (.Call (.Name "Gang" p) (e :: es) [] pos) (tMake C (spGInitL C) [] E0 t) := by
  obtain ⟨f, fd, mk, F, hm, b⟩ := M.ex
  exact pe_make mk F hr hg hm b .nil pass0 ha (by decide) he hpl
end
end HP
namespace HP
open PySem L2
/-! ### lowest terms -/
theorem redN {a b c d : Nat} (ha : 0 < a) (hb : 0 < b) (hc : 0 < c) (hd : 0 < d) (h : a * d = c * b) : a / Nat.gcd a b = c / Nat.gcd c d ∧ b / Nat.gcd a b = d / Nat.gcd c d := by
  have g1 : 0 < Nat.gcd a b := Nat.gcd_pos_of_pos_left _ ha
  have g2 : 0 < Nat.gcd c d := Nat.gcd_pos_of_pos_left _ hc
  have c1 := Nat.coprime_div_gcd_div_gcd g1
  have c2 := Nat.coprime_div_gcd_div_gcd g2
  have ea : a / Nat.gcd a b * Nat.gcd a b = a := Nat.div_mul_cancel (Nat.gcd_dvd_left ..)
  have eb : b / Nat.gcd a b * Nat.gcd a b = b := Nat.div_mul_cancel (Nat.gcd_dvd_right ..)
  have ec : c / Nat.gcd c d * Nat.gcd c d = c := Nat.div_mul_cancel (Nat.gcd_dvd_left ..)
  have ed : d / Nat.gcd c d * Nat.gcd c d = d := Nat.div_mul_cancel (Nat.gcd_dvd_right ..)
  generalize Nat.gcd a b = g at *
  generalize Nat.gcd c d = k at *
  generalize a / g = a' at *
  generalize b / g = b' at *
  generalize c / k = c' at *
  generalize d / k = d' at *
  subst ea eb ec ed
  have a0 : 0 < a' := Nat.pos_of_mul_pos_right ha
  have hh : a' * d' = c' * b' := by
    have e1 : a' * g * (d' * k) = (a' * d') * (g * k) := by rw [Nat.mul_mul_mul_comm]
    have e2 : c' * k * (b' * g) = (c' * b') * (g * k) := by rw [Nat.mul_mul_mul_comm, Nat.mul_comm k g]
    rw [e1, e2] at h
    exact Nat.eq_of_mul_eq_mul_right (Nat.mul_pos g1 g2) h
  have d1 : a' ∣ c' := c1.dvd_of_dvd_mul_right (hh ▸ Nat.dvd_mul_right a' d')
  have d2 : c' ∣ a' := c2.dvd_of_dvd_mul_right (hh ▸ Nat.dvd_mul_right c' b')
  have e : a' = c' := Nat.dvd_antisymm d1 d2
  refine ⟨e, ?_⟩
  rw [← e] at hh
  exact (Nat.eq_of_mul_eq_mul_left a0 hh).symm
theorem redI {a b c d : Int} (ha : 1 ≤ a) (hb : 1 ≤ b) (hc : 1 ≤ c) (hd : 1 ≤ d) (h : a * d = c * b) : a / (Int.gcd a b : Nat) = c / (Int.gcd c d : Nat) ∧ b / (Int.gcd a b : Nat) = d / (Int.gcd c d : Nat) := by
  obtain ⟨a, rfl⟩ := Int.eq_ofNat_of_zero_le (show 0 ≤ a by omega)
  obtain ⟨b, rfl⟩ := Int.eq_ofNat_of_zero_le (show 0 ≤ b by omega)
  obtain ⟨c, rfl⟩ := Int.eq_ofNat_of_zero_le (show 0 ≤ c by omega)
  obtain ⟨d, rfl⟩ := Int.eq_ofNat_of_zero_le (show 0 ≤ d by omega)
  have h' : a * d = c * b := by
    have : ((a * d : Nat) : Int) = ((c * b : Nat) : Int) := by rw [Int.natCast_mul, Int.natCast_mul]; exact h
    omega
  obtain ⟨e1, e2⟩ := redN (a := a) (b := b) (c := c) (d := d) (by omega) (by omega) (by omega) (by omega) h'
  show ((a : Nat) : Int) / ((Nat.gcd a b : Nat) : Int) = ((c : Nat) : Int) / ((Nat.gcd c d : Nat) : Int) ∧ ((b : Nat) : Int) / ((Nat.gcd a b : Nat) : Int) = ((d : Nat) : Int) / ((Nat.gcd c d : Nat) : Int)
  rw [← Int.natCast_ediv, ← Int.natCast_ediv, ← Int.natCast_ediv, ← Int.natCast_ediv, e1, e2]
  exact ⟨rfl, rfl⟩
/-! ### who binds -/
def gt (l : List Int) (k : Nat) : Int := l.getD k 0
theorem gt_some {l : List Int} {k : Nat} {x : Int} (h : l[k]? = some x) : gt l k = x := by
  unfold gt
  rw [List.getD_eq_getElem?_getD, h]
  rfl
theorem gt_at {l : List Int} {k : Nat} (h : k < l.length) : l[k]? = some (gt l k) := by
  rw [gt_some (List.getElem?_eq_getElem h), List.getElem?_eq_getElem h]
theorem gt_mem {l : List Int} {k : Nat} (h : k < l.length) : gt l k ∈ l := List.mem_of_getElem? (gt_at h)
def bindB (ts hs : List Int) (k : Nat) : Bool := (List.range 4).all fun j => decide (gt ts j * gt hs k ≤ gt ts k * gt hs j)
theorem bind_all {ts hs : List Int} {k : Nat} : bindB ts hs k = true ↔ ∀ j, j < 4 → gt ts j * gt hs k ≤ gt ts k * gt hs j := by
  unfold bindB
  rw [List.all_eq_true]
  exact ⟨fun h j hj => of_decide_eq_true (h j (List.mem_range.mpr hj)), fun h j hj => decide_eq_true (h j (List.mem_range.mp hj))⟩
def bindsN (ts hs : List Int) : List Nat := (List.range 4).filter (bindB ts hs)
def bindsOf (ts hs : List Int) : List Int := (bindsN ts hs).map fun (k : Nat) => (k : Int)
theorem zip_gt {ts hs : List Int} {k : Nat} (h1 : ts.length = 4) (h2 : hs.length = 4) (hk : k < 4) : (gt ts k, gt hs k) ∈ ts.zip hs :=
  List.mem_of_getElem? (zip_at (gt_at (by omega)) (gt_at (by omega)))
theorem gt_zip {ts hs : List Int} {q : Int × Int} (h1 : ts.length = 4) (h : q ∈ ts.zip hs) : ∃ k, k < 4 ∧ q = (gt ts k, gt hs k) := by
  obtain ⟨k, hk, e⟩ := List.mem_iff_getElem.mp h
  have hk4 : k < 4 := by rw [List.length_zip] at hk; omega
  have hz : (ts.zip hs)[k]? = some q := by rw [List.getElem?_eq_getElem hk, e]
  obtain ⟨z1, z2⟩ := List.getElem?_zip_eq_some.mp hz
  exact ⟨k, hk4, by rw [gt_some z1, gt_some z2]⟩
theorem best_of : ∀ l : List (Int × Int), l ≠ [] → (∀ q ∈ l, 1 ≤ q.2) → ∃ m ∈ l, ∀ q ∈ l, q.1 * m.2 ≤ m.1 * q.2
  | [], h, _ => absurd rfl h
  | [p], _, _ => ⟨p, List.mem_cons_self, fun q hq => by rw [List.mem_singleton] at hq; rw [hq]; exact Int.le_refl _⟩
  | p :: r :: l, _, hp => by
    obtain ⟨m, hm, hb⟩ := best_of (r :: l) (by simp) fun q hq => hp q (List.mem_cons_of_mem _ hq)
    have m2 := hp m (List.mem_cons_of_mem _ hm)
    have p2 := hp p List.mem_cons_self
    by_cases c : m.1 * p.2 ≤ p.1 * m.2
    · refine ⟨p, List.mem_cons_self, fun q hq => ?_⟩
      rcases List.mem_cons.mp hq with rfl | hq'
      · exact Int.le_refl _
      · have q2 := hp q hq
        exact cross (T := m.1) (B := m.2) (by omega) (by omega) (hb q hq') c (by omega) (by omega)
    · refine ⟨m, List.mem_cons_of_mem _ hm, fun q hq => ?_⟩
      rcases List.mem_cons.mp hq with rfl | hq'
      · omega
      · exact hb q hq'
theorem bind_some {ts hs : List Int} (ft : Four ts 1000000) (fh : Four hs 4) : ∃ k l, bindsN ts hs = k :: l ∧ k < 4 ∧ bindB ts hs k = true := by
  obtain ⟨m, hm, hb⟩ := best_of (ts.zip hs) (by
    intro e
    have : (ts.zip hs).length = 4 := by rw [List.length_zip, ft.1, fh.1]; rfl
    rw [e] at this
    cases this) fun q hq => (fh.2 q.2 (List.of_mem_zip hq).2).1
  obtain ⟨k, hk, rfl⟩ := gt_zip ft.1 hm
  have hB : bindB ts hs k = true := bind_all.mpr fun j hj => hb _ (zip_gt ft.1 fh.1 hj)
  have hmem : k ∈ bindsN ts hs := List.mem_filter.mpr ⟨List.mem_range.mpr hk, hB⟩
  cases e : bindsN ts hs with
  | nil => rw [e] at hmem; cases hmem
  | cons k' l =>
    have hk' : k' ∈ bindsN ts hs := by rw [e]; exact List.mem_cons_self
    obtain ⟨z1, z2⟩ := List.mem_filter.mp hk'
    exact ⟨k', l, rfl, List.mem_range.mp z1, z2⟩
/-- a kind binds just where its part is the greatest one -/
theorem bind_pace {ts hs : List Int} {tp bt : Int} {k : Nat} (ft : Four ts 1000000) (fh : Four hs 4) (h : PaceOf ts hs tp bt) (hk : k < 4) : bindB ts hs k = true ↔ gt ts k * bt = tp * gt hs k := by
  obtain ⟨hm, hle⟩ := h
  have zm := List.of_mem_zip hm
  have b1 := ft.2 tp zm.1
  have b2 := fh.2 bt zm.2
  have k2 := fh.2 _ (gt_mem (l := hs) (k := k) (by rw [fh.1]; exact hk))
  have l1 := hle _ (zip_gt ft.1 fh.1 hk)
  constructor
  · intro hb
    obtain ⟨j, hj, e⟩ := gt_zip ft.1 hm
    have e1 : tp = gt ts j := congrArg Prod.fst e
    have e2 : bt = gt hs j := congrArg Prod.snd e
    have := bind_all.mp hb j hj
    rw [← e1, ← e2] at this
    have l1' : gt ts k * bt ≤ tp * gt hs k := l1
    omega
  · intro e
    refine bind_all.mpr fun j hj => ?_
    have lj : gt ts j * bt ≤ tp * gt hs j := hle _ (zip_gt ft.1 fh.1 hj)
    have j2 := fh.2 _ (gt_mem (l := hs) (k := j) (by rw [fh.1]; exact hj))
    exact cross (T := tp) (B := bt) (by omega) (by omega) lj (by omega) (by omega) (by omega)
theorem bind_low {ts hs : List Int} {tp bt : Int} {k : Nat} (ft : Four ts 1000000) (fh : Four hs 4) (h : PaceOf ts hs tp bt) (hk : k < 4) : decide (gt ts k * (bt / (Int.gcd tp bt : Nat)) = tp / (Int.gcd tp bt : Nat) * gt hs k) = bindB ts hs k := by
  have zm := List.of_mem_zip h.1
  have b3 := ft.2 tp zm.1
  have hb := bind_pace ft fh h hk
  have gp : 0 < ((Int.gcd tp bt : Nat) : Int) := by
    have : 0 < Int.gcd tp bt := Int.gcd_pos_of_ne_zero_left _ (by omega)
    omega
  have e1 : tp / (Int.gcd tp bt : Nat) * (Int.gcd tp bt : Nat) = tp := Int.ediv_mul_cancel (Int.gcd_dvd_left ..)
  have e2 : bt / (Int.gcd tp bt : Nat) * (Int.gcd tp bt : Nat) = bt := Int.ediv_mul_cancel (Int.gcd_dvd_right ..)
  generalize ((Int.gcd tp bt : Nat) : Int) = g at gp e1 e2
  generalize tp / g = a at e1
  generalize bt / g = b at e2
  rw [Bool.eq_iff_iff, decide_eq_true_eq, hb, ← e1, ← e2]
  have f1 : gt ts k * (b * g) = gt ts k * b * g := by rw [Int.mul_assoc]
  have f2 : a * g * gt hs k = a * gt hs k * g := by rw [Int.mul_assoc, Int.mul_comm g, ← Int.mul_assoc]
  rw [f1, f2]
  exact ⟨fun z => by rw [z], fun z => Int.eq_of_mul_eq_mul_right (by omega) z⟩
theorem pace_low {ts hs : List Int} {tp bt : Int} {k : Nat} (ft : Four ts 1000000) (fh : Four hs 4) (h : PaceOf ts hs tp bt) (hk : k < 4) (hb : bindB ts hs k = true) :
    tp / (Int.gcd tp bt : Nat) = gt ts k / (Int.gcd (gt ts k) (gt hs k) : Nat) ∧ bt / (Int.gcd tp bt : Nat) = gt hs k / (Int.gcd (gt ts k) (gt hs k) : Nat) := by
  have zm := List.of_mem_zip h.1
  have b1 := ft.2 tp zm.1
  have b2 := fh.2 bt zm.2
  have k1 := ft.2 _ (gt_mem (l := ts) (k := k) (by rw [ft.1]; exact hk))
  have k2 := fh.2 _ (gt_mem (l := hs) (k := k) (by rw [fh.1]; exact hk))
  exact redI b1.1 b2.1 k1.1 k2.1 ((bind_pace ft fh h hk).mp hb).symm
end HP
namespace HP
open PySem L2
theorem dp_ints {K : PySem.W.Frag} {H : Hp} : ∀ ns : List Int, DpAll K H (ns.map V.int) (ns.map PyData.int)
  | [] => .nil
  | n :: ns => .cons (.int n) (dp_ints ns)
theorem eqv_ints (ns : List Int) : PyData.eqv (.list (ns.map PyData.int)) (.list (ns.map PyData.int)) = true := SeqAt.eqv_refl _ (SeqAt.canLay_of_shaped (PySem.W.ke_shaped_ints ns))
def spLaw (K : PySem.W.Frag) : Sp := fun vs H Q _ => ∃ (a : Addr) (ns : List Int), vs = [.ref a] ∧ SqL K H a (ns.map V.int) ∧ ns.length ≤ 63 ∧ ∀ H', Q (.bl true) H'
end HP
namespace HP
open PySem L2
section
variable {P : Program} {w : World} {K : PySem.W.Frag} {mg : Str → Option Value} {base : Heap} {tM tL : Tok}
/-! ### Gang.through -/
theorem cut3 {ts : List Int} (h : ts.length = 4) : cutV (ts.map V.int) none (some 3) = (ts.take 3).map V.int := by
  unfold cutV
  rw [List.length_map, HT.sIx_none, show HT.sIx ts.length ts.length (some 3) = min 3 ts.length from HT.sIx_nat ts.length ts.length 3, h, List.map_take]
  rfl
theorem part3 {ts : List Int} (h : ts.length = 4) : ¬ (HT.sIx (ts.map V.int).length 0 none = 0 ∧ HT.sIx (ts.map V.int).length (ts.map V.int).length (some 3) = (ts.map V.int).length) := by
  rintro ⟨_, h2⟩
  rw [List.length_map, show HT.sIx ts.length ts.length (some 3) = min 3 ts.length from HT.sIx_nat ts.length ts.length 3] at h2
  omega
def spThrough (C : Addr) : Sp := fun vs H Q _ => ∃ (p : Addr) (ts hs : List Int), vs = [.ref p] ∧ GangAt C H p ts hs ∧ ∀ H', Same H H' → Q (.int (ts.take 3).sum) H'
abbrev sGang_through : Stmt := inClass (top 16) 7
theorem scGang_through : FnScope ["self"] ["self"] (defScope sGang_through) := ⟨rfl, rfl, rfl, by decide +kernel, rfl, by decide +kernel, by decide +kernel⟩
theorem ok_through {f C : Addr} {fd : FuncData} (F : Fun K "through" "Gang.through" sGang_through f fd) (T : Txt mg tM tL) (hCL : ∃ t, mg "CLOSER" = some (.int 3 t)) (GT : GangTxt K C) : FnOk P w K mg base CX0 1 f fd ["self"] (spThrough C) := by
  refine F.ok scGang_through (fun vs H Q E h => ?_) (fun cdv A outer s H vs Q E hr h => ?_)
  · obtain ⟨p, ts, hs, rfl, _⟩ := h
    rfl
  · obtain ⟨p, ts, hs, rfl, M, q⟩ := h
    obtain ⟨⟨z, dx, tk, hd, hp, htk, hhd⟩, ⟨t4, tB⟩, ⟨h4, hB⟩⟩ := M
    refine ⟨_, (pss_one (ps_ret (pe_callB (cr_sumT rfl) (by rfl) T.zsum (by decide +kernel) (pa_cons (pe_slice sl_tup (pe_fld (pv 0) rfl) po_none (po_some (pe_gi hCL))) pa_nil)))), ?_⟩
    refine ⟨_, rfl, p, C, dx, _, _, rfl, hp, GT.cl, GT.n2, gf_takes _ _ _, 3, rfl, tk, _, rfl, SqT.of htk, part3 t4, fun a ha => ?_⟩
    rw [cut3 t4]
    exact ⟨a, _, rfl, SqT.of upd_same, q _ (same_new ha)⟩
/-! ### Gang.binds -/
def spBinds (C : Addr) : Sp := fun vs H Q _ => ∃ (p : Addr) (ts hs : List Int), vs = [.ref p] ∧ GangAt C H p ts hs ∧ ∀ (r : Addr) (H' : Hp), H r = none → H' r = some (.lst ((bindsOf ts hs).map V.int)) → Same H H' → Q (.ref r) H'
abbrev sGang_binds : Stmt := inClass (top 16) 9
theorem scGang_binds : FnScope ["self", "top", "bottom", "kind"] ["self"] (defScope sGang_binds) := ⟨rfl, rfl, rfl, by decide +kernel, rfl, by decide +kernel, by decide +kernel⟩
theorem gf_pace (z : Str) (tk hd : Addr) : (gf z tk hd).lookup ("pace" : Str) = none := gf_no _ _ _ (by decide +kernel) (by decide +kernel) (by decide +kernel)
theorem gf_binds (z : Str) (tk hd : Addr) : (gf z tk hd).lookup ("binds" : Str) = none := gf_no _ _ _ (by decide +kernel) (by decide +kernel) (by decide +kernel)
theorem gf_through (z : Str) (tk hd : Addr) : (gf z tk hd).lookup ("through" : Str) = none := gf_no _ _ _ (by decide +kernel) (by decide +kernel) (by decide +kernel)
theorem at_gt {ns : List Int} {k : Int} {i : Nat} (e : k = (i : Int)) (h1 : i < ns.length) : atI (ns.map V.int) k = some (V.int (gt ns i)) := by
  refine at_of (j := i) (by omega) ?_
  rw [List.getElem?_map, gt_at h1]
  rfl
def upTo (ts hs : List Int) (i : Nat) : List Int := ((List.range i).filter (bindB ts hs)).map fun (k : Nat) => (k : Int)
theorem up_yes {ts hs : List Int} {i : Nat} (h : bindB ts hs i = true) : upTo ts hs (i + 1) = upTo ts hs i ++ [(i : Int)] := by
  unfold upTo
  rw [List.range_succ, List.filter_append, List.map_append]
  simp [h]
theorem up_no {ts hs : List Int} {i : Nat} (h : ¬ bindB ts hs i = true) : upTo ts hs (i + 1) = upTo ts hs i := by
  unfold upTo
  rw [List.range_succ, List.filter_append, List.map_append]
  simp [h]
theorem up_len (ts hs : List Int) (i : Nat) : (upTo ts hs i).length ≤ i := by
  unfold upTo
  rw [List.length_map]
  exact Nat.le_trans (List.length_filter_le ..) (by rw [List.length_range]; exact Nat.le_refl _)
theorem ok_binds {f C : Addr} {fd : FuncData} (F : Fun K "binds" "Gang.binds" sGang_binds f fd) (T : Txt mg tM tL) (GT : GangTxt K C) (Dpace : Dm P w K mg base C "pace" 2 ["self"] (spPace C)) : FnOk P w K mg base CX0 3 f fd ["self"] (spBinds C) := by
  refine F.ok scGang_binds (fun vs H Q E h => ?_) (fun cdv A outer s H vs Q E hr h => ?_)
  · obtain ⟨p, ts, hs, rfl, _⟩ := h
    rfl
  · obtain ⟨p, ts, hs, rfl, M, q⟩ := h
    obtain ⟨⟨z, dx, tk, hd, hp, htk, hhd⟩, ft, fh⟩ := id M
    obtain ⟨t4, tB⟩ := id ft
    obtain ⟨h4, hB⟩ := id fh
    refine ⟨_, (pss_cons (ps_asg (pe_mt0 (C := C) Dpace (hr.mono (by decide)) (pv 0)) (pg_tup rfl (pgs_cons (pg_name (i := 1) scGang_binds.nd rfl (Or.inr rfl)) (pgs_cons (pg_name (i := 2) scGang_binds.nd rfl (Or.inr rfl)) pgs_nil))))
    (pss_one (ps_ret (pe_lc (own := [("kind", 3)]) (g := gName 3) (tt := L2.tB (tEqI (tOp (rI CMul fun i j => .int (i * j)) (tOp (rIxT K) (tFld K (tVar 0) "takes") (tVar 3)) (tVar 2)) (tOp (rI CMul fun i j => .int (i * j)) (tVar 1) (tOp (rIxT K) (tFld K (tVar 0) "hands") (tVar 3))))) (by rfl) scGang_binds.nd (pi_range1 (by rfl) T.zrange (pa_cons (pe_gi T.gKINDS) pa_nil)) (blkOk_by (own := [("kind", 3)]) (N := ["self", "top", "bottom", "kind"]) (sc := defScope sGang_binds) (by decide +kernel)) (fun _ _ _ _ _ => (pg_name (i := 3) scGang_binds.nd rfl (Or.inl rfl))) (fun _ _ _ _ _ => (pts_one (pt_cmp (pc_eqI (pe_op op_mul (pe_ix ix_tup (pe_fld (pv 0) rfl) (pv 3) (fun _ _ => rfl)) (pv 2)) (pe_op op_mul (pv 1) (pe_ix ix_tup (pe_fld (pv 0) rfl) (pv 3) (fun _ _ => rfl))))))) (fun _ _ _ _ _ => (pv 3)))))), ?_⟩
    refine ⟨_, rfl, p, dx, _, rfl, hp, gf_pace _ _ _, p, ts, hs, rfl, M, fun r tp bt H1 hP hr1 s1 => ?_⟩
    refine ⟨r, _, rfl, SqT.of hr1, rfl, _, _, rfl, _, _, rfl, rfl, ?_⟩
    have zm := List.of_mem_zip hP.1
    have b1 := tB tp zm.1
    have b2 := hB bt zm.2
    have bl := fun k hk => bind_low (k := k) ft fh hP hk
    have gp : 0 < ((Int.gcd tp bt : Nat) : Int) := by
      have : 0 < Int.gcd tp bt := Int.gcd_pos_of_ne_zero_left _ (by omega)
      omega
    have c1 : ∀ y : Int, CMul y (bt / (Int.gcd tp bt : Nat)) := fun y => .inr ⟨by have := Int.ediv_nonneg (a := bt) (b := ((Int.gcd tp bt : Nat) : Int)) (by omega) (by omega); omega, by have := Int.ediv_le_self (a := bt) ((Int.gcd tp bt : Nat) : Int) (by omega); omega⟩
    have c2 : ∀ y : Int, CMul (tp / (Int.gcd tp bt : Nat)) y := fun y => .inl ⟨by have := Int.ediv_nonneg (a := tp) (b := ((Int.gcd tp bt : Nat) : Int)) (by omega) (by omega); omega, by have := Int.ediv_le_self (a := tp) ((Int.gcd tp bt : Nat) : Int) (by omega); omega⟩
    generalize tp / ((Int.gcd tp bt : Nat) : Int) = a at *
    generalize bt / ((Int.gcd tp bt : Nat) : Int) = b at *
    refine ⟨4, rfl, by decide, by decide, fun D hD => ?_⟩
    refine lc_range (lo := 0) (n := (4 : Int).toNat) (fun i H' => H' D = some (.lst ((upTo ts hs i).map V.int)) ∧ Same H1 H') ⟨upd_same, same_new hD⟩ ?_ ?_
    · rintro i H' hi ⟨hd', s2⟩
      have hi4 : i < 4 := hi
      have t2 := s1.trans s2
      refine ⟨rfl, ?_⟩
      refine ⟨_, rfl, p, C, dx, _, _, rfl, t2 _ _ hp, GT.cl, GT.n2, gf_takes _ _ _, _, rfl, tk, _, _, _, rfl, rfl, SqT.of (t2 _ _ htk), at_gt (i := i) (by omega) (by omega), _, rfl, gt ts i, b, rfl, rfl, c1 _, ?_⟩
      refine ⟨_, rfl, _, rfl, p, C, dx, _, _, rfl, t2 _ _ hp, GT.cl, GT.n3, gf_hands _ _ _, _, rfl, hd, _, _, _, rfl, rfl, SqT.of (t2 _ _ hhd), at_gt (i := i) (by omega) (by omega), a, gt hs i, rfl, rfl, c2 _, _, _, rfl, rfl, _, rfl, iteD (fun c => ?_) (fun c => ?_)⟩
      · have hb : bindB ts hs i = true := by rw [← bl i hi4]; exact decide_eq_true c
        refine ⟨_, rfl, _, hd', ?_, ?_, ?_⟩
        · rw [List.length_map]
          exact Nat.lt_of_le_of_lt (Nat.le_trans (up_len ts hs i) (by omega : i ≤ 4)) (by decide)
        · rw [upd_same, up_yes hb, List.map_append, show (0 : Int) + (i : Int) = (i : Int) by omega]
          rfl
        · intro x o e
          rw [upd_ne (ne_of_none e hD)]
          exact s2 _ _ e
      · refine ⟨?_, s2⟩
        rw [up_no (by rw [← bl i hi4]; exact fun z => c (of_decide_eq_true z))]
        exact hd'
    · rintro H' ⟨hd', s2⟩
      exact q D H' (s1.free hD) hd' (s1.trans s2)
/-! ### _law_lowest -/
def spLowest : Sp := fun vs H Q _ => ∃ a b : Int, vs = [.int a, .int b] ∧ 1 ≤ a ∧ a ≤ 1000000 ∧ 1 ≤ b ∧ ∀ (r : Addr) (H' : Hp), H' r = some (.tup [.int (a / (Int.gcd a b : Nat)), .int (b / (Int.gcd a b : Nat))]) → Same H H' → Q (.ref r) H'
abbrev sLlowest : Stmt := top 25
theorem scLlowest : FnScope ["_law_top", "_law_bottom", "_law_one", "_law_other"] ["_law_top", "_law_bottom"] (defScope sLlowest) := ⟨rfl, rfl, rfl, by decide +kernel, rfl, by decide +kernel, by decide +kernel⟩
theorem ok_lowest {f : Addr} {fd : FuncData} (F : Fun K "_law_lowest" "_law_lowest" sLlowest f fd) : FnOk P w K mg base CX0 1 f fd ["_law_top", "_law_bottom"] spLowest := by
  refine F.ok scLlowest (fun vs H Q E h => ?_) (fun cdv A outer s H vs Q E hr h => ?_)
  · obtain ⟨a, b, rfl, _⟩ := h
    rfl
  · obtain ⟨a, b, rfl, ha, ha2, hb, q⟩ := h
    refine ⟨_, (pss_cons (ps_par (i := 2) (j := 3) (by rfl) scLlowest.nd rfl rfl (by decide) rfl rfl (pa_cons (pv 0) (pa_cons (pv 1) pa_nil)) (by rfl))
    (pss_cons (ps_while PassesOwn.never (pt_cmp (pc_gt (pv 3) pe_int)) (pss_one (ps_par (i := 2) (j := 3) (by rfl) scLlowest.nd rfl rfl (by decide) rfl rfl (pa_cons (pv 3) (pa_cons (pe_op op_mod (pv 2) (pv 3)) pa_nil)) (by rfl))))
    (pss_one (ps_ret (pe_tup (pa_cons (pe_op op_fdivW (pv 0) (pv 2)) (pa_cons (pe_op op_fdivW (pv 1) (pv 2)) pa_nil))))))), ?_⟩
    refine ⟨_, rfl, _, rfl, _, _, rfl, ?_⟩
    refine ⟨fun m σ H' => ∃ x y : Int, σ = [some (.int a), some (.int b), some (.int x), some (.int y)] ∧ 1 ≤ x ∧ 0 ≤ y ∧ Int.gcd x y = Int.gcd a b ∧ H' = H ∧ m = y.toNat, ⟨_, a, b, rfl, ha, by omega, rfl, rfl, rfl⟩, ?_⟩
    rintro m σ H' ⟨x, y, rfl, hx, hy, hg, rfl, rfl⟩
    refine ⟨_, rfl, y, 0, rfl, rfl, _, rfl, iteD (fun c => ?_) (fun c => ?_)⟩
    · have c' : 0 < y := c
      refine ⟨fun σ' H'' => ∃ x' y' : Int, σ' = [some (.int a), some (.int b), some (.int x'), some (.int y')] ∧ 1 ≤ x' ∧ 0 ≤ y' ∧ Int.gcd x' y' = Int.gcd a b ∧ H'' = H' ∧ y' < y, ?_, ?_⟩
      · rintro σ' H'' ⟨x', y', rfl, h1, h2, h3, rfl, h5⟩
        exact ⟨_, by omega, x', y', rfl, h1, h2, h3, rfl, rfl⟩
      · refine ⟨_, rfl, _, rfl, _, rfl, x, y, rfl, rfl, c', _, _, rfl, ?_⟩
        exact ⟨y, x % y, rfl, by omega, Int.emod_nonneg _ (by omega), (gcd_step (by omega) c').trans hg, rfl, Int.emod_lt_of_pos _ c'⟩
    · have c' : y = 0 := by have : ¬ 0 < y := c; omega
      subst c'
      have e : x = ((Int.gcd a b : Nat) : Int) := by rw [← hg, Int.gcd_zero_right x]; omega
      have hle : x ≤ a := by
        have h1 : ((Int.gcd a b : Nat) : Int) ∣ a := Int.gcd_dvd_left ..
        rw [e]
        exact Int.le_of_dvd (by omega) h1
      refine ⟨_, rfl, _, rfl, a, x, rfl, rfl, wd (by omega) (by omega), _, rfl, _, rfl, b, x, rfl, rfl, wd (by omega) (by omega), (by show 2 ≤ sizeLine; decide), fun r hr' => ?_⟩
      refine q r _ ?_ (same_new hr')
      rw [upd_same, e]
/-! ### _law_binding -/
def spBinding : Sp := fun vs H Q _ => ∃ (tk hd : Addr) (ts hs : List Int), vs = [.ref tk, .ref hd] ∧ H tk = some (.tup (ts.map V.int)) ∧ H hd = some (.tup (hs.map V.int)) ∧ Four ts 1000000 ∧ Four hs 4 ∧
  ∀ (r : Addr) (H' : Hp), H r = none → H' r = some (.lst ((bindsOf ts hs).map V.int)) → Same H H' → Q (.ref r) H'
abbrev sLbinding : Stmt := top 26
theorem scLbinding : FnScope ["_law_beats", "_law_many", "_law_found", "_law_kind", "_law_above", "_law_k"] ["_law_beats", "_law_many"] (defScope sLbinding) := ⟨rfl, rfl, rfl, by decide +kernel, rfl, by decide +kernel, by decide +kernel⟩
def above (ts hs : List Int) (k i : Nat) : List Int := ((List.range i).filter fun j => decide (gt ts k * gt hs j < gt ts j * gt hs k)).map fun (j : Nat) => (j : Int)
theorem ab_step (ts hs : List Int) (k i : Nat) : above ts hs k (i + 1) = above ts hs k i ++ (if gt ts k * gt hs i < gt ts i * gt hs k then [(i : Int)] else []) := by
  unfold above
  rw [List.range_succ, List.filter_append, List.map_append]
  by_cases c : gt ts k * gt hs i < gt ts i * gt hs k <;> simp [c]
theorem ab_len (ts hs : List Int) (k i : Nat) : (above ts hs k i).length ≤ i := by
  unfold above
  rw [List.length_map]
  exact Nat.le_trans (List.length_filter_le ..) (by rw [List.length_range]; exact Nat.le_refl _)
theorem ab_nil {ts hs : List Int} {k : Nat} : (above ts hs k 4 = []) ↔ bindB ts hs k = true := by
  unfold above
  rw [List.map_eq_nil_iff, List.filter_eq_nil_iff, bind_all]
  constructor
  · intro h j hj
    have := h j (List.mem_range.mpr hj)
    rw [decide_eq_true_eq] at this
    omega
  · intro h j hj
    have := h j (List.mem_range.mp hj)
    rw [decide_eq_true_eq]
    omega
theorem eqv_nil (ns : List Int) : PyData.eqv (.list (ns.map PyData.int)) (.list []) = decide (ns = []) := by
  cases ns with
  | nil => exact SeqAt.eqv_refl _ (SeqAt.canLay_of_shaped (PySem.W.ke_shaped_ints []))
  | cons n l => simp [PyData.eqv, PyData.eqvAll]
theorem ok_binding {f : Addr} {fd : FuncData} (F : Fun K "_law_binding" "_law_binding" sLbinding f fd) (T : Txt mg tM tL) : FnOk P w K mg base CX0 1 f fd ["_law_beats", "_law_many"] spBinding := by
  refine F.ok scLbinding (fun vs H Q E h => ?_) (fun cdv A outer s H vs Q E hr h => ?_)
  · obtain ⟨tk, hd, ts, hs, rfl, _⟩ := h
    rfl
  · obtain ⟨tk, hd, ts, hs, rfl, htk, hhd, ⟨t4, tB⟩, ⟨h4, hB⟩, q⟩ := h
    refine ⟨_, (pss_cons (ps_set (i := 2) scLbinding.nd rfl (Or.inl rfl) (pe_lst pa_nil))
    (pss_cons (ps_for PassesOwn.never rfl (pi_range1 (by rfl) T.zrange (pa_cons pe_int pa_nil)) (pg_name (i := 3) scLbinding.nd rfl (Or.inr rfl))
    (pss_cons (ps_setLc (i := 4) (own := [("_law_k", 5)]) (g := gName 5) (tt := L2.tB (tLt (tOp (rI CMul fun i j => .int (i * j)) (tOp (rIxT K) (tVar 0) (tVar 3)) (tOp (rIxT K) (tVar 1) (tVar 5))) (tOp (rI CMul fun i j => .int (i * j)) (tOp (rIxT K) (tVar 0) (tVar 5)) (tOp (rIxT K) (tVar 1) (tVar 3))))) (by rfl) scLbinding.nd rfl rfl (sw_true rfl rfl rfl (by decide +kernel)) (pi_range1 (by rfl) T.zrange (pa_cons pe_int pa_nil)) (blkOk_by (own := [("_law_k", 5)]) (N := ["_law_beats", "_law_many", "_law_found", "_law_kind", "_law_above", "_law_k"]) (sc := defScope sLbinding) (by decide +kernel)) (fun _ _ _ _ _ => (pg_name (i := 5) scLbinding.nd rfl (Or.inl rfl))) (fun _ _ _ _ _ => (pts_one (pt_cmp (pc_lt (pe_op op_mul (pe_ix ix_tup (pv 0) (pv 3) (fun _ _ => rfl)) (pe_ix ix_tup (pv 1) (pv 5) (fun _ _ => rfl))) (pe_op op_mul (pe_ix ix_tup (pv 0) (pv 5) (fun _ _ => rfl)) (pe_ix ix_tup (pv 1) (pv 3) (fun _ _ => rfl))))))) (fun _ _ _ _ _ => (pv 5)))
    (pss_one (ps_if (pt_cmpR (op_eqD hr.units) (pv 4) (pe_lst pa_nil) (nomark _)) (pss_one (ps_expr (pe_bm PySem.F.plainAttrs_list PySem.F.slot_list_append PySem.F.type_list_append mt_append (pv 2) (pa_cons (pv 3) pa_nil)))) pss_nil))))
    (pss_one (ps_ret (pv 2))))), ?_⟩
    refine ⟨(by show 0 ≤ sizeLine; decide), fun fo hfo => ?_⟩
    refine ⟨4, rfl, by decide, by decide, ?_⟩
    refine for_range (lo := 0) (n := (4 : Int).toNat) (fun i σ H' => ∃ v3 v4 v5 : Option V, σ = [some (.ref tk), some (.ref hd), some (.ref fo), v3, v4, v5] ∧ H' fo = some (.lst ((upTo ts hs i).map V.int)) ∧ Same H H')
      ⟨_, _, _, rfl, upd_same, same_new hfo⟩ ?_ ?_
    · rintro i σ H' hi ⟨v3, v4, v5, rfl, hfo', s1⟩
      have hi4 : i < 4 := hi
      have bi1 := tB _ (gt_mem (l := ts) (k := i) (by omega))
      have bi2 := hB _ (gt_mem (l := hs) (k := i) (by omega))
      refine ⟨4, rfl, by decide, by decide, fun D hD => ?_⟩
      refine lc_range (lo := 0) (n := (4 : Int).toNat) (fun j H2 => H2 D = some (.lst ((above ts hs i j).map V.int)) ∧ Same H' H2) ⟨upd_same, same_new hD⟩ ?_ ?_
      · rintro j H2 hj ⟨hd2, s2⟩
        have hj4 : j < 4 := hj
        have t2 := s1.trans s2
        have bj1 := tB _ (gt_mem (l := ts) (k := j) (by omega))
        have bj2 := hB _ (gt_mem (l := hs) (k := j) (by omega))
        refine ⟨rfl, ?_⟩
        refine ⟨_, rfl, _, rfl, tk, _, _, _, rfl, rfl, SqT.of (t2 _ _ htk), at_gt (i := i) (by omega) (by omega), _, rfl, _, rfl, hd, _, _, _, rfl, rfl, SqT.of (t2 _ _ hhd), at_gt (i := j) (by omega) (by omega), gt ts i, gt hs j, rfl, rfl, .inl ⟨by omega, by omega⟩, ?_⟩
        refine ⟨_, rfl, _, rfl, tk, _, _, _, rfl, rfl, SqT.of (t2 _ _ htk), at_gt (i := j) (by omega) (by omega), _, rfl, _, rfl, hd, _, _, _, rfl, rfl, SqT.of (t2 _ _ hhd), at_gt (i := i) (by omega) (by omega), gt ts j, gt hs i, rfl, rfl, .inl ⟨by omega, by omega⟩, _, _, rfl, rfl, _, rfl, iteD (fun c => ?_) (fun c => ?_)⟩
        · refine ⟨_, rfl, _, hd2, ?_, ?_, ?_⟩
          · rw [List.length_map]
            exact Nat.lt_of_le_of_lt (Nat.le_trans (ab_len ts hs i j) (by omega : j ≤ 4)) (by decide)
          · rw [upd_same, ab_step, if_pos c, List.map_append, show (0 : Int) + (j : Int) = (j : Int) by omega]
            rfl
          · intro x o e
            rw [upd_ne (ne_of_none e hD)]
            exact s2 _ _ e
        · refine ⟨?_, s2⟩
          rw [ab_step, if_neg c, List.append_nil]
          exact hd2
      · rintro H2 ⟨hd2, s2⟩
        have hd2' : H2 D = some (.lst ((above ts hs i 4).map V.int)) := hd2
        refine ⟨_, rfl, (by show 0 ≤ sizeLine; decide), fun d hd' => ?_⟩
        have s3 : Same H2 (upd H2 d (.lst [])) := same_new hd'
        refine ⟨_, _, .lst (SqL.of (s3 _ _ hd2')) (dp_ints _), .lst (SqL.of upd_same) .nil, PySem.W.ke_shaped_ints _, PySem.W.ke_shaped_ints [], _, rfl, ?_⟩
        rw [eqv_nil]
        have hfo3 := s3 _ _ (s2 _ _ hfo')
        have t3 := (s1.trans s2).trans s3
        refine iteD (fun c => ?_) (fun c => ?_)
        · have hb := ab_nil.mp c
          refine ⟨_, rfl, .inl ⟨rfl, _, SqL.of hfo3⟩, _, rfl, fo, _, _, rfl, rfl, hfo3, ?_, ?_⟩
          · rw [List.length_map]
            exact Nat.lt_of_le_of_lt (Nat.le_trans (up_len ts hs i) (by omega : i ≤ 4)) (by decide)
          · refine ⟨_, _, _, rfl, ?_, ?_⟩
            · rw [upd_same, up_yes hb, List.map_append, show (0 : Int) + (i : Int) = (i : Int) by omega]
              rfl
            · intro x o e
              rw [upd_ne (ne_of_none e hfo)]
              exact t3 _ _ e
        · refine ⟨_, _, _, rfl, ?_, t3⟩
          rw [up_no (fun hb => c (ab_nil.mpr hb))]
          exact hfo3
    · rintro σ H' ⟨v3, v4, v5, rfl, hfo', s1⟩
      refine ⟨_, rfl, ?_⟩
      exact q fo H' hfo hfo' s1
end
end HP
namespace HP
open PySem L2
section
variable {P : Program} {w : World} {K : PySem.W.Frag} {mg : Str → Option Value} {base : Heap} {tM tL : Tok}
/-! ### _law_same, of two lists or two tuples of the same numbers -/
def SeqB (b : Bool) (H : Hp) (p : Addr) (ns : List Int) : Prop := H p = some (if b = true then .tup (ns.map V.int) else .lst (ns.map V.int))
theorem SeqB.same {b : Bool} {H H' : Hp} {p : Addr} {ns : List Int} (h : SeqB b H p ns) (s : Same H H') : SeqB b H' p ns := s _ _ h
def spSame2 : Sp := fun vs H Q _ => ∃ (z : Bool) (a b : Addr) (ns : List Int), vs = [.ref a, .ref b] ∧ SeqB z H a ns ∧ SeqB z H b ns ∧ ns.length ≤ 1000 ∧ ∀ H', Same H H' → Q (.bl true) H'
theorem ok_same2 {f : Addr} {fd : FuncData} (F : Fun K "_law_same" "_law_same" sLsame f fd) (T : Txt mg tM tL) (DLsame : Df P w K mg base "_law_same" 1 ["_law_found", "_law_due"] spSame1) : FnOk P w K mg base CX0 2 f fd ["_law_found", "_law_due"] spSame2 := by
  refine F.ok scLsame (fun vs H Q E h => ?_) (fun cdv A outer s H vs Q E hr h => ?_)
  · obtain ⟨z, a, b, ns, rfl, _⟩ := h
    rfl
  · obtain ⟨z, a, b, ns, rfl, ha, hb, hn, q⟩ := h
    refine ⟨_, (pss_cons (ps_if (pt_val (pe_callB call_isiT (by rfl) T.zisinstance (by decide +kernel) (pa_cons (pv 1) (pa_cons (pe_tup (pa_cons (pe_bltn (v := .ty "list") (u := .type "list") (by rfl) T.zlist (by decide +kernel) rfl) (pa_cons (pe_bltn (v := .ty "tuple") (u := .type "tuple") (by rfl) T.ztuple (by decide +kernel) rfl) pa_nil))) pa_nil)))) (pss_cons (ps_if (PW.pt (pw_or (pt_cmpR op_ne (pe_callB call_isi (by rfl) T.zisinstance (by decide +kernel) (pa_cons (pv 0) (pa_cons (pe_bltn (v := .ty "list") (u := .type "list") (by rfl) T.zlist (by decide +kernel) rfl) pa_nil))) (pe_callB call_isi (by rfl) T.zisinstance (by decide +kernel) (pa_cons (pv 1) (pa_cons (pe_bltn (v := .ty "list") (u := .type "list") (by rfl) T.zlist (by decide +kernel) rfl) pa_nil))) (nomark _)) (pw_or1 (pt_cmpR op_ne (pe_callB call_isi (by rfl) T.zisinstance (by decide +kernel) (pa_cons (pv 0) (pa_cons (pe_bltn (v := .ty "tuple") (u := .type "tuple") (by rfl) T.ztuple (by decide +kernel) rfl) pa_nil))) (pe_callB call_isi (by rfl) T.zisinstance (by decide +kernel) (pa_cons (pv 1) (pa_cons (pe_bltn (v := .ty "tuple") (u := .type "tuple") (by rfl) T.ztuple (by decide +kernel) rfl) pa_nil))) (nomark _))))) (pss_one (ps_ret pe_bl)) pss_nil)
    (pss_one (ps_ret (pe_and (pe_cmp (pc_eqI (pe_callB call_len_seq (by rfl) T.zlen (by decide +kernel) (pa_cons (pv 0) pa_nil)) (pe_callB call_len_seq (by rfl) T.zlen (by decide +kernel) (pa_cons (pv 1) pa_nil)))) (pe_one (pe_callB (cr_all rfl) (by rfl) T.zall (by decide +kernel) (pa_cons (pe_lc (own := [("_law_one", 2), ("_law_other", 3)]) (g := gTup K 2 (gCons (gName 2) (gCons (gName 3) gNil))) (tt := tYes) (by rfl) scLsame.nd (RZ.pi_zipA (by rfl) T.zzip (pa_cons (pv 0) (pa_cons (pv 1) pa_nil))) (blkOk_by (own := [("_law_one", 2), ("_law_other", 3)]) (N := ["_law_found", "_law_due", "_law_one", "_law_other"]) (sc := defScope sLsame) (by decide +kernel)) (fun _ _ _ _ _ => (pg_tup rfl (pgs_cons (pg_name (i := 2) scLsame.nd rfl (Or.inl rfl)) (pgs_cons (pg_name (i := 3) scLsame.nd rfl (Or.inl rfl)) pgs_nil)))) (fun _ _ _ _ _ => pts_nil) (fun _ _ _ _ _ => (pe_fn DLsame (hr.mono (by decide)) (pa_cons (pv 2) (pa_cons (pv 3) pa_nil))))) pa_nil))))))) pss_nil)
    pss_never), ?_⟩
    refine ⟨_, rfl, (by show 2 ≤ sizeLine; decide), fun d hd => ?_⟩
    have s0 : Same H (upd H d (.tup [.ty "list", .ty "tuple"])) := same_new hd
    have ha0 := ha.same s0
    have hb0 := hb.same s0
    have hdt : (upd H d (.tup [.ty "list", .ty "tuple"])) d = some (.tup [.ty "list", .ty "tuple"]) := upd_same
    generalize upd H d (.tup [.ty "list", .ty "tuple"]) = H0 at s0 ha0 hb0 hdt
    have step : ∀ (D : Addr), H0 D = none → ∀ (i : Nat) (n : Int) (T' : Addr) (H' : Hp), i < ns.length → H' D = some (.lst ((List.replicate i true).map V.bl)) → Same H0 H' → H' T' = none → ∀ H3, Same (upd H' T' (.tup [.int n, .int n])) H3 →
        ∃ acc, H3 D = some (.lst acc) ∧ acc.length < sizeLine ∧ (upd H3 D (.lst (acc ++ [.bl true]))) D = some (.lst ((List.replicate (i + 1) true).map V.bl)) ∧ Same H0 (upd H3 D (.lst (acc ++ [.bl true]))) := by
      intro D hD i n T' H' hil hd' s1 hT' H3 s3
      have nDT : D ≠ T' := ne_of_none hd' hT'
      refine ⟨_, s3 _ _ (by rw [upd_ne nDT]; exact hd'), ?_, ?_, ?_⟩
      · rw [List.length_map, List.length_replicate]
        exact Nat.lt_of_lt_of_le (show i < 1000 by omega) (by decide)
      · rw [upd_same, ← rep_snoc, List.map_append]
        rfl
      · intro c o e
        rw [upd_ne (ne_of_none e hD)]
        exact s3 _ _ ((s1.trans (same_new hT')) _ _ e)
    cases z with
    | false =>
      have ha1 : H0 a = some (.lst (ns.map V.int)) := ha0
      have hb1 : H0 b = some (.lst (ns.map V.int)) := hb0
      refine ⟨_, d, _, _, _, true, rfl, hdt, .cons (.ty "list") (.cons (.ty "tuple") .nil), .base (.lst hb1), kitFst (kit_ty kt8), true, rfl, iteT ?_⟩
      show tSeq _ _ _ _ _
      refine ⟨_, rfl, _, _, _, _, true, rfl, .ty "list", .base (.lst ha1), kit_ty kt8, ?_⟩
      refine ⟨_, rfl, _, _, _, _, true, rfl, .ty "list", .base (.lst hb1), kit_ty kt8, rfl, false, rfl, iteF ?_⟩
      refine ⟨_, rfl, _, _, _, _, false, rfl, .ty "tuple", .base (.lst ha1), kit_ty kt9, ?_⟩
      refine ⟨_, rfl, _, _, _, _, false, rfl, .ty "tuple", .base (.lst hb1), kit_ty kt9, rfl, false, rfl, iteF ?_⟩
      refine ⟨_, rfl, a, _, rfl, .inl (SqL.of ha1), _, rfl, b, _, rfl, .inl (SqL.of hb1), _, _, rfl, rfl, _, rfl, iteD (fun _ => ?_) (fun c => absurd rfl c)⟩
      refine ⟨_, rfl, _, rfl, a, b, _, _, rfl, .inl ⟨SqL.of ha1, SqL.of hb1, fun D hD => ?_⟩⟩
      refine lc_zipL (K := K) (a := a) (b := b) (xs := ns.map V.int) (ys := ns.map V.int) rfl (fun i H' => H' D = some (.lst ((List.replicate i true).map V.bl)) ∧ Same H0 H')
        ⟨upd_same, same_new hD⟩ (fun i H' ⟨_, s⟩ => ⟨SqL.of (s _ _ ha1), SqL.of (s _ _ hb1)⟩) ?_ ?_
      · rintro i x y T' H' hx hy ⟨hd', s1⟩ hT'
        obtain ⟨n, hn1, rfl⟩ := map_int hx
        obtain rfl : V.int n = y := Option.some.inj (hx.symm.trans hy)
        refine ⟨T', _, rfl, SqT.of upd_same, rfl, _, _, rfl, _, _, rfl, rfl, rfl, ?_⟩
        exact ⟨_, rfl, _, rfl, .inl ⟨n, rfl⟩, fun H3 s3 => step D hD i n T' H' (List.getElem?_eq_some_iff.mp hn1).1 hd' s1 hT' H3 s3⟩
      · rintro H' ⟨hd', s1⟩
        refine ⟨D, _, rfl, SqL.of hd', ?_⟩
        rw [all_rep]
        exact q _ (s0.trans s1)
    | true =>
      have ha1 : H0 a = some (.tup (ns.map V.int)) := ha0
      have hb1 : H0 b = some (.tup (ns.map V.int)) := hb0
      refine ⟨_, d, _, _, _, true, rfl, hdt, .cons (.ty "list") (.cons (.ty "tuple") .nil), .base (.tup hb1), kitSnd (kit_ty kit5) (kit_ty kit3), true, rfl, iteT ?_⟩
      show tSeq _ _ _ _ _
      refine ⟨_, rfl, _, _, _, _, false, rfl, .ty "list", .base (.tup ha1), kit_ty kit5, ?_⟩
      refine ⟨_, rfl, _, _, _, _, false, rfl, .ty "list", .base (.tup hb1), kit_ty kit5, rfl, false, rfl, iteF ?_⟩
      refine ⟨_, rfl, _, _, _, _, true, rfl, .ty "tuple", .base (.tup ha1), kit_ty kit3, ?_⟩
      refine ⟨_, rfl, _, _, _, _, true, rfl, .ty "tuple", .base (.tup hb1), kit_ty kit3, rfl, false, rfl, iteF ?_⟩
      refine ⟨_, rfl, a, _, rfl, .inr (SqT.of ha1), _, rfl, b, _, rfl, .inr (SqT.of hb1), _, _, rfl, rfl, _, rfl, iteD (fun _ => ?_) (fun c => absurd rfl c)⟩
      refine ⟨_, rfl, _, rfl, a, b, _, _, rfl, .inr ⟨SqT.of ha1, SqT.of hb1, fun D hD => ?_⟩⟩
      refine lc_zipT (K := K) (a := a) (b := b) (xs := ns.map V.int) (ys := ns.map V.int) rfl (fun i H' => H' D = some (.lst ((List.replicate i true).map V.bl)) ∧ Same H0 H')
        ⟨upd_same, same_new hD⟩ (fun i H' ⟨_, s⟩ => ⟨SqT.of (s _ _ ha1), SqT.of (s _ _ hb1)⟩) ?_ ?_
      · rintro i x y T' H' hx hy ⟨hd', s1⟩ hT'
        obtain ⟨n, hn1, rfl⟩ := map_int hx
        obtain rfl : V.int n = y := Option.some.inj (hx.symm.trans hy)
        refine ⟨T', _, rfl, SqT.of upd_same, rfl, _, _, rfl, _, _, rfl, rfl, rfl, ?_⟩
        exact ⟨_, rfl, _, rfl, .inl ⟨n, rfl⟩, fun H3 s3 => step D hD i n T' H' (List.getElem?_eq_some_iff.mp hn1).1 hd' s1 hT' H3 s3⟩
      · rintro H' ⟨hd', s1⟩
        refine ⟨D, _, rfl, SqL.of hd', ?_⟩
        rw [all_rep]
        exact q _ (s0.trans s1)
/-! ### _law_same, of two lists of such -/
def spSame3 : Sp := fun vs H Q _ => ∃ (a b : Addr) (L : List (Bool × Addr × Addr × List Int)), vs = [.ref a, .ref b] ∧ H a = some (.lst (L.map fun e => V.ref e.2.1)) ∧ H b = some (.lst (L.map fun e => V.ref e.2.2.1)) ∧
  (∀ e ∈ L, SeqB e.1 H e.2.1 e.2.2.2 ∧ SeqB e.1 H e.2.2.1 e.2.2.2 ∧ e.2.2.2.length ≤ 1000) ∧ L.length ≤ 1000 ∧ ∀ H', Same H H' → Q (.bl true) H'
theorem ok_same3 {f : Addr} {fd : FuncData} (F : Fun K "_law_same" "_law_same" sLsame f fd) (T : Txt mg tM tL) (DLsame : Df P w K mg base "_law_same" 2 ["_law_found", "_law_due"] spSame2) : FnOk P w K mg base CX0 3 f fd ["_law_found", "_law_due"] spSame3 := by
  refine F.ok scLsame (fun vs H Q E h => ?_) (fun cdv A outer s H vs Q E hr h => ?_)
  · obtain ⟨a, b, L, rfl, _⟩ := h
    rfl
  · obtain ⟨a, b, L, rfl, ha, hb, hL, hn, q⟩ := h
    refine ⟨_, (pss_cons (ps_if (pt_val (pe_callB call_isiT (by rfl) T.zisinstance (by decide +kernel) (pa_cons (pv 1) (pa_cons (pe_tup (pa_cons (pe_bltn (v := .ty "list") (u := .type "list") (by rfl) T.zlist (by decide +kernel) rfl) (pa_cons (pe_bltn (v := .ty "tuple") (u := .type "tuple") (by rfl) T.ztuple (by decide +kernel) rfl) pa_nil))) pa_nil)))) (pss_cons (ps_if (PW.pt (pw_or (pt_cmpR op_ne (pe_callB call_isi (by rfl) T.zisinstance (by decide +kernel) (pa_cons (pv 0) (pa_cons (pe_bltn (v := .ty "list") (u := .type "list") (by rfl) T.zlist (by decide +kernel) rfl) pa_nil))) (pe_callB call_isi (by rfl) T.zisinstance (by decide +kernel) (pa_cons (pv 1) (pa_cons (pe_bltn (v := .ty "list") (u := .type "list") (by rfl) T.zlist (by decide +kernel) rfl) pa_nil))) (nomark _)) (pw_or1 (pt_cmpR op_ne (pe_callB call_isi (by rfl) T.zisinstance (by decide +kernel) (pa_cons (pv 0) (pa_cons (pe_bltn (v := .ty "tuple") (u := .type "tuple") (by rfl) T.ztuple (by decide +kernel) rfl) pa_nil))) (pe_callB call_isi (by rfl) T.zisinstance (by decide +kernel) (pa_cons (pv 1) (pa_cons (pe_bltn (v := .ty "tuple") (u := .type "tuple") (by rfl) T.ztuple (by decide +kernel) rfl) pa_nil))) (nomark _))))) (pss_one (ps_ret pe_bl)) pss_nil)
    (pss_one (ps_ret (pe_and (pe_cmp (pc_eqI (pe_callB call_len_seq (by rfl) T.zlen (by decide +kernel) (pa_cons (pv 0) pa_nil)) (pe_callB call_len_seq (by rfl) T.zlen (by decide +kernel) (pa_cons (pv 1) pa_nil)))) (pe_one (pe_callB (cr_all rfl) (by rfl) T.zall (by decide +kernel) (pa_cons (pe_lc (own := [("_law_one", 2), ("_law_other", 3)]) (g := gTup K 2 (gCons (gName 2) (gCons (gName 3) gNil))) (tt := tYes) (by rfl) scLsame.nd (RZ.pi_zipA (by rfl) T.zzip (pa_cons (pv 0) (pa_cons (pv 1) pa_nil))) (blkOk_by (own := [("_law_one", 2), ("_law_other", 3)]) (N := ["_law_found", "_law_due", "_law_one", "_law_other"]) (sc := defScope sLsame) (by decide +kernel)) (fun _ _ _ _ _ => (pg_tup rfl (pgs_cons (pg_name (i := 2) scLsame.nd rfl (Or.inl rfl)) (pgs_cons (pg_name (i := 3) scLsame.nd rfl (Or.inl rfl)) pgs_nil)))) (fun _ _ _ _ _ => pts_nil) (fun _ _ _ _ _ => (pe_fn DLsame (hr.mono (by decide)) (pa_cons (pv 2) (pa_cons (pv 3) pa_nil))))) pa_nil))))))) pss_nil)
    pss_never), ?_⟩
    refine ⟨_, rfl, (by show 2 ≤ sizeLine; decide), fun d hd => ?_⟩
    have s0 : Same H (upd H d (.tup [.ty "list", .ty "tuple"])) := same_new hd
    have ha1 := s0 _ _ ha
    have hb1 := s0 _ _ hb
    refine ⟨_, d, _, _, _, true, rfl, upd_same, .cons (.ty "list") (.cons (.ty "tuple") .nil), .base (.lst hb1), kitFst (kit_ty kt8), true, rfl, iteT ?_⟩
    generalize upd H d (.tup [.ty "list", .ty "tuple"]) = H0 at s0 ha1 hb1
    show tSeq _ _ _ _ _
    refine ⟨_, rfl, _, _, _, _, true, rfl, .ty "list", .base (.lst ha1), kit_ty kt8, ?_⟩
    refine ⟨_, rfl, _, _, _, _, true, rfl, .ty "list", .base (.lst hb1), kit_ty kt8, rfl, false, rfl, iteF ?_⟩
    refine ⟨_, rfl, _, _, _, _, false, rfl, .ty "tuple", .base (.lst ha1), kit_ty kt9, ?_⟩
    refine ⟨_, rfl, _, _, _, _, false, rfl, .ty "tuple", .base (.lst hb1), kit_ty kt9, rfl, false, rfl, iteF ?_⟩
    refine ⟨_, rfl, a, _, rfl, .inl (SqL.of ha1), _, rfl, b, _, rfl, .inl (SqL.of hb1), _, _, rfl, rfl, _, rfl, iteD (fun _ => ?_) (fun c => absurd (by rw [List.length_map, List.length_map]) c)⟩
    refine ⟨_, rfl, _, rfl, a, b, _, _, rfl, .inl ⟨SqL.of ha1, SqL.of hb1, fun D hD => ?_⟩⟩
    refine lc_zipL (K := K) (a := a) (b := b) (xs := L.map fun e => V.ref e.2.1) (ys := L.map fun e => V.ref e.2.2.1) (by rw [List.length_map, List.length_map]) (fun i H' => H' D = some (.lst ((List.replicate i true).map V.bl)) ∧ Same H0 H')
      ⟨upd_same, same_new hD⟩ (fun i H' ⟨_, s⟩ => ⟨SqL.of (s _ _ ha1), SqL.of (s _ _ hb1)⟩) ?_ ?_
    · rintro i x y T' H' hx hy ⟨hd', s1⟩ hT'
      rw [List.getElem?_map] at hx hy
      cases eL : L[i]? with
      | none => rw [eL] at hx; cases hx
      | some e =>
        rw [eL] at hx hy
        obtain rfl := Option.some.inj hx
        obtain rfl := Option.some.inj hy
        obtain ⟨g1, g2, g3⟩ := hL e (List.mem_of_getElem? eL)
        have hil : i < L.length := (List.getElem?_eq_some_iff.mp eL).1
        have nDT : D ≠ T' := ne_of_none hd' hT'
        have s2 : Same H0 (upd H' T' (.tup [.ref e.2.1, .ref e.2.2.1])) := s1.trans (same_new hT')
        refine ⟨T', _, rfl, SqT.of upd_same, rfl, _, _, rfl, _, _, rfl, rfl, rfl, ?_⟩
        refine ⟨_, rfl, _, rfl, e.1, e.2.1, e.2.2.1, e.2.2.2, rfl, g1.same (s0.trans s2), g2.same (s0.trans s2), g3, fun H3 s3 => ?_⟩
        refine ⟨_, s3 _ _ (by rw [upd_ne nDT]; exact hd'), ?_, ?_, ?_⟩
        · rw [List.length_map, List.length_replicate]
          exact Nat.lt_of_lt_of_le (show i < 1000 by omega) (by decide)
        · rw [upd_same, ← rep_snoc, List.map_append]
          rfl
        · intro c o e'
          rw [upd_ne (ne_of_none e' hD)]
          exact s3 _ _ (s2 _ _ e')
    · rintro H' ⟨hd', s1⟩
      refine ⟨D, _, rfl, SqL.of hd', ?_⟩
      rw [all_rep]
      exact q _ (s0.trans s1)
/-! ### _law_right -/
def spRight (C : Addr) : Sp := fun vs H Q _ => ∃ (g tk hd : Addr) (ts hs : List Int), vs = [.ref g, .ref tk, .ref hd] ∧ GangAt C H g ts hs ∧ H tk = some (.tup (ts.map V.int)) ∧ H hd = some (.tup (hs.map V.int)) ∧ ∀ H', Same H H' → Q (.bl true) H'
abbrev sLright : Stmt := top 27
theorem scLright : FnScope ["_law_gang", "_law_takes_here", "_law_hands_here", "_law_kinds", "_law_pace", "_law_turn", "_law_found"] ["_law_gang", "_law_takes_here", "_law_hands_here"] (defScope sLright) := ⟨rfl, rfl, rfl, by decide +kernel, rfl, by decide +kernel, by decide +kernel⟩
theorem ok_right {f C : Addr} {fd : FuncData} (F : Fun K "_law_right" "_law_right" sLright f fd) (T : Txt mg tM tL) (DLbinding : Df P w K mg base "_law_binding" 1 ["_law_beats", "_law_many"] spBinding) (DLlowest : Df P w K mg base "_law_lowest" 1 ["_law_top", "_law_bottom"] spLowest)
    (Dbinds : Dm P w K mg base C "binds" 3 ["self"] (spBinds C)) (Dpace : Dm P w K mg base C "pace" 2 ["self"] (spPace C)) (Dthrough : Dm P w K mg base C "through" 1 ["self"] (spThrough C))
    (DLsame1 : Df P w K mg base "_law_same" 1 ["_law_found", "_law_due"] spSame1) (DLsame3 : Df P w K mg base "_law_same" 3 ["_law_found", "_law_due"] spSame3) : FnOk P w K mg base CX0 4 f fd ["_law_gang", "_law_takes_here", "_law_hands_here"] (spRight C) := by
  refine F.ok scLright (fun vs H Q E h => ?_) (fun cdv A outer s H vs Q E hr h => ?_)
  · obtain ⟨g, tk, hd, ts, hs, rfl, _⟩ := h
    rfl
  · obtain ⟨g, tk, hd, ts, hs, rfl, M, htk, hhd, q⟩ := h
    obtain ⟨⟨z, dx, tk', hd', hg, _, _⟩, ft, fh⟩ := id M
    refine ⟨_, (pss_cons (ps_set (i := 3) scLright.nd rfl (Or.inl rfl) (pe_fn DLbinding (hr.mono (by decide)) (pa_cons (pv 1) (pa_cons (pv 2) pa_nil))))
    (pss_cons (ps_set (i := 4) scLright.nd rfl (Or.inl rfl) (pe_fn DLlowest (hr.mono (by decide)) (pa_cons (pe_ix ix_tup (pv 1) (pe_ix ix_list (pv 3) pe_int (fun _ _ => rfl)) (fun _ _ => rfl)) (pa_cons (pe_ix ix_tup (pv 2) (pe_ix ix_list (pv 3) pe_int (fun _ _ => rfl)) (fun _ _ => rfl)) pa_nil))))
    (pss_cons (ps_for PassesOwn.never rfl (pi_range1 (by rfl) T.zrange (pa_cons pe_int pa_nil)) (pg_name (i := 5) scLright.nd rfl (Or.inl rfl))
    (pss_cons (ps_set (i := 6) scLright.nd rfl (Or.inl rfl) (pe_mt0 (C := C) Dbinds (hr.mono (by decide)) (pv 0)))
    (pss_cons (ps_if (PW.pt (pw_or (pt_not (pt_val (pe_fn DLsame3 (hr.mono (by decide)) (pa_cons (pe_lst (pa_cons (pe_mt0 (C := C) Dpace (hr.mono (by decide)) (pv 0)) (pa_cons (pv 6) pa_nil))) (pa_cons (pe_lst (pa_cons (pv 4) (pa_cons (pv 3) pa_nil))) pa_nil))))) (pw_or1 (pt_not (pt_val (pe_fn DLsame1 (hr.mono (by decide)) (pa_cons (pe_mt0 (C := C) Dthrough (hr.mono (by decide)) (pv 0)) (pa_cons (pe_callB (cr_sumT rfl) (by rfl) T.zsum (by decide +kernel) (pa_cons (pe_slice sl_tup (pv 1) po_none (po_some pe_int)) pa_nil)) pa_nil)))))))) (pss_one (ps_ret pe_bl)) pss_nil)
    (pss_cons (ps_expr (pe_bm0 PySem.F.plainAttrs_list PySem.F.slot_list_reverse PySem.F.type_list_reverse mt_reverse (pv 6)))
    (pss_one (ps_expr (pe_bm PySem.F.plainAttrs_list PySem.F.slot_list_append PySem.F.type_list_append mt_append (pv 6) (pa_cons pe_int pa_nil))))))))
    (pss_one (ps_ret pe_bl))))), ?_⟩
    obtain ⟨k, l, ek, hk, hbk⟩ := bind_some ft fh
    have ebs : bindsOf ts hs = (k : Int) :: l.map fun (j : Nat) => (j : Int) := by unfold bindsOf; rw [ek]; rfl
    have blen : (bindsOf ts hs).length ≤ 4 := by
      unfold bindsOf bindsN
      rw [List.length_map]
      exact Nat.le_trans (List.length_filter_le ..) (by rw [List.length_range]; exact Nat.le_refl _)
    have k1 := ft.2 _ (gt_mem (l := ts) (k := k) (by rw [ft.1]; exact hk))
    have k2 := fh.2 _ (gt_mem (l := hs) (k := k) (by rw [fh.1]; exact hk))
    refine ⟨_, rfl, _, rfl, tk, hd, ts, hs, rfl, htk, hhd, ft, fh, fun r H1 hr0 hr1 s1 => ?_⟩
    have at0 : atI ((bindsOf ts hs).map V.int) 0 = some (V.int (k : Int)) := by rw [ebs]; exact at_of (j := 0) rfl rfl
    refine ⟨_, rfl, _, rfl, r, _, 0, _, rfl, rfl, SqL.of hr1, at0, tk, _, _, _, rfl, rfl, SqT.of (s1 _ _ htk), at_gt (i := k) rfl (by rw [ft.1]; exact hk), ?_⟩
    refine ⟨_, rfl, _, rfl, r, _, 0, _, rfl, rfl, SqL.of hr1, at0, hd, _, _, _, rfl, rfl, SqT.of (s1 _ _ hhd), at_gt (i := k) rfl (by rw [fh.1]; exact hk), ?_⟩
    refine ⟨gt ts k, gt hs k, rfl, k1.1, k1.2, k2.1, fun pr H2 hpr s2 => ?_⟩
    have s12 := s1.trans s2
    have hr2 := s2 _ _ hr1
    refine ⟨2, rfl, by decide, by decide, ?_⟩
    refine for_range (lo := 0) (n := (2 : Int).toNat) (fun i σ H' => ∃ v5 v6 : Option V, σ = [some (.ref g), some (.ref tk), some (.ref hd), some (.ref r), some (.ref pr), v5, v6] ∧ Same H2 H') ⟨_, _, rfl, Same.refl _⟩ ?_ ?_
    · rintro i σ H' hi ⟨v5, v6, rfl, s3⟩
      have t3 := s12.trans s3
      refine ⟨_, rfl, g, dx, _, rfl, t3 _ _ hg, gf_binds _ _ _, g, ts, hs, rfl, M.same t3, fun rb H4 hrb0 hrb s4 => ?_⟩
      have t4 := t3.trans s4
      refine ⟨_, rfl, g, dx, _, rfl, t4 _ _ hg, gf_pace _ _ _, g, ts, hs, rfl, M.same t4, fun rp tp bt H5 hP hrp s5 => ?_⟩
      obtain ⟨l1, l2⟩ := pace_low ft fh hP hk hbk
      rw [l1, l2] at hrp
      refine ⟨_, rfl, (by show 2 ≤ sizeLine; decide), fun d1 hd1 => ?_⟩
      have s6 : Same H5 (upd H5 d1 (.lst [.ref rp, .ref rb])) := same_new hd1
      refine ⟨_, rfl, _, rfl, (by show 2 ≤ sizeLine; decide), fun d2 hd2 => ?_⟩
      have s7 : Same (upd H5 d1 (.lst [.ref rp, .ref rb])) (upd (upd H5 d1 (.lst [.ref rp, .ref rb])) d2 (.lst [.ref pr, .ref r])) := same_new hd2
      have s57 := s6.trans s7
      have t7 : Same H2 (upd (upd H5 d1 (.lst [.ref rp, .ref rb])) d2 (.lst [.ref pr, .ref r])) := ((s3.trans s4).trans s5).trans s57
      refine ⟨d1, d2, [(true, rp, pr, [gt ts k / (Int.gcd (gt ts k) (gt hs k) : Nat), gt hs k / (Int.gcd (gt ts k) (gt hs k) : Nat)]), (false, rb, r, bindsOf ts hs)], rfl, s7 _ _ upd_same, upd_same, ?_, (by show 2 ≤ 1000; decide), fun H8 s8 => ⟨true, rfl, iteF ?_⟩⟩
      · intro e he
        rcases List.mem_cons.mp he with rfl | he
        · exact ⟨s57 _ _ hrp, t7 _ _ hpr, (by show 2 ≤ 1000; decide)⟩
        · obtain rfl := List.mem_singleton.mp he
          exact ⟨s57 _ _ (s5 _ _ hrb), t7 _ _ hr2, Nat.le_trans blen (by decide)⟩
      have t8 := t7.trans s8
      have u8 := s12.trans t8
      refine ⟨_, rfl, g, dx, _, rfl, u8 _ _ hg, gf_through _ _ _, g, ts, hs, rfl, M.same u8, fun H9 s9 => ?_⟩
      have u9 := u8.trans s9
      refine ⟨_, rfl, 3, rfl, tk, _, rfl, SqT.of (u9 _ _ htk), part3 ft.1, fun a ha => ?_⟩
      rw [cut3 ft.1]
      refine ⟨a, _, rfl, SqT.of upd_same, .inl ⟨_, rfl⟩, fun H10 s10 => ⟨true, rfl, iteF ?_⟩⟩
      have s811 : Same H4 H10 := ((((s5.trans s57).trans s8).trans s9).trans (same_new ha)).trans s10
      have hrb10 := s811 _ _ hrb
      have rb0 : H2 rb = none := s3.free hrb0
      refine ⟨_, rfl, .inl ⟨rfl, _, SqL.of hrb10⟩, rb, _, rfl, rfl, hrb10, ?_⟩
      refine ⟨_, rfl, .inl ⟨rfl, _, SqL.of upd_same⟩, rb, _, _, rfl, rfl, upd_same, ?_, ?_⟩
      · rw [List.length_reverse, List.length_map]
        exact Nat.lt_of_le_of_lt blen (by decide)
      refine ⟨_, _, rfl, fun b o e => ?_⟩
      rw [upd_ne (ne_of_none e rb0), upd_ne (ne_of_none e rb0)]
      exact s811 _ _ (s4 _ _ (s3 _ _ e))
    · rintro σ H' ⟨v5, v6, rfl, s3⟩
      exact q _ (s12.trans s3)
end
end HP
namespace HP
open PySem L2
section
variable {P : Program} {w : World} {K : PySem.W.Frag} {mg : Str → Option Value} {base : Heap} {tM tL : Tok}
/-! ### _law_about -/
/-- rows of four numbers, each a tuple -/
inductive FoursAt (H : Hp) : List V → List (List Int) → Prop
  | nil : FoursAt H [] []
  | cons {t : Addr} {ts : List Int} {xs : List V} {L : List (List Int)} (h : H t = some (.tup (ts.map V.int))) (f : Four ts 1000000) (r : FoursAt H xs L) : FoursAt H (.ref t :: xs) (ts :: L)
theorem FoursAt.move {H H' : Hp} {xs : List V} {L : List (List Int)} (h : FoursAt H xs L) (s : ∀ a ys, H a = some (.tup ys) → H' a = some (.tup ys)) : FoursAt H' xs L := by
  induction h with
  | nil => exact .nil
  | cons h1 f _ ih => exact .cons (s _ _ h1) f ih
theorem FoursAt.len {H : Hp} {xs : List V} {L : List (List Int)} (h : FoursAt H xs L) : xs.length = L.length := by
  induction h with
  | nil => rfl
  | cons _ _ _ ih => rw [List.length_cons, List.length_cons, ih]
theorem FoursAt.snoc {H : Hp} {xs : List V} {L : List (List Int)} {t : Addr} {ts : List Int} (h : FoursAt H xs L) (ht : H t = some (.tup (ts.map V.int))) (f : Four ts 1000000) : FoursAt H (xs ++ [.ref t]) (L ++ [ts]) := by
  induction h with
  | nil => exact .cons ht f .nil
  | cons h1 g _ ih => exact .cons h1 g ih
theorem FoursAt.get {H : Hp} {xs : List V} {L : List (List Int)} (h : FoursAt H xs L) : ∀ {i : Nat} {x : V}, xs[i]? = some x → ∃ t ts, x = .ref t ∧ H t = some (.tup (ts.map V.int)) ∧ Four ts 1000000 := by
  induction h with
  | nil => intro i x e; simp at e
  | @cons t ts xs L h1 f r ih =>
    intro i x e
    cases i with
    | zero =>
      have e' : V.ref t = x := Option.some.inj e
      exact ⟨t, ts, e'.symm, h1, f⟩
    | succ j => exact ih (i := j) e
def spAbout : Sp := fun vs H Q _ => ∃ (t tk hd : Addr) (c : Int) (ts hs : List Int), vs = [.ref t, .ref tk, .ref hd] ∧ TapeAt H t c ∧ c ≤ 90000 ∧ H tk = some (.tup (ts.map V.int)) ∧ H hd = some (.tup (hs.map V.int)) ∧ Four ts 1000000 ∧ Four hs 4 ∧
  ∀ (p : Addr) (xs : List V) (L : List (List Int)) (H' : Hp), L.length = 3 → H' p = some (.lst xs) → FoursAt H' xs L → TapeAt H' t (c + 1) → SameBut t H H' → Q (.ref p) H'
abbrev sLabout : Stmt := top 28
theorem scLabout : FnScope ["_law_tape_here", "_law_takes_here", "_law_hands_here", "_law_kind", "_law_first", "_law_just", "_law_found", "_law_more", "_law_take"] ["_law_tape_here", "_law_takes_here", "_law_hands_here"] (defScope sLabout) := ⟨rfl, rfl, rfl, by decide +kernel, rfl, by decide +kernel, by decide +kernel⟩
theorem cutA {ts : List Int} {k : Nat} (h : ts.length = 4) (hk : k < 4) : cutV (ts.map V.int) none (some (k : Int)) = (ts.take k).map V.int := by
  unfold cutV
  rw [List.length_map, HT.sIx_none, HT.sIx_nat, h, List.map_take, show min k 4 - 0 = k by omega]
  rfl
theorem cutB {ts : List Int} {k : Nat} (h : ts.length = 4) (hk : k < 4) : cutV (ts.map V.int) (some ((k + 1 : Nat) : Int)) none = (ts.drop (k + 1)).map V.int := by
  unfold cutV
  rw [List.length_map, HT.sIx_none, HT.sIx_nat, h, show min (k + 1) 4 = k + 1 by omega, List.map_drop]
  exact List.take_of_length_le (by rw [List.length_drop, List.length_map, h]; exact Nat.le_refl _)
theorem partA {ts : List Int} {k : Nat} (h : ts.length = 4) (hk : k < 4) : ¬ (HT.sIx (ts.map V.int).length 0 none = 0 ∧ HT.sIx (ts.map V.int).length (ts.map V.int).length (some (k : Int)) = (ts.map V.int).length) := by
  rintro ⟨_, h2⟩
  rw [List.length_map, HT.sIx_nat] at h2
  omega
theorem partB {ts : List Int} {k : Nat} (h : ts.length = 4) (hk : k < 4) : ¬ (HT.sIx (ts.map V.int).length 0 (some ((k + 1 : Nat) : Int)) = 0 ∧ HT.sIx (ts.map V.int).length (ts.map V.int).length none = (ts.map V.int).length) := by
  rintro ⟨h1, _⟩
  rw [List.length_map, HT.sIx_nat] at h1
  omega
theorem four_put {ts : List Int} {k : Nat} {x : Int} (f : Four ts 1000000) (hk : k < 4) (h1 : 1 ≤ x) (h2 : x ≤ 1000000) : Four (ts.take k ++ [x] ++ ts.drop (k + 1)) 1000000 := by
  refine ⟨?_, fun n hn => ?_⟩
  · rw [List.length_append, List.length_append, List.length_take, List.length_drop, f.1, List.length_singleton]
    omega
  · rcases List.mem_append.mp hn with h | h
    · rcases List.mem_append.mp h with h | h
      · exact f.2 n (List.mem_of_mem_take h)
      · rw [List.mem_singleton] at h
        omega
    · exact f.2 n (List.mem_of_mem_drop h)
theorem ok_about {f : Addr} {fd : FuncData} (F : Fun K "_law_about" "_law_about" sLabout f fd) (T : Txt mg tM tL) (DLdraw : DDraw P w K mg base) (DLbinding : Df P w K mg base "_law_binding" 1 ["_law_beats", "_law_many"] spBinding) :
    FnOk P w K mg base CX0 2 f fd ["_law_tape_here", "_law_takes_here", "_law_hands_here"] spAbout := by
  refine F.ok scLabout (fun vs H Q E h => ?_) (fun cdv A outer s H vs Q E hr h => ?_)
  · obtain ⟨t, tk, hd, c, ts, hs, rfl, _⟩ := h
    rfl
  · obtain ⟨t, tk, hd, c, ts, hs, rfl, hT, hc, htk, hhd, ft, fh, q⟩ := h
    refine ⟨_, (pss_cons (ps_par (i := 3) (j := 4) (by rfl) scLabout.nd rfl rfl (by decide) rfl rfl (pa_cons (pe_fn DLdraw (hr.mono (by decide)) (pa_cons (pv 0) (pa_cons pe_int pa_nil))) (pa_cons (pe_ix ix_list (pe_fn DLbinding (hr.mono (by decide)) (pa_cons (pv 1) (pa_cons (pv 2) pa_nil))) pe_int (fun _ _ => rfl)) pa_nil)) (by rfl))
    (pss_cons (ps_set (i := 5) scLabout.nd rfl (Or.inl rfl) (pe_op op_fdivW (pe_op op_mul (pe_ix ix_tup (pv 1) (pv 4) (fun _ _ => rfl)) (pe_ix ix_tup (pv 2) (pv 3) (fun _ _ => rfl))) (pe_ix ix_tup (pv 2) (pv 4) (fun _ _ => rfl))))
    (pss_cons (ps_set (i := 6) scLabout.nd rfl (Or.inl rfl) (pe_lst pa_nil))
    (pss_cons (ps_for PassesOwn.never rfl (pi_tup (pe_tup (pa_cons pe_int (pa_cons (pe_un un_neg pe_int) (pa_cons pe_int pa_nil))))) (pg_name (i := 7) scLabout.nd rfl (Or.inl rfl))
    (pss_cons (ps_set (i := 8) scLabout.nd rfl (Or.inl rfl) (pe_callB (call_min2 rfl) (by rfl) T.zmin (by decide +kernel) (pa_cons (pe_op op_pow pe_int pe_int) (pa_cons (pe_callB (call_max2 rfl) (by rfl) T.zmax (by decide +kernel) (pa_cons pe_int (pa_cons (pe_op op_add (pv 5) (pv 7)) pa_nil))) pa_nil))))
    (pss_one (ps_expr (pe_bm PySem.F.plainAttrs_list PySem.F.slot_list_append PySem.F.type_list_append mt_append (pv 6) (pa_cons (pe_op op_catA (pe_op op_catA (pe_slice sl_tup (pv 1) po_none (po_some (pv 3))) (pe_tup (pa_cons (pv 8) pa_nil))) (pe_slice sl_tup (pv 1) (po_some (pe_op op_add (pv 3) pe_int)) po_none)) pa_nil))))))
    (pss_one (ps_ret (pv 6))))))), ?_⟩
    obtain ⟨k, l, ek, hk, hbk⟩ := bind_some ft fh
    have ebs : bindsOf ts hs = (k : Int) :: l.map fun (j : Nat) => (j : Int) := by unfold bindsOf; rw [ek]; rfl
    have k1 := ft.2 _ (gt_mem (l := ts) (k := k) (by rw [ft.1]; exact hk))
    have k2 := fh.2 _ (gt_mem (l := hs) (k := k) (by rw [fh.1]; exact hk))
    refine ⟨_, rfl, t, c, 4, rfl, hT, by omega, by decide, by decide, fun kd H1 a0 a1 T1 S1 => ?_⟩
    obtain ⟨d, rfl⟩ : ∃ d : Nat, kd = (d : Int) := ⟨kd.toNat, by omega⟩
    have hd4 : d < 4 := by omega
    have d2 := fh.2 _ (gt_mem (l := hs) (k := d) (by rw [fh.1]; exact hd4))
    have htk1 := S1.tup hT htk
    have hhd1 := S1.tup hT hhd
    refine ⟨_, rfl, _, rfl, tk, hd, ts, hs, rfl, htk1, hhd1, ft, fh, fun r H2 hr0 hr2 s2 => ?_⟩
    refine ⟨r, _, 0, .int (k : Int), rfl, rfl, SqL.of hr2, by rw [ebs]; exact at_of (j := 0) rfl rfl, _, _, rfl, ?_⟩
    have htk2 := s2 _ _ htk1
    have hhd2 := s2 _ _ hhd1
    refine ⟨_, rfl, _, rfl, tk, _, _, _, rfl, rfl, SqT.of htk2, at_gt (i := k) rfl (by rw [ft.1]; exact hk), _, rfl, _, rfl, hd, _, _, _, rfl, rfl, SqT.of hhd2, at_gt (i := d) rfl (by rw [fh.1]; exact hd4), gt ts k, gt hs d, rfl, rfl, .inl ⟨by omega, by omega⟩, ?_⟩
    refine ⟨_, rfl, _, rfl, hd, _, _, _, rfl, rfl, SqT.of hhd2, at_gt (i := k) rfl (by rw [fh.1]; exact hk), _, gt hs k, rfl, rfl, wd (by omega) (by omega), ?_⟩
    refine ⟨(by show 0 ≤ sizeLine; decide), fun fo hfo => ?_⟩
    have T2 := T1.same s2
    have nfo : fo ≠ t := T2.ne hfo
    refine ⟨1, rfl, (by show 3 ≤ sizeLine; decide), fun tp htp => ⟨tp, rfl, ⟨_, SqT.of upd_same⟩, ?_⟩⟩
    have hfo3 : (upd (upd H2 fo (.lst [])) tp (.tup [.int 0, .int (-1), .int 1])) fo = some (.lst []) := by rw [upd_ne (ne_of_none upd_same htp)]; exact upd_same
    have s3 : Same H2 (upd (upd H2 fo (.lst [])) tp (.tup [.int 0, .int (-1), .int 1])) := (same_new hfo).trans (same_new htp)
    have htp0 : H2 tp = none := (same_new hfo).free htp
    have htp3 : (upd (upd H2 fo (.lst [])) tp (.tup [.int 0, .int (-1), .int 1])) tp = some (.tup [.int 0, .int (-1), .int 1]) := upd_same
    have e6 : (10 : Int) ^ (6 : Int).toNat = 1000000 := by decide
    refine for_tup (K := K) (a := tp) (xs := [.int 0, .int (-1), .int 1]) (fun i σ H' => ∃ (v7 v8 : Option V) (xs : List V) (L : List (List Int)), σ = [some (.ref t), some (.ref tk), some (.ref hd), some (.int (d : Int)), some (.int (k : Int)), some (.int (gt ts k * gt hs d / gt hs k)), some (.ref fo), v7, v8] ∧
        H' fo = some (.lst xs) ∧ FoursAt H' xs L ∧ L.length = i ∧ Same H2 H' ∧ H' tp = some (.tup [.int 0, .int (-1), .int 1]))
      ⟨_, _, [], [], rfl, hfo3, .nil, rfl, s3, htp3⟩ (fun i σ H' _ ⟨_, _, _, _, _, _, _, _, _, h⟩ => SqT.of h) ?_ ?_
    · rintro i x σ H' hi ⟨v7, v8, xs, L, rfl, hfo', hF, hl, s4, htp4⟩
      obtain ⟨more, rfl⟩ : ∃ more : Int, x = .int more := by
        have := List.mem_of_getElem? hi
        simp only [List.mem_cons, List.not_mem_nil, or_false] at this
        rcases this with rfl | rfl | rfl <;> exact ⟨_, rfl⟩
      have hi3 : i < 3 := (List.getElem?_eq_some_iff.mp hi).1
      refine ⟨10, 6, rfl, rfl, pow6, _, rfl, _, rfl, _, more, rfl, rfl, 1, _, rfl, _, _, rfl, ?_⟩
      obtain ⟨take, etake⟩ : ∃ take : Int, take = (if (if 1 < gt ts k * gt hs d / gt hs k + more then gt ts k * gt hs d / gt hs k + more else 1) < (10 : Int) ^ (6 : Int).toNat then (if 1 < gt ts k * gt hs d / gt hs k + more then gt ts k * gt hs d / gt hs k + more else 1) else (10 : Int) ^ (6 : Int).toNat) := ⟨_, rfl⟩
      have b1 : 1 ≤ take ∧ take ≤ 1000000 := by
        rw [etake, e6]
        constructor
        · split <;> split <;> omega
        · split <;> omega
      dsimp only
      rw [← etake]
      have fp := four_put (k := d) (x := take) ft hd4 b1.1 b1.2
      have htk4 := s4 _ _ htk2
      -- what is put behind, whatever way it was made
      have fin : ∀ (p : Addr) (H5 : Hp), H5 p = some (.tup ((ts.take d ++ [take] ++ ts.drop (d + 1)).map V.int)) → Same H' H5 →
          ∃ l xs_1 y, V.ref fo = .ref l ∧ [V.ref p] = [y] ∧ H5 l = some (.lst xs_1) ∧ xs_1.length < sizeLine ∧ ∃ (v7 v8 : Option V) (xs : List V) (L : List (List Int)), [some (.ref t), some (.ref tk), some (.ref hd), some (.int (d : Int)), some (.int (k : Int)), some (.int (gt ts k * gt hs d / gt hs k)), some (.ref fo), some (.int more), some (.int take)] = [some (.ref t), some (.ref tk), some (.ref hd), some (.int (d : Int)), some (.int (k : Int)), some (.int (gt ts k * gt hs d / gt hs k)), some (.ref fo), v7, v8] ∧
            (upd H5 l (.lst (xs_1 ++ [y]))) fo = some (.lst xs) ∧ FoursAt (upd H5 l (.lst (xs_1 ++ [y]))) xs L ∧ L.length = i + 1 ∧ Same H2 (upd H5 l (.lst (xs_1 ++ [y]))) ∧ (upd H5 l (.lst (xs_1 ++ [y]))) tp = some (.tup [.int 0, .int (-1), .int 1]) := by
        intro p H5 hp s5
        have hfo5 := s5 _ _ hfo'
        have mv : ∀ a ys, H5 a = some (.tup ys) → (upd H5 fo (.lst (xs ++ [V.ref p]))) a = some (.tup ys) := fun a ys e => by
          rw [upd_ne (ne_of e hfo5 (by intro z; cases z))]
          exact e
        refine ⟨fo, xs, .ref p, rfl, rfl, hfo5, ?_, some (.int more), some (.int take), xs ++ [.ref p], L ++ [ts.take d ++ [take] ++ ts.drop (d + 1)], rfl, upd_same, ?_, ?_, ?_, ?_⟩
        · have := hF.len
          exact Nat.lt_of_lt_of_le (show xs.length < 3 by omega) (by decide)
        · exact (FoursAt.move (hF.move fun a ys e => s5 _ _ e) mv).snoc (mv _ _ hp) fp
        · rw [List.length_append, hl]
          rfl
        · intro b o e
          rw [upd_ne (ne_of_none e hfo)]
          exact s5 _ _ (s4 _ _ e)
        · exact mv _ _ (s5 _ _ htp4)
      refine ⟨_, rfl, .inl ⟨rfl, _, SqL.of hfo'⟩, _, rfl, _, rfl, _, rfl, tk, _, rfl, SqT.of htk4, partA ft.1 hd4, fun p1 hp1 => ?_⟩
      rw [cutA ft.1 hd4]
      have s5 : Same H' (upd H' p1 (.tup ((ts.take d).map V.int))) := same_new hp1
      refine ⟨_, rfl, (by show 1 ≤ sizeLine; decide), fun p2 hp2 => ?_⟩
      have s6 : Same H' (upd (upd H' p1 (.tup ((ts.take d).map V.int))) p2 (.tup [.int take])) := s5.trans (same_new hp2)
      have h1 : (upd (upd H' p1 (.tup ((ts.take d).map V.int))) p2 (.tup [.int take])) p1 = some (.tup ((ts.take d).map V.int)) := by rw [upd_ne (ne_of_none upd_same hp2)]; exact upd_same
      have h2 : (upd (upd H' p1 (.tup ((ts.take d).map V.int))) p2 (.tup [.int take])) p2 = some (.tup ([take].map V.int)) := upd_same
      generalize upd (upd H' p1 (.tup ((ts.take d).map V.int))) p2 (.tup [.int take]) = H6 at s6 h1 h2
      have tl : (ts.take d).length = d := by rw [List.length_take, ft.1]; omega
      have dl : (ts.drop (d + 1)).length = 3 - d := by rw [List.length_drop, ft.1]; omega
      have mid : ∀ (p : Addr) (H7 : Hp), H7 p = some (.tup ((ts.take d ++ [take]).map V.int)) → Same H' H7 → (tSl (rSlT K) (tVar 1) (tPart (tOp (rI0 fun i j => .int (i + j)) (tVar 3) (tC (.int 1)))) tNoPart [some (.ref t), some (.ref tk), some (.ref hd), some (.int (d : Int)), some (.int (k : Int)), some (.int (gt ts k * gt hs d / gt hs k)), some (.ref fo), some (.int more), some (.int take)] H7 fun y H8 => rCatA K (.ref p) y H8 fun v H9 => ∃ l xs_1 y, V.ref fo = .ref l ∧ [v] = [y] ∧ H9 l = some (.lst xs_1) ∧ xs_1.length < sizeLine ∧ ∃ (v7 v8 : Option V) (xs : List V) (L : List (List Int)), [some (.ref t), some (.ref tk), some (.ref hd), some (.int (d : Int)), some (.int (k : Int)), some (.int (gt ts k * gt hs d / gt hs k)), some (.ref fo), some (.int more), some (.int take)] = [some (.ref t), some (.ref tk), some (.ref hd), some (.int (d : Int)), some (.int (k : Int)), some (.int (gt ts k * gt hs d / gt hs k)), some (.ref fo), v7, v8] ∧
            (upd H9 l (.lst (xs_1 ++ [y]))) fo = some (.lst xs) ∧ FoursAt (upd H9 l (.lst (xs_1 ++ [y]))) xs L ∧ L.length = i + 1 ∧ Same H2 (upd H9 l (.lst (xs_1 ++ [y]))) ∧ (upd H9 l (.lst (xs_1 ++ [y]))) tp = some (.tup [.int 0, .int (-1), .int 1])) := by
        intro p H7 hp s7
        refine ⟨_, rfl, _, rfl, (d : Int), 1, rfl, rfl, _, rfl, tk, _, rfl, SqT.of (s7 _ _ htk4), partB ft.1 hd4, fun p3 hp3 => ?_⟩
        have eC : cutV (ts.map V.int) (some ((d : Int) + 1)) none = (ts.drop (d + 1)).map V.int := cutB ft.1 hd4
        rw [eC]
        have s8 : Same H7 (upd H7 p3 (.tup ((ts.drop (d + 1)).map V.int))) := same_new hp3
        have hz : ((ts.take d ++ [take]).map V.int).length + ((ts.drop (d + 1)).map V.int).length ≤ sizeLine := by
          rw [List.length_map, List.length_map, List.length_append, tl, dl, List.length_singleton]
          exact Nat.le_trans (show d + 1 + (3 - d) ≤ 4 by omega) (by decide)
        refine ⟨p, p3, _, _, rfl, rfl, SqT.of (s8 _ _ hp), SqT.of upd_same, hz, fun e => ?_, fun _ e => ?_, fun _ _ p4 hp4 => ?_⟩
        · simp at e
        · have e0 : ts.drop (d + 1) = [] := List.map_eq_nil_iff.mp e
          have z := s8 _ _ hp
          refine fin p _ (z.trans ?_) (s7.trans s8)
          rw [e0, List.append_nil]
        · refine fin p4 _ ?_ ((s7.trans s8).trans (same_new hp4))
          rw [upd_same, List.map_append (l₁ := ts.take d ++ [take])]
      have hz1 : ((ts.take d).map V.int).length + ([take].map V.int).length ≤ sizeLine := by
        rw [List.length_map, List.length_map, tl, List.length_singleton]
        exact Nat.le_trans (show d + 1 ≤ 4 by omega) (by decide)
      refine ⟨p1, p2, _, _, rfl, rfl, SqT.of h1, SqT.of h2, hz1, fun e => ?_, fun _ e => ?_, fun _ _ p5 hp5 => ?_⟩
      · have e0 : ts.take d = [] := List.map_eq_nil_iff.mp e
        refine mid p2 H6 ?_ s6
        rw [e0, List.nil_append]
        exact h2
      · cases e
      · refine mid p5 _ ?_ (s6.trans (same_new hp5))
        rw [upd_same, List.map_append]
    · rintro σ H' ⟨v7, v8, xs, L, rfl, hfo', hF, hl, s4, htp4⟩
      refine ⟨_, rfl, ?_⟩
      exact q fo xs L H' hl hfo' hF (T2.same s4) (S1.trans (Same.but (s2.trans s4)))
end
end HP
namespace HP
open PySem L2
section
variable {P : Program} {w : World} {K : PySem.W.Frag} {mg : Str → Option Value} {base : Heap} {tM tL : Tok}
structure Rw8 where
  r : Addr
  tk : Addr
  hd : Addr
  z : Str
  ts : List Int
  hs : List Int
structure RowOk (H : Hp) (e : Rw8) : Prop where
  h1 : H e.r = some (.tup [.str e.z, .ref e.tk, .ref e.hd])
  h2 : H e.tk = some (.tup (e.ts.map V.int))
  h3 : H e.hd = some (.tup (e.hs.map V.int))
  gn : GoodName e.z
  ft : Four e.ts 1000000
  fh : Four e.hs 4
theorem RowOk.move {H H' : Hp} {e : Rw8} (h : RowOk H e) (s : ∀ a ys, H a = some (.tup ys) → H' a = some (.tup ys)) : RowOk H' e := ⟨s _ _ h.h1, s _ _ h.h2, s _ _ h.h3, h.gn, h.ft, h.fh⟩
theorem RowOk.same {H H' : Hp} {e : Rw8} (h : RowOk H e) (s : Same H H') : RowOk H' e := h.move fun _ _ z => s _ _ z
theorem RowOk.but {H H' : Hp} {e : Rw8} {t : Addr} {c : Int} (h : RowOk H e) (s : SameBut t H H') (T : TapeAt H t c) : RowOk H' e := h.move fun _ _ z => s.tup T z
theorem get_ref {L : List Rw8} {i : Nat} {x : V} (h : (L.map fun e => V.ref e.r)[i]? = some x) : ∃ e, L[i]? = some e ∧ x = .ref e.r := by
  rw [List.getElem?_map] at h
  cases e : L[i]? with
  | none => rw [e] at h; cases h
  | some z => rw [e] at h; exact ⟨z, rfl, (Option.some.inj h).symm⟩
theorem four_rev {ts : List Int} (f : Four ts 1000000) : Four ts.reverse 1000000 := ⟨by rw [List.length_reverse]; exact f.1, fun n hn => f.2 n (List.mem_reverse.mp hn)⟩
abbrev slaw : Stmt := top 29
theorem sclaw : FnScope ["_law_script", "_law_cells", "_law_k", "_law_tape_here", "_law_rows", "_law_name", "_law_gangs", "_law_turn", "_law_takes_here", "_law_hands_here", "_law_some"] ["_law_script"] (defScope slaw) := ⟨rfl, rfl, rfl, by decide +kernel, rfl, by decide +kernel, by decide +kernel⟩
theorem ok_law {f C : Addr} {fd : FuncData} (F : Fun K "law" "law" slaw f fd) (T : Txt mg tM tL) (DLfolded : Df P w K mg base "_law_folded" 1 ["_law_script", "_law_many"] (spFolded K)) (DLtape : Df P w K mg base "_law_tape" 1 ["_law_script", "_law_k"] (spTape K))
    (DLtakes : Df P w K mg base "_law_takes" 2 ["_law_tape_here", "_law_most"] spTakes) (DLhands : Df P w K mg base "_law_hands" 2 ["_law_tape_here"] spHands) (DLnames : Df P w K mg base "_law_names" 2 ["_law_tape_here", "_law_many"] spNames) (DG : DGk P w K mg base C) (DGL : DGL P w K mg base C)
    (DLabout : Df P w K mg base "_law_about" 2 ["_law_tape_here", "_law_takes_here", "_law_hands_here"] spAbout) (DLright : Df P w K mg base "_law_right" 4 ["_law_gang", "_law_takes_here", "_law_hands_here"] (spRight C)) : FnOk P w K mg base CX0 5 f fd ["_law_script"] (spLaw K) := by
  refine F.ok sclaw (fun vs H Q E h => ?_) (fun cdv A outer s H vs Q E hr h => ?_)
  · obtain ⟨a, ns, rfl, _⟩ := h
    rfl
  · obtain ⟨a, ns, rfl, hS, hn, q⟩ := h
    refine ⟨_, (C8.pss_cut (ps_set (i := 1) sclaw.nd rfl (Or.inl rfl) (pe_ifExp (pt_cmpR (op_neD hr.units) (pv 0) (pe_lst pa_nil) (nomark _)) (pe_fn DLfolded (hr.mono (by decide)) (pa_cons (pv 0) (pa_cons pe_int pa_nil))) (pe_lst (pa_cons pe_int pa_nil))))
    (pss_cons (ps_for PassesOwn.never rfl (pi_range1 (by rfl) T.zrange (pa_cons (pe_callB call_len_seq (by rfl) T.zlen (by decide +kernel) (pa_cons (pv 1) pa_nil)) pa_nil)) (pg_name (i := 2) sclaw.nd rfl (Or.inl rfl))
    (pss_cons (ps_set (i := 3) sclaw.nd rfl (Or.inl rfl) (pe_fn DLtape (hr.mono (by decide)) (pa_cons (pv 1) (pa_cons (pv 2) pa_nil))))
    (pss_cons (ps_set (i := 4) sclaw.nd rfl (Or.inl rfl) (pe_lst pa_nil))
    (pss_cons (ps_for PassesOwn.never rfl (pi_list (pe_fn DLnames (hr.mono (by decide)) (pa_cons (pv 3) (pa_cons pe_int pa_nil)))) (pg_name (i := 5) sclaw.nd rfl (Or.inl rfl))
    (pss_one (ps_expr (pe_bm PySem.F.plainAttrs_list PySem.F.slot_list_append PySem.F.type_list_append mt_append (pv 4) (pa_cons (pe_tup (pa_cons (pv 5) (pa_cons (pe_fn DLtakes (hr.mono (by decide)) (pa_cons (pv 3) (pa_cons (pe_op op_pow pe_int pe_int) pa_nil))) (pa_cons (pe_fn DLhands (hr.mono (by decide)) (pa_cons (pv 3) pa_nil)) pa_nil)))) pa_nil)))))
    (pss_cons (ps_setLc (i := 6) (own := [("_law_name", 5), ("_law_takes_here", 8), ("_law_hands_here", 9)]) (g := gTup K 3 (gCons (gName 5) (gCons (gName 8) (gCons (gName 9) gNil)))) (tt := tYes) (by rfl) sclaw.nd rfl rfl (sw_true rfl rfl rfl (by decide +kernel)) (pi_list (pv 4)) (blkOk_by (own := [("_law_name", 5), ("_law_takes_here", 8), ("_law_hands_here", 9)]) (N := ["_law_script", "_law_cells", "_law_k", "_law_tape_here", "_law_rows", "_law_name", "_law_gangs", "_law_turn", "_law_takes_here", "_law_hands_here", "_law_some"]) (sc := defScope slaw) (by decide +kernel)) (fun _ _ _ _ _ => (pg_tup rfl (pgs_cons (pg_name (i := 5) sclaw.nd rfl (Or.inl rfl)) (pgs_cons (pg_name (i := 8) sclaw.nd rfl (Or.inl rfl)) (pgs_cons (pg_name (i := 9) sclaw.nd rfl (Or.inl rfl)) pgs_nil))))) (fun _ _ _ _ _ => pts_nil) (fun _ _ _ _ _ => (pe_gang (C := C) DG (hr.mono (by decide)) (pa_cons (pv 5) (pa_cons (pv 8) (pa_cons (pv 9) pa_nil))))))
    (pss_cons (ps_for PassesOwn.never rfl (pi_range1 (by rfl) T.zrange (pa_cons pe_int pa_nil)) (pg_name (i := 7) sclaw.nd rfl (Or.inl rfl))
    (pss_cons (ps_asg (pe_ix ix_list (pv 4) (pe_op op_mod (pv 7) pe_int) (fun _ _ => rfl)) (pg_tup rfl (pgs_cons (pg_name (i := 5) sclaw.nd rfl (Or.inl rfl)) (pgs_cons (pg_name (i := 8) sclaw.nd rfl (Or.inl rfl)) (pgs_cons (pg_name (i := 9) sclaw.nd rfl (Or.inl rfl)) pgs_nil)))))
    (pss_one (ps_if (pt_not (pt_val (pe_fn DLright (hr.mono (by decide)) (pa_cons (pe_ix ix_list (pv 6) (pe_op op_mod (pv 7) pe_int) (fun _ _ => rfl)) (pa_cons (pv 8) (pa_cons (pv 9) pa_nil)))))) (pss_one (ps_ret pe_bl)) pss_nil))))
    (pss_one (ps_for PassesOwn.never rfl (pi_list (pv 4)) (pg_tup rfl (pgs_cons (pg_name (i := 5) sclaw.nd rfl (Or.inl rfl)) (pgs_cons (pg_name (i := 8) sclaw.nd rfl (Or.inl rfl)) (pgs_cons (pg_name (i := 9) sclaw.nd rfl (Or.inl rfl)) pgs_nil))))
    (pss_one (ps_for PassesOwn.never rfl (pi_list (pe_op op_cat (pe_fn DLabout (hr.mono (by decide)) (pa_cons (pv 3) (pa_cons (pv 8) (pa_cons (pv 9) pa_nil)))) (pe_lst (pa_cons (pe_revT (pv 8)) pa_nil)))) (pg_name (i := 10) sclaw.nd rfl (Or.inl rfl))
    (pss_one (ps_if (pt_not (pt_val (pe_fn DLright (hr.mono (by decide)) (pa_cons (pe_gangL (C := C) DGL (hr.mono (by decide)) (pa_cons (pv 5) (pa_cons (pe_callTy call_list_of (by rfl) T.zlist (by decide +kernel) (pa_cons (pv 10) pa_nil)) (pa_cons (pe_callTy call_list_of (by rfl) T.zlist (by decide +kernel) (pa_cons (pv 9) pa_nil)) pa_nil)))) (pa_cons (pv 10) (pa_cons (pv 9) pa_nil)))))) (pss_one (ps_ret pe_bl)) pss_nil))))))))))))
    (pss_one (ps_ret pe_bl)))), ?_⟩
    have e6 : (10 : Int) ^ (6 : Int).toNat = 1000000 := by decide
    -- _law_cells
    refine ⟨fun σ H1 => ∃ (pc : Addr) (cs : List Int), σ = [some (.ref a), some (.ref pc), none, none, none, none, none, none, none, none, none] ∧ H1 pc = some (.lst (cs.map V.int)) ∧ cs.length ≤ 6, ?_, ?_⟩
    · refine ⟨_, rfl, (by show 0 ≤ sizeLine; decide), fun d hd => ?_⟩
      have hS' : SqL K (upd H d (.lst [])) a (ns.map V.int) := Same.seq (same_new hd) hS
      refine ⟨_, _, .lst hS' (dp_ints ns), .lst (SqL.of upd_same) .nil, PySem.W.ke_shaped_ints ns, PySem.W.ke_shaped_ints [], _, rfl, ?_⟩
      refine ite2 (fun _ => ?_) (fun _ => ?_)
      · refine ⟨_, rfl, a, ns, 6, rfl, hS', by decide, by decide, hn, fun p cs H1 hp hl hc s1 => ?_⟩
        exact ⟨p, cs, rfl, hc, by omega⟩
      · refine ⟨(by show 1 ≤ sizeLine; decide), fun p hp => ?_⟩
        exact ⟨p, [0], rfl, upd_same, by decide⟩
    · rintro σ H1 ⟨pc, cs, rfl, hpc, hcs⟩
      refine ⟨_, rfl, pc, _, rfl, .inl (SqL.of hpc), _, rfl, ?_, ?_, ?_⟩
      · rw [List.length_map]; omega
      · rw [List.length_map]; omega
      refine for_range (lo := 0) (n := ((cs.map V.int).length : Int).toNat) (fun i σ H' => ∃ (v2 v3 v4 v5 v6 v7 v8 v9 v10 : Option V), σ = [some (.ref a), some (.ref pc), v2, v3, v4, v5, v6, v7, v8, v9, v10] ∧ H' pc = some (.lst (cs.map V.int)))
        ⟨_, _, _, _, _, _, _, _, _, rfl, hpc⟩ ?_ ?_
      · rintro i σ H2 hi ⟨v2, v3, v4, v5, v6, v7, v8, v9, v10, rfl, hpc2⟩
        rw [List.length_map] at hi
        -- the tape
        refine ⟨_, rfl, _, rfl, pc, cs, _, rfl, SqL.of hpc2, by omega, by omega, fun t H3 ht T3 s3 => ?_⟩
        have hpc3 := s3 _ _ hpc2
        have npc : pc ≠ t := ne_of_none hpc2 ht
        -- rows, the names
        refine ⟨(by show 0 ≤ sizeLine; decide), fun lr hlr0 => ?_⟩
        have nlr : lr ≠ t := T3.ne hlr0
        refine ⟨_, rfl, t, 0, 2, rfl, T3.new hlr0, by decide, by decide, fun nl zs H4 hnl0 lzs hZ hnl T4 S4 => ?_⟩
        have hlr4 : H4 lr = some (.lst []) := S4 _ _ upd_same nlr
        have nnl : nl ≠ t := (T3.new hlr0).ne hnl0
        have nnr : nl ≠ lr := fun e => by rw [e, upd_same] at hnl0; cases hnl0
        have hpc4 : H4 pc = some (.lst (cs.map V.int)) := S4 _ _ ((same_new hlr0) _ _ hpc3) npc
        have npr : pc ≠ lr := ne_of_none hpc3 hlr0
        refine ⟨nl, rfl, ⟨_, SqL.of hnl⟩, ?_⟩
        refine for_list (K := K) (a := nl) (xs := zs.map V.str) (fun j σ H' => ∃ (v2 v5 v6 v7 v8 v9 v10 : Option V) (L : List Rw8), σ = [some (.ref a), some (.ref pc), v2, some (.ref t), some (.ref lr), v5, v6, v7, v8, v9, v10] ∧
            H' lr = some (.lst (L.map fun e => V.ref e.r)) ∧ (∀ e ∈ L, RowOk H' e) ∧ L.length = j ∧ TapeAt H' t (20 + 20 * (j : Int)) ∧ H' nl = some (.lst (zs.map V.str)) ∧ H' pc = some (.lst (cs.map V.int)))
          ⟨_, _, _, _, _, _, _, [], rfl, hlr4, (fun e he => by cases he), rfl, T4.mono (by omega), hnl, hpc4⟩ (fun j σ H' _ ⟨_, _, _, _, _, _, _, _, _, _, _, _, _, h, _⟩ => SqL.of h) ?_ ?_
        · rintro j x σ H' hj ⟨v2, v5, v6, v7, v8, v9, v10, L, rfl, hlr', hR, lL, T', hnl', hpc'⟩
          have hj2 : j < 2 := by have := (List.getElem?_eq_some_iff.mp hj).1; rw [List.length_map, lzs] at this; exact this
          obtain ⟨z, hz, rfl⟩ : ∃ z, zs[j]? = some z ∧ x = .str z := by
            rw [List.getElem?_map] at hj
            cases e : zs[j]? with
            | none => rw [e] at hj; cases hj
            | some z => rw [e] at hj; exact ⟨z, rfl, (Option.some.inj hj).symm⟩
          refine ⟨_, rfl, .inl ⟨rfl, _, SqL.of hlr'⟩, _, rfl, _, rfl, 10, 6, rfl, rfl, pow6, t, _, _, rfl, T', by omega, by rw [e6]; decide, by rw [e6]; decide, fun tk ts H5 ft htk T5 S5 => ?_⟩
          rw [e6] at ft
          refine ⟨_, rfl, t, _, rfl, T5, by omega, fun hd hs H6 fh hhd T6 S6 => ?_⟩
          have SB := S5.trans S6
          refine ⟨(by show 3 ≤ sizeLine; decide), fun r hr' => ?_⟩
          have hlr6 := SB _ _ hlr' nlr
          have nrr : lr ≠ r := ne_of_none hlr6 hr'
          have mv : ∀ (o : HO) a ys, H6 a = some (.tup ys) → (upd (upd H6 r (.tup [.str z, .ref tk, .ref hd])) lr (.lst (L.map (fun e => V.ref e.r) ++ [V.ref r]))) a = some (.tup ys) := fun o a ys e => by
            rw [upd_ne (ne_of e hlr6 (by intro z; cases z)), upd_ne (ne_of_none e hr')]
            exact e
          have hT6 : TapeAt (upd (upd H6 r (.tup [.str z, .ref tk, .ref hd])) lr (.lst (L.map (fun e => V.ref e.r) ++ [V.ref r]))) t (20 + 20 * (j : Int) + 10 + 10) := by
            obtain ⟨a', b', k', g1, g2⟩ := T6.new (o := .tup [.str z, .ref tk, .ref hd]) hr'
            exact ⟨a', b', k', by rw [upd_ne nlr.symm]; exact g1, g2⟩
          refine ⟨lr, _, _, rfl, rfl, (by rw [upd_ne nrr]; exact hlr6), ?_, _, _, _, _, _, _, _, L ++ [⟨r, tk, hd, z, ts, hs⟩], rfl, ?_, ?_, ?_, ?_, ?_, ?_⟩
          · rw [List.length_map, lL]
            exact Nat.lt_of_lt_of_le hj2 (by decide)
          · rw [upd_same, List.map_append]
            rfl
          · intro e he
            rcases List.mem_append.mp he with h | h
            · exact ((hR e h).but SB T').move (mv (.lst []))
            · obtain rfl := List.mem_singleton.mp h
              exact ⟨by rw [upd_ne nrr.symm, upd_same], mv (.lst []) _ _ (S6.tup T5 htk), mv (.lst []) _ _ hhd, hZ z (List.mem_of_getElem? hz), ft, fh⟩
          · rw [List.length_append, lL]
            rfl
          · exact hT6.mono (by omega)
          · have z6 := SB _ _ hnl' nnl
            rw [upd_ne nnr, upd_ne (ne_of_none z6 hr')]
            exact z6
          · have z6 := SB _ _ hpc' npc
            rw [upd_ne npr, upd_ne (ne_of_none z6 hr')]
            exact z6
        rintro σ H7 ⟨v2, v5, v6, v7, v8, v9, v10, L, rfl, hlr7, hR7, lL, T7, hnl7, hpc7⟩
        rw [List.length_map, lzs] at lL T7
        -- the gangs
        refine ⟨_, rfl, lr, rfl, ⟨_, SqL.of hlr7⟩, fun D hD => ?_⟩
        have nD : D ≠ t := T7.ne hD
        refine lc_list (K := K) (a := lr) (xs := L.map fun e => V.ref e.r) (fun i H' => ∃ ms, H' D = some (.lst ms) ∧ ms.length = i ∧ (∀ (j : Nat) (e : Rw8), L[j]? = some e → j < i → ∃ p, ms[j]? = some (.ref p) ∧ GangAt C H' p e.ts e.hs) ∧ Same H7 H')
          ⟨[], upd_same, rfl, (fun j e _ hj => by omega), same_new hD⟩ (fun i H' _ ⟨_, _, _, _, h⟩ => SqL.of (h _ _ hlr7)) ?_ ?_
        · rintro j x H' hj ⟨ms, hms, lms, hM, s8⟩
          obtain ⟨e, hLj, rfl⟩ := get_ref hj
          have hjl : j < L.length := (List.getElem?_eq_some_iff.mp hLj).1
          have R := (hR7 e (List.mem_of_getElem? hLj)).same s8
          refine ⟨e.r, _, rfl, SqT.of R.h1, rfl, _, _, rfl, _, _, rfl, _, _, rfl, rfl, rfl, ?_⟩
          refine ⟨_, rfl, _, rfl, _, rfl, fun x dx hx hdx ne => ?_⟩
          have s9 : Same H' (upd (upd H' dx (.own x)) x (.ins C dx [])) := fun b o e => by
            rw [upd_ne (ne_of_none e hx), upd_ne (ne_of_none e hdx)]
            exact e
          refine ⟨x, dx, e.tk, e.hd, e.z, e.ts, e.hs, rfl, upd_same, R.gn, s9 _ _ R.h2, s9 _ _ R.h3, R.ft, R.fh, fun H9 GA k4 => ⟨rfl, ?_⟩⟩
          have s10 : Same H' H9 := fun b o e => k4 b o (s9 b o e) (ne_of_none e hx)
          have hms9 := s10 _ _ hms
          have g1 : ∀ o, (∀ b zs, H9 b = some (.tup zs) → (upd H9 D o) b = some (.tup zs)) := fun o b zs' e => by
            rw [upd_ne (ne_of e hms9 (by intro z; cases z))]
            exact e
          have g2 : ∀ o, (∀ b C dx fs, H9 b = some (.ins C dx fs) → (upd H9 D o) b = some (.ins C dx fs)) := fun o b C dx fs e => by
            rw [upd_ne (ne_of e hms9 (by intro z; cases z))]
            exact e
          have gv : ∀ o {p : Addr} {ts hs : List Int}, GangAt C H9 p ts hs → GangAt C (upd H9 D o) p ts hs := fun o {p ts hs} M => by
            obtain ⟨⟨z, dx, tk, hd, h1, h2, h3⟩, a, b⟩ := M
            exact ⟨⟨z, dx, tk, hd, g2 o _ _ _ _ h1, g1 o _ _ h2, g1 o _ _ h3⟩, a, b⟩
          refine ⟨ms, hms9, ?_, ms ++ [.ref x], upd_same, ?_, ?_, ?_⟩
          · exact Nat.lt_of_le_of_lt (show ms.length ≤ 2 by omega) (by decide)
          · rw [List.length_append, lms]
            rfl
          · intro j' e' hLj' hj'
            by_cases c : j' < j
            · obtain ⟨p, hp1, hp2⟩ := hM j' e' hLj' c
              exact ⟨p, (by rw [List.getElem?_append_left (by omega)]; exact hp1), gv _ (hp2.same s10)⟩
            · have ej : j' = j := by omega
              subst ej
              obtain rfl : e' = e := Option.some.inj (hLj'.symm.trans hLj)
              refine ⟨x, ?_, gv _ GA⟩
              rw [List.getElem?_append_right (by omega), lms, Nat.sub_self]
              rfl
          · intro b o e
            rw [upd_ne (ne_of_none e hD)]
            exact s10 _ _ (s8 _ _ e)
        rintro H8 ⟨ms, hms, lms, hM, s8⟩
        rw [List.length_map, lL] at lms
        have T8 := T7.same s8
        have hlr8 := s8 _ _ hlr7
        have hpc8 := s8 _ _ hpc7
        have hR8 : ∀ e ∈ L, RowOk H8 e := fun e he => (hR7 e he).same s8
        -- by turns
        refine ⟨4, rfl, by decide, by decide, ?_⟩
        refine for_range (lo := 0) (n := (4 : Int).toNat) (fun i σ H' => ∃ (v2 v5 v7 v8 v9 v10 : Option V), σ = [some (.ref a), some (.ref pc), v2, some (.ref t), some (.ref lr), v5, some (.ref D), v7, v8, v9, v10] ∧ Same H8 H')
          ⟨_, _, _, _, _, _, rfl, Same.refl _⟩ ?_ ?_
        · rintro i σ H' hi ⟨v2, v5, v7, v8, v9, v10, rfl, s9⟩
          have hj2 : i % 2 < L.length := by rw [lL]; exact Nat.mod_lt _ (by decide)
          have hLj : L[i % 2]? = some L[i % 2] := List.getElem?_eq_getElem hj2
          obtain ⟨p, hp1, hp2⟩ := hM (i % 2) _ hLj (by rw [List.length_map]; exact hj2)
          have R := (hR8 _ (List.getElem_mem hj2)).same s9
          generalize L[i % 2] = e at hLj hp2 R
          have ei : (0 + (i : Int)) % 2 = ((i % 2 : Nat) : Int) := by omega
          refine ⟨_, rfl, _, rfl, _, 2, rfl, rfl, (show (0 : Int) < 2 by decide), lr, _, _, _, rfl, rfl, SqL.of (s9 _ _ hlr8), at_of (j := i % 2) ei (by rw [List.getElem?_map, hLj]; rfl), ?_⟩
          refine ⟨e.r, _, rfl, SqT.of R.h1, rfl, _, _, rfl, _, _, rfl, _, _, rfl, rfl, ?_⟩
          refine ⟨_, rfl, _, rfl, _, 2, rfl, rfl, (show (0 : Int) < 2 by decide), D, _, _, _, rfl, rfl, SqL.of (s9 _ _ hms), at_of (j := i % 2) ei hp1, ?_⟩
          refine ⟨_, rfl, _, rfl, p, e.tk, e.hd, e.ts, e.hs, rfl, hp2.same s9, R.h2, R.h3, fun H10 s10 => ⟨true, rfl, iteF ?_⟩⟩
          exact ⟨_, _, _, _, _, _, rfl, s9.trans s10⟩
        rintro σ H9 ⟨v2, v5, v7, v8, v9, v10, rfl, s9⟩
        have T9 := T8.same s9
        have hlr9 := s9 _ _ hlr8
        have hpc9 := s9 _ _ hpc8
        have hR9 : ∀ e ∈ L, RowOk H9 e := fun e he => (hR8 e he).same s9
        -- each row again
        refine ⟨_, rfl, lr, rfl, ⟨_, SqL.of hlr9⟩, ?_⟩
        refine for_list (K := K) (a := lr) (xs := L.map fun e => V.ref e.r) (fun j σ H' => ∃ (v2 v5 v7 v8 v9 v10 : Option V), σ = [some (.ref a), some (.ref pc), v2, some (.ref t), some (.ref lr), v5, some (.ref D), v7, v8, v9, v10] ∧ TapeAt H' t (100 + (j : Int)) ∧ SameBut t H9 H')
          ⟨_, _, _, _, _, _, rfl, T9.mono (by omega), Same.but (Same.refl _)⟩ (fun j σ H' _ ⟨_, _, _, _, _, _, _, _, h⟩ => SqL.of (h _ _ hlr9 nlr)) ?_ ?_
        · rintro j x σ H' hj ⟨v2, v5, v7, v8, v9, v10, rfl, T', SB⟩
          obtain ⟨e, hLj, rfl⟩ := get_ref hj
          have hjl : j < 2 := by have := (List.getElem?_eq_some_iff.mp hLj).1; omega
          have R := (hR9 e (List.mem_of_getElem? hLj)).but SB T9
          refine ⟨e.r, _, rfl, SqT.of R.h1, rfl, _, _, rfl, _, _, rfl, _, _, rfl, rfl, ?_⟩
          refine ⟨_, rfl, _, rfl, _, rfl, t, e.tk, e.hd, _, e.ts, e.hs, rfl, T', by omega, R.h2, R.h3, R.ft, R.fh, fun ap xs Ls H10 lLs hap hF T10 S10 => ?_⟩
          have R10 := R.but S10 T'
          refine ⟨_, rfl, e.tk, _, rfl, SqT.of R10.h2, fun rv hrv => ?_⟩
          have s11 : Same H10 (upd H10 rv (.tup (e.ts.map V.int).reverse)) := same_new hrv
          have hrv11 : (upd H10 rv (.tup (e.ts.map V.int).reverse)) rv = some (.tup (e.ts.reverse.map V.int)) := by rw [upd_same, List.map_reverse]
          generalize upd H10 rv (.tup (e.ts.map V.int).reverse) = H11 at s11 hrv11
          refine ⟨(by show 1 ≤ sizeLine; decide), fun l1 hl1 => ?_⟩
          have s12 : Same H11 (upd H11 l1 (.lst [.ref rv])) := same_new hl1
          refine ⟨ap, l1, _, _, rfl, rfl, s12 _ _ (s11 _ _ hap), upd_same, ?_, fun lc hlc => ?_⟩
          · have := hF.len
            exact Nat.le_trans (show xs.length + 1 ≤ 4 by omega) (by decide)
          have s13 : Same H10 (upd (upd H11 l1 (.lst [.ref rv])) lc (.lst (xs ++ [.ref rv]))) := (s11.trans s12).trans (same_new hlc)
          have hlc13 : (upd (upd H11 l1 (.lst [.ref rv])) lc (.lst (xs ++ [.ref rv]))) lc = some (.lst (xs ++ [.ref rv])) := upd_same
          have hF13 : FoursAt (upd (upd H11 l1 (.lst [.ref rv])) lc (.lst (xs ++ [.ref rv]))) (xs ++ [.ref rv]) (Ls ++ [e.ts.reverse]) := (hF.move fun _ _ z => s13 _ _ z).snoc ((s12.trans (same_new hlc)) _ _ hrv11) (four_rev R.ft)
          refine ⟨lc, rfl, ⟨_, SqL.of hlc13⟩, ?_⟩
          generalize upd (upd H11 l1 (.lst [.ref rv])) lc (.lst (xs ++ [.ref rv])) = H13 at s13 hlc13 hF13
          have R13 := R10.same s13
          have T13 := T10.same s13
          refine for_list (K := K) (a := lc) (xs := xs ++ [.ref rv]) (fun j σ H' => ∃ (v2 v7 v10 : Option V), σ = [some (.ref a), some (.ref pc), v2, some (.ref t), some (.ref lr), some (.str e.z), some (.ref D), v7, some (.ref e.tk), some (.ref e.hd), v10] ∧ Same H13 H')
            ⟨_, _, _, rfl, Same.refl _⟩ (fun j σ H' _ ⟨_, _, _, _, h⟩ => SqL.of (h _ _ hlc13)) ?_ ?_
          · rintro m y σ H' hm ⟨v2, v7, v10, rfl, s14⟩
            obtain ⟨sm, us, rfl, hsm, fu⟩ := hF13.get hm
            have hsm' := s14 _ _ hsm
            have R14 := R13.same s14
            refine ⟨_, rfl, _, rfl, sm, _, rfl, .inr (SqT.of hsm'), fun l2 hl2 => ?_⟩
            have s15 : Same H' (upd H' l2 (.lst (us.map V.int))) := same_new hl2
            refine ⟨_, rfl, e.hd, _, rfl, .inr (SqT.of (s15 _ _ R14.h3)), fun l3 hl3 => ?_⟩
            have s16 : Same (upd H' l2 (.lst (us.map V.int))) (upd (upd H' l2 (.lst (us.map V.int))) l3 (.lst (e.hs.map V.int))) := same_new hl3
            have z2 : (upd (upd H' l2 (.lst (us.map V.int))) l3 (.lst (e.hs.map V.int))) l2 = some (.lst (us.map V.int)) := s16 _ _ upd_same
            have z3 : (upd (upd H' l2 (.lst (us.map V.int))) l3 (.lst (e.hs.map V.int))) l3 = some (.lst (e.hs.map V.int)) := upd_same
            have s17 := s15.trans s16
            refine fun x dx hx hdx ne => ?_
            have s18 : ∀ b o, (upd (upd H' l2 (.lst (us.map V.int))) l3 (.lst (e.hs.map V.int))) b = some o → (upd (upd (upd (upd H' l2 (.lst (us.map V.int))) l3 (.lst (e.hs.map V.int))) dx (.own x)) x (.ins C dx [])) b = some o := fun b o e => by
              rw [upd_ne (ne_of_none e hx), upd_ne (ne_of_none e hdx)]
              exact e
            refine ⟨x, dx, l2, l3, e.z, us, e.hs, rfl, upd_same, R14.gn, s18 _ _ z2, s18 _ _ z3, fu, R14.fh, fun H19 GA k4 => ⟨rfl, ?_⟩⟩
            have s19 : Same H' H19 := fun b o e => k4 b o (s18 b o (s17 b o e)) (ne_of_none (s17 b o e) hx)
            refine ⟨_, rfl, _, rfl, x, sm, e.hd, us, e.hs, rfl, GA, s19 _ _ hsm', s19 _ _ R14.h3, fun H20 s20 => ⟨true, rfl, iteF ?_⟩⟩
            exact ⟨_, _, _, rfl, (s14.trans s19).trans s20⟩
          · rintro σ H14 ⟨v2, v7, v10, rfl, s14⟩
            exact ⟨_, _, _, _, _, _, rfl, (T13.same s14).mono (by omega), ((SB.trans S10).trans (Same.but s13)).trans (Same.but s14)⟩
        · rintro σ H10 ⟨v2, v5, v7, v8, v9, v10, rfl, T10, SB⟩
          exact ⟨_, _, _, _, _, _, _, _, _, rfl, SB _ _ hpc9 npc⟩
      · rintro σ H2 ⟨v2, v3, v4, v5, v6, v7, v8, v9, v10, rfl, hpc2⟩
        exact q H2
end
end HP
namespace HP
open PySem L2
theorem all_mk {l : PySem.W.OpenLaw} {w : World} {K : PySem.W.Frag} {h : Heap} {mg : Str → Option Value} {fa : Addr} {C : Addr} {f_isn T_isn : Addr} {oc_isn kV_isn dc_isn pm_isn cd_isn ct_isn ot_isn : Value} {od_isn an_isn dt_isn : Option Addr} {sl_isn st_isn : Array (Option Value)} {n_isn : Nat} {f_isr : Addr} {oc_isr kV_isr dc_isr pm_isr cd_isr ct_isr : Value} {od_isr an_isr : Option Addr} {sl_isr : Array (Option Value)} {f_ism : Addr} {oc_ism kV_ism dc_ism pm_ism cd_ism ct_ism : Value} {od_ism an_ism : Option Addr} {sl_ism : Array (Option Value)} {f_afk : Addr} {oc_afk kV_afk dc_afk pm_afk cd_afk ct_afk : Value} {od_afk an_afk : Option Addr} {sl_afk : Array (Option Value)} {f_gcd : Addr} {oc_gcd kV_gcd dc_gcd pm_gcd cd_gcd ct_gcd : Value} {od_gcd an_gcd : Option Addr} {sl_gcd : Array (Option Value)} {f_tape : Addr} {oc_tape kV_tape dc_tape pm_tape cd_tape ct_tape : Value} {od_tape an_tape : Option Addr} {sl_tape : Array (Option Value)} {f_draw : Addr} {oc_draw kV_draw dc_draw pm_draw cd_draw ct_draw : Value} {od_draw an_draw : Option Addr} {sl_draw : Array (Option Value)} {f_fold : Addr} {oc_fold kV_fold dc_fold pm_fold cd_fold ct_fold : Value} {od_fold an_fold : Option Addr} {sl_fold : Array (Option Value)} {f_nam : Addr} {oc_nam kV_nam dc_nam pm_nam cd_nam ct_nam : Value} {od_nam an_nam : Option Addr} {sl_nam : Array (Option Value)} {f_tak : Addr} {oc_tak kV_tak dc_tak pm_tak cd_tak ct_tak : Value} {od_tak an_tak : Option Addr} {sl_tak : Array (Option Value)} {f_han : Addr} {oc_han kV_han dc_han pm_han cd_han ct_han : Value} {od_han an_han : Option Addr} {sl_han : Array (Option Value)} {f_same : Addr} {oc_same kV_same dc_same pm_same cd_same ct_same : Value} {od_same an_same : Option Addr} {sl_same : Array (Option Value)} {f_low : Addr} {oc_low kV_low dc_low pm_low cd_low ct_low : Value} {od_low an_low : Option Addr} {sl_low : Array (Option Value)} {f_bind : Addr} {oc_bind kV_bind dc_bind pm_bind cd_bind ct_bind : Value} {od_bind an_bind : Option Addr} {sl_bind : Array (Option Value)} {f_rig : Addr} {oc_rig kV_rig dc_rig pm_rig cd_rig ct_rig : Value} {od_rig an_rig : Option Addr} {sl_rig : Array (Option Value)} {f_abt : Addr} {oc_abt kV_abt dc_abt pm_abt cd_abt ct_abt : Value} {od_abt an_abt : Option Addr} {sl_abt : Array (Option Value)} {f_law : Addr} {oc_law kV_law dc_law pm_law cd_law ct_law : Value} {od_law an_law : Option Addr} {sl_law : Array (Option Value)} {f_init T_init : Addr} {oc_init kV_init dc_init pm_init cd_init ct_init ot_init : Value} {od_init an_init dt_init : Option Addr} {sl_init st_init : Array (Option Value)} {n_init : Nat} {f_thr : Addr} {oc_thr kV_thr dc_thr pm_thr cd_thr ct_thr : Value} {od_thr an_thr : Option Addr} {sl_thr : Array (Option Value)} {f_pace : Addr} {oc_pace kV_pace dc_pace pm_pace cd_pace ct_pace : Value} {od_pace an_pace : Option Addr} {sl_pace : Array (Option Value)} {f_bnd : Addr} {oc_bnd kV_bnd dc_bnd pm_bnd cd_bnd ct_bnd : Value} {od_bnd an_bnd : Option Addr} {sl_bnd : Array (Option Value)} {t1 : Tok} {t2 : Tok} {t3 : Tok} {t4 : Tok} {t5 : Tok} {t6 : Tok} (X : K.In h) (G : h.Ns mainGlobals mg) (hfa : mg "law" = some (.ref fa))
    (g_C : PySem.W.nsIn K mainGlobals "Gang" = some (some (.ref C)))
    (pg_C : PySem.W.plainGet K C Str.empty = true)
    (hd_C : PySem.W.hasDictIn K C = true)
    (po_C : PySem.W.plainOver K C = true)
    (sa_C : PySem.W.findIn K (.ref C) "__setattr__" = some (some (.builtin "object.__setattr__")))
    (mk_C : PySem.W.makesIn K C = true)
    (kc_C : PySem.W.keepIn K (.ref C) = true)
    (at_C_name : PySem.W.findIn K (.ref C) "name" = some none)
    (at_C_takes : PySem.W.findIn K (.ref C) "takes" = some none)
    (at_C_hands : PySem.W.findIn K (.ref C) "hands" = some none)
    (a_isn : PySem.W.nsIn K mainGlobals "is_number" = some (some (.ref f_isn)))
    (l_isn : K.lookup f_isn = some ⟨oc_isn, od_isn, .func (PySem.W.fnOf "is_number" "is_number" (defArgs sis_number) (defBody sis_number) (defScope sis_number) (.ref T_isn) kV_isn dc_isn pm_isn an_isn cd_isn ct_isn), sl_isn⟩)
    (c_isn : PySem.W.codeIn K cd_isn "is_number" = true)
    (k_isn : PySem.W.keepIn K (.ref f_isn) = true)
    (d_isn : K.lookup T_isn = some ⟨ot_isn, dt_isn, .seq #[.none] n_isn, st_isn⟩)
    (a_isr : PySem.W.nsIn K mainGlobals "is_row" = some (some (.ref f_isr)))
    (l_isr : K.lookup f_isr = some ⟨oc_isr, od_isr, .func (PySem.W.fnOf "is_row" "is_row" (defArgs sis_row) (defBody sis_row) (defScope sis_row) .none kV_isr dc_isr pm_isr an_isr cd_isr ct_isr), sl_isr⟩)
    (c_isr : PySem.W.codeIn K cd_isr "is_row" = true)
    (k_isr : PySem.W.keepIn K (.ref f_isr) = true)
    (a_ism : PySem.W.nsIn K mainGlobals "is_name" = some (some (.ref f_ism)))
    (l_ism : K.lookup f_ism = some ⟨oc_ism, od_ism, .func (PySem.W.fnOf "is_name" "is_name" (defArgs sis_name) (defBody sis_name) (defScope sis_name) .none kV_ism dc_ism pm_ism an_ism cd_ism ct_ism), sl_ism⟩)
    (c_ism : PySem.W.codeIn K cd_ism "is_name" = true)
    (k_ism : PySem.W.keepIn K (.ref f_ism) = true)
    (a_afk : PySem.W.nsIn K mainGlobals "are_for_kinds" = some (some (.ref f_afk)))
    (l_afk : K.lookup f_afk = some ⟨oc_afk, od_afk, .func (PySem.W.fnOf "are_for_kinds" "are_for_kinds" (defArgs sare_for_kinds) (defBody sare_for_kinds) (defScope sare_for_kinds) .none kV_afk dc_afk pm_afk an_afk cd_afk ct_afk), sl_afk⟩)
    (c_afk : PySem.W.codeIn K cd_afk "are_for_kinds" = true)
    (k_afk : PySem.W.keepIn K (.ref f_afk) = true)
    (a_gcd : PySem.W.nsIn K mainGlobals "common_divisor" = some (some (.ref f_gcd)))
    (l_gcd : K.lookup f_gcd = some ⟨oc_gcd, od_gcd, .func (PySem.W.fnOf "common_divisor" "common_divisor" (defArgs scommon_divisor) (defBody scommon_divisor) (defScope scommon_divisor) .none kV_gcd dc_gcd pm_gcd an_gcd cd_gcd ct_gcd), sl_gcd⟩)
    (c_gcd : PySem.W.codeIn K cd_gcd "common_divisor" = true)
    (k_gcd : PySem.W.keepIn K (.ref f_gcd) = true)
    (a_tape : PySem.W.nsIn K mainGlobals "_law_tape" = some (some (.ref f_tape)))
    (l_tape : K.lookup f_tape = some ⟨oc_tape, od_tape, .func (PySem.W.fnOf "_law_tape" "_law_tape" (defArgs sLtape) (defBody sLtape) (defScope sLtape) .none kV_tape dc_tape pm_tape an_tape cd_tape ct_tape), sl_tape⟩)
    (c_tape : PySem.W.codeIn K cd_tape "_law_tape" = true)
    (k_tape : PySem.W.keepIn K (.ref f_tape) = true)
    (a_draw : PySem.W.nsIn K mainGlobals "_law_draw" = some (some (.ref f_draw)))
    (l_draw : K.lookup f_draw = some ⟨oc_draw, od_draw, .func (PySem.W.fnOf "_law_draw" "_law_draw" (defArgs sLdraw) (defBody sLdraw) (defScope sLdraw) .none kV_draw dc_draw pm_draw an_draw cd_draw ct_draw), sl_draw⟩)
    (c_draw : PySem.W.codeIn K cd_draw "_law_draw" = true)
    (k_draw : PySem.W.keepIn K (.ref f_draw) = true)
    (a_fold : PySem.W.nsIn K mainGlobals "_law_folded" = some (some (.ref f_fold)))
    (l_fold : K.lookup f_fold = some ⟨oc_fold, od_fold, .func (PySem.W.fnOf "_law_folded" "_law_folded" (defArgs sLfolded) (defBody sLfolded) (defScope sLfolded) .none kV_fold dc_fold pm_fold an_fold cd_fold ct_fold), sl_fold⟩)
    (c_fold : PySem.W.codeIn K cd_fold "_law_folded" = true)
    (k_fold : PySem.W.keepIn K (.ref f_fold) = true)
    (a_nam : PySem.W.nsIn K mainGlobals "_law_names" = some (some (.ref f_nam)))
    (l_nam : K.lookup f_nam = some ⟨oc_nam, od_nam, .func (PySem.W.fnOf "_law_names" "_law_names" (defArgs sLnames) (defBody sLnames) (defScope sLnames) .none kV_nam dc_nam pm_nam an_nam cd_nam ct_nam), sl_nam⟩)
    (c_nam : PySem.W.codeIn K cd_nam "_law_names" = true)
    (k_nam : PySem.W.keepIn K (.ref f_nam) = true)
    (a_tak : PySem.W.nsIn K mainGlobals "_law_takes" = some (some (.ref f_tak)))
    (l_tak : K.lookup f_tak = some ⟨oc_tak, od_tak, .func (PySem.W.fnOf "_law_takes" "_law_takes" (defArgs sLtakes) (defBody sLtakes) (defScope sLtakes) .none kV_tak dc_tak pm_tak an_tak cd_tak ct_tak), sl_tak⟩)
    (c_tak : PySem.W.codeIn K cd_tak "_law_takes" = true)
    (k_tak : PySem.W.keepIn K (.ref f_tak) = true)
    (a_han : PySem.W.nsIn K mainGlobals "_law_hands" = some (some (.ref f_han)))
    (l_han : K.lookup f_han = some ⟨oc_han, od_han, .func (PySem.W.fnOf "_law_hands" "_law_hands" (defArgs sLhands) (defBody sLhands) (defScope sLhands) .none kV_han dc_han pm_han an_han cd_han ct_han), sl_han⟩)
    (c_han : PySem.W.codeIn K cd_han "_law_hands" = true)
    (k_han : PySem.W.keepIn K (.ref f_han) = true)
    (a_same : PySem.W.nsIn K mainGlobals "_law_same" = some (some (.ref f_same)))
    (l_same : K.lookup f_same = some ⟨oc_same, od_same, .func (PySem.W.fnOf "_law_same" "_law_same" (defArgs sLsame) (defBody sLsame) (defScope sLsame) .none kV_same dc_same pm_same an_same cd_same ct_same), sl_same⟩)
    (c_same : PySem.W.codeIn K cd_same "_law_same" = true)
    (k_same : PySem.W.keepIn K (.ref f_same) = true)
    (a_low : PySem.W.nsIn K mainGlobals "_law_lowest" = some (some (.ref f_low)))
    (l_low : K.lookup f_low = some ⟨oc_low, od_low, .func (PySem.W.fnOf "_law_lowest" "_law_lowest" (defArgs sLlowest) (defBody sLlowest) (defScope sLlowest) .none kV_low dc_low pm_low an_low cd_low ct_low), sl_low⟩)
    (c_low : PySem.W.codeIn K cd_low "_law_lowest" = true)
    (k_low : PySem.W.keepIn K (.ref f_low) = true)
    (a_bind : PySem.W.nsIn K mainGlobals "_law_binding" = some (some (.ref f_bind)))
    (l_bind : K.lookup f_bind = some ⟨oc_bind, od_bind, .func (PySem.W.fnOf "_law_binding" "_law_binding" (defArgs sLbinding) (defBody sLbinding) (defScope sLbinding) .none kV_bind dc_bind pm_bind an_bind cd_bind ct_bind), sl_bind⟩)
    (c_bind : PySem.W.codeIn K cd_bind "_law_binding" = true)
    (k_bind : PySem.W.keepIn K (.ref f_bind) = true)
    (a_rig : PySem.W.nsIn K mainGlobals "_law_right" = some (some (.ref f_rig)))
    (l_rig : K.lookup f_rig = some ⟨oc_rig, od_rig, .func (PySem.W.fnOf "_law_right" "_law_right" (defArgs sLright) (defBody sLright) (defScope sLright) .none kV_rig dc_rig pm_rig an_rig cd_rig ct_rig), sl_rig⟩)
    (c_rig : PySem.W.codeIn K cd_rig "_law_right" = true)
    (k_rig : PySem.W.keepIn K (.ref f_rig) = true)
    (a_abt : PySem.W.nsIn K mainGlobals "_law_about" = some (some (.ref f_abt)))
    (l_abt : K.lookup f_abt = some ⟨oc_abt, od_abt, .func (PySem.W.fnOf "_law_about" "_law_about" (defArgs sLabout) (defBody sLabout) (defScope sLabout) .none kV_abt dc_abt pm_abt an_abt cd_abt ct_abt), sl_abt⟩)
    (c_abt : PySem.W.codeIn K cd_abt "_law_about" = true)
    (k_abt : PySem.W.keepIn K (.ref f_abt) = true)
    (a_law : PySem.W.nsIn K mainGlobals "law" = some (some (.ref f_law)))
    (l_law : K.lookup f_law = some ⟨oc_law, od_law, .func (PySem.W.fnOf "law" "law" (defArgs slaw) (defBody slaw) (defScope slaw) .none kV_law dc_law pm_law an_law cd_law ct_law), sl_law⟩)
    (c_law : PySem.W.codeIn K cd_law "law" = true)
    (k_law : PySem.W.keepIn K (.ref f_law) = true)
    (a_init : PySem.W.findIn K (.ref C) "__init__" = some (some (.ref f_init)))
    (i_init : PySem.W.isFn K (.ref f_init) = true)
    (l_init : K.lookup f_init = some ⟨oc_init, od_init, .func (PySem.W.fnOf "__init__" "Gang.__init__" (defArgs sGang_init) (defBody sGang_init) (defScope sGang_init) (.ref T_init) kV_init dc_init pm_init an_init cd_init ct_init), sl_init⟩)
    (c_init : PySem.W.codeIn K cd_init "Gang.__init__" = true)
    (k_init : PySem.W.keepIn K (.ref f_init) = true)
    (d_init : K.lookup T_init = some ⟨ot_init, dt_init, .seq #[.none] n_init, st_init⟩)
    (a_thr : PySem.W.findIn K (.ref C) "through" = some (some (.ref f_thr)))
    (i_thr : PySem.W.isFn K (.ref f_thr) = true)
    (l_thr : K.lookup f_thr = some ⟨oc_thr, od_thr, .func (PySem.W.fnOf "through" "Gang.through" (defArgs sGang_through) (defBody sGang_through) (defScope sGang_through) .none kV_thr dc_thr pm_thr an_thr cd_thr ct_thr), sl_thr⟩)
    (c_thr : PySem.W.codeIn K cd_thr "Gang.through" = true)
    (k_thr : PySem.W.keepIn K (.ref f_thr) = true)
    (a_pace : PySem.W.findIn K (.ref C) "pace" = some (some (.ref f_pace)))
    (i_pace : PySem.W.isFn K (.ref f_pace) = true)
    (l_pace : K.lookup f_pace = some ⟨oc_pace, od_pace, .func (PySem.W.fnOf "pace" "Gang.pace" (defArgs sGang_pace) (defBody sGang_pace) (defScope sGang_pace) .none kV_pace dc_pace pm_pace an_pace cd_pace ct_pace), sl_pace⟩)
    (c_pace : PySem.W.codeIn K cd_pace "Gang.pace" = true)
    (k_pace : PySem.W.keepIn K (.ref f_pace) = true)
    (a_bnd : PySem.W.findIn K (.ref C) "binds" = some (some (.ref f_bnd)))
    (i_bnd : PySem.W.isFn K (.ref f_bnd) = true)
    (l_bnd : K.lookup f_bnd = some ⟨oc_bnd, od_bnd, .func (PySem.W.fnOf "binds" "Gang.binds" (defArgs sGang_binds) (defBody sGang_binds) (defScope sGang_binds) .none kV_bnd dc_bnd pm_bnd an_bnd cd_bnd ct_bnd), sl_bnd⟩)
    (c_bnd : PySem.W.codeIn K cd_bnd "Gang.binds" = true)
    (k_bnd : PySem.W.keepIn K (.ref f_bnd) = true)
    (z_len : PySem.W.nsIn K mainGlobals "len" = some none)
    (z_range : PySem.W.nsIn K mainGlobals "range" = some none)
    (z_enumerate : PySem.W.nsIn K mainGlobals "enumerate" = some none)
    (z_abs : PySem.W.nsIn K mainGlobals "abs" = some none)
    (z_min : PySem.W.nsIn K mainGlobals "min" = some none)
    (z_max : PySem.W.nsIn K mainGlobals "max" = some none)
    (z_any : PySem.W.nsIn K mainGlobals "any" = some none)
    (z_all : PySem.W.nsIn K mainGlobals "all" = some none)
    (z_sum : PySem.W.nsIn K mainGlobals "sum" = some none)
    (z_zip : PySem.W.nsIn K mainGlobals "zip" = some none)
    (z_divmod : PySem.W.nsIn K mainGlobals "divmod" = some none)
    (z_isinstance : PySem.W.nsIn K mainGlobals "isinstance" = some none)
    (z_int : PySem.W.nsIn K mainGlobals "int" = some none)
    (z_bool : PySem.W.nsIn K mainGlobals "bool" = some none)
    (z_list : PySem.W.nsIn K mainGlobals "list" = some none)
    (z_tuple : PySem.W.nsIn K mainGlobals "tuple" = some none)
    (z_str : PySem.W.nsIn K mainGlobals "str" = some none)
    (g_LETTERS : PySem.W.nsIn K mainGlobals "LETTERS" = some (some (.str (Str.ofString "abcdefghijklmnopqrstuvwxyz") t1)))
    (g_MOST_LETTERS : PySem.W.nsIn K mainGlobals "MOST_LETTERS" = some (some (.int 8 t2)))
    (g_KINDS : PySem.W.nsIn K mainGlobals "KINDS" = some (some (.int 4 t3)))
    (g_MOST_TAKE : PySem.W.nsIn K mainGlobals "MOST_TAKE" = some (some (.int 1000000 t4)))
    (g_MOST_HANDS : PySem.W.nsIn K mainGlobals "MOST_HANDS" = some (some (.int 4 t5)))
    (g_CLOSER : PySem.W.nsIn K mainGlobals "CLOSER" = some (some (.int 3 t6))) :
    ∃ fd : FuncData, (∀ (s : Shared) (v : Value), BindsTo s fd ⟨[v], []⟩ [("_law_script", v)]) ∧ ∀ base : Heap, K.In base → base.Ns mainGlobals mg → FnOk l.prog w K mg base CX0 5 fa fd ["_law_script"] (spLaw K) := by
  have e := hfa.symm.trans (PySem.W.mg_of X G a_law)
  cases e
  have T : Txt mg default default := ⟨PySem.W.mg_none_of X G z_len, PySem.W.mg_none_of X G z_range, PySem.W.mg_none_of X G z_enumerate, PySem.W.mg_none_of X G z_abs, PySem.W.mg_none_of X G z_min, PySem.W.mg_none_of X G z_max, PySem.W.mg_none_of X G z_any, PySem.W.mg_none_of X G z_all, PySem.W.mg_none_of X G z_sum, PySem.W.mg_none_of X G z_zip, PySem.W.mg_none_of X G z_divmod, PySem.W.mg_none_of X G z_isinstance, PySem.W.mg_none_of X G z_int, PySem.W.mg_none_of X G z_bool, PySem.W.mg_none_of X G z_list, PySem.W.mg_none_of X G z_tuple, PySem.W.mg_none_of X G z_str, ⟨_, PySem.W.mg_of X G g_LETTERS⟩, ⟨_, PySem.W.mg_of X G g_MOST_LETTERS⟩, ⟨_, PySem.W.mg_of X G g_KINDS⟩, ⟨_, PySem.W.mg_of X G g_MOST_TAKE⟩, ⟨_, PySem.W.mg_of X G g_MOST_HANDS⟩⟩
  have hCL : ∃ t, mg "CLOSER" = some (.int 3 t) := ⟨_, PySem.W.mg_of X G g_CLOSER⟩
  have GT : GangTxt K C := ⟨⟨pg_C, hd_C, po_C, sa_C⟩, at_C_name, at_C_takes, at_C_hands⟩
  have F_isn : FunD K "is_number" "is_number" (defArgs sis_number) (defBody sis_number) (defScope sis_number) [.non] [] f_isn _ := ⟨⟨_, _, _, _, _, _, _, _, _, _, rfl, l_isn, c_isn, .inr ⟨by simp, T_isn, _, [.none], _, rfl, d_isn, rfl, .cons rfl .nil⟩, .inl rfl⟩, k_isn⟩
  obtain ⟨ds_isn, vd_isn, b_isn⟩ := F_isn.binds1 (ps := ["thing", "least", "most"]) 3 1 (by simp) rfl fun T kV doc pm an cdv ct us its h1 h2 => match us, h1, its, h2 with | [_, _, _], _, [_], _ => ⟨_, rfl, rfl⟩
  cases vd_isn
  have F_isr := fun_mk (st := sis_row) l_isr c_isr k_isr
  have b_isr := F_isr.binds (ps := ["thing", "least", "most"]) fun _ _ _ _ _ _ us hl => match us, hl with | [_, _, _], _ => rfl
  have F_ism := fun_mk (st := sis_name) l_ism c_ism k_ism
  have b_ism := F_ism.binds (ps := ["thing"]) fun _ _ _ _ _ _ us hl => match us, hl with | [_], _ => rfl
  have F_afk := fun_mk (st := sare_for_kinds) l_afk c_afk k_afk
  have b_afk := F_afk.binds (ps := ["thing", "most"]) fun _ _ _ _ _ _ us hl => match us, hl with | [_, _], _ => rfl
  have F_gcd := fun_mk (st := scommon_divisor) l_gcd c_gcd k_gcd
  have b_gcd := F_gcd.binds (ps := ["one", "other"]) fun _ _ _ _ _ _ us hl => match us, hl with | [_, _], _ => rfl
  have F_tape := fun_mk (st := sLtape) l_tape c_tape k_tape
  have b_tape := F_tape.binds (ps := ["_law_script", "_law_k"]) fun _ _ _ _ _ _ us hl => match us, hl with | [_, _], _ => rfl
  have F_draw := fun_mk (st := sLdraw) l_draw c_draw k_draw
  have b_draw := F_draw.binds (ps := ["_law_tape_here", "_law_many"]) fun _ _ _ _ _ _ us hl => match us, hl with | [_, _], _ => rfl
  have F_fold := fun_mk (st := sLfolded) l_fold c_fold k_fold
  have b_fold := F_fold.binds (ps := ["_law_script", "_law_many"]) fun _ _ _ _ _ _ us hl => match us, hl with | [_, _], _ => rfl
  have F_nam := fun_mk (st := sLnames) l_nam c_nam k_nam
  have b_nam := F_nam.binds (ps := ["_law_tape_here", "_law_many"]) fun _ _ _ _ _ _ us hl => match us, hl with | [_, _], _ => rfl
  have F_tak := fun_mk (st := sLtakes) l_tak c_tak k_tak
  have b_tak := F_tak.binds (ps := ["_law_tape_here", "_law_most"]) fun _ _ _ _ _ _ us hl => match us, hl with | [_, _], _ => rfl
  have F_han := fun_mk (st := sLhands) l_han c_han k_han
  have b_han := F_han.binds (ps := ["_law_tape_here"]) fun _ _ _ _ _ _ us hl => match us, hl with | [_], _ => rfl
  have F_same := fun_mk (st := sLsame) l_same c_same k_same
  have b_same := F_same.binds (ps := ["_law_found", "_law_due"]) fun _ _ _ _ _ _ us hl => match us, hl with | [_, _], _ => rfl
  have F_low := fun_mk (st := sLlowest) l_low c_low k_low
  have b_low := F_low.binds (ps := ["_law_top", "_law_bottom"]) fun _ _ _ _ _ _ us hl => match us, hl with | [_, _], _ => rfl
  have F_bind := fun_mk (st := sLbinding) l_bind c_bind k_bind
  have b_bind := F_bind.binds (ps := ["_law_beats", "_law_many"]) fun _ _ _ _ _ _ us hl => match us, hl with | [_, _], _ => rfl
  have F_rig := fun_mk (st := sLright) l_rig c_rig k_rig
  have b_rig := F_rig.binds (ps := ["_law_gang", "_law_takes_here", "_law_hands_here"]) fun _ _ _ _ _ _ us hl => match us, hl with | [_, _, _], _ => rfl
  have F_abt := fun_mk (st := sLabout) l_abt c_abt k_abt
  have b_abt := F_abt.binds (ps := ["_law_tape_here", "_law_takes_here", "_law_hands_here"]) fun _ _ _ _ _ _ us hl => match us, hl with | [_, _, _], _ => rfl
  have F_pace := fun_mk (st := sGang_pace) l_pace c_pace k_pace
  have b_pace := F_pace.binds (ps := ["self"]) fun _ _ _ _ _ _ us hl => match us, hl with | [_], _ => rfl
  have F_bnd := fun_mk (st := sGang_binds) l_bnd c_bnd k_bnd
  have b_bnd := F_bnd.binds (ps := ["self"]) fun _ _ _ _ _ _ us hl => match us, hl with | [_], _ => rfl
  have F_thr := fun_mk (st := sGang_through) l_thr c_thr k_thr
  have b_thr := F_thr.binds (ps := ["self"]) fun _ _ _ _ _ _ us hl => match us, hl with | [_], _ => rfl
  have F_init : FunD K "__init__" "Gang.__init__" (defArgs sGang_init) (defBody sGang_init) (defScope sGang_init) [.non] [] f_init _ := ⟨⟨_, _, _, _, _, _, _, _, _, _, rfl, l_init, c_init, .inr ⟨by simp, T_init, _, [.none], _, rfl, d_init, rfl, .cons rfl .nil⟩, .inl rfl⟩, k_init⟩
  obtain ⟨ds1, vd1, b_init⟩ := F_init.binds1 (ps := ["self", "name", "takes", "hands"]) 4 1 (by simp) rfl fun T kV doc pm an cdv ct us its h1 h2 => match us, h1, its, h2 with | [_, _, _, _], _, [_], _ => ⟨_, rfl, rfl⟩
  cases vd1
  refine ⟨PySem.W.fnOf "law" "law" (defArgs slaw) (defBody slaw) (defScope slaw) .none kV_law dc_law pm_law an_law cd_law ct_law, fun s v => .of_eq rfl, fun base _ _ => ?_⟩
  have Disn : Df l.prog w K mg base "is_number" 1 ["thing", "least", "most"] spIsNumber := ⟨⟨_, _, ok_is_number F_isn T, PySem.W.mg_of X G a_isn, k_isn, b_isn⟩⟩
  have Disr : Df l.prog w K mg base "is_row" 1 ["thing", "least", "most"] spIsRow := ⟨⟨_, _, ok_is_row F_isr T, PySem.W.mg_of X G a_isr, k_isr, b_isr⟩⟩
  have DisrL : Df l.prog w K mg base "is_row" 1 ["thing", "least", "most"] spIsRowL := ⟨⟨_, _, ok_is_rowL F_isr T, PySem.W.mg_of X G a_isr, k_isr, b_isr⟩⟩
  have Dism : Df l.prog w K mg base "is_name" 1 ["thing"] spIsName := ⟨⟨_, _, ok_is_name F_ism T, PySem.W.mg_of X G a_ism, k_ism, b_ism⟩⟩
  have Dafk : Df l.prog w K mg base "are_for_kinds" 2 ["thing", "most"] spKinds := ⟨⟨_, _, ok_kinds F_afk T Disr Disn, PySem.W.mg_of X G a_afk, k_afk, b_afk⟩⟩
  have DafkL : Df l.prog w K mg base "are_for_kinds" 2 ["thing", "most"] spKindsL := ⟨⟨_, _, ok_kindsL F_afk T DisrL Disn, PySem.W.mg_of X G a_afk, k_afk, b_afk⟩⟩
  have Dgcd : Df l.prog w K mg base "common_divisor" 1 ["one", "other"] spGcd := ⟨⟨_, _, ok_gcd F_gcd, PySem.W.mg_of X G a_gcd, k_gcd, b_gcd⟩⟩
  have Ddraw : Df l.prog w K mg base "_law_draw" 1 ["_law_tape_here", "_law_many"] spDraw := ⟨⟨_, _, ok_draw F_draw, PySem.W.mg_of X G a_draw, k_draw, b_draw⟩⟩
  have Dtape : Df l.prog w K mg base "_law_tape" 1 ["_law_script", "_law_k"] (spTape K) := ⟨⟨_, _, ok_tape F_tape T, PySem.W.mg_of X G a_tape, k_tape, b_tape⟩⟩
  have Dfold : Df l.prog w K mg base "_law_folded" 1 ["_law_script", "_law_many"] (spFolded K) := ⟨⟨_, _, ok_folded F_fold T, PySem.W.mg_of X G a_fold, k_fold, b_fold⟩⟩
  have Dnam : Df l.prog w K mg base "_law_names" 2 ["_law_tape_here", "_law_many"] spNames := ⟨⟨_, _, ok_names F_nam T Ddraw, PySem.W.mg_of X G a_nam, k_nam, b_nam⟩⟩
  have Dtak : Df l.prog w K mg base "_law_takes" 2 ["_law_tape_here", "_law_most"] spTakes := ⟨⟨_, _, ok_takes F_tak T Ddraw, PySem.W.mg_of X G a_tak, k_tak, b_tak⟩⟩
  have Dhan : Df l.prog w K mg base "_law_hands" 2 ["_law_tape_here"] spHands := ⟨⟨_, _, ok_hands F_han T Ddraw, PySem.W.mg_of X G a_han, k_han, b_han⟩⟩
  have Dsame : Df l.prog w K mg base "_law_same" 1 ["_law_found", "_law_due"] spSame1 := ⟨⟨_, _, ok_same1 F_same T, PySem.W.mg_of X G a_same, k_same, b_same⟩⟩
  have Dsame2 : Df l.prog w K mg base "_law_same" 2 ["_law_found", "_law_due"] spSame2 := ⟨⟨_, _, ok_same2 F_same T Dsame, PySem.W.mg_of X G a_same, k_same, b_same⟩⟩
  have Dsame3 : Df l.prog w K mg base "_law_same" 3 ["_law_found", "_law_due"] spSame3 := ⟨⟨_, _, ok_same3 F_same T Dsame2, PySem.W.mg_of X G a_same, k_same, b_same⟩⟩
  have Dlow : Df l.prog w K mg base "_law_lowest" 1 ["_law_top", "_law_bottom"] spLowest := ⟨⟨_, _, ok_lowest F_low, PySem.W.mg_of X G a_low, k_low, b_low⟩⟩
  have Dbind : Df l.prog w K mg base "_law_binding" 1 ["_law_beats", "_law_many"] spBinding := ⟨⟨_, _, ok_binding F_bind T, PySem.W.mg_of X G a_bind, k_bind, b_bind⟩⟩
  have Dabt : Df l.prog w K mg base "_law_about" 2 ["_law_tape_here", "_law_takes_here", "_law_hands_here"] spAbout := ⟨⟨_, _, ok_about F_abt T Ddraw Dbind, PySem.W.mg_of X G a_abt, k_abt, b_abt⟩⟩
  have Dpace : Dm l.prog w K mg base C "pace" 2 ["self"] (spPace C) := ⟨⟨f_pace, _, ok_pace F_pace T GT Dgcd, GT.cl, ⟨a_pace, i_pace, k_pace⟩, b_pace⟩⟩
  have Dbnd : Dm l.prog w K mg base C "binds" 3 ["self"] (spBinds C) := ⟨⟨f_bnd, _, ok_binds F_bnd T GT Dpace, GT.cl, ⟨a_bnd, i_bnd, k_bnd⟩, b_bnd⟩⟩
  have Dthr : Dm l.prog w K mg base C "through" 1 ["self"] (spThrough C) := ⟨⟨f_thr, _, ok_through F_thr T hCL GT, GT.cl, ⟨a_thr, i_thr, k_thr⟩, b_thr⟩⟩
  have DG : DGk l.prog w K mg base C := ⟨⟨f_init, _, ⟨mk_C, a_init, i_init, kc_C⟩, ok_ginit F_init T GT Dism Dafk, PySem.W.mg_of X G g_C, b_init⟩⟩
  have DG2 : DGL l.prog w K mg base C := ⟨⟨f_init, _, ⟨mk_C, a_init, i_init, kc_C⟩, ok_ginitL F_init T GT Dism DafkL, PySem.W.mg_of X G g_C, b_init⟩⟩
  have Drig : Df l.prog w K mg base "_law_right" 4 ["_law_gang", "_law_takes_here", "_law_hands_here"] (spRight C) := ⟨⟨_, _, ok_right F_rig T Dbind Dlow Dbnd Dpace Dthr Dsame Dsame3, PySem.W.mg_of X G a_rig, k_rig, b_rig⟩⟩
  exact ok_law (fun_mk (st := slaw) l_law c_law k_law) T Dfold Dtape Dtak Dhan Dnam DG DG2 Dabt Drig
theorem walk {l : PySem.W.OpenLaw} {q : Program} {loose : List Str} {XP : (Str → Option Value) → Heap → Prop} {YP : World → Heap → Prop} {d : DefRec} {K : Params → PySem.W.Frag} (hn : l.most = some 63) (hdf : d.params.defaults = [])
    (hY : ∀ (w : World) (h : Heap), YP w h → (K w.params).In h)
    (F : ∀ (w : World) (mg : Str → Option Value) (fa : Addr) (h : Heap), (K w.params).In h → h.Ns mainGlobals mg → mg d.name = some (.ref fa) →
      ∃ fd : FuncData, (∀ (s : Shared) (u : Value), BindsTo s fd ⟨[u], []⟩ [("_law_script", u)]) ∧ ∀ base : Heap, (K w.params).In base → base.Ns mainGlobals mg → FnOk l.prog w (K w.params) mg base CX0 5 fa fd ["_law_script"] (spLaw (K w.params))) :
    PySem.W.WalkO q loose XP YP l.row.toRowW d [] (fun f vs => PySem.call f vs) :=
  L2.walk_of (n := 63) (k := 5) (x := "_law_script") (CX := fun _ => CX0) (sp := fun w => spLaw (K w.params)) hn (by decide) hdf ⟨rfl, by decide, by decide⟩ hY F (fun _ _ a ns hl _ hS => ⟨a, ns, rfl, hS, hl, fun _ => rfl⟩) fun _ _ _ _ _ z => z
end HP
open PySem PySem.W PyProof.Rows in
set_option maxRecDepth 100000 in
set_option maxHeartbeats 0 in
theorem PySem.Challenge.cw_hotpass_k08_paces_and_who_binds_holds : PySem.Challenge.rw_hotpass_k08_paces_and_who_binds.Holds := by
  w_on; o_law; k_head; (case hw => w_witness2)
  k_fill
  refine HP.walk (l := PySem.Challenge.rw_hotpass_k08_paces_and_who_binds) rfl rfl (fun w h Y => PySem.W.kIn_of Y) ?F
  case F =>
    intro w mg fa h KX G hmg
    refine' HP.all_mk KX G hmg ?g_C ?pg_C ?hd_C ?po_C ?sa_C ?mk_C ?kc_C ?at_C_name ?at_C_takes ?at_C_hands ?a_isn ?l_isn ?c_isn ?k_isn ?d_isn ?a_isr ?l_isr ?c_isr ?k_isr ?a_ism ?l_ism ?c_ism ?k_ism ?a_afk ?l_afk ?c_afk ?k_afk ?a_gcd ?l_gcd ?c_gcd ?k_gcd ?a_tape ?l_tape ?c_tape ?k_tape ?a_draw ?l_draw ?c_draw ?k_draw ?a_fold ?l_fold ?c_fold ?k_fold ?a_nam ?l_nam ?c_nam ?k_nam ?a_tak ?l_tak ?c_tak ?k_tak ?a_han ?l_han ?c_han ?k_han ?a_same ?l_same ?c_same ?k_same ?a_low ?l_low ?c_low ?k_low ?a_bind ?l_bind ?c_bind ?k_bind ?a_rig ?l_rig ?c_rig ?k_rig ?a_abt ?l_abt ?c_abt ?k_abt ?a_law ?l_law ?c_law ?k_law ?a_init ?i_init ?l_init ?c_init ?k_init ?d_init ?a_thr ?i_thr ?l_thr ?c_thr ?k_thr ?a_pace ?i_pace ?l_pace ?c_pace ?k_pace ?a_bnd ?i_bnd ?l_bnd ?c_bnd ?k_bnd ?z_len ?z_range ?z_enumerate ?z_abs ?z_min ?z_max ?z_any ?z_all ?z_sum ?z_zip ?z_divmod ?z_isinstance ?z_int ?z_bool ?z_list ?z_tuple ?z_str ?g_LETTERS ?g_MOST_LETTERS ?g_KINDS ?g_MOST_TAKE ?g_MOST_HANDS ?g_CLOSER
    (case g_C => k_is)
    (case pg_C => k_is)
    (case hd_C => k_is)
    (case po_C => k_is)
    (case sa_C => k_is)
    (case mk_C => k_is)
    (case kc_C => k_is)
    (case at_C_name => k_is)
    (case at_C_takes => k_is)
    (case at_C_hands => k_is)
    (case a_isn => k_is)
    (case l_isn => k_is)
    (case c_isn => k_is)
    (case k_isn => k_is)
    (case d_isn => k_is)
    (case a_isr => k_is)
    (case l_isr => k_is)
    (case c_isr => k_is)
    (case k_isr => k_is)
    (case a_ism => k_is)
    (case l_ism => k_is)
    (case c_ism => k_is)
    (case k_ism => k_is)
    (case a_afk => k_is)
    (case l_afk => k_is)
    (case c_afk => k_is)
    (case k_afk => k_is)
    (case a_gcd => k_is)
    (case l_gcd => k_is)
    (case c_gcd => k_is)
    (case k_gcd => k_is)
    (case a_tape => k_is)
    (case l_tape => k_is)
    (case c_tape => k_is)
    (case k_tape => k_is)
    (case a_draw => k_is)
    (case l_draw => k_is)
    (case c_draw => k_is)
    (case k_draw => k_is)
    (case a_fold => k_is)
    (case l_fold => k_is)
    (case c_fold => k_is)
    (case k_fold => k_is)
    (case a_nam => k_is)
    (case l_nam => k_is)
    (case c_nam => k_is)
    (case k_nam => k_is)
    (case a_tak => k_is)
    (case l_tak => k_is)
    (case c_tak => k_is)
    (case k_tak => k_is)
    (case a_han => k_is)
    (case l_han => k_is)
    (case c_han => k_is)
    (case k_han => k_is)
    (case a_same => k_is)
    (case l_same => k_is)
    (case c_same => k_is)
    (case k_same => k_is)
    (case a_low => k_is)
    (case l_low => k_is)
    (case c_low => k_is)
    (case k_low => k_is)
    (case a_bind => k_is)
    (case l_bind => k_is)
    (case c_bind => k_is)
    (case k_bind => k_is)
    (case a_rig => k_is)
    (case l_rig => k_is)
    (case c_rig => k_is)
    (case k_rig => k_is)
    (case a_abt => k_is)
    (case l_abt => k_is)
    (case c_abt => k_is)
    (case k_abt => k_is)
    (case a_law => k_is)
    (case l_law => k_is)
    (case c_law => k_is)
    (case k_law => k_is)
    (case a_init => k_is)
    (case i_init => k_is)
    (case l_init => k_is)
    (case c_init => k_is)
    (case k_init => k_is)
    (case d_init => k_is)
    (case a_thr => k_is)
    (case i_thr => k_is)
    (case l_thr => k_is)
    (case c_thr => k_is)
    (case k_thr => k_is)
    (case a_pace => k_is)
    (case i_pace => k_is)
    (case l_pace => k_is)
    (case c_pace => k_is)
    (case k_pace => k_is)
    (case a_bnd => k_is)
    (case i_bnd => k_is)
    (case l_bnd => k_is)
    (case c_bnd => k_is)
    (case k_bnd => k_is)
    (case z_len => k_is)
    (case z_range => k_is)
    (case z_enumerate => k_is)
    (case z_abs => k_is)
    (case z_min => k_is)
    (case z_max => k_is)
    (case z_any => k_is)
    (case z_all => k_is)
    (case z_sum => k_is)
    (case z_zip => k_is)
    (case z_divmod => k_is)
    (case z_isinstance => k_is)
    (case z_int => k_is)
    (case z_bool => k_is)
    (case z_list => k_is)
    (case z_tuple => k_is)
    (case z_str => k_is)
    (case g_LETTERS => k_is)
    (case g_MOST_LETTERS => k_is)
    (case g_KINDS => k_is)
    (case g_MOST_TAKE => k_is)
    (case g_MOST_HANDS => k_is)
    (case g_CLOSER => k_is)

