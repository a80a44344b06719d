import PyProof.Rows.All
import Wide.All
import OpenK.AllK
import Wide.FinOn
import HandS.Base
import HandS.Call
import HandS.List
import HandS.Comp
import HandS.Ends
import HandS.Iter
import HandS.Text
import HandS.Words
import HandS.WordsList
import HandS.IsInst
import HandS.Wide
import HandS.Defaults
import HandS.MakeKw
import HandS.Style
import HandS.Codes
import KE.KEqSeq
import HandS.Zip
import HandS.NoneIn
import HandS.TupAny
import KE.KTupSum
import KE.KRevSl
import PySem.Challenge.RW_hotpass_k10_least_ends_piece_by_piece
set_option Elab.async false
set_option linter.all false
set_option maxRecDepth 100000
set_option maxHeartbeats 4000000
namespace HP
open PySem L2
def top (i : Nat) : Stmt := PySem.Challenge.pw_hotpass_k10_least_ends_piece_by_piece.main.body.getD i (.Pass ⟨0, 0, 0, 0⟩)
/-! ### a def called by its name -/
structure Df (P : Program) (w : World) (K : PySem.W.Frag) (mg : Str → Option Value) (base : Heap) (x : Str) (k : Nat) (ps : List Str) (sp : Sp) : Prop where
  ex : ∃ (f : Addr) (fd : FuncData), FnOk P w K mg base CX0 k f fd ps sp ∧ mg x = some (.ref f) ∧ PySem.W.keepIn K (.ref f) = true ∧ Binds K fd ps []
theorem pe_fn {X : Cx} {x : Str} {k : Nat} {ps : List Str} {sp : Sp} {p pos : Pos} {e : Expr} {es : List Expr} {t : TA} (D : Df X.prog X.w X.K X.mg X.base x k ps sp) (hr : Room k X.A) (ha : PA X (e :: es) t)
    (hg : Gl X x := by rfl) (hdb : (x == ("__debug__" : Str)) = false := by decide) (he : starEach (e :: es) X.env = (false, eval e X.env) :: starEach es X.env := by rfl) (hpl : (backTo pos (starEach es X.env)).any (·.1) = false := by rfl) :
    PE X (.Call (.Name x p) (e :: es) [] pos) (tCall sp [] E0 t) := by
  obtain ⟨f, fd, F, hm, kp, b⟩ := D.ex
  exact pe_call F hr hg hm kp b .nil pass0 ha hdb he hpl
/-! ### o.m(k = v) -/
def tMethK (C : Addr) (m : Str) (n : Nat) (sp : Sp) (gV : List V → List V → List V) (E : XK) (ta : TE) (tk : TA) : TE := fun σ H Q => ta σ H fun x H1 => ∃ a dx fs, x = .ref a ∧ H1 a = some (.ins C dx fs) ∧ fs.lookup m = none ∧
  tk σ H1 fun zs H2 => zs.length = n ∧ sp (gV [x] zs) H2 Q E
theorem pe_methK0 {X : Cx} {CX : CXT} {k : Nat} {f C : Addr} {fd : FuncData} {ps ks : List Str} {sp : Sp} {E : XK} {m : Str} {apos pos : Pos} {o : Expr} {kws : List Keyword} {ta : TE} {tk : TA} {g : List Value → List Value → List Value} {gV : List V → List V → List V} {pl : Sem Bool}
    (he : PE X o ta) (c : Cls X.K C) (hm : Meth X.K C m f) (F : FnOk X.prog X.w X.K X.mg X.base CX k f fd ps sp) (hr : Room k X.A) (hb : KBn X.K fd ps 1 ks g gV) (hx : Passes CX X E) (hkw : PK X kws tk)
    (hall : (backToKw pos (keywordEach kws X.env)).all (·.1.isSome) = true := by rfl) (hks : (backToKw pos (keywordEach kws X.env)).filterMap (·.1) = ks := by rfl)
    (hpl : ((backTo pos (starEach [] X.env)).any (·.1) || (backToKw pos (keywordEach kws X.env)).any (·.1.isNone)) = false := by rfl)
    (ht : eval (.Call (.Attribute o m apos) [] kws pos) X.env = (do
      let ov ← eval o X.env
      standAt apos.atName
      let (f, first) ← holding [ov] (getMethod ov m pl)
      callWith pos f first (backTo pos (starEach [] X.env)) (backToKw pos (keywordEach kws X.env))) := by rfl) :
    PE X (.Call (.Attribute o m apos) [] kws pos) (tMethK C m ks.length sp gV E ta tk) := by
  refine ⟨fun pins s σ H Q I h => ?_⟩
  refine PySem.W.methodCall_KW (pl := pl) (thn (he.run pins s σ H _ I h) fun u s1 ⟨x, H1, I1, rx, a, dx, fs, ex, ea, l, q⟩ => ?_) ht
  subst ex
  obtain rfl : u = Value.ref a := rx
  refine getmeth_ok I1 ea c hm l ?_
  refine PySem.W.callWith_KW0 (first := [.ref a]) (h₀ := X.base) I.ok.mod.kin hm.kp hall ?_ hpl
  refine thn (hkw.run pos pins s1 σ H1 _ I1 q) fun ws s2 ⟨zs, H2, I2, rz, l2, q2⟩ => ⟨I2.kIn, ?_⟩
  rw [hks]
  exact run_fnN (us := [.ref a]) (vs := [.ref a]) F hr hb hx I2 (.cons rfl .nil) rz rfl l2 q2
/-! ### the names of Python's own that the text reads, its constants -/
structure Txt (mg : Str → Option Value) (tM tL : Tok) : Prop where
  zlen : mg "len" = none
  zrange : mg "range" = none
  zenumerate : mg "enumerate" = none
  zabs : mg "abs" = none
  zmin : mg "min" = none
  zmax : mg "max" = none
  zany : mg "any" = none
  zall : mg "all" = none
  zsum : mg "sum" = none
  zzip : mg "zip" = none
  zdivmod : mg "divmod" = none
  zisinstance : mg "isinstance" = none
  zint : mg "int" = none
  zbool : mg "bool" = none
  zlist : mg "list" = none
  ztuple : mg "tuple" = none
  zstr : mg "str" = none
  gLETTERS : ∃ t, mg "LETTERS" = some (.str (Str.ofString "abcdefghijklmnopqrstuvwxyz") t)
  gMOST_LETTERS : ∃ t, mg "MOST_LETTERS" = some (.int 8 t)
  gKINDS : ∃ t, mg "KINDS" = some (.int 4 t)
  gMOST_TAKE : ∃ t, mg "MOST_TAKE" = some (.int 1000000 t)
  gMOST_HANDS : ∃ t, mg "MOST_HANDS" = some (.int 4 t)
theorem pe_gi {X : Cx} {x : Str} {i : Int} {pos : Pos} (h : ∃ t, X.mg x = some (.int i t)) (hg : Gl X x := by rfl) (hd : (x == ("__debug__" : Str)) = false := by decide) : PE X (.Name x pos) (tC (.int i)) := by
  obtain ⟨t, h⟩ := h
  exact pe_glob hg h ⟨_, rfl⟩ hd
theorem pe_gs {X : Cx} {x z : Str} {pos : Pos} (h : ∃ t, X.mg x = some (.str z t)) (hg : Gl X x := by rfl) (hd : (x == ("__debug__" : Str)) = false := by decide) : PE X (.Name x pos) (tC (.str z)) := by
  obtain ⟨t, h⟩ := h
  exact pe_glob hg h ⟨_, rfl⟩ hd
theorem iteD {c A B : Prop} [Decidable c] (h1 : c → A) (h2 : ¬ c → B) : if decide c = true then A else B := by
  by_cases h : c
  · rw [decide_eq_true h, if_pos rfl]
    exact h1 h
  · rw [decide_eq_false h, if_neg Bool.false_ne_true]
    exact h2 h
/-! ### heaps -/
/-- all but t is as it was -/
def SameBut (t : Addr) (H H' : Hp) : Prop := ∀ b o, H b = some o → b ≠ t → H' b = some o
theorem SameBut.trans {t : Addr} {H H1 H2 : Hp} (a : SameBut t H H1) (b : SameBut t H1 H2) : SameBut t H H2 := fun c o h n => b c o (a c o h n) n
theorem Same.but {t : Addr} {H H' : Hp} (s : Same H H') : SameBut t H H' := fun b o h _ => s b o h
theorem same_new {H : Hp} {p : Addr} {o : HO} (h : H p = none) : Same H (upd H p o) := fun b u e => by
  rw [upd_ne (ne_of_none e h)]
  exact e
/-- a tape of which at most c numbers were counted -/
def TapeAt (H : Hp) (t : Addr) (c : Int) : Prop := ∃ a b k : Int, H t = some (.lst [.int a, .int b, .int k]) ∧ 0 ≤ a ∧ 0 ≤ b ∧ b ≤ 2305843009300000000 ∧ 0 ≤ k ∧ k ≤ c
theorem TapeAt.mono {H : Hp} {t : Addr} {c d : Int} (h : TapeAt H t c) (l : c ≤ d) : TapeAt H t d := by
  obtain ⟨a, b, k, h1, h2, h3, h4, h5, h6⟩ := h
  exact ⟨a, b, k, h1, h2, h3, h4, h5, Int.le_trans h6 l⟩
theorem TapeAt.same {H H' : Hp} {t : Addr} {c : Int} (h : TapeAt H t c) (s : Same H H') : TapeAt H' t c := by
  obtain ⟨a, b, k, h1, h2⟩ := h
  exact ⟨a, b, k, s _ _ h1, h2⟩
theorem TapeAt.some {H : Hp} {t : Addr} {c : Int} (h : TapeAt H t c) : ∃ zs, H t = some (.lst zs) := by
  obtain ⟨a, b, k, h1, h2⟩ := h
  exact ⟨_, h1⟩
theorem SameBut.tup {t : Addr} {c : Int} {H H' : Hp} {a : Addr} {xs : List V} (s : SameBut t H H') (ht : TapeAt H t c) (h : H a = some (.tup xs)) : H' a = some (.tup xs) := by
  obtain ⟨zs, hz⟩ := ht.some
  exact s _ _ h (ne_of h hz (by intro z; cases z))
theorem SameBut.ins {t : Addr} {c : Int} {H H' : Hp} {a C dx : Addr} {fs : List (Str × V)} (s : SameBut t H H') (ht : TapeAt H t c) (h : H a = some (.ins C dx fs)) : H' a = some (.ins C dx fs) := by
  obtain ⟨zs, hz⟩ := ht.some
  exact s _ _ h (ne_of h hz (by intro z; cases z))
/-- pairs of numbers, each a tuple -/
inductive PairsAt (H : Hp) : List V → List (Int × Int) → Prop
  | nil : PairsAt H [] []
  | cons {t : Addr} {m l : Int} {xs : List V} {L : List (Int × Int)} (h : H t = some (.tup [.int m, .int l])) (r : PairsAt H xs L) : PairsAt H (.ref t :: xs) ((m, l) :: L)
theorem PairsAt.len {H : Hp} {xs : List V} {L : List (Int × Int)} (h : PairsAt H xs L) : xs.length = L.length := by
  induction h with
  | nil => rfl
  | cons _ _ ih => rw [List.length_cons, List.length_cons, ih]
theorem PairsAt.get {H : Hp} {xs : List V} {L : List (Int × Int)} (h : PairsAt H xs L) : ∀ {i : Nat} {x : V}, xs[i]? = some x → ∃ t m l, x = .ref t ∧ H t = some (.tup [.int m, .int l]) ∧ L[i]? = some (m, l) := by
  induction h with
  | nil => intro i x e; simp at e
  | @cons t m l xs L h1 r ih =>
    intro i x e
    cases i with
    | zero =>
      have e' : V.ref t = x := Option.some.inj e
      exact ⟨t, m, l, e'.symm, h1, rfl⟩
    | succ j => exact ih (i := j) e
theorem PairsAt.move {H H' : Hp} {xs : List V} {L : List (Int × Int)} (h : PairsAt H xs L) (s : ∀ a ys, H a = some (.tup ys) → H' a = some (.tup ys)) : PairsAt H' xs L := by
  induction h with
  | nil => exact .nil
  | cons h1 _ ih => exact .cons (s _ _ h1) ih
theorem PairsAt.snoc {H : Hp} {xs : List V} {L : List (Int × Int)} {t : Addr} {m l : Int} (h : PairsAt H xs L) (ht : H t = some (.tup [.int m, .int l])) : PairsAt H (xs ++ [.ref t]) (L ++ [(m, l)]) := by
  induction h with
  | nil => exact .cons ht .nil
  | cons h1 _ ih => exact .cons h1 ih
theorem PairsAt.take {H : Hp} {xs : List V} {L : List (Int × Int)} (h : PairsAt H xs L) : ∀ n : Nat, PairsAt H (xs.take n) (L.take n) := by
  induction h with
  | nil => intro n; simp only [List.take_nil]; exact .nil
  | cons h1 _ ih =>
    intro n
    cases n with
    | zero => exact .nil
    | succ j => exact .cons h1 (ih j)
def GoodL (L : List (Int × Int)) : Prop := L ≠ [] ∧ L.length ≤ 6 ∧ ∀ p ∈ L, 1 ≤ p.1 ∧ p.1 ≤ 1000000 ∧ 0 ≤ p.2 ∧ p.2 ≤ 1000000
/-! ### _law_draw -/
def spDraw : Sp := fun vs H Q _ => ∃ (t : Addr) (c many : Int), vs = [.ref t, .int many] ∧ TapeAt H t c ∧ c ≤ 100000 ∧ 0 < many ∧ many ≤ 10000000000000 ∧
  ∀ (r : Int) (H' : Hp), 0 ≤ r → r < many → TapeAt H' t (c + 1) → SameBut t H H' → Q (.int r) H'
section
variable {P : Program} {w : World} {K : PySem.W.Frag} {mg : Str → Option Value} {base : Heap}
abbrev sLdraw : Stmt := top 23
theorem scLdraw : FnScope ["_law_tape_here", "_law_a_many", "_law_found", "_law_once", "_law_twice", "_law_wide"] ["_law_tape_here", "_law_a_many"] (defScope sLdraw) := ⟨rfl, rfl, rfl, by decide +kernel, rfl, by decide +kernel, by decide +kernel⟩
theorem wd {i j : Int} (h : 0 < j) (h2 : j ≤ 10000000000000) : CDivW i j := wide_div (b := 64) h (by omega) (by decide) (by decide)
theorem ok_draw {f : Addr} {fd : FuncData} (F : Fun K "_law_draw" "_law_draw" sLdraw f fd) : FnOk P w K mg base CX0 1 f fd ["_law_tape_here", "_law_a_many"] spDraw := by
  refine F.ok scLdraw (fun vs H Q E h => ?_) (fun cdv A outer s H vs Q E hr h => ?_)
  · obtain ⟨t, c, many, rfl, _⟩ := h
    rfl
  · obtain ⟨t, c, many, rfl, ⟨a, b, k, ht, ha, hb, hb2, hk, hkc⟩, hc, hm, hm2, q⟩ := h
    refine ⟨_, (pss_cons (ps_if (pt_cmp (pc_gt (pe_ix ix_list (pv 0) pe_int (fun _ _ => rfl)) pe_int)) (pss_cons (ps_set (i := 2) scLdraw.nd rfl (Or.inl rfl) (pe_op op_mod (pe_ix ix_list (pv 0) pe_int (fun _ _ => rfl)) (pv 1)))
    (pss_cons (ps_asg (pe_op op_fdivW (pe_ix ix_list (pv 0) pe_int (fun _ _ => rfl)) (pv 1)) (pg_sub (pv 0) pe_int set_list))
    (pss_one (ps_ret (pv 2))))) pss_nil)
    (pss_cons (ps_asg (pe_op op_add (pe_ix ix_list (pv 0) pe_int (fun _ _ => rfl)) pe_int) (pg_sub (pv 0) pe_int set_list))
    (pss_cons (ps_set (i := 3) scLdraw.nd rfl (Or.inl rfl) (pe_op op_mod (pe_op op_pow (pe_op op_add (pe_ix ix_list (pv 0) pe_int (fun _ _ => rfl)) (pe_op op_mul pe_int (pe_ix ix_list (pv 0) pe_int (fun _ _ => rfl)))) pe_int) pe_int))
    (pss_cons (ps_set (i := 4) scLdraw.nd rfl (Or.inl rfl) (pe_op op_mod (pe_op op_mul (pe_op op_add (pv 3) (pe_ix ix_list (pv 0) pe_int (fun _ _ => rfl))) (pe_op op_add (pe_op op_add (pe_op op_mod (pv 3) pe_int) pe_int) (pe_ix ix_list (pv 0) pe_int (fun _ _ => rfl)))) pe_int))
    (pss_cons (ps_set (i := 5) scLdraw.nd rfl (Or.inl rfl) (pe_op op_mod (pe_op op_add (pe_op op_add (pe_op op_fdivW (pe_ix ix_list (pv 0) pe_int (fun _ _ => rfl)) pe_int) (pe_op op_mul (pv 4) pe_int)) (pe_ix ix_list (pv 0) pe_int (fun _ _ => rfl))) pe_int))
    (pss_one (ps_ret (pe_op op_mod (pe_op op_fdivW (pe_op op_mod (pe_op op_add (pe_op op_add (pe_op op_mul (pv 4) pe_int) (pe_op op_mul (pv 5) pe_int)) (pv 3)) pe_int) pe_int) (pv 1))))))))), ?_⟩
    have S0 : SqL K H t [.int a, .int b, .int k] := SqL.of ht
    refine ⟨_, rfl, t, _, 0, .int a, rfl, rfl, S0, rfl, a, 0, rfl, rfl, _, rfl, ?_⟩
    refine iteD (fun ca => ?_) (fun ca => ?_)
    · show tSeq _ _ _ _ _
      refine ⟨_, rfl, t, _, 0, .int a, rfl, rfl, S0, rfl, _, rfl, a, many, rfl, rfl, hm, ?_⟩
      refine ⟨_, rfl, t, _, 0, .int a, rfl, rfl, S0, rfl, _, rfl, a, many, rfl, rfl, wd hm hm2, ?_⟩
      refine ⟨_, rfl, t, _, 0, 0, rfl, rfl, ht, rfl, ?_⟩
      refine ⟨_, rfl, ?_⟩
      refine q (a % many) _ (Int.emod_nonneg _ (by omega)) (Int.emod_lt_of_pos _ hm) ⟨a / many, b, k, upd_same, Int.ediv_nonneg (by omega) (by omega), hb, hb2, hk, by omega⟩ (fun x o e n => ?_)
      rw [upd_ne n]
      exact e
    · show tNext _ _ _
      refine ⟨_, rfl, t, _, 2, .int k, rfl, rfl, S0, rfl, k, 1, rfl, rfl, ?_⟩
      refine ⟨_, rfl, t, _, 2, 2, rfl, rfl, ht, rfl, ?_⟩
      have S1 : SqL K (upd H t (.lst [.int a, .int b, .int (k + 1)])) t [.int a, .int b, .int (k + 1)] := SqL.of upd_same
      show tSeq _ _ _ _ (upd H t (.lst [.int a, .int b, .int (k + 1)]))
      refine ⟨_, rfl, t, _, 1, .int b, rfl, rfl, S1, rfl, _, rfl, t, _, 2, .int (k + 1), rfl, rfl, S1, rfl, 39373, k + 1, rfl, rfl, .inl ⟨by decide, by decide⟩, b, 39373 * (k + 1), rfl, rfl, _, 5, rfl, rfl, ⟨by decide, by decide, by omega⟩, _, 2147483647, rfl, rfl, (show (0 : Int) < 2147483647 by decide), ?_⟩
      dsimp only
      have o1 : 0 ≤ ((b + 39373 * (k + 1)) ^ (5 : Int).toNat) % 2147483647 := Int.emod_nonneg _ (by decide)
      have o2 : ((b + 39373 * (k + 1)) ^ (5 : Int).toNat) % 2147483647 < 2147483647 := Int.emod_lt_of_pos _ (by decide)
      generalize ((b + 39373 * (k + 1)) ^ (5 : Int).toNat) % 2147483647 = once at o1 o2
      refine ⟨_, rfl, _, rfl, t, _, 2, .int (k + 1), rfl, rfl, S1, rfl, once, k + 1, rfl, rfl, _, rfl, once, 40009, rfl, rfl, (show (0 : Int) < 40009 by decide), _, 7, rfl, rfl, _, rfl, t, _, 2, .int (k + 1), rfl, rfl, S1, rfl, _, k + 1, rfl, rfl, _, _, rfl, rfl, .inl ⟨by omega, by omega⟩, _, 2147483629, rfl, rfl, (show (0 : Int) < 2147483629 by decide), ?_⟩
      dsimp only
      generalize hz2 : ((once + (k + 1)) * (once % 40009 + 7 + (k + 1))) % 2147483629 = twice
      have t1 : 0 ≤ twice := by rw [← hz2]; exact Int.emod_nonneg _ (by decide)
      have t2 : twice < 2147483629 := by rw [← hz2]; exact Int.emod_lt_of_pos _ (by decide)
      refine ⟨_, rfl, t, _, 1, .int b, rfl, rfl, S1, rfl, b, 2147483647, rfl, rfl, wd (by decide) (by decide), _, rfl, twice, 40009, rfl, rfl, .inl ⟨by omega, by omega⟩, _, _, rfl, rfl, _, rfl, t, _, 2, .int (k + 1), rfl, rfl, S1, rfl, _, k + 1, rfl, rfl, _, 2305843009213693951, rfl, rfl, (show (0 : Int) < 2305843009213693951 by decide), ?_⟩
      dsimp only
      generalize hz3 : (b / 2147483647 + twice * 40009 + (k + 1)) % 2305843009213693951 = wide
      have w1 : 0 ≤ wide := by rw [← hz3]; exact Int.emod_nonneg _ (by decide)
      have w2 : wide < 2305843009213693951 := by rw [← hz3]; exact Int.emod_lt_of_pos _ (by decide)
      refine ⟨_, rfl, twice, 48271, rfl, rfl, .inl ⟨by omega, by omega⟩, _, rfl, wide, 39373, rfl, rfl, .inl ⟨by omega, by omega⟩, _, _, rfl, rfl, _, rfl, _, once, rfl, rfl, _, 2305843009213693921, rfl, rfl, (show (0 : Int) < 2305843009213693921 by decide), _, 64, rfl, rfl, wd (by decide) (by decide), _, rfl, _, many, rfl, rfl, hm, ?_⟩
      refine q _ _ (Int.emod_nonneg _ (by omega)) (Int.emod_lt_of_pos _ hm) ⟨a, b, k + 1, upd_same, ha, hb, hb2, by omega, by omega⟩ (fun x o e n => ?_)
      rw [upd_ne n]
      exact e
end
end HP
namespace HP
open PySem L2
section
variable {P : Program} {w : World} {K : PySem.W.Frag} {mg : Str → Option Value} {base : Heap} {tM tL : Tok}
/-! ### _law_tape -/
def spTape (K : PySem.W.Frag) : Sp := fun vs H Q _ => ∃ (a : Addr) (ns : List Int) (k : Int), vs = [.ref a, .int k] ∧ SqL K H a (ns.map V.int) ∧ 0 ≤ k ∧ k ≤ 1000 ∧
  ∀ (t : Addr) (H' : Hp), H t = none → TapeAt H' t 0 → Same H H' → Q (.ref t) H'
abbrev sLtape : Stmt := top 22
theorem scLtape : FnScope ["_law_script", "_law_k", "_law_cell"] ["_law_script", "_law_k"] (defScope sLtape) := ⟨rfl, rfl, rfl, by decide +kernel, rfl, by decide +kernel, by decide +kernel⟩
theorem map_int {ns : List Int} {i : Nat} {y : V} (h : (ns.map V.int)[i]? = some y) : ∃ z, ns[i]? = some z ∧ y = .int z := by
  rw [List.getElem?_map] at h
  cases e : ns[i]? with
  | none => rw [e] at h; cases h
  | some z => rw [e] at h; exact ⟨z, rfl, (Option.some.inj h).symm⟩
theorem at_int {ns : List Int} {k : Int} (h0 : 0 ≤ k) (h1 : k < ((ns.map V.int).length : Int)) : ∃ z, atI (ns.map V.int) k = some (V.int z) := by
  have hl : k.toNat < ns.length := by rw [List.length_map] at h1; omega
  refine ⟨ns[k.toNat], at_of (j := k.toNat) (by omega) ?_⟩
  rw [List.getElem?_map, List.getElem?_eq_getElem hl]
  rfl
theorem cm01 (x : Int) (b : Bool) : CMul x (if b = true then 1 else 0) := .inr (by cases b <;> decide)
theorem ok_tape {f : Addr} {fd : FuncData} (F : Fun K "_law_tape" "_law_tape" sLtape f fd) (T : Txt mg tM tL) : FnOk P w K mg base CX0 1 f fd ["_law_script", "_law_k"] (spTape K) := by
  refine F.ok scLtape (fun vs H Q E h => ?_) (fun cdv A outer s H vs Q E hr h => ?_)
  · obtain ⟨a, ns, k, rfl, _⟩ := h
    rfl
  · obtain ⟨a, ns, k, rfl, hS, h0, h1, q⟩ := h
    refine ⟨_, (pss_cons (ps_set (i := 2) scLtape.nd rfl (Or.inl rfl) (pe_ifExp (pt_cmp (pc_lt (pv 1) (pe_callB call_len_seq (by rfl) T.zlen (by decide +kernel) (pa_cons (pv 0) pa_nil)))) (pe_ix ix_list (pv 0) (pv 1) (fun _ _ => rfl)) pe_int))
    (pss_one (ps_ret (pe_lst (pa_cons (pe_op op_mul (pe_callB call_abs (by rfl) T.zabs (by decide +kernel) (pa_cons (pv 2) pa_nil)) (pe_callTy call_int1 (by rfl) T.zint (by decide +kernel) (pa_cons (pe_cmp (pc_ge (pe_callB call_abs (by rfl) T.zabs (by decide +kernel) (pa_cons (pv 2) pa_nil)) (pe_op op_pow pe_int pe_int))) pa_nil))) (pa_cons (pe_op op_add (pe_op op_add (pe_op op_mod (pv 2) pe_int) (pe_op op_mul pe_int (pv 1))) pe_int) (pa_cons pe_int pa_nil))))))), ?_⟩
    have fin : ∀ z : Int, ∀ p, H p = none → Q (.ref p) (upd H p (.lst [.int ((if z < 0 then -z else z) * (if decide ((10 : Int) ^ (18 : Int).toNat ≤ (if z < 0 then -z else z)) then 1 else 0)), .int (z % 2305843009213693951 + 39373 * k + 17), .int 0])) := by
      intro z p hp
      refine q p _ hp ⟨_, _, _, upd_same, ?_, ?_, ?_, Int.le_refl _, Int.le_refl _⟩ (same_new hp)
      · refine Int.mul_nonneg ?_ ?_ <;> split <;> omega
      · omega
      · omega
    refine ⟨_, rfl, _, rfl, a, _, rfl, .inl hS, k, _, rfl, rfl, _, rfl, ?_⟩
    refine iteD (fun c1 => ?_) (fun c1 => ?_)
    · obtain ⟨z, hz⟩ := at_int h0 c1
      refine ⟨_, rfl, _, rfl, a, _, k, .int z, rfl, rfl, hS, hz, ?_⟩
      refine ⟨_, rfl, z, rfl, _, rfl, z, rfl, 10, 18, rfl, rfl, ⟨by decide, by decide, by decide⟩, _, _, rfl, rfl, .inr ⟨_, rfl, _, _, rfl, rfl, cm01 _ _, ?_⟩⟩
      refine ⟨_, rfl, z, 2305843009213693951, rfl, rfl, (show (0 : Int) < 2305843009213693951 by decide), _, rfl, 39373, k, rfl, rfl, .inl ⟨by decide, by decide⟩, _, _, rfl, rfl, _, 17, rfl, rfl, (by show 3 ≤ sizeLine; decide), fun p hp => ?_⟩
      exact fin z p hp
    · refine ⟨_, rfl, 0, rfl, _, rfl, 0, rfl, 10, 18, rfl, rfl, ⟨by decide, by decide, by decide⟩, _, _, rfl, rfl, .inr ⟨_, rfl, _, _, rfl, rfl, cm01 _ _, ?_⟩⟩
      refine ⟨_, rfl, 0, 2305843009213693951, rfl, rfl, (show (0 : Int) < 2305843009213693951 by decide), _, rfl, 39373, k, rfl, rfl, .inl ⟨by decide, by decide⟩, _, _, rfl, rfl, _, 17, rfl, rfl, (by show 3 ≤ sizeLine; decide), fun p hp => ?_⟩
      exact fin 0 p hp
/-! ### over enumerate -/
theorem for_enum {K : PySem.W.Frag} {a : Addr} {xs : List V} {g : TG} {tb : TS} {D : Ends} {σ : L2.St} {H : Hp} (Pv : Nat → L2.St → Hp → Prop) (h0 : Pv 0 σ H) (hl : ∀ i σ H, i ≤ xs.length → Pv i σ H → SqL K H a xs)
    (hs : ∀ i x σ H T, xs[i]? = some x → Pv i σ H → H T = none → g (.ref T) σ (upd H T (.tup [.int (i : Nat), x])) fun σ2 H2 => tb { D with nx := Pv (i + 1), ct := Pv (i + 1), bk := D.nx } σ2 H2) (hd : ∀ σ H, Pv xs.length σ H → D.nx σ H) :
    ∃ W : Nat → Nat → L2.St → Hp → Prop, (∃ m, W 0 m σ H) ∧ ∀ i m σ H, W i m σ H →
      ((Ite K a).stop i H ∧ D.nx σ H) ∨ ((Ite K a).go i H ∧ ∃ N : L2.St → Hp → Prop, (∀ σ' H', N σ' H' → ∃ m', m' < m ∧ W (i + 1) m' σ' H') ∧ ∀ x H', (Ite K a).yld i H x H' → g x σ H' fun σ2 H2 => tb { D with nx := N, ct := N, bk := D.nx } σ2 H2) := by
  refine ⟨fun i m σ H => m = xs.length - i ∧ i ≤ xs.length ∧ Pv i σ H, ⟨xs.length, by simp, Nat.zero_le _, h0⟩, ?_⟩
  rintro i m σ H ⟨rfl, hi, p⟩
  have q := hl i σ H hi p
  by_cases hlt : i < xs.length
  · refine .inr ⟨⟨xs, xs[i], q, by simp [hlt]⟩, Pv (i + 1), fun σ' H' p' => ⟨xs.length - (i + 1), by omega, rfl, hlt, p'⟩, fun x H' y => ?_⟩
    obtain ⟨T, z, rfl, hT, rfl, y⟩ := y
    exact hs i z σ H T (y xs q) p hT
  · have e : i = xs.length := by omega
    subst e
    exact .inl ⟨⟨xs, q, Nat.le_refl _⟩, hd σ H p⟩
/-! ### _law_folded -/
theorem cut_ints (ns : List Int) (lo hi : Option Int) : ∃ ys : List Int, cutV (ns.map V.int) lo hi = ys.map V.int ∧ ys.length = min (HT.sIx ns.length ns.length hi - HT.sIx ns.length 0 lo) (ns.length - HT.sIx ns.length 0 lo) := by
  refine ⟨(ns.drop (HT.sIx ns.length 0 lo)).take (HT.sIx ns.length ns.length hi - HT.sIx ns.length 0 lo), ?_, ?_⟩
  · unfold cutV
    rw [List.length_map, List.map_take, List.map_drop]
  · rw [List.length_take, List.length_drop]
def spFolded (K : PySem.W.Frag) : Sp := fun vs H Q _ => ∃ (a : Addr) (ns : List Int) (m : Nat), vs = [.ref a, .int (m : Int)] ∧ SqL K H a (ns.map V.int) ∧ 0 < m ∧ m ≤ 100 ∧ ns.length ≤ 63 ∧
  ∀ (p : Addr) (cs : List Int) (H' : Hp), H p = none → cs.length = min m ns.length → H' p = some (.lst (cs.map V.int)) → Same H H' → Q (.ref p) H'
abbrev sLfolded : Stmt := top 24
theorem scLfolded : FnScope ["_law_script", "_law_a_many", "_law_cells", "_law_k", "_law_cell"] ["_law_script", "_law_a_many"] (defScope sLfolded) := ⟨rfl, rfl, rfl, by decide +kernel, rfl, by decide +kernel, by decide +kernel⟩
theorem sIx_pos (n d : Nat) (m : Nat) : HT.sIx n d (some (m : Int)) = min m n := HT.sIx_nat n d m
theorem ok_folded {f : Addr} {fd : FuncData} (F : Fun K "_law_folded" "_law_folded" sLfolded f fd) (T : Txt mg tM tL) : FnOk P w K mg base CX0 1 f fd ["_law_script", "_law_a_many"] (spFolded K) := by
  refine F.ok scLfolded (fun vs H Q E h => ?_) (fun cdv A outer s H vs Q E hr h => ?_)
  · obtain ⟨a, ns, m, rfl, _⟩ := h
    rfl
  · obtain ⟨a, ns, m, rfl, hS, h0, h1, hn, q⟩ := h
    refine ⟨_, (pss_cons (ps_set (i := 2) scLfolded.nd rfl (Or.inl rfl) (pe_callTy call_list_of (by rfl) T.zlist (by decide +kernel) (pa_cons (pe_slice sl_list (pv 0) po_none (po_some (pv 1))) pa_nil)))
    (pss_cons (ps_for PassesOwn.never rfl (pi_enum (by rfl) T.zenumerate (pa_cons (pe_slice sl_list (pv 0) (po_some (pv 1)) (po_some pe_int)) pa_nil)) (pg_tup rfl (pgs_cons (pg_name (i := 3) scLfolded.nd rfl (Or.inl rfl)) (pgs_cons (pg_name (i := 4) scLfolded.nd rfl (Or.inl rfl)) pgs_nil)))
    (pss_one (ps_asg (pe_op op_add (pe_ix ix_list (pv 2) (pe_op op_mod (pv 3) (pv 1)) (fun _ _ => rfl)) (pe_op op_mul (pv 4) (pe_op op_add (pv 3) pe_int))) (pg_sub (pv 2) (pe_op op_mod (pv 3) (pv 1)) set_list))))
    (pss_one (ps_ret (pv 2))))), ?_⟩
    obtain ⟨c0, e0, l0⟩ := cut_ints ns none (some (m : Int))
    obtain ⟨ys, ey, ly⟩ := cut_ints ns (some (m : Int)) (some 63)
    rw [sIx_pos, HT.sIx_none] at l0
    rw [sIx_pos, show HT.sIx ns.length ns.length (some 63) = min 63 ns.length from HT.sIx_nat ns.length ns.length 63] at ly
    -- _law_cells = list(_law_script[:_law_many])
    refine ⟨_, rfl, _, rfl, _, rfl, a, _, rfl, hS, fun p hp => ⟨p, _, rfl, .inl (SqL.of upd_same), fun l hl => ?_⟩⟩
    have npl : p ≠ l := fun e => by
      rw [e, upd_same] at hl
      cases hl
    have hl0 : H l = none := by
      rw [upd_ne npl.symm] at hl
      exact hl
    have s1 : Same H (upd (upd H p (.lst (cutV (ns.map V.int) none (some (m : Int))))) l (.lst (cutV (ns.map V.int) none (some (m : Int))))) := fun b o e => by
      rw [upd_ne (ne_of_none e hl0), upd_ne (ne_of_none e hp)]
      exact e
    -- for _law_k, _law_cell in enumerate(_law_script[_law_many:63])
    refine ⟨_, rfl, _, rfl, _, rfl, _, rfl, a, _, rfl, s1.seq hS, fun z hz => ⟨z, _, rfl, SqL.of upd_same, ?_⟩⟩
    have nlz : l ≠ z := fun e => by
      rw [← e, upd_same] at hz
      cases hz
    have hz0 : H z = none := s1.free hz
    refine for_enum (K := K) (a := z) (xs := ys.map V.int) (fun i σ H' => ∃ (cs : List Int) (u v : Option V), σ = [some (.ref a), some (.int (m : Int)), some (.ref l), u, v] ∧ H' l = some (.lst (cs.map V.int)) ∧ cs.length = c0.length ∧ H' z = some (.lst (ys.map V.int)) ∧ Same H H')
      ⟨c0, _, _, rfl, by rw [upd_ne nlz, upd_same, e0], rfl, by rw [upd_same, ey], fun b o e => by rw [upd_ne (ne_of_none e hz0)]; exact s1 b o e⟩ (fun i σ H' _ ⟨_, _, _, _, _, _, h, _⟩ => SqL.of h) ?_ ?_
    · rintro i x σ H' T hi ⟨cs, u, v, rfl, hcs, lcs, hys, s2⟩ hT
      obtain ⟨y, hy, rfl⟩ := map_int hi
      have hil : i < ys.length := (List.getElem?_eq_some_iff.mp hy).1
      have lm : cs.length = m := by omega
      have nTl : l ≠ T := ne_of_none hcs hT
      have nTz : z ≠ T := ne_of_none hys hT
      have hcs' : (upd H' T (.tup [.int (i : Nat), .int y])) l = some (.lst (cs.map V.int)) := by rw [upd_ne nTl]; exact hcs
      refine ⟨T, _, rfl, SqT.of upd_same, rfl, _, _, rfl, _, _, rfl, rfl, ?_⟩
      have im0 : 0 ≤ ((i : Nat) : Int) % (m : Int) := Int.emod_nonneg _ (by omega)
      have im1 : ((i : Nat) : Int) % (m : Int) < (m : Int) := Int.emod_lt_of_pos _ (by omega)
      obtain ⟨c, hc⟩ := at_int (ns := cs) (k := ((i : Nat) : Int) % (m : Int)) im0 (by rw [List.length_map]; omega)
      refine ⟨_, rfl, _, rfl, _, rfl, _, _, rfl, rfl, (show (0 : Int) < (m : Int) by omega), l, _, _, _, rfl, rfl, SqL.of hcs', hc, _, rfl, _, rfl, _, 2, rfl, rfl, y, _, rfl, rfl, .inr ⟨?_, ?_⟩, _, _, rfl, rfl, ?_⟩
      · omega
      · omega
      refine ⟨_, rfl, _, rfl, _, rfl, _, _, rfl, rfl, (show (0 : Int) < (m : Int) by omega), l, _, _, (((i : Nat) : Int) % (m : Int)).toNat, rfl, rfl, hcs', ?_, ?_⟩
      · unfold ixN
        rw [if_pos im0, if_pos (by rw [List.length_map]; omega)]
      refine ⟨cs.set (((i : Nat) : Int) % (m : Int)).toNat (c + y * (((i : Nat) : Int) + 2)), _, _, rfl, ?_, ?_, ?_, ?_⟩
      · rw [upd_same, List.map_set]
      · rw [List.length_set]
        exact lcs
      · rw [upd_ne nlz.symm, upd_ne nTz]
        exact hys
      · intro b o e
        rw [upd_ne (ne_of_none e hl0), upd_ne (ne_of_none (s2 _ _ e) hT)]
        exact s2 _ _ e
    · rintro σ H' ⟨cs, u, v, rfl, hcs, lcs, hys, s2⟩
      refine ⟨_, rfl, ?_⟩
      exact q l cs H' hl0 (by rw [lcs, l0]; omega) hcs s2
end
end HP
namespace HP
open PySem L2
section
variable {P : Program} {w : World} {K : PySem.W.Frag} {mg : Str → Option Value} {base : Heap} {tM tL : Tok}
theorem at3 {x y z r : Int} (h0 : 0 ≤ r) (h1 : r < 3) : ∃ b : Int, atI [V.int x, V.int y, V.int z] r = some (V.int b) ∧ (b = x ∨ b = y ∨ b = z) := by
  have : r = 0 ∨ r = 1 ∨ r = 2 := by omega
  rcases this with rfl | rfl | rfl
  · exact ⟨x, rfl, .inl rfl⟩
  · exact ⟨y, rfl, .inr (.inl rfl)⟩
  · exact ⟨z, rfl, .inr (.inr rfl)⟩
theorem at4 {x y z u r : Int} (h0 : 0 ≤ r) (h1 : r < 4) : ∃ b : Int, atI [V.int x, V.int y, V.int z, V.int u] r = some (V.int b) ∧ (b = x ∨ b = y ∨ b = z ∨ b = u) := by
  have : r = 0 ∨ r = 1 ∨ r = 2 ∨ r = 3 := by omega
  rcases this with rfl | rfl | rfl | rfl
  · exact ⟨x, rfl, .inl rfl⟩
  · exact ⟨y, rfl, .inr (.inl rfl)⟩
  · exact ⟨z, rfl, .inr (.inr (.inl rfl))⟩
  · exact ⟨u, rfl, .inr (.inr (.inr rfl))⟩
theorem TapeAt.ne {H : Hp} {t p : Addr} {c : Int} (h : TapeAt H t c) (hp : H p = none) : p ≠ t := by
  obtain ⟨zs, hz⟩ := h.some
  exact (ne_of_none hz hp).symm
theorem TapeAt.new {H : Hp} {t p : Addr} {c : Int} {o : HO} (h : TapeAt H t c) (hp : H p = none) : TapeAt (upd H p o) t c := h.same (same_new hp)
theorem SameBut.new {t p : Addr} {H H' : Hp} {o : HO} (s : SameBut t H H') (hp : H' p = none) : SameBut t H (upd H' p o) := s.trans (Same.but (same_new hp))
theorem SameBut.free {t p : Addr} {c : Int} {H H' : Hp} (s : SameBut t H H') (ht : TapeAt H' t c) (hp : H' p = none) : H p = none := by
  cases q : H p with
  | none => rfl
  | some o =>
    have n : p ≠ t := ht.ne hp
    rw [s p o q n] at hp
    cases hp
theorem SameBut.pairs {t : Addr} {c : Int} {H H' : Hp} {xs : List V} {L : List (Int × Int)} (s : SameBut t H H') (ht : TapeAt H t c) (h : PairsAt H xs L) : PairsAt H' xs L := h.move fun _ _ e => s.tup ht e
theorem Same.pairs {H H' : Hp} {xs : List V} {L : List (Int × Int)} (s : Same H H') (h : PairsAt H xs L) : PairsAt H' xs L := h.move fun _ _ e => s _ _ e
theorem pow6 : CPow 10 6 := ⟨by decide, by decide, by decide⟩
theorem pow12 : CPow 10 12 := ⟨by decide, by decide, by decide⟩
abbrev DDraw (P : Program) (w : World) (K : PySem.W.Frag) (mg : Str → Option Value) (base : Heap) : Prop := Df P w K mg base "_law_draw" 1 ["_law_tape_here", "_law_a_many"] spDraw
end
end HP
namespace HP
open PySem L2
section
variable {P : Program} {w : World} {K : PySem.W.Frag} {mg : Str → Option Value} {base : Heap} {tM tL : Tok}
theorem FunD_ok0 {x qual : Str} {st : Stmt} {dvs : List V} {f : Addr} {fd : FuncData} {N ps : List Str} {k : Nat} {sp : Sp} (F : FunD K x qual (defArgs st) (defBody st) (defScope st) dvs [] f fd) (S : FnScope N ps (defScope st)) (len : ∀ vs H Q E, sp vs H Q E → vs.length = ps.length)
    (hbody : ∀ (cdv : Value) (A : Around) (outer : List Env) (s : Shared) (H : Hp) (vs : List V) (Q : VK) (E : XK), Room k (A.deeper (PyProof.Rows.envOfC qual (defScope st) s.heap.objs.size f cdv)) → sp vs H Q E →
      ∃ t, PSs (cxOf CX0 P w K mg base N qual (defScope st) f cdv A outer s H E).nox (defBody st) t ∧ t { nx := fun _ H' => Q .non H', rt := Q } (start N vs) H) : FnOk P w K mg base CX0 (k + 1) f fd ps sp :=
  F.ok S len fun cdv A outer s H vs Q E hr h => let ⟨t, a, b⟩ := hbody cdv A outer s H vs Q E hr h; ⟨t, a.nox, b⟩
/-! ### is_number, of a number -/
def spIsNumber : Sp := fun vs H Q _ => ∃ (i lo hi : Int), vs = [.int i, .int lo, .int hi] ∧ lo ≤ i ∧ i ≤ hi ∧ Q (.bl true) H
abbrev sis_number : Stmt := top 9
theorem scis_number : FnScope ["thing", "least", "most"] ["thing", "least", "most"] (defScope sis_number) := ⟨rfl, rfl, rfl, by decide +kernel, rfl, by decide +kernel, by decide +kernel⟩
theorem kit1 : kitB "int" "int" = some true := by decide +kernel
theorem kit2 : kitB "int" "bool" = some false := by decide +kernel
theorem kit3 : kitB "tuple" "tuple" = some true := by decide +kernel
theorem kit4 : kitB "list" "list" = some true := by decide +kernel
theorem ok_is_number {f : Addr} {fd : FuncData} {dvs : List V} (F : FunD K "is_number" "is_number" (defArgs sis_number) (defBody sis_number) (defScope sis_number) dvs [] f fd) (T : Txt mg tM tL) : FnOk P w K mg base CX0 1 f fd ["thing", "least", "most"] spIsNumber := by
  refine FunD_ok0 F scis_number (fun vs H Q E h => ?_) (fun cdv A outer s H vs Q E hr h => ?_)
  · obtain ⟨i, lo, hi, rfl, _⟩ := h
    rfl
  · obtain ⟨i, lo, hi, rfl, h1, h2, q⟩ := h
    refine ⟨_, (pss_cons (ps_if (PW.pt (pw_or (pt_not (pt_val (pe_callB call_isi (by rfl) T.zisinstance (by decide +kernel) (pa_cons (pv 0) (pa_cons (pe_bltn (v := .ty "int") (u := .type "int") (by rfl) T.zint (by decide +kernel) rfl) pa_nil))))) (pw_or1 (pt_val (pe_callB call_isi (by rfl) T.zisinstance (by decide +kernel) (pa_cons (pv 0) (pa_cons (pe_bltn (v := .ty "bool") (u := .type "bool") (by rfl) T.zbool (by decide +kernel) rfl) pa_nil))))))) (pss_one (ps_ret pe_bl)) pss_nil)
      (pss_one (ps_ret (pe_and (pe_cmp (pc_le (pv 1) (pv 0)) rfl) (pe_one (pe_or (pe_cmp (pc_isN (pv 2)) rfl) (pe_one (pe_cmp (pc_le (pv 0) (pv 2)) rfl)))))))), ?_⟩
    refine ⟨_, rfl, _, _, _, _, true, rfl, .ty "int", .base (.int i), kit_ty kit1, true, rfl, iteF ?_⟩
    refine ⟨_, rfl, _, _, _, _, false, rfl, .ty "bool", .base (.int i), kit_ty kit2, false, rfl, iteF ?_⟩
    refine ⟨_, rfl, _, rfl, lo, i, rfl, rfl, _, rfl, iteD (fun _ => ?_) (fun c => absurd h1 c)⟩
    refine ⟨_, rfl, _, rfl, iteD (fun c => absurd c (by simp)) (fun _ => ?_)⟩
    refine ⟨_, rfl, _, rfl, i, hi, rfl, rfl, ?_⟩
    show Q (.bl (decide (i ≤ hi))) H
    rw [decide_eq_true h2]
    exact q
abbrev DIsNumber (P : Program) (w : World) (K : PySem.W.Frag) (mg : Str → Option Value) (base : Heap) : Prop := Df P w K mg base "is_number" 1 ["thing", "least", "most"] spIsNumber
end
end HP
namespace HP
open PySem L2
section
variable {P : Program} {w : World} {K : PySem.W.Frag} {mg : Str → Option Value} {base : Heap} {tM tL : Tok}
/-! ### texts of letters -/
abbrev lettersS : Str := Str.ofString "abcdefghijklmnopqrstuvwxyz"
theorem letters_len : lettersS.cps.toList.length = 26 := by decide +kernel
theorem letters_size : lettersS.length ≤ sizeLine := by decide +kernel
theorem letters_all : lettersS.cps.toList.all (fun c => decide (97 ≤ c ∧ c ≤ 122)) = true := by decide +kernel
theorem letters_has : (List.range 26).all (fun i => decide ((97 + i) ∈ lettersS.cps.toList)) = true := by decide +kernel
def Lets (z : Str) : Prop := ∀ c ∈ z.cps.toList, 97 ≤ c ∧ c ≤ 122
theorem atI_int {α : Type} {xs : List α} {i : Int} {v : α} (h0 : 0 ≤ i) (_ : 0 ≤ i) (h : xs[i.toNat]? = some v) : atI xs i = some v := by
  have := atI_nat h
  rw [show ((i.toNat : Nat) : Int) = i by omega] at this
  exact this
theorem letter_at {i : Int} (h0 : 0 ≤ i) (h1 : i < 26) : ∃ c, atI lettersS.cps.toList i = some c ∧ 97 ≤ c ∧ c ≤ 122 := by
  have hl : i.toNat < lettersS.cps.toList.length := by rw [letters_len]; omega
  refine ⟨lettersS.cps.toList[i.toNat], atI_int (by omega) (by omega) (List.getElem?_eq_getElem hl), ?_⟩
  have := List.all_eq_true.mp letters_all _ (List.getElem_mem hl)
  exact of_decide_eq_true this
theorem letter_in {c : Nat} (h : 97 ≤ c ∧ c ≤ 122) : c ∈ lettersS.cps.toList := by
  have := List.all_eq_true.mp letters_has (c - 97) (List.mem_range.mpr (by omega))
  have := of_decide_eq_true this
  rw [show 97 + (c - 97) = c by omega] at this
  exact this
theorem Lets.one {c : Nat} (h : 97 ≤ c ∧ c ≤ 122) : Lets ⟨#[c]⟩ := fun d hd => by
  have : d = c := by simpa using hd
  rw [this]
  exact h
theorem len_cps (z : Str) : z.length = z.cps.toList.length := by rw [Array.length_toList]; rfl
theorem Lets.append {x y : Str} (hx : Lets x) (hy : Lets y) : Lets (x ++ y) := fun c hc => by
  have e : (x ++ y).cps = x.cps ++ y.cps := Str.cps_append x y
  rw [e, Array.toList_append] at hc
  rcases List.mem_append.mp hc with h | h
  · exact hx c h
  · exact hy c h
theorem Lets.cut {z : Str} (h : Lets z) (lo hi : Option Int) : Lets (cutS z lo hi) := fun c hc => by
  unfold cutS at hc
  exact h c (List.mem_of_mem_drop (List.mem_of_mem_take hc))
theorem cut_size (z : Str) (lo hi : Option Int) : (cutS z lo hi).length ≤ z.length := by
  rw [len_cps, len_cps]
  unfold cutS
  show List.length (List.take _ (List.drop _ _)) ≤ _
  rw [List.length_take, List.length_drop]
  omega
theorem cut_parts (z : Str) (n : Nat) (h : n ≤ z.length) : (cutS z none (some (n : Int))).length = n ∧ (cutS z (some (n : Int)) none).length = z.length - n := by
  rw [len_cps, len_cps]
  unfold cutS
  show List.length (List.take _ (List.drop _ _)) = _ ∧ List.length (List.take _ (List.drop _ _)) = _
  rw [HT.sIx_none, HT.sIx_none, HT.sIx_nat, HT.sIx_nat, List.length_take, List.length_drop, List.length_take, List.length_drop, ← len_cps]
  omega
/-- a text times a number -/
def rMulS : R2 := fun x y H Q => ∃ z n, x = .str z ∧ y = .int n ∧ MulOk z n ∧ Q (.str (Txt.mul z n)) H
theorem op_mul_str {X : Cx} : OpR X (binaryOp .Mult) rMulS := by
  intro pins s σ H x y v u Q I rx ry h
  obtain ⟨z, n, rfl, rfl, hz, q⟩ := h
  obtain ⟨t, rfl⟩ := rx
  obtain ⟨t', rfl⟩ := ry
  exact SB.mul hz fun t' tk => ⟨.str (Txt.mul z n), H, I.tok _, ⟨_, rfl⟩, q⟩
theorem mul01 {z : Str} {n : Int} (h0 : 0 ≤ n) (h1 : n ≤ 1) : MulOk z n ∧ (Txt.mul z n = z ∨ Txt.mul z n = Str.empty) := by
  have : n = 0 ∨ n = 1 := by omega
  rcases this with rfl | rfl
  · exact ⟨⟨by decide, fun h => absurd (by decide) h, fun h => absurd (by decide) h⟩, .inr rfl⟩
  · exact ⟨⟨by decide, fun _ h => by simp at h, fun _ h => by simp at h⟩, .inl rfl⟩
theorem Lets.empty : Lets Str.empty := fun c hc => by cases hc
theorem fold_mem (sep : Str) : ∀ (rest : List Str) (acc : Array Nat) (c : Nat), c ∈ (rest.foldl (fun acc p => acc ++ sep.cps ++ p.cps) acc).toList → c ∈ acc.toList ∨ c ∈ sep.cps.toList ∨ ∃ p ∈ rest, c ∈ p.cps.toList
  | [], acc, c, h => .inl h
  | q :: rest, acc, c, h => by
    rcases fold_mem sep rest _ c h with h | h | ⟨p, hp, h⟩
    · rw [Array.toList_append, Array.toList_append] at h
      rcases List.mem_append.mp h with h | h
      · rcases List.mem_append.mp h with h | h
        · exact .inl h
        · exact .inr (.inl h)
      · exact .inr (.inr ⟨q, List.mem_cons_self, h⟩)
    · exact .inr (.inl h)
    · exact .inr (.inr ⟨p, List.mem_cons_of_mem _ hp, h⟩)
theorem sum_ones : ∀ zs : List Str, (∀ z ∈ zs, z.length = 1) → (zs.map (·.length)).sum = zs.length
  | [], _ => rfl
  | z :: zs, h => by
    rw [List.map_cons, List.sum_cons, h z List.mem_cons_self, sum_ones zs fun y hy => h y (List.mem_cons_of_mem _ hy), List.length_cons]
    omega
/-- letters one by one, glued -/
theorem join_lets {sep : Str} (hs : sep.cps = #[]) (zs : List Str) (h : ∀ z ∈ zs, Lets z ∧ z.length = 1) : Lets (Txt.join sep zs) ∧ (Txt.join sep zs).length = zs.length := by
  have hsl : sep.length = 0 := by show sep.cps.size = 0; rw [hs]; rfl
  refine ⟨fun c hc => ?_, ?_⟩
  · cases zs with
    | nil => cases hc
    | cons z zs =>
      have hc' : c ∈ (zs.foldl (fun acc p => acc ++ sep.cps ++ p.cps) z.cps).toList := hc
      rcases fold_mem sep zs z.cps c hc' with h' | h' | ⟨p, hp, h'⟩
      · exact (h z List.mem_cons_self).1 c h'
      · rw [hs] at h'; cases h'
      · exact (h p (List.mem_cons_of_mem _ hp)).1 c h'
  · have := PySem.size_glued sep zs
    rw [hsl, Nat.mul_zero, Nat.add_zero, sum_ones zs fun z hz => (h z hz).2] at this
    exact this
def GoodName (z : Str) : Prop := 1 ≤ z.length ∧ z.length ≤ 8 ∧ Lets z
end
end HP
namespace HP
open PySem L2
section
variable {P : Program} {w : World} {K : PySem.W.Frag} {mg : Str → Option Value} {base : Heap} {tM tL : Tok}
theorem take_more {α : Type} {l : List α} {i : Nat} {x : α} (h : l[i]? = some x) : l.take (i + 1) = l.take i ++ [x] := by
  rw [List.take_add_one, h]
  rfl
theorem rep_snoc {α : Type} (i : Nat) (x : α) : List.replicate i x ++ [x] = List.replicate (i + 1) x := by
  rw [List.replicate_succ']
theorem all_rep (n : Nat) : (List.replicate n true).all id = true := by
  induction n with
  | zero => rfl
  | succ k ih => rw [List.replicate_succ, List.all_cons, ih]; rfl
theorem kit5 : kitB "tuple" "list" = some false := by decide +kernel
theorem kit6 : kitB "str" "str" = some true := by decide +kernel
/-! ### is_row, of a tuple -/
def spIsRow : Sp := fun vs H Q _ => ∃ (p : Addr) (xs : List V) (lo hi : Int), vs = [.ref p, .int lo, .int hi] ∧ H p = some (.tup xs) ∧ lo ≤ (xs.length : Int) ∧ (xs.length : Int) ≤ hi ∧ ∀ H', Same H H' → Q (.bl true) H'
abbrev sis_row : Stmt := top 10
theorem scis_row : FnScope ["thing", "least", "most"] ["thing", "least", "most"] (defScope sis_row) := ⟨rfl, rfl, rfl, by decide +kernel, rfl, by decide +kernel, by decide +kernel⟩
theorem ok_is_row {f : Addr} {fd : FuncData} (F : Fun K "is_row" "is_row" sis_row f fd) (T : Txt mg tM tL) : FnOk P w K mg base CX0 1 f fd ["thing", "least", "most"] spIsRow := by
  refine F.ok scis_row (fun vs H Q E h => ?_) (fun cdv A outer s H vs Q E hr h => ?_)
  · obtain ⟨p, xs, lo, hi, rfl, _⟩ := h
    rfl
  · obtain ⟨p, xs, lo, hi, rfl, hp, h1, h2, q⟩ := h
    refine ⟨_, (pss_one (ps_ret (pe_and (pe_callB call_isiT (by rfl) T.zisinstance (by decide +kernel) (pa_cons (pv 0) (pa_cons (pe_tup (pa_cons (pe_bltn (v := .ty "list") (u := .type "list") (by rfl) T.zlist (by decide +kernel) rfl) (pa_cons (pe_bltn (v := .ty "tuple") (u := .type "tuple") (by rfl) T.ztuple (by decide +kernel) rfl) pa_nil))) pa_nil))) (pe_one (pe_chain op_le op_le (pv 1) (pe_callB call_len_seq (by rfl) T.zlen (by decide +kernel) (pa_cons (pv 0) pa_nil)) (pv 2)))))), ?_⟩
    refine ⟨_, rfl, (by show 2 ≤ sizeLine; decide), fun d hd => ?_⟩
    have hp1 : (upd H d (.tup [.ty "list", .ty "tuple"])) p = some (.tup xs) := by rw [upd_ne (ne_of_none hp hd)]; exact hp
    refine ⟨_, d, _, _, _, true, rfl, upd_same, .cons (.ty "list") (.cons (.ty "tuple") .nil), .base (.tup hp1), kitAny_cons (b := false) (kit_ty kit5) (fun _ => kitAny_cons (b := true) (kit_ty kit3) (fun z => by cases z) (fun _ => rfl)) (fun z => by cases z), true, rfl, iteT ?_⟩
    refine ⟨_, rfl, _, rfl, p, _, rfl, .inr (SqT.of hp1), lo, _, rfl, rfl, _, rfl, iteD (fun _ => ?_) (fun c => absurd h1 c)⟩
    refine ⟨_, rfl, _, hi, rfl, rfl, ?_⟩
    show Q (.bl (decide ((xs.length : Int) ≤ hi))) _
    rw [decide_eq_true h2]
    exact q _ (same_new hd)
/-! ### is_name -/
theorem lc_str {x : Str} {g : TG} {tt : TT} {te : TE} {vs : List Nat} {σ : L2.St} {H1 : Hp} {D : Addr} {Qd : Hp → Prop} (Pv : Nat → Hp → Prop) (h0 : Pv 0 (upd H1 D (.lst [])))
    (hs : ∀ i c H, x.cps[i]? = some c → Pv i H → g (.str ⟨#[c]⟩) (wipe σ vs) H fun σ2 H2 => wipe σ2 vs = wipe σ vs ∧ tt σ2 H2 fun b H3 =>
      if b = true then te σ2 H3 fun y H4 => ∃ acc, H4 D = some (.lst acc) ∧ acc.length < sizeLine ∧ Pv (i + 1) (upd H4 D (.lst (acc ++ [y]))) else Pv (i + 1) H3) (hd : ∀ H, Pv x.cps.size H → Qd H) :
    ∃ W : Nat → Nat → Hp → Prop, (∃ m, W 0 m (upd H1 D (.lst []))) ∧ ∀ i m H, W i m H →
      ((Its x).stop i H ∧ Qd H) ∨ ((Its x).go i H ∧ ∃ Nx : Hp → Prop, (∀ H', Nx H' → ∃ m', m' < m ∧ W (i + 1) m' H') ∧ ∀ v H', (Its x).yld i H v H' → g v (wipe σ vs) H' fun σ2 H2 => wipe σ2 vs = wipe σ vs ∧ tt σ2 H2 fun b H3 =>
        if b = true then te σ2 H3 fun y H4 => ∃ acc, H4 D = some (.lst acc) ∧ acc.length < sizeLine ∧ Nx (upd H4 D (.lst (acc ++ [y]))) else Nx H3) := by
  refine ⟨fun i m H => m = x.cps.size - i ∧ i ≤ x.cps.size ∧ Pv i H, ⟨x.cps.size, rfl, Nat.zero_le _, h0⟩, ?_⟩
  rintro i m H ⟨rfl, hi, p⟩
  by_cases hlt : i < x.cps.size
  · refine .inr ⟨hlt, Pv (i + 1), fun H' p' => ⟨x.cps.size - (i + 1), by omega, rfl, hlt, p'⟩, fun v H' y => ?_⟩
    obtain ⟨rfl, c, hc, rfl⟩ := y
    exact hs i c _ hc p
  · have e : i = x.cps.size := by omega
    subst e
    exact .inl ⟨Nat.le_refl _, hd H p⟩
def spIsName : Sp := fun vs H Q _ => ∃ z : Str, vs = [.str z] ∧ GoodName z ∧ ∀ H', Same H H' → Q (.bl true) H'
abbrev sis_name : Stmt := top 11
theorem scis_name : FnScope ["thing", "letter"] ["thing"] (defScope sis_name) := ⟨rfl, rfl, rfl, by decide +kernel, rfl, by decide +kernel, by decide +kernel⟩
theorem ok_is_name {f : Addr} {fd : FuncData} (F : Fun K "is_name" "is_name" sis_name f fd) (T : Txt mg tM tL) : FnOk P w K mg base CX0 1 f fd ["thing"] spIsName := by
  refine F.ok scis_name (fun vs H Q E h => ?_) (fun cdv A outer s H vs Q E hr h => ?_)
  · obtain ⟨z, rfl, _⟩ := h
    rfl
  · obtain ⟨z, rfl, ⟨g1, g2, g3⟩, q⟩ := h
    refine ⟨_, (pss_cons (ps_if (PW.pt (pw_or (pt_not (pt_val (pe_callB call_isi (by rfl) T.zisinstance (by decide +kernel) (pa_cons (pv 0) (pa_cons (pe_bltn (v := .ty "str") (u := .type "str") (by rfl) T.zstr (by decide +kernel) rfl) pa_nil))))) (pw_or1 (pt_not (pt_chain op_le op_le pe_int (pe_callB call_len_str (by rfl) T.zlen (by decide +kernel) (pa_cons (pv 0) pa_nil)) (pe_gi T.gMOST_LETTERS)))))) (pss_one (ps_ret pe_bl)) pss_nil)
    (pss_one (ps_ret (pe_callB (cr_all rfl) (by rfl) T.zall (by decide +kernel) (pa_cons (pe_lc (own := [("letter", 1)]) (g := gName 1) (tt := tYes) (by rfl) scis_name.nd (pi_str (pv 0)) (blkOk_by (own := [("letter", 1)]) (N := ["thing", "letter"]) (sc := defScope sis_name) (by decide +kernel)) (fun _ _ _ _ _ => (pg_name (i := 1) scis_name.nd rfl (Or.inl rfl))) (fun _ _ _ _ _ => pts_nil) (fun _ _ _ _ _ => (pe_cmpR op_in_sign (pv 1) (pe_gs T.gLETTERS) (by rfl)))) pa_nil))))), ?_⟩
    have hsz : z.length ≤ sizeLine := Nat.le_trans g2 (by decide)
    refine ⟨_, rfl, _, _, _, _, true, rfl, .ty "str", .base (.str z), kit_ty kit6, true, rfl, iteF ?_⟩
    refine ⟨_, rfl, z, rfl, hsz, 1, _, rfl, rfl, _, rfl, iteD (fun _ => ?_) (fun c => absurd (by omega) c)⟩
    refine ⟨_, 8, rfl, rfl, true, ?_, iteF ?_⟩
    · show V.bl (decide ((z.length : Int) ≤ 8)) = V.bl true
      rw [decide_eq_true (by omega)]
    refine ⟨_, rfl, z, rfl, fun D hD => ?_⟩
    refine lc_str (x := z) (fun i H' => H' D = some (.lst ((List.replicate i true).map V.bl)) ∧ Same H H') ⟨upd_same, same_new hD⟩ ?_ ?_
    · rintro i c H' hi ⟨hd, s1⟩
      have hil : i < z.cps.size := by
        by_cases cc : i < z.cps.size
        · exact cc
        · rw [Array.getElem?_eq_none (by omega)] at hi
          cases hi
      have g2' : z.cps.size ≤ 8 := g2
      refine ⟨rfl, ?_⟩
      refine ⟨_, rfl, c, lettersS, rfl, rfl, _, hd, ?_, ?_, ?_⟩
      · rw [List.length_map, List.length_replicate]
        exact Nat.lt_of_lt_of_le (show i < 8 by omega) (by decide)
      · rw [upd_same, ← rep_snoc, List.map_append]
        show some (HO.lst (_ ++ [V.bl (decide (c ∈ lettersS.cps.toList))])) = _
        rw [decide_eq_true (letter_in (g3 c (by
          rw [← Array.getElem?_toList] at hi
          exact List.mem_of_getElem? hi)))]
        rfl
      · intro b o e
        rw [upd_ne (ne_of_none e hD)]
        exact s1 _ _ e
    · rintro H' ⟨hd, s1⟩
      refine ⟨D, _, rfl, SqL.of hd, ?_⟩
      rw [all_rep]
      exact q _ s1
/-! ### are_for_kinds, of a tuple of four numbers -/
def Four (ns : List Int) (most : Int) : Prop := ns.length = 4 ∧ ∀ n ∈ ns, 1 ≤ n ∧ n ≤ most
def spKinds : Sp := fun vs H Q _ => ∃ (p : Addr) (ns : List Int) (most : Int), vs = [.ref p, .int most] ∧ H p = some (.tup (ns.map V.int)) ∧ Four ns most ∧ ∀ H', Same H H' → Q (.bl true) H'
abbrev sare_for_kinds : Stmt := top 18
theorem scare_for_kinds : FnScope ["thing", "most", "item"] ["thing", "most"] (defScope sare_for_kinds) := ⟨rfl, rfl, rfl, by decide +kernel, rfl, by decide +kernel, by decide +kernel⟩
theorem ok_kinds {f : Addr} {fd : FuncData} (F : Fun K "are_for_kinds" "are_for_kinds" sare_for_kinds f fd) (T : Txt mg tM tL) (Dis_row : Df P w K mg base "is_row" 1 ["thing", "least", "most"] spIsRow) (Dis_number : DIsNumber P w K mg base) : FnOk P w K mg base CX0 2 f fd ["thing", "most"] spKinds := by
  refine F.ok scare_for_kinds (fun vs H Q E h => ?_) (fun cdv A outer s H vs Q E hr h => ?_)
  · obtain ⟨p, ns, most, rfl, _⟩ := h
    rfl
  · obtain ⟨p, ns, most, rfl, hp, ⟨h4, hB⟩, q⟩ := h
    refine ⟨_, (pss_one (ps_ret (pe_and (pe_fn Dis_row (hr.mono (by decide)) (pa_cons (pv 0) (pa_cons (pe_gi T.gKINDS) (pa_cons (pe_gi T.gKINDS) pa_nil)))) (pe_one (pe_callB (cr_all rfl) (by rfl) T.zall (by decide +kernel) (pa_cons (pe_lc (own := [("item", 2)]) (g := gName 2) (tt := tYes) (by rfl) scare_for_kinds.nd (pi_tup (pv 0)) (blkOk_by (own := [("item", 2)]) (N := ["thing", "most", "item"]) (sc := defScope sare_for_kinds) (by decide +kernel)) (fun _ _ _ _ _ => (pg_name (i := 2) scare_for_kinds.nd rfl (Or.inl rfl))) (fun _ _ _ _ _ => pts_nil) (fun _ _ _ _ _ => (pe_fn Dis_number (hr.mono (by decide)) (pa_cons (pv 2) (pa_cons pe_int (pa_cons (pv 1) pa_nil)))))) pa_nil)))))), ?_⟩
    refine ⟨_, rfl, p, _, 4, 4, rfl, hp, by rw [List.length_map, h4]; decide, by rw [List.length_map, h4]; decide, fun H1 s1 => ⟨true, rfl, iteT ?_⟩⟩
    refine ⟨_, rfl, p, rfl, ⟨_, SqT.of (s1 _ _ hp)⟩, fun D hD => ?_⟩
    refine lc_tup (K := K) (a := p) (xs := ns.map V.int) (fun i H' => H' D = some (.lst ((List.replicate i true).map V.bl)) ∧ Same H H')
      ⟨upd_same, s1.trans (same_new hD)⟩ (fun i H' _ ⟨_, h⟩ => SqT.of (h _ _ hp)) ?_ ?_
    · rintro i x H' hi ⟨hd, s2⟩
      obtain ⟨n, hn, rfl⟩ := map_int hi
      have hil : i < ns.length := (List.getElem?_eq_some_iff.mp hn).1
      obtain ⟨b1, b2⟩ := hB n (List.mem_of_getElem? hn)
      refine ⟨rfl, ?_⟩
      refine ⟨_, rfl, _, rfl, n, 1, most, rfl, b1, b2, _, hd, ?_, ?_, ?_⟩
      · rw [List.length_map, List.length_replicate]
        exact Nat.lt_of_lt_of_le (show i < 4 by omega) (by decide)
      · rw [upd_same, ← rep_snoc, List.map_append]
        rfl
      · intro b o e
        rw [upd_ne (ne_of_none e (s1.free hD))]
        exact s2 _ _ e
    · rintro H' ⟨hd, s2⟩
      refine ⟨D, _, rfl, SqL.of hd, ?_⟩
      rw [all_rep]
      exact q _ s2
/-! ### common_divisor -/
def spGcd : Sp := fun vs H Q _ => ∃ a b : Int, vs = [.int a, .int b] ∧ 1 ≤ a ∧ 0 ≤ b ∧ Q (.int (Int.gcd a b)) H
abbrev scommon_divisor : Stmt := top 19
theorem sccommon_divisor : FnScope ["one", "other"] ["one", "other"] (defScope scommon_divisor) := ⟨rfl, rfl, rfl, by decide +kernel, rfl, by decide +kernel, by decide +kernel⟩
theorem gcd_step {x y : Int} (hx : 0 ≤ x) (hy : 0 < y) : Int.gcd y (x % y) = Int.gcd x y := by
  have e1 : (x % y).natAbs = x.natAbs % y.natAbs := by
    have h1 : ((x.natAbs % y.natAbs : Nat) : Int) = x % y := by
      rw [Int.natCast_emod, Int.natAbs_of_nonneg hx, Int.natAbs_of_nonneg (by omega)]
    omega
  unfold Int.gcd
  rw [e1, Nat.gcd_comm x.natAbs y.natAbs]
  rw [Nat.gcd_rec y.natAbs x.natAbs, Nat.gcd_comm]
theorem ok_gcd {f : Addr} {fd : FuncData} (F : Fun K "common_divisor" "common_divisor" scommon_divisor f fd) : FnOk P w K mg base CX0 1 f fd ["one", "other"] spGcd := by
  refine F.ok sccommon_divisor (fun vs H Q E h => ?_) (fun cdv A outer s H vs Q E hr h => ?_)
  · obtain ⟨a, b, rfl, _⟩ := h
    rfl
  · obtain ⟨a, b, rfl, ha, hb, q⟩ := h
    refine ⟨_, (pss_cons (ps_while PassesOwn.never (pt_cmp (pc_gt (pv 1) pe_int)) (pss_one (ps_par (i := 0) (j := 1) (by rfl) sccommon_divisor.nd rfl rfl (by decide) rfl rfl (pa_cons (pv 1) (pa_cons (pe_op op_mod (pv 0) (pv 1)) pa_nil)) (by rfl))))
    (pss_one (ps_ret (pv 0)))), ?_⟩
    refine ⟨fun m σ H' => ∃ x y : Int, σ = [some (.int x), some (.int y)] ∧ 1 ≤ x ∧ 0 ≤ y ∧ Int.gcd x y = Int.gcd a b ∧ H' = H ∧ m = y.toNat, ⟨_, a, b, rfl, ha, hb, rfl, rfl, rfl⟩, ?_⟩
    rintro m σ H' ⟨x, y, rfl, hx, hy, hg, rfl, rfl⟩
    refine ⟨_, rfl, y, 0, rfl, rfl, _, rfl, iteD (fun c => ?_) (fun c => ?_)⟩
    · refine ⟨fun σ' H'' => ∃ x' y' : Int, σ' = [some (.int x'), some (.int y')] ∧ 1 ≤ x' ∧ 0 ≤ y' ∧ Int.gcd x' y' = Int.gcd a b ∧ H'' = H' ∧ y' < y, ?_, ?_⟩
      · rintro σ' H'' ⟨x', y', rfl, h1, h2, h3, rfl, h5⟩
        exact ⟨_, by have c' : 0 < y := c; omega, x', y', rfl, h1, h2, h3, rfl, rfl⟩
      · have c' : 0 < y := c
        refine ⟨_, rfl, _, rfl, _, rfl, x, y, rfl, rfl, c', _, _, rfl, ?_⟩
        exact ⟨y, x % y, rfl, by omega, Int.emod_nonneg _ (by omega), (gcd_step (by omega) c').trans hg, rfl, Int.emod_lt_of_pos _ c'⟩
    · have c' : y = 0 := by have : ¬ 0 < y := c; omega
      subst c'
      refine ⟨_, rfl, ?_⟩
      have : Int.gcd x 0 = x.natAbs := Int.gcd_zero_right x
      have e : x = ((Int.gcd a b : Nat) : Int) := by rw [← hg, this]; omega
      rw [e]
      exact q
/-! ### Gang.__init__ -/
def gf (z : Str) (tk hd : Addr) : List (Str × V) := [("name", .str z), ("takes", .ref tk), ("hands", .ref hd)]
theorem gn1 : ¬ (("name" : Str) = "takes") := by decide +kernel
theorem gn2 : ¬ (("name" : Str) = "hands") := by decide +kernel
theorem gn3 : ¬ (("takes" : Str) = "hands") := by decide +kernel
theorem gf_eq (z : Str) (tk hd : Addr) : putF "hands" (.ref hd) (putF "takes" (.ref tk) (putF "name" (.str z) [])) = gf z tk hd := by
  simp only [putF, if_neg gn1, if_neg gn2, if_neg gn3]
  rfl
theorem gf_takes (z : Str) (tk hd : Addr) : (gf z tk hd).lookup ("takes" : Str) = some (.ref tk) := by rw [← gf_eq]; simp only [lookup_putF, if_neg gn3, if_pos]
theorem gf_hands (z : Str) (tk hd : Addr) : (gf z tk hd).lookup ("hands" : Str) = some (.ref hd) := by rw [← gf_eq]; simp only [lookup_putF, if_pos]
theorem gf_no (z : Str) (tk hd : Addr) {m : Str} (h1 : ¬ m = "hands") (h2 : ¬ m = "takes") (h3 : ¬ m = "name") : (gf z tk hd).lookup m = none := by
  rw [← gf_eq]
  simp only [lookup_putF, if_neg h1, if_neg h2, if_neg h3]
  rfl
structure GangTxt (K : PySem.W.Frag) (C : Addr) : Prop where
  cl : Cls K C
  n1 : NoAttr K C "name"
  n2 : NoAttr K C "takes"
  n3 : NoAttr K C "hands"
structure GangAt (C : Addr) (H : Hp) (p : Addr) (ts hs : List Int) : Prop where
  ex : ∃ (z : Str) (dx tk hd : Addr), H p = some (.ins C dx (gf z tk hd)) ∧ H tk = some (.tup (ts.map V.int)) ∧ H hd = some (.tup (hs.map V.int))
  ft : Four ts 1000000
  fh : Four hs 4
theorem GangAt.same {C p : Addr} {H H' : Hp} {ts hs : List Int} (M : GangAt C H p ts hs) (s : Same H H') : GangAt C H' p ts hs := by
  obtain ⟨⟨z, dx, tk, hd, h1, h2, h3⟩, a, b⟩ := M
  exact ⟨⟨z, dx, tk, hd, s _ _ h1, s _ _ h2, s _ _ h3⟩, a, b⟩
theorem GangAt.but {C p t : Addr} {c : Int} {H H' : Hp} {ts hs : List Int} (M : GangAt C H p ts hs) (s : SameBut t H H') (ht : TapeAt H t c) : GangAt C H' p ts hs := by
  obtain ⟨⟨z, dx, tk, hd, h1, h2, h3⟩, a, b⟩ := M
  exact ⟨⟨z, dx, tk, hd, s.ins ht h1, s.tup ht h2, s.tup ht h3⟩, a, b⟩
def spGInit (C : Addr) : Sp := fun vs H Q _ => ∃ (x dx tk hd : Addr) (z : Str) (ts hs : List Int), vs = [.ref x, .str z, .ref tk, .ref hd] ∧ H x = some (.ins C dx []) ∧ GoodName z ∧ H tk = some (.tup (ts.map V.int)) ∧ H hd = some (.tup (hs.map V.int)) ∧ Four ts 1000000 ∧ Four hs 4 ∧
  ∀ H', GangAt C H' x ts hs → (∀ b o, H b = some o → b ≠ x → H' b = some o) → Q .non H'
abbrev sGang_init : Stmt := inClass (top 20) 0
theorem scGang_init : FnScope ["self", "name", "takes", "hands"] ["self", "name", "takes", "hands"] (defScope sGang_init) := ⟨rfl, rfl, rfl, by decide +kernel, rfl, by decide +kernel, by decide +kernel⟩
theorem ok_ginit {f C : Addr} {fd : FuncData} {dvs : List V} (F : FunD K "__init__" "Gang.__init__" (defArgs sGang_init) (defBody sGang_init) (defScope sGang_init) dvs [] f fd) (T : Txt mg tM tL) (GT : GangTxt K C) (Dis_name : Df P w K mg base "is_name" 1 ["thing"] spIsName)
    (Dare_for_kinds : Df P w K mg base "are_for_kinds" 2 ["thing", "most"] spKinds) : FnOk P w K mg base CX0 3 f fd ["self", "name", "takes", "hands"] (spGInit C) := by
  refine FunD_ok0 F scGang_init (fun vs H Q E h => ?_) (fun cdv A outer s H vs Q E hr h => ?_)
  · obtain ⟨x, dx, tk, hd, z, ts, hs, rfl, _⟩ := h
    rfl
  · obtain ⟨x, dx, tk, hd, z, ts, hs, rfl, hx, hz, htk, hhd, ft, fh, q⟩ := h
    refine ⟨_, (pss_cons (ps_if (pt_not (pt_val (pe_fn Dis_name (hr.mono (by decide)) (pa_cons (pv 1) pa_nil)))) (pss_one ps_never) pss_nil)
    (pss_cons (ps_if (pt_not (pt_val (pe_fn Dare_for_kinds (hr.mono (by decide)) (pa_cons (pv 2) (pa_cons (pe_gi T.gMOST_TAKE) pa_nil))))) (pss_one ps_never) pss_nil)
    (pss_cons (ps_if (PW.pt (pw_and (pt_cmp (pc_notN (pv 3))) (pw_and1 (pt_not (pt_val (pe_fn Dare_for_kinds (hr.mono (by decide)) (pa_cons (pv 3) (pa_cons (pe_gi T.gMOST_HANDS) pa_nil)))))))) (pss_one ps_never) pss_nil)
    (pss_cons (ps_fld (pv 0) (pv 1) rfl)
    (pss_cons (ps_fld (pv 0) (pe_callTy call_tuple_of (by rfl) T.ztuple (by decide +kernel) (pa_cons (pv 2) pa_nil)) rfl)
    (pss_one (ps_fld (pv 0) (pe_ifExp (pt_cmp (pc_isN (pv 3))) (pe_tup (pa_cons pe_int (pa_cons pe_int (pa_cons pe_int (pa_cons pe_int pa_nil))))) (pe_callTy call_tuple_of (by rfl) T.ztuple (by decide +kernel) (pa_cons (pv 3) pa_nil))) rfl))))))), ?_⟩
    refine ⟨_, rfl, z, rfl, hz, fun H1 s1 => ⟨true, rfl, iteF ?_⟩⟩
    refine ⟨_, rfl, tk, ts, 1000000, rfl, s1 _ _ htk, ft, fun H2 s2 => ⟨true, rfl, iteF ?_⟩⟩
    refine ⟨_, rfl, true, rfl, iteT ?_⟩
    refine ⟨_, rfl, hd, hs, 4, rfl, s2 _ _ (s1 _ _ hhd), fh, fun H3 s3 => ⟨true, rfl, iteF ?_⟩⟩
    have s13 : Same H H3 := (s1.trans s2).trans s3
    have hx3 := s13 _ _ hx
    have htk3 := s13 _ _ htk
    have hhd3 := s13 _ _ hhd
    have nxt : tk ≠ x := ne_of htk3 hx3 (by intro z; cases z)
    have nxh : hd ≠ x := ne_of hhd3 hx3 (by intro z; cases z)
    refine ⟨_, rfl, _, rfl, x, C, dx, _, rfl, hx3, GT.cl, GT.n1, (by show 0 < 1000; decide), ?_⟩
    refine ⟨_, rfl, tk, _, rfl, .inr ⟨SqT.of (by rw [upd_ne nxt]; exact htk3), _, rfl, x, C, dx, _, rfl, upd_same, GT.cl, GT.n2, (by show 1 < 1000; decide), ?_⟩⟩
    rw [upd_upd]
    refine ⟨_, rfl, false, rfl, iteF ?_⟩
    refine ⟨_, rfl, hd, _, rfl, .inr ⟨SqT.of (by rw [upd_ne nxh]; exact hhd3), _, rfl, x, C, dx, _, rfl, upd_same, GT.cl, GT.n3, (by simp only [putF, if_neg gn1]; show 2 < 1000; decide), ?_⟩⟩
    rw [upd_upd, gf_eq]
    refine q _ ⟨⟨z, dx, tk, hd, upd_same, by rw [upd_ne nxt]; exact htk3, by rw [upd_ne nxh]; exact hhd3⟩, ft, fh⟩ fun b o e n => ?_
    rw [upd_ne n]
    exact s13 _ _ e
structure DGk (P : Program) (w : World) (K : PySem.W.Frag) (mg : Str → Option Value) (base : Heap) (C : Addr) : Prop where
  ex : ∃ (f : Addr) (fd : FuncData), Mk K C f ∧ FnOk P w K mg base CX0 3 f fd ["self", "name", "takes", "hands"] (spGInit C) ∧ mg "Gang" = some (.ref C) ∧ Binds K fd ["self", "name", "takes", "hands"] []
theorem pe_gang {X : Cx} {C : Addr} {p pos : Pos} {e : Expr} {es : List Expr} {t : TA} (M : DGk X.prog X.w X.K X.mg X.base C) (hr : Room 4 X.A) (ha : PA X (e :: es) t) (hg : Gl X "Gang" := by rfl)
    (he : starEach (e :: es) X.env = (false, eval e X.env) :: starEach es X.env := by rfl) (hpl : (backTo pos (starEach es X.env)).any (·.1) = false := by rfl) :
    PE X (.Call (.Name "Gang" p) (e :: es) [] pos) (tMake C (spGInit C) [] E0 t) := by
  obtain ⟨f, fd, mk, F, hm, b⟩ := M.ex
  exact pe_make mk F hr hg hm b .nil pass0 ha (by decide) he hpl
end
end HP
namespace HP
open PySem L2
section
variable {P : Program} {w : World} {K : PySem.W.Frag} {mg : Str → Option Value} {base : Heap} {tM tL : Tok}
/-! ### _law_names -/
def spNames : Sp := fun vs H Q _ => ∃ (t : Addr) (c : Int) (m : Nat), vs = [.ref t, .int (m : Int)] ∧ TapeAt H t c ∧ c ≤ 90000 ∧ m ≤ 26 ∧
  ∀ (p : Addr) (zs : List Str) (H' : Hp), H p = none → zs.length = m → (∀ z ∈ zs, GoodName z) → H' p = some (.lst (zs.map V.str)) → TapeAt H' t (c + 20) → SameBut t H H' → Q (.ref p) H'
abbrev sLnames : Stmt := top 25
theorem scLnames : FnScope ["_law_tape_here", "_law_a_many", "_law_letters", "_law_shift", "_law_stem", "_law_at", "_law_step", "_law_found", "_law_head", "_law_tail", "_law_k", "_law_way", "_law_sign"] ["_law_tape_here", "_law_a_many"] (defScope sLnames) := ⟨rfl, rfl, rfl, by decide +kernel, rfl, by decide +kernel, by decide +kernel⟩
theorem sep_empty : (Str.ofString "").cps = #[] := by decide +kernel
theorem ok_names {f : Addr} {fd : FuncData} (F : Fun K "_law_names" "_law_names" sLnames f fd) (T : Txt mg tM tL) (DLdraw : DDraw P w K mg base) : FnOk P w K mg base CX0 2 f fd ["_law_tape_here", "_law_a_many"] spNames := by
  refine F.ok scLnames (fun vs H Q E h => ?_) (fun cdv A outer s H vs Q E hr h => ?_)
  · obtain ⟨t, c, m, rfl, _⟩ := h
    rfl
  · obtain ⟨t, c, m, rfl, hT, hc, hm, q⟩ := h
    refine ⟨_, (pss_cons (ps_asg (pe_tup (pa_cons pe_str (pa_cons (pe_fn DLdraw (hr.mono (by decide)) (pa_cons (pv 0) (pa_cons pe_int pa_nil))) pa_nil))) (pg_tup rfl (pgs_cons (pg_name (i := 2) scLnames.nd rfl (Or.inr rfl)) (pgs_cons (pg_name (i := 3) scLnames.nd rfl (Or.inl rfl)) pgs_nil))))
    (pss_cons (ps_set (i := 4) scLnames.nd rfl (Or.inl rfl) (pe_join pe_str (pe_lc (own := [("_law_k", 10)]) (g := gName 10) (tt := tYes) (by rfl) scLnames.nd (pi_range1 (by rfl) T.zrange (pa_cons (pe_fn DLdraw (hr.mono (by decide)) (pa_cons (pv 0) (pa_cons pe_int pa_nil))) pa_nil)) (blkOk_by (own := [("_law_k", 10)]) (N := ["_law_tape_here", "_law_a_many", "_law_letters", "_law_shift", "_law_stem", "_law_at", "_law_step", "_law_found", "_law_head", "_law_tail", "_law_k", "_law_way", "_law_sign"]) (sc := defScope sLnames) (by decide +kernel)) (fun _ _ _ _ _ => (pg_name (i := 10) scLnames.nd rfl (Or.inl rfl))) (fun _ _ _ _ _ => pts_nil) (fun _ _ _ _ _ => (pe_ix ix_str (pv 2) (pe_fn DLdraw (hr.mono (by decide)) (pa_cons (pv 0) (pa_cons pe_int pa_nil))) (fun _ _ => rfl))))))
    (pss_cons (ps_par3 (i := 5) (j := 6) (l := 7) (by rfl) scLnames.nd rfl rfl rfl (by decide) (by decide) (by decide) rfl rfl rfl (pa_cons (pe_fn DLdraw (hr.mono (by decide)) (pa_cons (pv 0) (pa_cons (pe_op op_add (pe_callB call_len_str (by rfl) T.zlen (by decide +kernel) (pa_cons (pv 4) pa_nil)) pe_int) pa_nil))) (pa_cons (pe_ix ix_list (pe_lst (pa_cons pe_int (pa_cons pe_int (pa_cons pe_int pa_nil)))) (pe_fn DLdraw (hr.mono (by decide)) (pa_cons (pv 0) (pa_cons pe_int pa_nil))) (fun _ _ => rfl)) (pa_cons (pe_lst pa_nil) pa_nil))) (by rfl))
    (pss_cons (ps_par (i := 8) (j := 9) (by rfl) scLnames.nd rfl rfl (by decide) rfl rfl (pa_cons (pe_slice sl_str (pv 4) po_none (po_some (pv 5))) (pa_cons (pe_slice sl_str (pv 4) (po_some (pv 5)) po_none) pa_nil)) (by rfl))
    (pss_cons (ps_for PassesOwn.never rfl (pi_range1 (by rfl) T.zrange (pa_cons (pv 1) pa_nil)) (pg_name (i := 10) scLnames.nd rfl (Or.inl rfl))
    (pss_cons (ps_set (i := 11) scLnames.nd rfl (Or.inl rfl) (pe_op op_mul (pe_op op_mod (pe_op op_add (pe_op op_add (pv 3) (pv 5)) (pe_callB call_len_str (by rfl) T.zlen (by decide +kernel) (pa_cons (pv 4) pa_nil))) pe_int) (pe_callTy call_int1 (by rfl) T.zint (by decide +kernel) (pa_cons (pe_cmpR op_ne (pv 9) pe_str (nomark _)) pa_nil))))
    (pss_cons (ps_set (i := 12) scLnames.nd rfl (Or.inl rfl) (pe_ix ix_str (pv 2) (pe_op op_mod (pe_op op_add (pv 3) (pe_op op_mul (pv 6) (pe_ix ix_list (pe_lst (pa_cons (pv 10) (pa_cons (pe_op op_fdivW (pv 10) pe_int) (pa_cons (pv 10) pa_nil)))) (pv 11) (fun _ _ => rfl)))) pe_int) (fun _ _ => rfl)))
    (pss_one (ps_expr (pe_bm PySem.F.plainAttrs_list PySem.F.slot_list_append PySem.F.type_list_append mt_append (pv 7) (pa_cons (pe_op op_add_str (pe_op op_add_str (pv 8) (pv 12)) (pe_ix ix_list (pe_lst (pa_cons (pv 9) (pa_cons (pe_op op_mul_str (pv 9) (pe_op op_mod (pv 10) pe_int)) (pa_cons (pe_slice sl_str (pv 9) po_none (po_some (pe_op op_mod (pv 10) (pe_op op_add (pe_callB call_len_str (by rfl) T.zlen (by decide +kernel) (pa_cons (pv 9) pa_nil)) pe_int)))) pa_nil)))) (pv 11) (fun _ _ => rfl))) pa_nil)))))))
    (pss_one (ps_ret (pv 7)))))))), ?_⟩
    -- _law_letters, _law_shift
    refine ⟨_, rfl, t, c, 26, rfl, hT, by omega, by decide, by decide, fun sh H1 a0 a1 T1 S1 => ?_⟩
    refine ⟨(by show 2 ≤ sizeLine; decide), fun tp htp => ⟨tp, _, rfl, SqT.of upd_same, rfl, _, _, rfl, _, _, rfl, rfl, ?_⟩⟩
    have T1' := T1.new (o := .tup [.str lettersS, .int sh]) htp
    have SB1 : SameBut t H (upd H1 tp (.tup [.str lettersS, .int sh])) := S1.new htp
    -- _law_stem
    refine ⟨⟨_, rfl⟩, ?_⟩
    refine ⟨_, rfl, t, _, 8, rfl, T1', by omega, by decide, by decide, fun n0 H2 b0 b1 T2 S2 => ?_⟩
    have SB2 := SB1.trans S2
    refine ⟨n0, rfl, by omega, by omega, fun D hD => ?_⟩
    have nDt : D ≠ t := T2.ne hD
    refine lc_range (lo := 0) (n := n0.toNat) (fun i H' => ∃ zs : List Str, H' D = some (.lst (zs.map V.str)) ∧ zs.length = i ∧ (∀ z ∈ zs, Lets z ∧ z.length = 1) ∧ TapeAt H' t (c + 2 + (i : Int)) ∧ SameBut t H H')
      ⟨[], upd_same, rfl, (fun z hz => by cases hz), (T2.new hD).mono (by omega), SB2.new hD⟩ ?_ ?_
    · rintro i H' hi ⟨zs, hzs, lzs, hZ, Ti, SBi⟩
      refine ⟨rfl, ?_⟩
      refine ⟨_, rfl, _, rfl, t, _, 26, rfl, Ti, by omega, by decide, by decide, fun r H3 c0 c1 T3 S3 => ?_⟩
      obtain ⟨cc, hcc, hb⟩ := letter_at c0 c1
      have hzs3 := S3 _ _ hzs nDt
      refine ⟨lettersS, r, cc, rfl, rfl, letters_size, hcc, _, hzs3, ?_, zs ++ [⟨#[cc]⟩], ?_, ?_, ?_, ?_, ?_⟩
      · rw [List.length_map, lzs]
        exact Nat.lt_of_lt_of_le (show i < 8 by omega) (by decide)
      · rw [upd_same, List.map_append]
        rfl
      · rw [List.length_append, lzs]
        rfl
      · intro z hz
        rcases List.mem_append.mp hz with h | h
        · exact hZ z h
        · rw [List.mem_singleton] at h
          rw [h]
          exact ⟨Lets.one hb, rfl⟩
      · obtain ⟨a', b', k', g1, g2⟩ := T3
        refine ⟨a', b', k', ?_, g2.1, g2.2.1, g2.2.2.1, g2.2.2.2.1, by have := g2.2.2.2.2; omega⟩
        rw [upd_ne nDt.symm]
        exact g1
      · intro b o e n
        have nbD : b ≠ D := by
          intro e'
          have h2 := SB2 _ _ e n
          rw [e', hD] at h2
          cases h2
        rw [upd_ne nbD]
        exact S3 _ _ (SBi _ _ e n) n
    rintro H' ⟨zs, hzs, lzs, hZ, Ti, SBi⟩
    have hone : ∀ z ∈ zs, z.length = 1 := fun z hz => (hZ z hz).2
    obtain ⟨jl, jn⟩ := join_lets sep_empty zs hZ
    refine ⟨_, D, zs, rfl, rfl, .inl (SqL.of hzs), ?_, ?_⟩
    · rw [sum_ones zs hone, show (Str.ofString "").length = 0 from by decide +kernel, Nat.mul_zero]
      omega
    generalize Txt.join (Str.ofString "") zs = stem at jl jn
    have sl : stem.length ≤ 7 := by omega
    have ssz : stem.length ≤ sizeLine := Nat.le_trans sl (by decide)
    -- _law_at, _law_step, _law_found
    refine ⟨_, rfl, _, rfl, stem, rfl, ssz, _, 1, rfl, rfl, t, _, _, rfl, Ti, by omega, by omega, by omega, fun at_ H3 d0 d1 T3 S3 => ?_⟩
    refine ⟨(by show 3 ≤ sizeLine; decide), fun l3 hl3 => ?_⟩
    refine ⟨_, rfl, t, _, 3, rfl, T3.new hl3, by omega, by decide, by decide, fun r3 H4 e0 e1 T4 S4 => ?_⟩
    obtain ⟨step, hstep, estep⟩ := at3 (x := 1) (y := 7) (z := 25) e0 e1
    refine ⟨l3, _, _, _, rfl, rfl, SqL.of (S4 _ _ upd_same (T3.ne hl3)), hstep, (by show 0 ≤ sizeLine; decide), fun fo hfo => ⟨_, _, _, rfl, ?_⟩⟩
    have nft : fo ≠ t := T4.ne hfo
    have SB4 : SameBut t H H4 := ((SBi.trans S3).trans (Same.but (same_new hl3))).trans S4
    have hfo0 : H fo = none := SB4.free T4 hfo
    have T5 := (T4.new (o := .lst []) hfo)
    -- _law_head, _law_tail
    refine ⟨_, rfl, _, rfl, at_, rfl, stem, rfl, ssz, _, rfl, _, rfl, at_, rfl, stem, rfl, ssz, _, _, rfl, ?_⟩
    obtain ⟨hn1, hn2⟩ := cut_parts stem at_.toNat (by omega)
    rw [show ((at_.toNat : Nat) : Int) = at_ by omega] at hn1 hn2
    have hL1 := jl.cut none (some at_)
    have hL2 := jl.cut (some at_) none
    generalize cutS stem none (some at_) = hd at hn1 hL1
    generalize cutS stem (some at_) none = tl at hn2 hL2
    have tsz : tl.length ≤ sizeLine := Nat.le_trans (show tl.length ≤ 7 by omega) (by decide)
    -- the names
    refine ⟨_, rfl, (m : Int), rfl, by omega, by omega, ?_⟩
    refine for_range (lo := 0) (n := ((m : Int)).toNat) (fun i σ H' => ∃ (ns : List Str) (v10 v11 v12 : Option V), σ = [some (.ref t), some (.int (m : Int)), some (.str lettersS), some (.int sh), some (.str stem), some (.int at_), some (.int step), some (.ref fo), some (.str hd), some (.str tl), v10, v11, v12] ∧
        H' fo = some (.lst (ns.map V.str)) ∧ ns.length = i ∧ (∀ z ∈ ns, GoodName z) ∧ (∀ b o, H4 b = some o → H' b = some o))
      ⟨[], _, _, _, rfl, upd_same, rfl, (fun z hz => by cases hz), same_new hfo⟩ ?_ ?_
    · rintro i σ H' hi ⟨ns, v10, v11, v12, rfl, hns, lns, hN, s5⟩
      have hi26 : i < 26 := by omega
      have w0 : 0 ≤ (sh + at_ + (stem.length : Int)) % 3 := Int.emod_nonneg _ (by decide)
      have w1 : (sh + at_ + (stem.length : Int)) % 3 < 3 := Int.emod_lt_of_pos _ (by decide)
      refine ⟨_, rfl, _, rfl, sh, at_, rfl, rfl, _, rfl, stem, rfl, ssz, _, _, rfl, rfl, _, 3, rfl, rfl, (show (0 : Int) < 3 by decide), _, rfl, rfl, .inr ⟨_, rfl, _, _, rfl, rfl, cm01 _ _, ?_⟩⟩
      have hw : ∃ way : Int, 0 ≤ way ∧ way < 3 ∧ (sh + at_ + (stem.length : Int)) % 3 * (if (!decide (V.str tl = V.str (Str.ofString ""))) = true then (1 : Int) else 0) = way := by
        cases (!decide (V.str tl = V.str (Str.ofString ""))) with
        | true => exact ⟨_, w0, w1, by rw [if_pos rfl, Int.mul_one]⟩
        | false => exact ⟨0, by decide, by decide, by rw [if_neg (by decide), Int.mul_zero]⟩
      obtain ⟨way, ww0, ww1, hway⟩ := hw
      dsimp only
      rw [hway]
      -- the sign
      refine ⟨_, rfl, _, rfl, _, rfl, _, rfl, _, rfl, _, 2, rfl, rfl, wd (by decide) (by decide), _, rfl, (by show 3 ≤ sizeLine; decide), fun l5 hl5 => ?_⟩
      obtain ⟨kk, hkk, ekk⟩ := at3 (x := 0 + (i : Int)) (y := (0 + (i : Int)) / 2) (z := 0 + (i : Int)) ww0 ww1
      refine ⟨_, rfl, l5, _, _, _, rfl, rfl, SqL.of upd_same, hkk, step, kk, rfl, rfl, .inl ⟨by omega, by omega⟩, sh, _, rfl, rfl, _, 26, rfl, rfl, (show (0 : Int) < 26 by decide), ?_⟩
      obtain ⟨sg, hsg, hsb⟩ := letter_at (i := (sh + step * kk) % 26) (Int.emod_nonneg _ (by decide)) (Int.emod_lt_of_pos _ (by decide))
      refine ⟨lettersS, _, sg, rfl, rfl, letters_size, hsg, ?_⟩
      -- the name
      have hns5 : ∀ o, (upd H' l5 o) fo = some (.lst (ns.map V.str)) := fun o => by rw [upd_ne (ne_of_none hns hl5)]; exact hns
      have m0 : 0 ≤ (0 + (i : Int)) % 2 := Int.emod_nonneg _ (by decide)
      have m1 : (0 + (i : Int)) % 2 < 2 := Int.emod_lt_of_pos _ (by decide)
      obtain ⟨mok, mval⟩ := mul01 (z := tl) m0 (by omega : (0 + (i : Int)) % 2 ≤ 1)
      refine ⟨_, rfl, .inl ⟨rfl, _, SqL.of (hns5 _)⟩, _, rfl, _, rfl, hd, ⟨#[sg]⟩, rfl, rfl, ?_, ?_⟩
      · exact Nat.le_trans (show hd.length + 1 ≤ 9 by omega) (by decide)
      refine ⟨_, rfl, _, rfl, _, rfl, _, 2, rfl, rfl, (show (0 : Int) < 2 by decide), tl, _, rfl, rfl, mok, ?_⟩
      have tpos : (0 : Int) < (tl.length : Int) + 1 := by omega
      refine ⟨_, rfl, _, rfl, _, rfl, tl, rfl, tsz, _, 1, rfl, rfl, _, _, rfl, rfl, tpos, _, rfl, tl, rfl, tsz, (by show 3 ≤ sizeLine; decide), fun l6 hl6 => ?_⟩
      have hxt : ∃ y : Str, atI [V.str tl, V.str (Txt.mul tl ((0 + (i : Int)) % 2)), V.str (cutS tl none (some ((0 + (i : Int)) % ((tl.length : Int) + 1))))] way = some (V.str y) ∧ Lets y ∧ y.length ≤ tl.length := by
        have : way = 0 ∨ way = 1 ∨ way = 2 := by omega
        rcases this with rfl | rfl | rfl
        · exact ⟨tl, rfl, hL2, Nat.le_refl _⟩
        · refine ⟨_, rfl, ?_, ?_⟩
          · rcases mval with h | h <;> rw [h]
            · exact hL2
            · exact Lets.empty
          · rcases mval with h | h <;> rw [h]
            · exact Nat.le_refl _
            · exact Nat.zero_le _
        · exact ⟨_, rfl, hL2.cut _ _, cut_size _ _ _⟩
      obtain ⟨y, hy, hyL, hyn⟩ := hxt
      refine ⟨_, rfl, l6, _, _, _, rfl, rfl, SqL.of upd_same, hy, _, y, rfl, rfl, ?_, ?_⟩
      · rw [Str.length_append]
        exact Nat.le_trans (show hd.length + 1 + y.length ≤ 9 by omega) (by decide)
      have hns6 : ∀ o, (upd (upd H' l5 (.lst [.int (0 + (i : Int)), .int ((0 + (i : Int)) / 2), .int (0 + (i : Int))])) l6 o) fo = some (.lst (ns.map V.str)) := fun o => by rw [upd_ne (ne_of_none (hns5 _) hl6)]; exact hns5 _
      refine ⟨fo, _, _, rfl, rfl, hns6 _, ?_, ?_⟩
      · rw [List.length_map, lns]
        exact Nat.lt_of_lt_of_le (show i < 26 by omega) (by decide)
      refine ⟨ns ++ [hd ++ ⟨#[sg]⟩ ++ y], _, _, _, rfl, ?_, ?_, ?_, ?_⟩
      · rw [upd_same, List.map_append]
        rfl
      · rw [List.length_append, lns]
        rfl
      · intro z hz
        rcases List.mem_append.mp hz with h | h
        · exact hN z h
        · rw [List.mem_singleton] at h
          rw [h]
          have hlen : (hd ++ ⟨#[sg]⟩ ++ y).length = hd.length + 1 + y.length := by
            rw [Str.length_append, Str.length_append]
            rfl
          exact ⟨by rw [hlen]; omega, by rw [hlen]; omega, (hL1.append (Lets.one hsb)).append hyL⟩
      · intro b o e
        have nbf : b ≠ fo := ne_of_none e hfo
        have z1 := s5 _ _ e
        have z2 : (upd H' l5 (.lst [.int (0 + (i : Int)), .int ((0 + (i : Int)) / 2), .int (0 + (i : Int))])) b = some o := by rw [upd_ne (ne_of_none z1 hl5)]; exact z1
        rw [upd_ne nbf, upd_ne (ne_of_none z2 hl6)]
        exact z2
    · rintro σ H' ⟨ns, v10, v11, v12, rfl, hns, lns, hN, s5⟩
      refine ⟨_, rfl, ?_⟩
      exact q fo ns H' hfo0 (by omega) hN hns ((T4.same s5).mono (by omega)) (SB4.trans (Same.but s5))
end
end HP
namespace HP
open PySem L2
section
variable {P : Program} {w : World} {K : PySem.W.Frag} {mg : Str → Option Value} {base : Heap} {tM tL : Tok}
/-! ### _law_takes, _law_hands -/
def spTakes : Sp := fun vs H Q _ => ∃ (t : Addr) (c most : Int), vs = [.ref t, .int most] ∧ TapeAt H t c ∧ c ≤ 90000 ∧ 1 ≤ most ∧ most ≤ 1000000 ∧
  ∀ (p : Addr) (ns : List Int) (H' : Hp), Four ns most → H' p = some (.tup (ns.map V.int)) → TapeAt H' t (c + 10) → SameBut t H H' → Q (.ref p) H'
abbrev sLtakes : Stmt := top 26
theorem scLtakes : FnScope ["_law_tape_here", "_law_most", "_law_way", "_law_base", "_law_kind"] ["_law_tape_here", "_law_most"] (defScope sLtakes) := ⟨rfl, rfl, rfl, by decide +kernel, rfl, by decide +kernel, by decide +kernel⟩
theorem ok_takes {f : Addr} {fd : FuncData} (F : Fun K "_law_takes" "_law_takes" sLtakes f fd) (T : Txt mg tM tL) (DLdraw : DDraw P w K mg base) : FnOk P w K mg base CX0 2 f fd ["_law_tape_here", "_law_most"] spTakes := by
  refine F.ok scLtakes (fun vs H Q E h => ?_) (fun cdv A outer s H vs Q E hr h => ?_)
  · obtain ⟨t, c, most, rfl, _⟩ := h
    rfl
  · obtain ⟨t, c, most, rfl, hT, hc, h1, h2, q⟩ := h
    refine ⟨_, (pss_cons (ps_asg (pe_tup (pa_cons (pe_fn DLdraw (hr.mono (by decide)) (pa_cons (pv 0) (pa_cons pe_int pa_nil))) (pa_cons (pe_op op_add pe_int (pe_fn DLdraw (hr.mono (by decide)) (pa_cons (pv 0) (pa_cons (pe_callB (call_min2 rfl) (by rfl) T.zmin (by decide +kernel) (pa_cons (pv 1) (pa_cons pe_int pa_nil))) pa_nil)))) pa_nil))) (pg_tup rfl (pgs_cons (pg_name (i := 2) scLtakes.nd rfl (Or.inr rfl)) (pgs_cons (pg_name (i := 3) scLtakes.nd rfl (Or.inr rfl)) pgs_nil))))
    (pss_cons (ps_if (pt_cmp (pc_eqI (pv 2) pe_int)) (pss_one (ps_ret (pe_callTy call_tuple_of (by rfl) T.ztuple (by decide +kernel) (pa_cons (pe_lc (own := [("_law_kind", 4)]) (g := gName 4) (tt := tYes) (by rfl) scLtakes.nd (pi_range1 (by rfl) T.zrange (pa_cons pe_int pa_nil)) (blkOk_by (own := [("_law_kind", 4)]) (N := ["_law_tape_here", "_law_most", "_law_way", "_law_base", "_law_kind"]) (sc := defScope sLtakes) (by decide +kernel)) (fun _ _ _ _ _ => (pg_name (i := 4) scLtakes.nd rfl (Or.inl rfl))) (fun _ _ _ _ _ => pts_nil) (fun _ _ _ _ _ => (pv 3))) pa_nil)))) pss_nil)
    (pss_one (ps_ret (pe_callTy call_tuple_of (by rfl) T.ztuple (by decide +kernel) (pa_cons (pe_lc (own := [("_law_kind", 4)]) (g := gName 4) (tt := tYes) (te := tOp (rI0 fun i j => .int (i + j)) (tC (.int 1)) (tCall spDraw [] E0 (tCons (tVar 0) (tCons (tOp (rIxL K) (tLst (tCons (tCB (fun xs H Q => ∃ i j, xs = [.int i, .int j] ∧ Q (.int (if j < i then j else i)) H) (tCons (tVar 1) (tCons (tC (.int 4)) tNil))) (tCons (tCB (fun xs H Q => ∃ i j, xs = [.int i, .int j] ∧ Q (.int (if j < i then j else i)) H) (tCons (tVar 1) (tCons (tC (.int 12)) tNil))) (tCons (tVar 1) tNil)))) (tOp (rI0 fun i j => .int (i - j)) (tVar 2) (tC (.int 1)))) tNil)))) (by rfl) scLtakes.nd (pi_range1 (by rfl) T.zrange (pa_cons pe_int pa_nil)) (blkOk_by (own := [("_law_kind", 4)]) (N := ["_law_tape_here", "_law_most", "_law_way", "_law_base", "_law_kind"]) (sc := defScope sLtakes) (by decide +kernel)) (fun _ _ _ _ _ => (pg_name (i := 4) scLtakes.nd rfl (Or.inl rfl))) (fun _ _ _ _ _ => pts_nil) (fun _ _ _ _ _ => (pe_op op_add pe_int (pe_fn DLdraw (hr.mono (by decide)) (pa_cons (pv 0) (pa_cons (pe_ix ix_list (pe_lst (pa_cons (pe_callB (call_min2 rfl) (by rfl) T.zmin (by decide +kernel) (pa_cons (pv 1) (pa_cons pe_int pa_nil))) (pa_cons (pe_callB (call_min2 rfl) (by rfl) T.zmin (by decide +kernel) (pa_cons (pv 1) (pa_cons pe_int pa_nil))) (pa_cons (pv 1) pa_nil)))) (pe_op op_sub (pv 2) pe_int) (fun _ _ => rfl)) pa_nil)))))) pa_nil)))))), ?_⟩
    refine ⟨_, rfl, t, c, 4, rfl, hT, by omega, by decide, by decide, fun way H1 a0 a1 T1 S1 => ?_⟩
    have mn : ∀ x : Int, 1 ≤ x → 1 ≤ (if x < most then x else most) ∧ (if x < most then x else most) ≤ most := fun x hx => by split <;> omega
    refine ⟨_, rfl, _, rfl, most, 6, rfl, t, _, _, rfl, T1, by omega, by have := mn 6 (by decide); omega, by have := mn 6 (by decide); omega, fun bs H2 b0 b1 T2 S2 => ?_⟩
    have mn6 := mn 6 (by decide)
    refine ⟨1, bs, rfl, rfl, (by show 2 ≤ sizeLine; decide), fun tp htp => ⟨tp, _, rfl, SqT.of upd_same, rfl, _, _, rfl, _, _, rfl, rfl, ?_⟩⟩
    have SB : SameBut t H (upd H2 tp (.tup [.int way, .int (1 + bs)])) := (S1.trans S2).new htp
    have T3 : TapeAt (upd H2 tp (.tup [.int way, .int (1 + bs)])) t (c + 2) := (T2.new htp).mono (by omega)
    generalize upd H2 tp (.tup [.int way, .int (1 + bs)]) = H3 at SB T3
    refine ⟨_, rfl, way, 0, rfl, rfl, _, rfl, iteD (fun d1 => ?_) (fun d1 => ?_)⟩
    · -- all alike
      refine ⟨4, rfl, by decide, by decide, fun D hD => ?_⟩
      refine lc_range (lo := 0) (n := (4 : Int).toNat) (fun i H' => H' D = some (.lst ((List.replicate i (1 + bs)).map V.int)) ∧ Same H3 H') ⟨upd_same, same_new hD⟩ ?_ ?_
      · rintro i H' hi ⟨hd, s1⟩
        have hi4 : i < 4 := hi
        refine ⟨rfl, ?_⟩
        refine ⟨_, rfl, _, hd, ?_, ?_, ?_⟩
        · rw [List.length_map, List.length_replicate]
          exact Nat.lt_of_lt_of_le hi4 (by decide)
        · rw [upd_same, ← rep_snoc, List.map_append]
          rfl
        · intro b o e
          rw [upd_ne (ne_of_none e hD)]
          exact s1 _ _ e
      · rintro H' ⟨hd, s1⟩
        refine ⟨D, _, rfl, .inl ⟨SqL.of hd, fun p hp => ?_⟩⟩
        refine q p (List.replicate 4 (1 + bs)) _ ⟨List.length_replicate, fun n hn => ?_⟩ upd_same (((T3.same s1).new hp).mono (by omega)) ((SB.trans (Same.but s1)).new hp)
        rw [(List.mem_replicate.mp hn).2]
        omega
    · refine ⟨4, rfl, by decide, by decide, fun D hD => ?_⟩
      have nDt : D ≠ t := T3.ne hD
      have d1' : ¬ way = 0 := d1
      refine lc_range (lo := 0) (n := (4 : Int).toNat) (fun i H' => ∃ ns : List Int, H' D = some (.lst (ns.map V.int)) ∧ ns.length = i ∧ (∀ n ∈ ns, 1 ≤ n ∧ n ≤ most) ∧ TapeAt H' t (c + 2 + (i : Int)) ∧ SameBut t H3 H')
        ⟨[], upd_same, rfl, (fun z hz => by cases hz), (T3.new hD).mono (by omega), Same.but (same_new hD)⟩ ?_ ?_
      · rintro i H' hi ⟨ns, hns, lns, hN, Ti, SBi⟩
        have hi4 : i < 4 := hi
        refine ⟨rfl, ?_⟩
        refine ⟨_, rfl, _, rfl, most, 4, rfl, _, rfl, most, 12, rfl, _, rfl, (by show 3 ≤ sizeLine; decide), fun l3 hl3 => ?_⟩
        obtain ⟨mm, hmm, emm⟩ := at3 (x := if 4 < most then 4 else most) (y := if 12 < most then 12 else most) (z := most) (r := way - 1) (by omega) (by omega)
        have mmb : 1 ≤ mm ∧ mm ≤ most := by
          rcases emm with h | h | h
          · rw [h]; exact mn 4 (by decide)
          · rw [h]; exact mn 12 (by decide)
          · rw [h]; exact ⟨h1, Int.le_refl _⟩
        refine ⟨_, rfl, way, 1, rfl, rfl, l3, _, _, _, rfl, rfl, SqL.of upd_same, hmm, t, _, mm, rfl, Ti.new hl3, by omega, by omega, by omega, fun r H5 e0 e1 T5 S5 => ?_⟩
        have hns5 : H5 D = some (.lst (ns.map V.int)) := S5 _ _ (by rw [upd_ne (ne_of_none hns hl3)]; exact hns) nDt
        refine ⟨1, r, rfl, rfl, _, hns5, ?_, ns ++ [1 + r], ?_, ?_, ?_, ?_, ?_⟩
        · rw [List.length_map, lns]
          exact Nat.lt_of_lt_of_le hi4 (by decide)
        · rw [upd_same, List.map_append]
          rfl
        · rw [List.length_append, lns]
          rfl
        · intro n hn
          rcases List.mem_append.mp hn with h | h
          · exact hN n h
          · rw [List.mem_singleton] at h
            omega
        · obtain ⟨a', b', k', g1, g2⟩ := T5
          refine ⟨a', b', k', ?_, g2.1, g2.2.1, g2.2.2.1, g2.2.2.2.1, by have := g2.2.2.2.2; omega⟩
          rw [upd_ne nDt.symm]
          exact g1
        · intro b o e n
          rw [upd_ne (ne_of_none e hD)]
          exact S5 _ _ ((same_new hl3) _ _ (SBi _ _ e n)) n
      · rintro H' ⟨ns, hns, lns, hN, Ti, SBi⟩
        have lns' : ns.length = 4 := lns
        refine ⟨D, _, rfl, .inl ⟨SqL.of hns, fun p hp => ?_⟩⟩
        have e4 : (((4 : Int).toNat : Nat) : Int) = 4 := by decide
        rw [e4] at Ti
        exact q p ns _ ⟨lns', hN⟩ upd_same ((Ti.new hp).mono (by omega)) ((SB.trans SBi).new hp)
def spHands : Sp := fun vs H Q _ => ∃ (t : Addr) (c : Int), vs = [.ref t] ∧ TapeAt H t c ∧ c ≤ 90000 ∧
  ∀ (p : Addr) (ns : List Int) (H' : Hp), Four ns 4 → H' p = some (.tup (ns.map V.int)) → TapeAt H' t (c + 10) → SameBut t H H' → Q (.ref p) H'
abbrev sLhands : Stmt := top 27
theorem scLhands : FnScope ["_law_tape_here", "_law_kind"] ["_law_tape_here"] (defScope sLhands) := ⟨rfl, rfl, rfl, by decide +kernel, rfl, by decide +kernel, by decide +kernel⟩
theorem ok_hands {f : Addr} {fd : FuncData} (F : Fun K "_law_hands" "_law_hands" sLhands f fd) (T : Txt mg tM tL) (DLdraw : DDraw P w K mg base) : FnOk P w K mg base CX0 2 f fd ["_law_tape_here"] spHands := by
  refine F.ok scLhands (fun vs H Q E h => ?_) (fun cdv A outer s H vs Q E hr h => ?_)
  · obtain ⟨t, c, rfl, _⟩ := h
    rfl
  · obtain ⟨t, c, rfl, hT, hc, q⟩ := h
    refine ⟨_, (pss_cons (ps_if (pt_cmp (pc_eqI (pe_fn DLdraw (hr.mono (by decide)) (pa_cons (pv 0) (pa_cons pe_int pa_nil))) pe_int)) (pss_one (ps_ret (pe_tup (pa_cons pe_int (pa_cons pe_int (pa_cons pe_int (pa_cons pe_int pa_nil))))))) pss_nil)
    (pss_one (ps_ret (pe_callTy call_tuple_of (by rfl) T.ztuple (by decide +kernel) (pa_cons (pe_lc (own := [("_law_kind", 1)]) (g := gName 1) (tt := tYes) (by rfl) scLhands.nd (pi_range1 (by rfl) T.zrange (pa_cons pe_int pa_nil)) (blkOk_by (own := [("_law_kind", 1)]) (N := ["_law_tape_here", "_law_kind"]) (sc := defScope sLhands) (by decide +kernel)) (fun _ _ _ _ _ => (pg_name (i := 1) scLhands.nd rfl (Or.inl rfl))) (fun _ _ _ _ _ => pts_nil) (fun _ _ _ _ _ => (pe_op op_add pe_int (pe_fn DLdraw (hr.mono (by decide)) (pa_cons (pv 0) (pa_cons pe_int pa_nil)))))) pa_nil))))), ?_⟩
    refine ⟨_, rfl, t, c, 3, rfl, hT, by omega, by decide, by decide, fun way H1 a0 a1 T1 S1 => ?_⟩
    refine ⟨way, 0, rfl, rfl, _, rfl, iteD (fun d1 => ?_) (fun d1 => ?_)⟩
    · refine ⟨(by show 4 ≤ sizeLine; decide), fun p hp => ?_⟩
      refine q p [1, 1, 1, 1] _ ⟨rfl, fun n hn => ?_⟩ upd_same ((T1.new hp).mono (by omega)) (S1.new hp)
      simp only [List.mem_cons, List.not_mem_nil, or_false, or_self] at hn
      omega
    · refine ⟨4, rfl, by decide, by decide, fun D hD => ?_⟩
      have nDt : D ≠ t := T1.ne hD
      refine lc_range (lo := 0) (n := (4 : Int).toNat) (fun i H' => ∃ ns : List Int, H' D = some (.lst (ns.map V.int)) ∧ ns.length = i ∧ (∀ n ∈ ns, 1 ≤ n ∧ n ≤ 4) ∧ TapeAt H' t (c + 1 + (i : Int)) ∧ SameBut t H1 H')
        ⟨[], upd_same, rfl, (fun z hz => by cases hz), (T1.new hD).mono (by omega), Same.but (same_new hD)⟩ ?_ ?_
      · rintro i H' hi ⟨ns, hns, lns, hN, Ti, SBi⟩
        have hi4 : i < 4 := hi
        refine ⟨rfl, ?_⟩
        refine ⟨_, rfl, t, _, 4, rfl, Ti, by omega, by decide, by decide, fun r H5 e0 e1 T5 S5 => ?_⟩
        have hns5 : H5 D = some (.lst (ns.map V.int)) := S5 _ _ hns nDt
        refine ⟨1, r, rfl, rfl, _, hns5, ?_, ns ++ [1 + r], ?_, ?_, ?_, ?_, ?_⟩
        · rw [List.length_map, lns]
          exact Nat.lt_of_lt_of_le hi4 (by decide)
        · rw [upd_same, List.map_append]
          rfl
        · rw [List.length_append, lns]
          rfl
        · intro n hn
          rcases List.mem_append.mp hn with h | h
          · exact hN n h
          · rw [List.mem_singleton] at h
            omega
        · obtain ⟨a', b', k', g1, g2⟩ := T5
          refine ⟨a', b', k', ?_, g2.1, g2.2.1, g2.2.2.1, g2.2.2.2.1, by have := g2.2.2.2.2; omega⟩
          rw [upd_ne nDt.symm]
          exact g1
        · intro b o e n
          rw [upd_ne (ne_of_none e hD)]
          exact S5 _ _ (SBi _ _ e n) n
      · rintro H' ⟨ns, hns, lns, hN, Ti, SBi⟩
        have lns' : ns.length = 4 := lns
        refine ⟨D, _, rfl, .inl ⟨SqL.of hns, fun p hp => ?_⟩⟩
        have e4 : (((4 : Int).toNat : Nat) : Int) = 4 := by decide
        rw [e4] at Ti
        exact q p ns _ ⟨lns', hN⟩ upd_same ((Ti.new hp).mono (by omega)) ((S1.trans SBi).new hp)
/-! ### Gang.pace -/
def PaceOf (ts hs : List Int) (tp bt : Int) : Prop := (tp, bt) ∈ ts.zip hs ∧ ∀ q ∈ ts.zip hs, q.1 * bt ≤ tp * q.2
def spPace (C : Addr) : Sp := fun vs H Q _ => ∃ (p : Addr) (ts hs : List Int), vs = [.ref p] ∧ GangAt C H p ts hs ∧
  ∀ (r : Addr) (tp bt : Int) (H' : Hp), PaceOf ts hs tp bt → H' r = some (.tup [.int (tp / (Int.gcd tp bt : Nat)), .int (bt / (Int.gcd tp bt : Nat))]) → Same H H' → Q (.ref r) H'
abbrev sGang_pace : Stmt := inClass (top 20) 8
theorem scGang_pace : FnScope ["self", "top", "bottom", "take", "many", "shared"] ["self"] (defScope sGang_pace) := ⟨rfl, rfl, rfl, by decide +kernel, rfl, by decide +kernel, by decide +kernel⟩
theorem zip_at {ts hs : List Int} {i : Nat} {x y : Int} (h1 : ts[i]? = some x) (h2 : hs[i]? = some y) : (ts.zip hs)[i]? = some (x, y) := by
  rw [List.getElem?_zip_eq_some]
  exact ⟨h1, h2⟩
theorem cross {t h T B T' B' : Int} (hB : 0 < B) (hh : 0 ≤ h) (h1 : t * B ≤ T * h) (h2 : T * B' ≤ T' * B) (hB' : 0 < B') (hh' : 0 < h) : t * B' ≤ T' * h := by
  have e1 : t * B * B' ≤ T * h * B' := Int.mul_le_mul_of_nonneg_right h1 (by omega)
  have e2 : T * B' * h ≤ T' * B * h := Int.mul_le_mul_of_nonneg_right h2 hh
  have e3 : T * h * B' = T * B' * h := by rw [Int.mul_assoc, Int.mul_comm h B', ← Int.mul_assoc]
  have e4 : t * B * B' = t * B' * B := by rw [Int.mul_assoc, Int.mul_comm B B', ← Int.mul_assoc]
  have e5 : T' * B * h = T' * h * B := by rw [Int.mul_assoc, Int.mul_comm B h, ← Int.mul_assoc]
  exact Int.le_of_mul_le_mul_right (by omega) hB
theorem ok_pace {f C : Addr} {fd : FuncData} (F : Fun K "pace" "Gang.pace" sGang_pace f fd) (T : Txt mg tM tL) (GT : GangTxt K C) (Dcommon_divisor : Df P w K mg base "common_divisor" 1 ["one", "other"] spGcd) : FnOk P w K mg base CX0 2 f fd ["self"] (spPace C) := by
  refine F.ok scGang_pace (fun vs H Q E h => ?_) (fun cdv A outer s H vs Q E hr h => ?_)
  · obtain ⟨p, ts, hs, rfl, _⟩ := h
    rfl
  · obtain ⟨p, ts, hs, rfl, M, q⟩ := h
    obtain ⟨⟨z, dx, tk, hd, hp, htk, hhd⟩, ⟨t4, tB⟩, ⟨h4, hB⟩⟩ := M
    refine ⟨_, (pss_cons (ps_par (i := 1) (j := 2) (by rfl) scGang_pace.nd rfl rfl (by decide) rfl rfl (pa_cons (pe_ix ix_tup (pe_fld (pv 0) rfl) pe_int (fun _ _ => rfl)) (pa_cons (pe_ix ix_tup (pe_fld (pv 0) rfl) pe_int (fun _ _ => rfl)) pa_nil)) (by rfl))
    (pss_cons (ps_for PassesOwn.never rfl (RZ.pi_zipA (by rfl) T.zzip (pa_cons (pe_fld (pv 0) rfl) (pa_cons (pe_fld (pv 0) rfl) pa_nil))) (pg_tup rfl (pgs_cons (pg_name (i := 3) scGang_pace.nd rfl (Or.inl rfl)) (pgs_cons (pg_name (i := 4) scGang_pace.nd rfl (Or.inl rfl)) pgs_nil)))
    (pss_one (ps_if (pt_cmp (pc_gt (pe_op op_mul (pv 3) (pv 2)) (pe_op op_mul (pv 1) (pv 4)))) (pss_one (ps_par (i := 1) (j := 2) (by rfl) scGang_pace.nd rfl rfl (by decide) rfl rfl (pa_cons (pv 3) (pa_cons (pv 4) pa_nil)) (by rfl))) pss_nil)))
    (pss_cons (ps_set (i := 5) scGang_pace.nd rfl (Or.inl rfl) (pe_fn Dcommon_divisor (hr.mono (by decide)) (pa_cons (pv 1) (pa_cons (pv 2) pa_nil))))
    (pss_one (ps_ret (pe_tup (pa_cons (pe_op op_fdivW (pv 1) (pv 5)) (pa_cons (pe_op op_fdivW (pv 2) (pv 5)) pa_nil)))))))), ?_⟩
    obtain ⟨t0, ht0⟩ : ∃ x, ts[0]? = some x := ⟨_, List.getElem?_eq_getElem (by omega)⟩
    obtain ⟨h0, hh0⟩ : ∃ x, hs[0]? = some x := ⟨_, List.getElem?_eq_getElem (by omega)⟩
    have at0 : ∀ {l : List Int} {x : Int}, l[0]? = some x → atI (l.map V.int) 0 = some (.int x) := fun {l x} h => at_of (j := 0) rfl (by rw [List.getElem?_map, h]; rfl)
    refine ⟨_, rfl, p, C, dx, _, _, rfl, hp, GT.cl, GT.n2, gf_takes _ _ _, tk, _, 0, _, rfl, rfl, SqT.of htk, at0 ht0, _, rfl, p, C, dx, _, _, rfl, hp, GT.cl, GT.n3, gf_hands _ _ _, hd, _, 0, _, rfl, rfl, SqT.of hhd, at0 hh0, _, _, rfl, ?_⟩
    refine ⟨_, rfl, p, C, dx, _, _, rfl, hp, GT.cl, GT.n2, gf_takes _ _ _, _, rfl, p, C, dx, _, _, rfl, hp, GT.cl, GT.n3, gf_hands _ _ _, tk, hd, _, _, rfl, .inr ⟨SqT.of htk, SqT.of hhd, ?_⟩⟩
    refine RZ.for_zipT (K := K) (a := tk) (b := hd) (xs := ts.map V.int) (ys := hs.map V.int) (by rw [List.length_map, List.length_map, t4, h4]) (fun i σ H' => ∃ (tp bt : Int) (v3 v4 v5 : Option V), σ = [some (.ref p), some (.int tp), some (.int bt), v3, v4, v5] ∧ (tp, bt) ∈ ts.zip hs ∧ (∀ q ∈ (ts.zip hs).take i, q.1 * bt ≤ tp * q.2) ∧ Same H H')
      ⟨t0, h0, _, _, _, rfl, List.mem_of_getElem? (zip_at ht0 hh0), (fun q hq => by rw [List.take_zero] at hq; cases hq), Same.refl H⟩ (fun i σ H' ⟨_, _, _, _, _, _, _, _, s⟩ => ⟨SqT.of (s _ _ htk), SqT.of (s _ _ hhd)⟩) ?_ ?_
    · rintro i x y T' σ H' hx hy ⟨tp, bt, v3, v4, v5, rfl, hm, hle, s1⟩ hT'
      obtain ⟨tt, htt, rfl⟩ := map_int hx
      obtain ⟨hh, hhh, rfl⟩ := map_int hy
      have b1 := tB tt (List.mem_of_getElem? htt)
      have b2 := hB hh (List.mem_of_getElem? hhh)
      have zm := List.of_mem_zip hm
      have b3 := tB tp zm.1
      have b4 := hB bt zm.2
      have hz := zip_at htt hhh
      refine ⟨T', _, rfl, SqT.of upd_same, rfl, _, _, rfl, _, _, rfl, rfl, ?_⟩
      have s2 : Same H (upd H' T' (.tup [.int tt, .int hh])) := s1.trans (same_new hT')
      refine ⟨_, rfl, _, rfl, tt, bt, rfl, rfl, .inl ⟨by omega, by omega⟩, _, rfl, _, rfl, tp, hh, rfl, rfl, .inl ⟨by omega, by omega⟩, _, _, rfl, rfl, _, rfl, iteD (fun c => ?_) (fun c => ?_)⟩
      · refine ⟨_, rfl, _, rfl, _, _, rfl, ?_⟩
        refine ⟨tt, hh, _, _, _, rfl, List.mem_of_getElem? hz, fun q hq => ?_, s2⟩
        rw [take_more hz] at hq
        rcases List.mem_append.mp hq with h | h
        · have hb := hle q h
          have zq := List.of_mem_zip (List.mem_of_mem_take h)
          have b5 := hB q.2 zq.2
          have c' : tp * hh < tt * bt := c
          exact cross (by omega) (by omega) hb (by omega) (by omega) (by omega)
        · rw [List.mem_singleton] at h
          rw [h]
          exact Int.le_refl _
      · refine ⟨tp, bt, _, _, _, rfl, hm, fun q hq => ?_, s2⟩
        rw [take_more hz] at hq
        rcases List.mem_append.mp hq with h | h
        · exact hle q h
        · rw [List.mem_singleton] at h
          rw [h]
          exact Int.not_lt.mp c
    · rintro σ H' ⟨tp, bt, v3, v4, v5, rfl, hm, hle, s1⟩
      have zm := List.of_mem_zip hm
      have b3 := tB tp zm.1
      have b4 := hB bt zm.2
      have hlz : (ts.zip hs).length = 4 := by rw [List.length_zip, t4, h4]; rfl
      rw [List.length_map, List.take_of_length_le (by omega)] at hle
      refine ⟨_, rfl, _, rfl, tp, bt, rfl, b3.1, by omega, ?_⟩
      have gpos : 0 < ((Int.gcd tp bt : Nat) : Int) := by
        have : 0 < Int.gcd tp bt := Int.gcd_pos_of_ne_zero_left _ (by omega)
        omega
      have gle : ((Int.gcd tp bt : Nat) : Int) ≤ 10000000000000 := by
        have h1 : ((Int.gcd tp bt : Nat) : Int) ∣ tp := Int.gcd_dvd_left ..
        have := Int.le_of_dvd (by omega) h1
        omega
      refine ⟨_, rfl, _, rfl, tp, _, rfl, rfl, wd gpos gle, _, rfl, _, rfl, bt, _, rfl, rfl, wd gpos gle, (by show 2 ≤ sizeLine; decide), fun r hr' => ?_⟩
      exact q r tp bt _ ⟨hm, hle⟩ upd_same (s1.trans (same_new hr'))
/-! ### keeps -/
def keptB (ts hs : List Int) (beats pieces : Int) : Bool := (ts.zip hs).all fun q => decide (q.1 * pieces ≤ beats * q.2)
end
end HP
namespace HP
open PySem L2
section
variable {P : Program} {w : World} {K : PySem.W.Frag} {mg : Str → Option Value} {base : Heap} {tM tL : Tok}
/-! ### a method of an own class, called -/
structure Dm (P : Program) (w : World) (K : PySem.W.Frag) (mg : Str → Option Value) (base : Heap) (C : Addr) (m : Str) (k : Nat) (ps : List Str) (sp : Sp) : Prop where
  ex : ∃ (f : Addr) (fd : FuncData), FnOk P w K mg base CX0 k f fd ps sp ∧ Cls K C ∧ Meth K C m f ∧ Binds K fd ps []
theorem pe_mt {X : Cx} {C : Addr} {m : Str} {k : Nat} {ps : List Str} {sp : Sp} {apos pos : Pos} {o e : Expr} {es : List Expr} {ta : TE} {t : TA} {pl : Sem Bool} (Z : Dm X.prog X.w X.K X.mg X.base C m k ps sp) (hr : Room k X.A) (he : PE X o ta) (ha : PA X (e :: es) t)
    (hst : starEach (e :: es) X.env = (false, eval e X.env) :: starEach es X.env := by rfl) (hpl : (backTo pos (starEach es X.env)).any (·.1) = false := by rfl)
    (ht : eval (.Call (.Attribute o m apos) (e :: es) [] pos) X.env = (do
      let ov ← eval o X.env
      standAt apos.atName
      let (f, first) ← holding [ov] (getMethod ov m pl)
      callWith pos f first (backTo pos (starEach (e :: es) X.env)) (backToKw pos (keywordEach [] X.env))) := by rfl) :
    PE X (.Call (.Attribute o m apos) (e :: es) [] pos) (tMeth C m sp [] E0 ta t) := by
  obtain ⟨f, fd, F, c, m, b⟩ := Z.ex
  exact pe_meth he c m F hr b .nil pass0 ha hst hpl ht
theorem pe_mt0 {X : Cx} {C : Addr} {m : Str} {k : Nat} {ps : List Str} {sp : Sp} {apos pos : Pos} {o : Expr} {ta : TE} {pl : Sem Bool} (Z : Dm X.prog X.w X.K X.mg X.base C m k ps sp) (hr : Room k X.A) (he : PE X o ta)
    (ht : eval (.Call (.Attribute o m apos) [] [] pos) X.env = (do
      let ov ← eval o X.env
      standAt apos.atName
      let (f, first) ← holding [ov] (getMethod ov m pl)
      callWith pos f first (backTo pos (starEach [] X.env)) (backToKw pos (keywordEach [] X.env))) := by rfl) :
    PE X (.Call (.Attribute o m apos) [] [] pos) (tMeth C m sp [] E0 ta tNil) := by
  obtain ⟨f, fd, F, c, m, b⟩ := Z.ex
  exact pe_meth0 he c m F hr b .nil pass0 ht
/-- the same by keywords alone, all that lacks given -/
structure DmK (P : Program) (w : World) (K : PySem.W.Frag) (mg : Str → Option Value) (base : Heap) (C : Addr) (m : Str) (k : Nat) (ps ks : List Str) (sp : Sp) : Prop where
  ex : ∃ (f : Addr) (fd : FuncData), FnOk P w K mg base CX0 k f fd ps sp ∧ Cls K C ∧ Meth K C m f ∧ KBn K fd ps 1 ks (fun us ws => us ++ ws) (fun vs zs => vs ++ zs)
theorem pe_mtK {X : Cx} {C : Addr} {m : Str} {k : Nat} {ps ks : List Str} {sp : Sp} {apos pos : Pos} {o : Expr} {kws : List Keyword} {ta : TE} {tk : TA} {pl : Sem Bool} (Z : DmK X.prog X.w X.K X.mg X.base C m k ps ks sp) (hr : Room k X.A) (he : PE X o ta) (hkw : PK X kws tk)
    (hall : (backToKw pos (keywordEach kws X.env)).all (·.1.isSome) = true := by rfl) (hks : (backToKw pos (keywordEach kws X.env)).filterMap (·.1) = ks := by rfl)
    (hpl : ((backTo pos (starEach [] X.env)).any (·.1) || (backToKw pos (keywordEach kws X.env)).any (·.1.isNone)) = false := by rfl)
    (ht : eval (.Call (.Attribute o m apos) [] kws pos) X.env = (do
      let ov ← eval o X.env
      standAt apos.atName
      let (f, first) ← holding [ov] (getMethod ov m pl)
      callWith pos f first (backTo pos (starEach [] X.env)) (backToKw pos (keywordEach kws X.env))) := by rfl) :
    PE X (.Call (.Attribute o m apos) [] kws pos) (tMethK C m ks.length sp (fun vs zs => vs ++ zs) E0 ta tk) := by
  obtain ⟨f, fd, F, c, m, b⟩ := Z.ex
  exact pe_methK0 he c m F hr b pass0 hkw hall hks hpl ht
/-- keywords of a def without defaults -/
theorem fun_kbn {x qual : Str} {st : Stmt} {f : Addr} {fd : FuncData} {ps ks : List Str} {n : Nat} (F : Fun K x qual st f fd)
    (h : ∀ (kV doc pm : Value) (an : Option Addr) (cdv ct : Value) (us ws : List Value), us.length = n → ws.length = ks.length → bindArgs (PySem.W.fnOf x qual (defArgs st) (defBody st) (defScope st) .none kV doc pm an cdv ct) ⟨us, ks.zip ws⟩ = pure (ps.zip (us ++ ws))) :
    KBn K fd ps n ks (fun us ws => us ++ ws) (fun vs zs => vs ++ zs) := by
  obtain ⟨oc, od, kV, doc, pm, an, cdv, ct, osl, rfl, lk, hcd⟩ := F.ex
  exact ⟨fun s us ws _ l1 l2 => .of_eq (h kV doc pm an cdv ct us ws l1 l2), fun r1 r2 => r1.append r2⟩
end
end HP
namespace HP
open PySem L2
section
variable {P : Program} {w : World} {K : PySem.W.Frag} {mg : Str → Option Value} {base : Heap} {tM tL : Tok}
theorem lc_zipT {a b : Addr} {xs ys : List V} {g : TG} {tt : TT} {te : TE} {vs : List Nat} {σ : L2.St} {H1 : Hp} {D : Addr} {Qd : Hp → Prop} (hl : xs.length = ys.length) (Pv : Nat → Hp → Prop) (h0 : Pv 0 (upd H1 D (.lst []))) (hq : ∀ i H, Pv i H → SqT K H a xs ∧ SqT K H b ys)
    (hs : ∀ (i : Nat) (x y : V) (T : Addr) (H : Hp), xs[i]? = some x → ys[i]? = some y → Pv i H → H T = none → g (.ref T) (wipe σ vs) (upd H T (.tup [x, y])) fun σ2 H2 => wipe σ2 vs = wipe σ vs ∧ tt σ2 H2 fun b H3 =>
      if b = true then te σ2 H3 fun y H4 => ∃ acc, H4 D = some (.lst acc) ∧ acc.length < sizeLine ∧ Pv (i + 1) (upd H4 D (.lst (acc ++ [y]))) else Pv (i + 1) H3) (hd : ∀ H, Pv xs.length H → Qd H) :
    ∃ W : Nat → Nat → Hp → Prop, (∃ m, W 0 m (upd H1 D (.lst []))) ∧ ∀ i m H, W i m H →
      ((RZ.ItzT K a b).stop i H ∧ Qd H) ∨ ((RZ.ItzT K a b).go i H ∧ ∃ Nx : Hp → Prop, (∀ H', Nx H' → ∃ m', m' < m ∧ W (i + 1) m' H') ∧ ∀ v H', (RZ.ItzT K a b).yld i H v H' → g v (wipe σ vs) H' fun σ2 H2 => wipe σ2 vs = wipe σ vs ∧ tt σ2 H2 fun b H3 =>
        if b = true then te σ2 H3 fun y H4 => ∃ acc, H4 D = some (.lst acc) ∧ acc.length < sizeLine ∧ Nx (upd H4 D (.lst (acc ++ [y]))) else Nx H3) := by
  refine ⟨fun i m H => m = xs.length - i ∧ i ≤ xs.length ∧ Pv i H, ⟨xs.length, rfl, Nat.zero_le _, h0⟩, ?_⟩
  rintro i m H ⟨rfl, hi, p⟩
  obtain ⟨qx, qy⟩ := hq i H p
  by_cases hlt : i < xs.length
  · refine .inr ⟨⟨xs, ys, xs[i], ys[i]'(by omega), qx, qy, by simp [hlt], by simp [show i < ys.length by omega]⟩, Pv (i + 1), fun H' p' => ⟨xs.length - (i + 1), by omega, rfl, hlt, p'⟩, fun v H' y => ?_⟩
    obtain ⟨T, x, y, rfl, hT, rfl, hx, hy⟩ := y
    exact hs i x y T H (hx xs qx) (hy ys qy) p hT
  · have e : i = xs.length := by omega
    subst e
    exact .inl ⟨⟨xs, ys, qx, qy, .inl (Nat.le_refl _)⟩, hd H p⟩
theorem lc_zipL {a b : Addr} {xs ys : List V} {g : TG} {tt : TT} {te : TE} {vs : List Nat} {σ : L2.St} {H1 : Hp} {D : Addr} {Qd : Hp → Prop} (hl : xs.length = ys.length) (Pv : Nat → Hp → Prop) (h0 : Pv 0 (upd H1 D (.lst []))) (hq : ∀ i H, Pv i H → SqL K H a xs ∧ SqL K H b ys)
    (hs : ∀ (i : Nat) (x y : V) (T : Addr) (H : Hp), xs[i]? = some x → ys[i]? = some y → Pv i H → H T = none → g (.ref T) (wipe σ vs) (upd H T (.tup [x, y])) fun σ2 H2 => wipe σ2 vs = wipe σ vs ∧ tt σ2 H2 fun b H3 =>
      if b = true then te σ2 H3 fun y H4 => ∃ acc, H4 D = some (.lst acc) ∧ acc.length < sizeLine ∧ Pv (i + 1) (upd H4 D (.lst (acc ++ [y]))) else Pv (i + 1) H3) (hd : ∀ H, Pv xs.length H → Qd H) :
    ∃ W : Nat → Nat → Hp → Prop, (∃ m, W 0 m (upd H1 D (.lst []))) ∧ ∀ i m H, W i m H →
      ((Itz K a b).stop i H ∧ Qd H) ∨ ((Itz K a b).go i H ∧ ∃ Nx : Hp → Prop, (∀ H', Nx H' → ∃ m', m' < m ∧ W (i + 1) m' H') ∧ ∀ v H', (Itz K a b).yld i H v H' → g v (wipe σ vs) H' fun σ2 H2 => wipe σ2 vs = wipe σ vs ∧ tt σ2 H2 fun b H3 =>
        if b = true then te σ2 H3 fun y H4 => ∃ acc, H4 D = some (.lst acc) ∧ acc.length < sizeLine ∧ Nx (upd H4 D (.lst (acc ++ [y]))) else Nx H3) := by
  refine ⟨fun i m H => m = xs.length - i ∧ i ≤ xs.length ∧ Pv i H, ⟨xs.length, rfl, Nat.zero_le _, h0⟩, ?_⟩
  rintro i m H ⟨rfl, hi, p⟩
  obtain ⟨qx, qy⟩ := hq i H p
  by_cases hlt : i < xs.length
  · refine .inr ⟨⟨xs, ys, xs[i], ys[i]'(by omega), qx, qy, by simp [hlt], by simp [show i < ys.length by omega]⟩, Pv (i + 1), fun H' p' => ⟨xs.length - (i + 1), by omega, rfl, hlt, p'⟩, fun v H' y => ?_⟩
    obtain ⟨T, x, y, rfl, hT, rfl, hx, hy⟩ := y
    exact hs i x y T H (hx xs qx) (hy ys qy) p hT
  · have e : i = xs.length := by omega
    subst e
    exact .inl ⟨⟨xs, ys, qx, qy, .inl (Nat.le_refl _)⟩, hd H p⟩
end
end HP
namespace HP
open PySem L2
/-! ### sum(t) of a tuple of numbers -/
def rSumT (K : PySem.W.Frag) : List V → Hp → VK → Prop := fun vs H Q => ∃ (a : Addr) (ns : List Int), vs = [V.ref a] ∧ SqT K H a (ns.map V.int) ∧ Q (.int ns.sum) H
theorem cr_sumT {X : Cx} (hc : X.calm = true) : CallR X (.builtin "sum") (rSumT X.K) := fun pins s σ H vs us Q I r ⟨a, ns, ev, hs, q⟩ => by
  subst ev
  obtain ⟨its, rv, ht, _⟩ := I.tuple hs
  have hi := rv.ints
  obtain ⟨xs, hx⟩ := hi.allInts.items
  have hn : PySem.numsOf (PySem.intItems xs).toList = ns := hx ▸ hi.numsOf
  rw [PySem.nums_intItems] at hn
  rw [hx] at ht
  rw [Vals.ref1 r]
  refine PySem.W.ktm_sumG (I.ok.hd hc) ht fun h' tk t' hk => ⟨.int _, H, I.kept hk, ⟨_, rfl⟩, ?_⟩
  rw [PySem.preSum_eq, List.take_of_length_le (by simp), hn]; exact q
end HP
namespace HP
open PySem L2 PySem.Spec PyProof.Rows
/-! ### t[::-1] of a tuple -/
theorem adj_back (n : Nat) : Builtin.Slice.sliceAdjust none none (-1) (n : Int) = ((n : Int) - 1, -1) := rfl
theorem plc_back (n : Nat) : Builtin.Slice.slicePlaces ((n : Int) - 1) (-1) (-1) = n := by
  show (if (-1 : Int) > 0 then _ else (if ((n : Int) - 1) > -1 then (((n : Int) - 1) - (-1) - 1) / (-(-1)) + 1 else 0)).toNat = n
  rw [if_neg (by decide)]
  by_cases c : (n : Int) - 1 > -1
  · rw [if_pos c, show -(-1 : Int) = 1 from rfl, Int.ediv_one]; omega
  · rw [if_neg c]; omega
theorem pick_back (xs : Array Value) : ((List.range xs.size).filterMap fun (k : Nat) => xs[(((xs.size : Nat) : Int) - 1 + (k : Int) * (-1)).toNat]?) = xs.toList.reverse := by
  have e : (List.range xs.size).filterMap (fun (k : Nat) => xs[(((xs.size : Nat) : Int) - 1 + (k : Int) * (-1)).toNat]?) = ((List.range xs.size).map (fun k => xs.size - 1 - k)).filterMap (xs[·]?) := by
    rw [List.filterMap_map]
    congr 1
    funext k
    show xs[(((xs.size : Nat) : Int) - 1 + (k : Int) * (-1)).toNat]? = xs[xs.size - 1 - k]?
    rw [show (((xs.size : Nat) : Int) - 1 + (k : Int) * (-1)).toNat = xs.size - 1 - k by omega]
  rw [e, PySem.W.krv_range, List.filterMap_reverse, PySem.W.krv_all]
section
variable {prog : Program} {w : World} {A : Around} {E : Value → Shared → Prop} {s : Shared}
theorem applied_back {sl : Addr} {vl vu vs : Value} {n : Nat} {Q : Int × Int × Nat → Shared → Prop} (hs : s.heap.IsSliceOf sl vl vu vs) (pl : IsPart vl none) (pu : IsPart vu none) (ps : IsPart vs (some (-1))) (h : Q ((n : Int) - 1, -1, n) s) :
    wpAny (model prog w) A (Builtin.Slice.sliceApplied (.ref sl) (pure (n : Int))) Q E s := by
  obtain ⟨os, hos, _, hds⟩ := id hs
  unfold Builtin.Slice.sliceApplied Builtin.Slice.sliceFields
  refine wpAny_bind (wpAny_bind (wpAny_field hos hds (x := vl) rfl (wpAny_bind (wpAny_field hos hds (x := vu) rfl ?_))))
  refine wpAny_bind (wpAny_field hos hds (x := vs) rfl (wpAny_pure ?_))
  refine wpAny_bind (HT.slicePart_ ps ?_)
  show wpAny _ _ (if ((-1 : Int) == 0) = true then _ else _) _ _ s
  rw [if_neg (show ¬ (((-1 : Int) == 0) = true) by decide)]
  refine wpAny_bind (HT.slicePart_ pl (wpAny_bind (HT.slicePart_ pu (wpAny_bind (wpAny_pure ?_)))))
  show wpAny _ _ (match Builtin.Slice.sliceAdjust none none (-1) (n : Int) with | (lo, hi) => pure (lo, (-1 : Int), Builtin.Slice.slicePlaces lo hi (-1))) _ _ s
  rw [adj_back n]
  show wpAny _ _ (pure ((n : Int) - 1, (-1 : Int), Builtin.Slice.slicePlaces ((n : Int) - 1) (-1) (-1))) _ _ s
  rw [plc_back]
  exact wpAny_pure h
theorem item_back {t sl : Addr} {items : Array Value} {vl vu vs : Value} {Q : Value → Shared → Prop} (ht : IsTup s.heap t items) (hs : s.heap.IsSliceOf sl vl vu vs) (pl : IsPart vl none) (pu : IsPart vu none) (ps : IsPart vs (some (-1)))
    (h : Q (.ref s.heap.objs.size) { s with heap := s.heap.push { cls := .type "tuple", data := .seq items.toList.reverse.toArray } }) (hsz : items.size ≤ sizeLine) : wpAny (model prog w) A (getItem (.ref t) (.ref sl)) Q E s := by
  have hok : sizeOk (.seq items.toList.reverse.toArray) := by
    show items.toList.reverse.toArray.size ≤ sizeLine
    rw [List.size_toArray, List.length_reverse, Array.length_toList]; exact hsz
  obtain ⟨os, hos, hcs, _⟩ := id hs
  have hTs : s.TypeIs (.ref sl) "slice" := ⟨os, hos, hcs⟩
  unfold getItem; try with_reducible refine wpAny_holding ?_
  first | refine wpAny_bind (wpAny_pure ?_) | skip
  refine wpAny_bind (wpAny_sequenceKey ht.typeIs (by decide) (wpAny_bind ?_))
  refine wpAny_callSpecial?_slot (name := Str.ofString "__getitem__") ht.typeIs PyProof.Rows.slot_tuple_getitem (wpAny_call_entry PyProof.Rows.slot_tuple_getitem ht.typeIs entry_tuple_getitem ?_ (args_tuple_getitem _ _))
  show wpAny _ _ (Builtin.Tuple.tupleItemsOf (.ref t) >>= _) _ _ s; refine wpAny_bind (tupleItemsOf_ ht (wpAny_bind (wpAny_typeOf hTs ?_)))
  rw [if_pos (by decide)]; refine wpAny_bind (applied_back hs pl pu ps ?_)
  have hno : ¬ ((((items.size : Nat) : Int) - 1 == 0 && (-1 : Int) == 1 && items.size == items.size) = true) := by
    rw [show ((-1 : Int) == 1) = false from by decide, Bool.and_false, Bool.false_and]; exact Bool.false_ne_true
  show wpAny _ _ (if (((items.size : Nat) : Int) - 1 == 0 && (-1 : Int) == 1 && items.size == items.size) = true then _ else _) _ _ s
  rw [if_neg hno, pick_back]
  first
    | exact wpAny_bind (m := Builtin.Tuple.tupleExact _) (wpAny_newObj_type (wpAny_pure ⟨_, rfl, wpAny_pure h⟩) hok)
    | exact wpAny_bind (m := Builtin.Tuple.tupleExact _) (wpAny_newObj_type (wpAny_bind (wpAny_pure (wpAny_pure ⟨_, rfl, wpAny_pure h⟩))) hok)
end
def tRevT (K : PySem.W.Frag) (te : TE) : TE := fun σ H Q => te σ H fun x H1 => ∃ a xs, x = .ref a ∧ SqT K H1 a xs ∧ ∀ p, H1 p = none → Q (.ref p) (upd H1 p (.tup xs.reverse))
theorem pe_revT {X : Cx} {e : Expr} {te : TE} {k : Nat} {p1 p2 p3 pos : Pos} (he : PE X e te) : PE X (.Subscript e (.Slice none none (some (.UnaryOp .USub (.Constant (.int 1) k p1) p2)) p3) pos) (tRevT X.K te) := by
  refine ⟨fun pins s σ H Q I h => Subscript_ (thn (he.run pins s σ H _ I h) fun v s1 ⟨x, H1, I1, r1, a, xs, ex, hx, q⟩ => ?_)⟩
  subst ex; cases r1
  have hst : PO X (some (.UnaryOp .USub (.Constant (.int 1) k p1) p2)) _ := po_some (pe_un un_neg pe_int)
  refine wpAny_Slice (thn (po_none.run pins s1 σ H1 (fun o G => o = none ∧ G = H1) I1 ⟨rfl, rfl⟩) fun vl s2 ⟨l, G2, I2, pl, el, e2⟩ => ?_)
  subst el; subst e2
  refine thn (po_none.run pins s2 σ G2 (fun o G => o = none ∧ G = G2) I2 ⟨rfl, rfl⟩) fun vu s3 ⟨u, G3, I3, pu, eu, e3⟩ => ?_
  subst eu; subst e3
  refine thn (hst.run pins s3 σ G3 (fun o G => o = some (-1) ∧ G = G3) I3 ⟨1, rfl, -1, rfl, rfl, rfl⟩) fun vs s4 ⟨o, G4, I4, ps, eo, e4⟩ => ?_
  subst eo; subst e4
  have I5 : Inv X pins σ G4 { s4 with heap := s4.heap.push { cls := .type "slice", data := .fields #[vl, vu, vs] } } := I4.kept (t' := s4.toks) fun b ob z => Heap.get?_push_of_some _ z
  obtain ⟨its, r, ht, hz⟩ := I5.tuple hx
  have hlen := r.length
  show wpAny (model X.prog X.w) X.A (subscriptTail e (.Slice none none (some (.UnaryOp .USub (.Constant (.int 1) k p1) p2)) p3) (.ref a) (.ref s4.heap.objs.size)) (EP X pins σ Q) X.xe _
  refine tail_any (ops := [.ref a, .ref s4.heap.objs.size]) ht.typeIs (PyProof.Rows.slot_tuple_getitem.lookup) ?_ (by with_unfolding_all rfl)
  refine item_back ht (Heap.IsSliceOf.new _ vl vu vs) pl pu ps ?_ (by rw [List.size_toArray]; omega)
  refine ⟨.ref _, _, I5.laid (t' := s4.toks) (o := .tup xs.reverse) (fun b ob z => Heap.get?_push_of_some _ z) (Nat.le_refl _) ?_, rfl, q _ (I5.hok.fresh (Nat.le_refl _))⟩
  exact ⟨by rw [List.length_reverse]; exact hz, _, r.reverse, IsTup.new _ _⟩
end HP
namespace HP
open PySem L2
/-! ### lowest terms -/
theorem redN {a b c d : Nat} (ha : 0 < a) (hb : 0 < b) (hc : 0 < c) (hd : 0 < d) (h : a * d = c * b) : a / Nat.gcd a b = c / Nat.gcd c d ∧ b / Nat.gcd a b = d / Nat.gcd c d := by
  have g1 : 0 < Nat.gcd a b := Nat.gcd_pos_of_pos_left _ ha
  have g2 : 0 < Nat.gcd c d := Nat.gcd_pos_of_pos_left _ hc
  have c1 := Nat.coprime_div_gcd_div_gcd g1
  have c2 := Nat.coprime_div_gcd_div_gcd g2
  have ea : a / Nat.gcd a b * Nat.gcd a b = a := Nat.div_mul_cancel (Nat.gcd_dvd_left ..)
  have eb : b / Nat.gcd a b * Nat.gcd a b = b := Nat.div_mul_cancel (Nat.gcd_dvd_right ..)
  have ec : c / Nat.gcd c d * Nat.gcd c d = c := Nat.div_mul_cancel (Nat.gcd_dvd_left ..)
  have ed : d / Nat.gcd c d * Nat.gcd c d = d := Nat.div_mul_cancel (Nat.gcd_dvd_right ..)
  generalize Nat.gcd a b = g at *
  generalize Nat.gcd c d = k at *
  generalize a / g = a' at *
  generalize b / g = b' at *
  generalize c / k = c' at *
  generalize d / k = d' at *
  subst ea eb ec ed
  have a0 : 0 < a' := Nat.pos_of_mul_pos_right ha
  have hh : a' * d' = c' * b' := by
    have e1 : a' * g * (d' * k) = (a' * d') * (g * k) := by rw [Nat.mul_mul_mul_comm]
    have e2 : c' * k * (b' * g) = (c' * b') * (g * k) := by rw [Nat.mul_mul_mul_comm, Nat.mul_comm k g]
    rw [e1, e2] at h
    exact Nat.eq_of_mul_eq_mul_right (Nat.mul_pos g1 g2) h
  have d1 : a' ∣ c' := c1.dvd_of_dvd_mul_right (hh ▸ Nat.dvd_mul_right a' d')
  have d2 : c' ∣ a' := c2.dvd_of_dvd_mul_right (hh ▸ Nat.dvd_mul_right c' b')
  have e : a' = c' := Nat.dvd_antisymm d1 d2
  refine ⟨e, ?_⟩
  rw [← e] at hh
  exact (Nat.eq_of_mul_eq_mul_left a0 hh).symm
theorem redI {a b c d : Int} (ha : 1 ≤ a) (hb : 1 ≤ b) (hc : 1 ≤ c) (hd : 1 ≤ d) (h : a * d = c * b) : a / (Int.gcd a b : Nat) = c / (Int.gcd c d : Nat) ∧ b / (Int.gcd a b : Nat) = d / (Int.gcd c d : Nat) := by
  obtain ⟨a, rfl⟩ := Int.eq_ofNat_of_zero_le (show 0 ≤ a by omega)
  obtain ⟨b, rfl⟩ := Int.eq_ofNat_of_zero_le (show 0 ≤ b by omega)
  obtain ⟨c, rfl⟩ := Int.eq_ofNat_of_zero_le (show 0 ≤ c by omega)
  obtain ⟨d, rfl⟩ := Int.eq_ofNat_of_zero_le (show 0 ≤ d by omega)
  have h' : a * d = c * b := by
    have : ((a * d : Nat) : Int) = ((c * b : Nat) : Int) := by rw [Int.natCast_mul, Int.natCast_mul]; exact h
    omega
  obtain ⟨e1, e2⟩ := redN (a := a) (b := b) (c := c) (d := d) (by omega) (by omega) (by omega) (by omega) h'
  show ((a : Nat) : Int) / ((Nat.gcd a b : Nat) : Int) = ((c : Nat) : Int) / ((Nat.gcd c d : Nat) : Int) ∧ ((b : Nat) : Int) / ((Nat.gcd a b : Nat) : Int) = ((d : Nat) : Int) / ((Nat.gcd c d : Nat) : Int)
  rw [← Int.natCast_ediv, ← Int.natCast_ediv, ← Int.natCast_ediv, ← Int.natCast_ediv, e1, e2]
  exact ⟨rfl, rfl⟩
/-! ### who binds -/
def gt (l : List Int) (k : Nat) : Int := l.getD k 0
theorem gt_some {l : List Int} {k : Nat} {x : Int} (h : l[k]? = some x) : gt l k = x := by
  unfold gt
  rw [List.getD_eq_getElem?_getD, h]
  rfl
theorem gt_at {l : List Int} {k : Nat} (h : k < l.length) : l[k]? = some (gt l k) := by
  rw [gt_some (List.getElem?_eq_getElem h), List.getElem?_eq_getElem h]
theorem gt_mem {l : List Int} {k : Nat} (h : k < l.length) : gt l k ∈ l := List.mem_of_getElem? (gt_at h)
def bindB (ts hs : List Int) (k : Nat) : Bool := (List.range 4).all fun j => decide (gt ts j * gt hs k ≤ gt ts k * gt hs j)
theorem bind_all {ts hs : List Int} {k : Nat} : bindB ts hs k = true ↔ ∀ j, j < 4 → gt ts j * gt hs k ≤ gt ts k * gt hs j := by
  unfold bindB
  rw [List.all_eq_true]
  exact ⟨fun h j hj => of_decide_eq_true (h j (List.mem_range.mpr hj)), fun h j hj => decide_eq_true (h j (List.mem_range.mp hj))⟩
def bindsN (ts hs : List Int) : List Nat := (List.range 4).filter (bindB ts hs)
def bindsOf (ts hs : List Int) : List Int := (bindsN ts hs).map fun (k : Nat) => (k : Int)
theorem zip_gt {ts hs : List Int} {k : Nat} (h1 : ts.length = 4) (h2 : hs.length = 4) (hk : k < 4) : (gt ts k, gt hs k) ∈ ts.zip hs :=
  List.mem_of_getElem? (zip_at (gt_at (by omega)) (gt_at (by omega)))
theorem gt_zip {ts hs : List Int} {q : Int × Int} (h1 : ts.length = 4) (h : q ∈ ts.zip hs) : ∃ k, k < 4 ∧ q = (gt ts k, gt hs k) := by
  obtain ⟨k, hk, e⟩ := List.mem_iff_getElem.mp h
  have hk4 : k < 4 := by rw [List.length_zip] at hk; omega
  have hz : (ts.zip hs)[k]? = some q := by rw [List.getElem?_eq_getElem hk, e]
  obtain ⟨z1, z2⟩ := List.getElem?_zip_eq_some.mp hz
  exact ⟨k, hk4, by rw [gt_some z1, gt_some z2]⟩
theorem best_of : ∀ l : List (Int × Int), l ≠ [] → (∀ q ∈ l, 1 ≤ q.2) → ∃ m ∈ l, ∀ q ∈ l, q.1 * m.2 ≤ m.1 * q.2
  | [], h, _ => absurd rfl h
  | [p], _, _ => ⟨p, List.mem_cons_self, fun q hq => by rw [List.mem_singleton] at hq; rw [hq]; exact Int.le_refl _⟩
  | p :: r :: l, _, hp => by
    obtain ⟨m, hm, hb⟩ := best_of (r :: l) (by simp) fun q hq => hp q (List.mem_cons_of_mem _ hq)
    have m2 := hp m (List.mem_cons_of_mem _ hm)
    have p2 := hp p List.mem_cons_self
    by_cases c : m.1 * p.2 ≤ p.1 * m.2
    · refine ⟨p, List.mem_cons_self, fun q hq => ?_⟩
      rcases List.mem_cons.mp hq with rfl | hq'
      · exact Int.le_refl _
      · have q2 := hp q hq
        exact cross (T := m.1) (B := m.2) (by omega) (by omega) (hb q hq') c (by omega) (by omega)
    · refine ⟨m, List.mem_cons_of_mem _ hm, fun q hq => ?_⟩
      rcases List.mem_cons.mp hq with rfl | hq'
      · omega
      · exact hb q hq'
theorem bind_some {ts hs : List Int} (ft : Four ts 1000000) (fh : Four hs 4) : ∃ k l, bindsN ts hs = k :: l ∧ k < 4 ∧ bindB ts hs k = true := by
  obtain ⟨m, hm, hb⟩ := best_of (ts.zip hs) (by
    intro e
    have : (ts.zip hs).length = 4 := by rw [List.length_zip, ft.1, fh.1]; rfl
    rw [e] at this
    cases this) fun q hq => (fh.2 q.2 (List.of_mem_zip hq).2).1
  obtain ⟨k, hk, rfl⟩ := gt_zip ft.1 hm
  have hB : bindB ts hs k = true := bind_all.mpr fun j hj => hb _ (zip_gt ft.1 fh.1 hj)
  have hmem : k ∈ bindsN ts hs := List.mem_filter.mpr ⟨List.mem_range.mpr hk, hB⟩
  cases e : bindsN ts hs with
  | nil => rw [e] at hmem; cases hmem
  | cons k' l =>
    have hk' : k' ∈ bindsN ts hs := by rw [e]; exact List.mem_cons_self
    obtain ⟨z1, z2⟩ := List.mem_filter.mp hk'
    exact ⟨k', l, rfl, List.mem_range.mp z1, z2⟩
/-- a kind binds just where its part is the greatest one -/
theorem bind_pace {ts hs : List Int} {tp bt : Int} {k : Nat} (ft : Four ts 1000000) (fh : Four hs 4) (h : PaceOf ts hs tp bt) (hk : k < 4) : bindB ts hs k = true ↔ gt ts k * bt = tp * gt hs k := by
  obtain ⟨hm, hle⟩ := h
  have zm := List.of_mem_zip hm
  have b1 := ft.2 tp zm.1
  have b2 := fh.2 bt zm.2
  have k2 := fh.2 _ (gt_mem (l := hs) (k := k) (by rw [fh.1]; exact hk))
  have l1 := hle _ (zip_gt ft.1 fh.1 hk)
  constructor
  · intro hb
    obtain ⟨j, hj, e⟩ := gt_zip ft.1 hm
    have e1 : tp = gt ts j := congrArg Prod.fst e
    have e2 : bt = gt hs j := congrArg Prod.snd e
    have := bind_all.mp hb j hj
    rw [← e1, ← e2] at this
    have l1' : gt ts k * bt ≤ tp * gt hs k := l1
    omega
  · intro e
    refine bind_all.mpr fun j hj => ?_
    have lj : gt ts j * bt ≤ tp * gt hs j := hle _ (zip_gt ft.1 fh.1 hj)
    have j2 := fh.2 _ (gt_mem (l := hs) (k := j) (by rw [fh.1]; exact hj))
    exact cross (T := tp) (B := bt) (by omega) (by omega) lj (by omega) (by omega) (by omega)
theorem bind_low {ts hs : List Int} {tp bt : Int} {k : Nat} (ft : Four ts 1000000) (fh : Four hs 4) (h : PaceOf ts hs tp bt) (hk : k < 4) : decide (gt ts k * (bt / (Int.gcd tp bt : Nat)) = tp / (Int.gcd tp bt : Nat) * gt hs k) = bindB ts hs k := by
  have zm := List.of_mem_zip h.1
  have b3 := ft.2 tp zm.1
  have hb := bind_pace ft fh h hk
  have gp : 0 < ((Int.gcd tp bt : Nat) : Int) := by
    have : 0 < Int.gcd tp bt := Int.gcd_pos_of_ne_zero_left _ (by omega)
    omega
  have e1 : tp / (Int.gcd tp bt : Nat) * (Int.gcd tp bt : Nat) = tp := Int.ediv_mul_cancel (Int.gcd_dvd_left ..)
  have e2 : bt / (Int.gcd tp bt : Nat) * (Int.gcd tp bt : Nat) = bt := Int.ediv_mul_cancel (Int.gcd_dvd_right ..)
  generalize ((Int.gcd tp bt : Nat) : Int) = g at gp e1 e2
  generalize tp / g = a at e1
  generalize bt / g = b at e2
  rw [Bool.eq_iff_iff, decide_eq_true_eq, hb, ← e1, ← e2]
  have f1 : gt ts k * (b * g) = gt ts k * b * g := by rw [Int.mul_assoc]
  have f2 : a * g * gt hs k = a * gt hs k * g := by rw [Int.mul_assoc, Int.mul_comm g, ← Int.mul_assoc]
  rw [f1, f2]
  exact ⟨fun z => by rw [z], fun z => Int.eq_of_mul_eq_mul_right (by omega) z⟩
theorem pace_low {ts hs : List Int} {tp bt : Int} {k : Nat} (ft : Four ts 1000000) (fh : Four hs 4) (h : PaceOf ts hs tp bt) (hk : k < 4) (hb : bindB ts hs k = true) :
    tp / (Int.gcd tp bt : Nat) = gt ts k / (Int.gcd (gt ts k) (gt hs k) : Nat) ∧ bt / (Int.gcd tp bt : Nat) = gt hs k / (Int.gcd (gt ts k) (gt hs k) : Nat) := by
  have zm := List.of_mem_zip h.1
  have b1 := ft.2 tp zm.1
  have b2 := fh.2 bt zm.2
  have k1 := ft.2 _ (gt_mem (l := ts) (k := k) (by rw [ft.1]; exact hk))
  have k2 := fh.2 _ (gt_mem (l := hs) (k := k) (by rw [fh.1]; exact hk))
  exact redI b1.1 b2.1 k1.1 k2.1 ((bind_pace ft fh h hk).mp hb).symm
end HP
namespace HP
open PySem L2
def mx (x y : Int) : Int := if x < y then y else x
theorem le_mx1 (x y : Int) : x ≤ mx x y := by unfold mx; split <;> omega
theorem le_mx2 (x y : Int) : y ≤ mx x y := by unfold mx; split <;> omega
theorem mx_or (x y : Int) : mx x y = x ∨ mx x y = y := by unfold mx; split <;> simp
theorem mx_le {x y z : Int} (h1 : x ≤ z) (h2 : y ≤ z) : mx x y ≤ z := by unfold mx; split <;> omega
/-! ### the waits, as the program finds them -/
def mxL (a : Int) (l : List Int) : Int := l.foldl mx a
theorem mxL_ge : ∀ (l : List Int) (a : Int), a ≤ mxL a l ∧ ∀ y ∈ l, y ≤ mxL a l
  | [], a => ⟨Int.le_refl _, fun y hy => by cases hy⟩
  | b :: l, a => by
    obtain ⟨h1, h2⟩ := mxL_ge l (mx a b)
    have e : mxL a (b :: l) = mxL (mx a b) l := rfl
    rw [e]
    refine ⟨Int.le_trans (le_mx1 a b) h1, fun y hy => ?_⟩
    rcases List.mem_cons.mp hy with rfl | hy
    · exact Int.le_trans (le_mx2 a y) h1
    · exact h2 y hy
theorem mxL_mem : ∀ (l : List Int) (a : Int), mxL a l = a ∨ mxL a l ∈ l
  | [], a => .inl rfl
  | b :: l, a => by
    have e : mxL a (b :: l) = mxL (mx a b) l := rfl
    rw [e]
    rcases mxL_mem l (mx a b) with h | h
    · rcases mx_or a b with h' | h'
      · exact .inl (h.trans h')
      · exact .inr (by rw [h, h']; exact List.mem_cons_self)
    · exact .inr (List.mem_cons_of_mem _ h)
theorem mxL_eq {a m : Int} {l : List Int} (h1 : m ∈ a :: l) (h2 : ∀ y ∈ a :: l, y ≤ m) : m = mxL a l := by
  obtain ⟨g1, g2⟩ := mxL_ge l a
  have u : m ≤ mxL a l := by
    rcases List.mem_cons.mp h1 with rfl | h
    · exact g1
    · exact g2 m h
  have v : mxL a l ≤ m := by
    rcases mxL_mem l a with h | h
    · rw [h]; exact h2 a List.mem_cons_self
    · exact h2 _ (List.mem_cons_of_mem _ h)
  omega
def behindOf (w : List Int) (n : Nat) (qs : List (Int × Int)) : List Int := (qs.filter fun q => decide (q.2 ≤ (n : Int))).map fun q => gt w (n - q.2.toNat) + q.1
def wl (ts hs : List Int) : Nat → List Int
  | 0 => [0]
  | n + 1 => wl ts hs n ++ [mxL (gt (wl ts hs n) n) (behindOf (wl ts hs n) (n + 1) (ts.zip hs))]
theorem wl_len (ts hs : List Int) : ∀ n, (wl ts hs n).length = n + 1
  | 0 => rfl
  | n + 1 => by
    show (wl ts hs n ++ [_]).length = n + 1 + 1
    rw [List.length_append, wl_len ts hs n]
    rfl
def Wv (ts hs : List Int) (n : Nat) : Int := gt (wl ts hs n) n
theorem gt_app {l m : List Int} {k : Nat} (h : k < l.length) : gt (l ++ m) k = gt l k := by
  unfold gt
  rw [List.getD_eq_getElem?_getD, List.getD_eq_getElem?_getD, List.getElem?_append_left h]
theorem gt_last {l : List Int} {x : Int} {k : Nat} (h : l.length = k) : gt (l ++ [x]) k = x := by
  unfold gt
  rw [List.getD_eq_getElem?_getD, List.getElem?_append_right (by omega), h, Nat.sub_self]
  rfl
theorem wl_at (ts hs : List Int) : ∀ (m n : Nat), n ≤ m → gt (wl ts hs m) n = Wv ts hs n
  | 0, n, h => by
    obtain rfl : n = 0 := by omega
    rfl
  | m + 1, n, h => by
    by_cases c : n = m + 1
    · subst c
      rfl
    · show gt (wl ts hs m ++ [_]) n = _
      rw [gt_app (by rw [wl_len]; omega)]
      exact wl_at ts hs m n (by omega)
theorem Wv_zero (ts hs : List Int) : Wv ts hs 0 = 0 := rfl
theorem Wv_succ (ts hs : List Int) (n : Nat) : Wv ts hs (n + 1) = mxL (Wv ts hs n) (behindOf (wl ts hs n) (n + 1) (ts.zip hs)) := by
  show gt (wl ts hs n ++ [_]) (n + 1) = _
  rw [gt_last (wl_len ts hs n)]
  rfl
section
variable {ts hs : List Int} (ft : Four ts 1000000) (fh : Four hs 4)
include ft fh
theorem hs_pos {k : Nat} (hk : k < 4) : 1 ≤ gt hs k ∧ gt hs k ≤ 4 := fh.2 _ (gt_mem (by rw [fh.1]; exact hk))
theorem ts_pos {k : Nat} (hk : k < 4) : 1 ≤ gt ts k ∧ gt ts k ≤ 1000000 := ft.2 _ (gt_mem (by rw [ft.1]; exact hk))
theorem Wv_mono1 (n : Nat) : Wv ts hs n ≤ Wv ts hs (n + 1) := by
  rw [Wv_succ]
  exact (mxL_ge _ _).1
theorem Wv_mono (n m : Nat) : Wv ts hs n ≤ Wv ts hs (n + m) := by
  induction m with
  | zero => exact Int.le_refl _
  | succ m ih => exact Int.le_trans ih (Wv_mono1 ft fh (n + m))
theorem Wv_nonneg (n : Nat) : 0 ≤ Wv ts hs n := by
  have := Wv_mono ft fh 0 n
  rw [Nat.zero_add, Wv_zero] at this
  exact this
/-- one more of a kind -/
theorem Wv_step {k : Nat} (hk : k < 4) (n : Nat) : Wv ts hs n + gt ts k ≤ Wv ts hs (n + (gt hs k).toNat) := by
  have hh := hs_pos ft fh hk
  obtain ⟨m, em⟩ : ∃ m, n + (gt hs k).toNat = m + 1 := ⟨n + (gt hs k).toNat - 1, by omega⟩
  rw [em, Wv_succ]
  refine (mxL_ge _ _).2 _ ?_
  refine List.mem_map.mpr ⟨(gt ts k, gt hs k), List.mem_filter.mpr ⟨zip_gt ft.1 fh.1 hk, decide_eq_true (by show gt hs k ≤ ((m + 1 : Nat) : Int); omega)⟩, ?_⟩
  show gt (wl ts hs m) (m + 1 - (gt hs k).toNat) + gt ts k = Wv ts hs n + gt ts k
  rw [show m + 1 - (gt hs k).toNat = n by omega, wl_at ts hs m n (by omega)]
/-- what stands there came so -/
theorem Wv_from (n : Nat) : Wv ts hs (n + 1) = Wv ts hs n ∨ ∃ k, k < 4 ∧ ∃ m, n + 1 = m + (gt hs k).toNat ∧ Wv ts hs (n + 1) = Wv ts hs m + gt ts k := by
  rw [Wv_succ]
  rcases mxL_mem (behindOf (wl ts hs n) (n + 1) (ts.zip hs)) (Wv ts hs n) with h | h
  · exact .inl h
  · refine .inr ?_
    obtain ⟨q, hq, e⟩ := List.mem_map.mp h
    obtain ⟨hq1, hq2⟩ := List.mem_filter.mp hq
    obtain ⟨k, hk, rfl⟩ := gt_zip ft.1 hq1
    have hh := hs_pos ft fh hk
    have hle : gt hs k ≤ ((n + 1 : Nat) : Int) := of_decide_eq_true hq2
    refine ⟨k, hk, n + 1 - (gt hs k).toNat, by omega, ?_⟩
    rw [← e]
    show gt (wl ts hs n) (n + 1 - (gt hs k).toNat) + gt ts k = _
    rw [wl_at ts hs n _ (by omega)]
/-! ### as sums of takes -/
/-- a pick: so many of each kind -/
structure Pk where
  a : Nat
  b : Nat
  c : Nat
  d : Nat
omit ft fh in
def Pk.wt (hs : List Int) (r : Pk) : Nat := r.a * (gt hs 0).toNat + r.b * (gt hs 1).toNat + r.c * (gt hs 2).toNat + r.d * (gt hs 3).toNat
omit ft fh in
def Pk.val (ts : List Int) (r : Pk) : Int := r.a * gt ts 0 + r.b * gt ts 1 + r.c * gt ts 2 + r.d * gt ts 3
theorem Wv_times {k : Nat} (hk : k < 4) (n : Nat) : ∀ m : Nat, Wv ts hs n + m * gt ts k ≤ Wv ts hs (n + m * (gt hs k).toNat)
  | 0 => by
    rw [Nat.zero_mul, Nat.add_zero]
    have : ((0 : Nat) : Int) * gt ts k = 0 := Int.zero_mul _
    omega
  | m + 1 => by
    have ih := Wv_times hk n m
    have st := Wv_step ft fh hk (n + m * (gt hs k).toNat)
    have e : n + (m + 1) * (gt hs k).toNat = n + m * (gt hs k).toNat + (gt hs k).toNat := by rw [Nat.succ_mul, Nat.add_assoc]
    have e2 : ((m + 1 : Nat) : Int) * gt ts k = (m : Int) * gt ts k + gt ts k := by rw [Int.natCast_add, Int.add_mul]; simp
    rw [e, e2]
    omega
/-- no pick that has room is worth more -/
theorem Wv_ge (r : Pk) {n : Nat} (h : r.wt hs ≤ n) : r.val ts ≤ Wv ts hs n := by
  have h0 := Wv_times ft fh (k := 0) (by decide) 0 r.a
  have h1 := Wv_times ft fh (k := 1) (by decide) (0 + r.a * (gt hs 0).toNat) r.b
  have h2 := Wv_times ft fh (k := 2) (by decide) (0 + r.a * (gt hs 0).toNat + r.b * (gt hs 1).toNat) r.c
  have h3 := Wv_times ft fh (k := 3) (by decide) (0 + r.a * (gt hs 0).toNat + r.b * (gt hs 1).toNat + r.c * (gt hs 2).toNat) r.d
  have e : 0 + r.a * (gt hs 0).toNat + r.b * (gt hs 1).toNat + r.c * (gt hs 2).toNat + r.d * (gt hs 3).toNat = r.wt hs := by unfold Pk.wt; omega
  rw [e] at h3
  have h4 := Wv_mono ft fh (r.wt hs) (n - r.wt hs)
  rw [show r.wt hs + (n - r.wt hs) = n by omega] at h4
  rw [Wv_zero] at h0
  unfold Pk.val
  omega
omit ft fh in
def Pk.add (r : Pk) (k n : Nat) : Pk := ⟨r.a + (if k = 0 then n else 0), r.b + (if k = 1 then n else 0), r.c + (if k = 2 then n else 0), r.d + (if k = 3 then n else 0)⟩
omit ft fh in
theorem Pk.add_wt (r : Pk) {k : Nat} (hk : k < 4) (n : Nat) : (r.add k n).wt hs = r.wt hs + n * (gt hs k).toNat := by
  have : k = 0 ∨ k = 1 ∨ k = 2 ∨ k = 3 := by omega
  rcases this with rfl | rfl | rfl | rfl <;> simp [Pk.add, Pk.wt, Nat.add_mul] <;> omega
omit ft fh in
theorem Pk.add_val (r : Pk) {k : Nat} (hk : k < 4) (n : Nat) : (r.add k n).val ts = r.val ts + n * gt ts k := by
  have : k = 0 ∨ k = 1 ∨ k = 2 ∨ k = 3 := by omega
  rcases this with rfl | rfl | rfl | rfl <;> simp [Pk.add, Pk.val, Int.add_mul] <;> omega
/-- and some pick is worth as much -/
theorem Wv_pick : ∀ n : Nat, ∃ r : Pk, r.wt hs ≤ n ∧ r.val ts = Wv ts hs n := by
  intro n
  induction n using Nat.strongRecOn with
  | ind n ih =>
    cases n with
    | zero => exact ⟨⟨0, 0, 0, 0⟩, by simp [Pk.wt], by simp [Pk.val, Wv_zero]⟩
    | succ n =>
      rcases Wv_from ft fh n with e | ⟨k, hk, m, em, e⟩
      · obtain ⟨r, h1, h2⟩ := ih n (by omega)
        exact ⟨r, by omega, by rw [h2, e]⟩
      · have hh := hs_pos ft fh hk
        obtain ⟨r, h1, h2⟩ := ih m (by omega)
        refine ⟨r.add k 1, ?_, ?_⟩
        · rw [Pk.add_wt _ hk, Nat.one_mul]
          omega
        · rw [Pk.add_val _ hk, h2, e]
          simp
end
end HP
namespace HP
open PySem L2
/-! ### far out: a kind that binds, once more -/
theorem pig {m : Nat} (h1 : 1 ≤ m) (h4 : m ≤ 4) (x1 x2 x3 x4 : Nat) : x1 % m = 0 ∨ x2 % m = 0 ∨ x3 % m = 0 ∨ x4 % m = 0 ∨ (x1 + x2) % m = 0 ∨ (x2 + x3) % m = 0 ∨ (x3 + x4) % m = 0 ∨ (x1 + x2 + x3) % m = 0 ∨ (x2 + x3 + x4) % m = 0 ∨ (x1 + x2 + x3 + x4) % m = 0 := by
  have : m = 1 ∨ m = 2 ∨ m = 3 ∨ m = 4 := by omega
  rcases this with rfl | rfl | rfl | rfl
  · omega
  · omega
  · omega
  · have k : ∀ x : Nat, x % 4 = 0 ∨ x % 4 = 1 ∨ x % 4 = 2 ∨ x % 4 = 3 := fun x => by omega
    rcases k x1 with a | a | a | a <;> rcases k x2 with b | b | b | b <;> rcases k x3 with c | c | c | c <;> rcases k x4 with d | d | d | d <;> omega
def Pk.get (r : Pk) (k : Nat) : Nat := if k = 0 then r.a else if k = 1 then r.b else if k = 2 then r.c else r.d
def Pk.size (r : Pk) : Nat := r.a + r.b + r.c + r.d
theorem Pk.less {r : Pk} {k : Nat} (hk : k < 4) (h : 1 ≤ r.get k) : ∃ r', r = Pk.add r' k 1 := by
  have : k = 0 ∨ k = 1 ∨ k = 2 ∨ k = 3 := by omega
  obtain ⟨a, b, c, d⟩ := r
  rcases this with rfl | rfl | rfl | rfl
  · exact ⟨⟨a - 1, b, c, d⟩, by have h' : 1 ≤ a := h; simp [Pk.add]; omega⟩
  · exact ⟨⟨a, b - 1, c, d⟩, by have h' : 1 ≤ b := h; simp [Pk.add]; omega⟩
  · exact ⟨⟨a, b, c - 1, d⟩, by have h' : 1 ≤ c := h; simp [Pk.add]; omega⟩
  · exact ⟨⟨a, b, c, d - 1⟩, by have h' : 1 ≤ d := h; simp [Pk.add]; omega⟩
theorem Pk.some {r : Pk} (h : 1 ≤ r.size) : ∃ k, k < 4 ∧ 1 ≤ r.get k := by
  unfold Pk.size at h
  by_cases c0 : 1 ≤ r.a
  · exact ⟨0, by decide, c0⟩
  by_cases c1 : 1 ≤ r.b
  · exact ⟨1, by decide, c1⟩
  by_cases c2 : 1 ≤ r.c
  · exact ⟨2, by decide, c2⟩
  · exact ⟨3, by decide, by show 1 ≤ r.d; omega⟩
theorem Pk.add_size (r : Pk) {k : Nat} (hk : k < 4) : (r.add k 1).size = r.size + 1 := by
  have : k = 0 ∨ k = 1 ∨ k = 2 ∨ k = 3 := by omega
  rcases this with rfl | rfl | rfl | rfl <;> simp [Pk.add, Pk.size] <;> omega
section
variable {ts hs : List Int} (ft : Four ts 1000000) (fh : Four hs 4)
include ft fh
theorem wt_size (r : Pk) : r.wt hs ≤ 4 * r.size := by
  have h0 := hs_pos ft fh (k := 0) (by decide)
  have h1 := hs_pos ft fh (k := 1) (by decide)
  have h2 := hs_pos ft fh (k := 2) (by decide)
  have h3 := hs_pos ft fh (k := 3) (by decide)
  unfold Pk.wt Pk.size
  have g0 : r.a * (gt hs 0).toNat ≤ r.a * 4 := Nat.mul_le_mul_left _ (by omega)
  have g1 : r.b * (gt hs 1).toNat ≤ r.b * 4 := Nat.mul_le_mul_left _ (by omega)
  have g2 : r.c * (gt hs 2).toNat ≤ r.c * 4 := Nat.mul_le_mul_left _ (by omega)
  have g3 : r.d * (gt hs 3).toNat ≤ r.d * 4 := Nat.mul_le_mul_left _ (by omega)
  omega
theorem Wv_far {k : Nat} (hk : k < 4) (hb : bindB ts hs k = true) {n : Nat} (hn : 12 ≤ n) : Wv ts hs (n + (gt hs k).toNat) = Wv ts hs n + gt ts k := by
  have hh := hs_pos ft fh hk
  have tt := ts_pos ft fh hk
  have lo := Wv_step ft fh hk n
  suffices hi : Wv ts hs (n + (gt hs k).toNat) ≤ Wv ts hs n + gt ts k by omega
  obtain ⟨r, hw, hv⟩ := Wv_pick ft fh (n + (gt hs k).toNat)
  rw [← hv]
  have ba := bind_all.mp hb
  -- what is left out together with so much room, and put back as the kind that binds
  have fin : ∀ (R : Pk) (sw : Nat) (sv : Int), R.wt hs + sw = r.wt hs → R.val ts + sv = r.val ts → sv * gt hs k ≤ gt ts k * (sw : Int) → sw % (gt hs k).toNat = 0 → 1 ≤ sw → r.val ts ≤ Wv ts hs n + gt ts k := by
    intro R sw sv e1 e2 e3 e4 e5
    obtain ⟨q, hq⟩ : ∃ q, sw = q * (gt hs k).toNat := ⟨sw / (gt hs k).toNat, (Nat.div_mul_cancel (Nat.dvd_of_mod_eq_zero e4)).symm⟩
    have hq1 : 1 ≤ q := by
      rcases Nat.eq_zero_or_pos q with z | z
      · rw [z, Nat.zero_mul] at hq; omega
      · exact z
    obtain ⟨q', rfl⟩ : ∃ q', q = q' + 1 := ⟨q - 1, by omega⟩
    have hsv : sv ≤ ((q' + 1 : Nat) : Int) * gt ts k := by
      have hz : (sw : Int) = ((q' + 1 : Nat) : Int) * gt hs k := by rw [hq, Int.natCast_mul, Int.toNat_of_nonneg (by omega)]
      rw [hz] at e3
      have e6 : gt ts k * (((q' + 1 : Nat) : Int) * gt hs k) = (((q' + 1 : Nat) : Int) * gt ts k) * gt hs k := by rw [← Int.mul_assoc, Int.mul_comm (gt ts k)]
      rw [e6] at e3
      exact Int.le_of_mul_le_mul_right e3 (by omega)
    have w1 := Pk.add_wt (hs := hs) R hk q'
    have v1 := Pk.add_val (ts := ts) R hk q'
    have hle : (R.add k q').wt hs ≤ n := by
      rw [w1]
      rw [hq, Nat.succ_mul] at e1
      omega
    have g := Wv_ge ft fh (R.add k q') hle
    rw [v1] at g
    have e7 : ((q' + 1 : Nat) : Int) * gt ts k = (q' : Int) * gt ts k + gt ts k := by rw [Int.natCast_add, Int.add_mul]; simp
    omega
  by_cases c1 : 1 ≤ r.get k
  · obtain ⟨R, rfl⟩ := Pk.less hk c1
    refine fin R (gt hs k).toNat (gt ts k) ?_ ?_ ?_ (Nat.mod_self _) (by omega)
    · rw [Pk.add_wt _ hk, Nat.one_mul]
    · rw [Pk.add_val _ hk]; simp
    · rw [Int.toNat_of_nonneg (by omega)]; exact Int.le_refl _
  by_cases c2 : r.wt hs ≤ n
  · have := Wv_ge ft fh r c2
    omega
  have sz := wt_size ft fh r
  -- four of it, one by one
  obtain ⟨k1, hk1, g1⟩ := Pk.some (r := r) (by omega)
  obtain ⟨r1, rfl⟩ := Pk.less hk1 g1
  rw [Pk.add_size _ hk1] at sz
  obtain ⟨k2, hk2, g2⟩ := Pk.some (r := r1) (by omega)
  obtain ⟨r2, rfl⟩ := Pk.less hk2 g2
  rw [Pk.add_size _ hk2] at sz
  obtain ⟨k3, hk3, g3⟩ := Pk.some (r := r2) (by omega)
  obtain ⟨r3, rfl⟩ := Pk.less hk3 g3
  rw [Pk.add_size _ hk3] at sz
  obtain ⟨k4, hk4, g4⟩ := Pk.some (r := r3) (by omega)
  obtain ⟨r4, rfl⟩ := Pk.less hk4 g4
  have p1 := hs_pos ft fh hk1
  have p2 := hs_pos ft fh hk2
  have p3 := hs_pos ft fh hk3
  have p4 := hs_pos ft fh hk4
  have b1 := ba k1 hk1
  have b2 := ba k2 hk2
  have b3 := ba k3 hk3
  have b4 := ba k4 hk4
  have ew : ∀ j, j < 4 → ((gt hs j).toNat : Int) = gt hs j := fun j hj => Int.toNat_of_nonneg (by have := hs_pos ft fh hj; omega)
  have e1 := ew k1 hk1
  have e2 := ew k2 hk2
  have e3 := ew k3 hk3
  have e4 := ew k4 hk4
  have W : ∀ (R : Pk) (j : Nat), j < 4 → (R.add j 1).wt hs = R.wt hs + (gt hs j).toNat := fun R j hj => by rw [Pk.add_wt _ hj, Nat.one_mul]
  have V : ∀ (R : Pk) (j : Nat), j < 4 → (R.add j 1).val ts = R.val ts + gt ts j := fun R j hj => by rw [Pk.add_val _ hj]; simp
  rcases pig (m := (gt hs k).toNat) (by omega) (by omega) (gt hs k1).toNat (gt hs k2).toNat (gt hs k3).toNat (gt hs k4).toNat with z | z | z | z | z | z | z | z | z | z
  · refine fin (((r4.add k4 1).add k3 1).add k2 1) _ (gt ts k1) ?_ ?_ ?_ z (by omega)
    · simp only [W, V, hk1, hk2, hk3, hk4]
    · simp only [W, V, hk1, hk2, hk3, hk4]
    · rw [e1]; exact b1
  · refine fin (((r4.add k4 1).add k3 1).add k1 1) _ (gt ts k2) ?_ ?_ ?_ z (by omega)
    · simp only [W, V, hk1, hk2, hk3, hk4]; omega
    · simp only [W, V, hk1, hk2, hk3, hk4]; omega
    · rw [e2]; exact b2
  · refine fin (((r4.add k4 1).add k2 1).add k1 1) _ (gt ts k3) ?_ ?_ ?_ z (by omega)
    · simp only [W, V, hk1, hk2, hk3, hk4]; omega
    · simp only [W, V, hk1, hk2, hk3, hk4]; omega
    · rw [e3]; exact b3
  · refine fin (((r4.add k3 1).add k2 1).add k1 1) _ (gt ts k4) ?_ ?_ ?_ z (by omega)
    · simp only [W, V, hk1, hk2, hk3, hk4]; omega
    · simp only [W, V, hk1, hk2, hk3, hk4]; omega
    · rw [e4]; exact b4
  · refine fin ((r4.add k4 1).add k3 1) _ (gt ts k1 + gt ts k2) ?_ ?_ ?_ z (by omega)
    · simp only [W, V, hk1, hk2, hk3, hk4]; omega
    · simp only [W, V, hk1, hk2, hk3, hk4]; omega
    · rw [Int.natCast_add, e1, e2, Int.add_mul, Int.mul_add]; omega
  · refine fin ((r4.add k4 1).add k1 1) _ (gt ts k2 + gt ts k3) ?_ ?_ ?_ z (by omega)
    · simp only [W, V, hk1, hk2, hk3, hk4]; omega
    · simp only [W, V, hk1, hk2, hk3, hk4]; omega
    · rw [Int.natCast_add, e2, e3, Int.add_mul, Int.mul_add]; omega
  · refine fin ((r4.add k2 1).add k1 1) _ (gt ts k3 + gt ts k4) ?_ ?_ ?_ z (by omega)
    · simp only [W, V, hk1, hk2, hk3, hk4]; omega
    · simp only [W, V, hk1, hk2, hk3, hk4]; omega
    · rw [Int.natCast_add, e3, e4, Int.add_mul, Int.mul_add]; omega
  · refine fin (r4.add k4 1) _ (gt ts k1 + gt ts k2 + gt ts k3) ?_ ?_ ?_ z (by omega)
    · simp only [W, V, hk1, hk2, hk3, hk4]; omega
    · simp only [W, V, hk1, hk2, hk3, hk4]; omega
    · rw [Int.natCast_add, Int.natCast_add, e1, e2, e3, Int.add_mul, Int.add_mul, Int.mul_add, Int.mul_add]; omega
  · refine fin (r4.add k1 1) _ (gt ts k2 + gt ts k3 + gt ts k4) ?_ ?_ ?_ z (by omega)
    · simp only [W, V, hk1, hk2, hk3, hk4]; omega
    · simp only [W, V, hk1, hk2, hk3, hk4]; omega
    · rw [Int.natCast_add, Int.natCast_add, e2, e3, e4, Int.add_mul, Int.add_mul, Int.mul_add, Int.mul_add]; omega
  · refine fin r4 _ (gt ts k1 + gt ts k2 + gt ts k3 + gt ts k4) ?_ ?_ ?_ z (by omega)
    · simp only [W, V, hk1, hk2, hk3, hk4]; omega
    · simp only [W, V, hk1, hk2, hk3, hk4]; omega
    · rw [Int.natCast_add, Int.natCast_add, Int.natCast_add, e1, e2, e3, e4, Int.add_mul, Int.add_mul, Int.add_mul, Int.mul_add, Int.mul_add, Int.mul_add]; omega
theorem Wv_rounds {k : Nat} (hk : k < 4) (hb : bindB ts hs k = true) {n : Nat} (hn : 12 ≤ n) : ∀ m : Nat, Wv ts hs (n + m * (gt hs k).toNat) = Wv ts hs n + m * gt ts k
  | 0 => by
    rw [Nat.zero_mul, Nat.add_zero]
    have : ((0 : Nat) : Int) * gt ts k = 0 := Int.zero_mul _
    omega
  | m + 1 => by
    have ih := Wv_rounds hk hb hn m
    have e : n + (m + 1) * (gt hs k).toNat = n + m * (gt hs k).toNat + (gt hs k).toNat := by rw [Nat.succ_mul, Nat.add_assoc]
    have e2 : ((m + 1 : Nat) : Int) * gt ts k = (m : Int) * gt ts k + gt ts k := by rw [Int.natCast_add, Int.add_mul]; simp
    rw [e, Wv_far ft fh hk hb (by omega), ih, e2]
    omega
end
/-! ### piece by piece, as the law does -/
def at2d (rows : List (List Int)) (p k : Nat) : Int := gt (rows.getD p []) k
def begA (rows : List (List Int)) (p k : Nat) (ready : Int) : Int := if 0 < p then mx ready (at2d rows (p - 1) k) else ready
def begF (hs : List Int) (rows : List (List Int)) (p k : Nat) (ready : Int) : Int := if gt hs k ≤ (p : Int) then mx (begA rows p k ready) (at2d rows (p - (gt hs k).toNat) (k + 1)) else begA rows p k ready
def rdy (ts hs : List Int) (rows : List (List Int)) (p : Nat) : Nat → Int
  | 0 => 0
  | k + 1 => begF hs rows p k (rdy ts hs rows p k) + gt ts k
def begs (ts hs : List Int) (rows : List (List Int)) (p n : Nat) : List Int := (List.range n).map fun k => begF hs rows p k (rdy ts hs rows p k)
def rowOf (ts hs : List Int) (rows : List (List Int)) (p : Nat) : List Int := begs ts hs rows p 4 ++ [rdy ts hs rows p 4]
def bl (ts hs : List Int) : Nat → List (List Int)
  | 0 => []
  | p + 1 => bl ts hs p ++ [rowOf ts hs (bl ts hs p) p]
theorem bl_len (ts hs : List Int) : ∀ p, (bl ts hs p).length = p
  | 0 => rfl
  | p + 1 => by
    show (bl ts hs p ++ [_]).length = p + 1
    rw [List.length_append, bl_len ts hs p]
    rfl
theorem begs_len (ts hs : List Int) (rows : List (List Int)) (p n : Nat) : (begs ts hs rows p n).length = n := by
  unfold begs
  rw [List.length_map, List.length_range]
theorem row_len (ts hs : List Int) (rows : List (List Int)) (p : Nat) : (rowOf ts hs rows p).length = 5 := by
  unfold rowOf
  rw [List.length_append, begs_len]
  rfl
theorem bl_get (ts hs : List Int) : ∀ (n q : Nat), q < n → (bl ts hs n)[q]? = some (rowOf ts hs (bl ts hs q) q)
  | 0, q, h => by omega
  | n + 1, q, h => by
    show (bl ts hs n ++ [_])[q]? = _
    by_cases c : q = n
    · subst c
      rw [List.getElem?_append_right (by rw [bl_len]; exact Nat.le_refl _), bl_len, Nat.sub_self]
      rfl
    · rw [List.getElem?_append_left (by rw [bl_len]; omega)]
      exact bl_get ts hs n q (by omega)
def Bv (ts hs : List Int) (p k : Nat) : Int := gt (rowOf ts hs (bl ts hs p) p) k
theorem at_bl (ts hs : List Int) {n q : Nat} (h : q < n) (k : Nat) : at2d (bl ts hs n) q k = Bv ts hs q k := by
  unfold at2d Bv
  rw [List.getD_eq_getElem?_getD, bl_get ts hs n q h]
  rfl
theorem Bv_beg (ts hs : List Int) (p : Nat) {k : Nat} (hk : k < 4) : Bv ts hs p k = begF hs (bl ts hs p) p k (rdy ts hs (bl ts hs p) p k) := by
  unfold Bv rowOf
  rw [gt_app (by rw [begs_len]; exact hk)]
  unfold begs
  refine gt_some ?_
  rw [List.getElem?_map, List.getElem?_range hk]
  rfl
theorem Bv_rdy (ts hs : List Int) (p : Nat) {k : Nat} (hk : k ≤ 3) : rdy ts hs (bl ts hs p) p (k + 1) = Bv ts hs p k + gt ts k := by
  rw [Bv_beg ts hs p (by omega)]
  rfl
theorem Bv_end (ts hs : List Int) (p : Nat) : Bv ts hs p 4 = Bv ts hs p 3 + gt ts 3 := by
  have : Bv ts hs p 4 = rdy ts hs (bl ts hs p) p 4 := by
    unfold Bv rowOf
    exact gt_last (begs_len ..)
  rw [this, Bv_rdy ts hs p (by decide)]
def Sv (ts : List Int) : Nat → Int
  | 0 => 0
  | k + 1 => Sv ts k + gt ts k
section
variable {ts hs : List Int} (ft : Four ts 1000000) (fh : Four hs 4)
include ft fh
theorem Bv_le : ∀ (p k : Nat), k ≤ 4 → Bv ts hs p k ≤ Sv ts k + Wv ts hs p := by
  intro p
  induction p using Nat.strongRecOn with
  | ind p ih =>
    have key : ∀ k, k ≤ 4 → rdy ts hs (bl ts hs p) p k ≤ Sv ts k + Wv ts hs p ∧ (k < 4 → begF hs (bl ts hs p) p k (rdy ts hs (bl ts hs p) p k) ≤ Sv ts k + Wv ts hs p) := by
      intro k
      have beg : ∀ k, k < 4 → rdy ts hs (bl ts hs p) p k ≤ Sv ts k + Wv ts hs p → begF hs (bl ts hs p) p k (rdy ts hs (bl ts hs p) p k) ≤ Sv ts k + Wv ts hs p := by
        intro k hk hr
        have hA : begA (bl ts hs p) p k (rdy ts hs (bl ts hs p) p k) ≤ Sv ts k + Wv ts hs p := by
          unfold begA
          split
          · rename_i c
            refine mx_le hr ?_
            rw [at_bl ts hs (by omega)]
            have h1 := ih (p - 1) (by omega) k (by omega)
            have h2 := Wv_mono ft fh (p - 1) 1
            rw [show p - 1 + 1 = p by omega] at h2
            omega
          · exact hr
        unfold begF
        split
        · rename_i c
          refine mx_le hA ?_
          have hh := hs_pos ft fh hk
          rw [at_bl ts hs (by omega)]
          have h1 := ih (p - (gt hs k).toNat) (by omega) (k + 1) (by omega)
          have h2 := Wv_step ft fh hk (p - (gt hs k).toNat)
          rw [show p - (gt hs k).toNat + (gt hs k).toNat = p by omega] at h2
          have h3 : Sv ts (k + 1) = Sv ts k + gt ts k := rfl
          omega
        · exact hA
      induction k with
      | zero =>
        intro _
        have h0 : rdy ts hs (bl ts hs p) p 0 ≤ Sv ts 0 + Wv ts hs p := by
          have := Wv_nonneg ft fh p
          show (0 : Int) ≤ 0 + Wv ts hs p
          omega
        exact ⟨h0, fun h => beg 0 h h0⟩
      | succ k ihk =>
        intro hk
        have h1 := (ihk (by omega)).2 (by omega)
        have h2 : rdy ts hs (bl ts hs p) p (k + 1) ≤ Sv ts (k + 1) + Wv ts hs p := by
          show begF hs (bl ts hs p) p k (rdy ts hs (bl ts hs p) p k) + gt ts k ≤ Sv ts k + gt ts k + Wv ts hs p
          omega
        exact ⟨h2, fun h => beg (k + 1) h h2⟩
    intro k hk
    by_cases c : k < 4
    · rw [Bv_beg ts hs p c]
      exact (key k hk).2 c
    · obtain rfl : k = 4 := by omega
      have := (key 4 (by decide)).1
      have e : Bv ts hs p 4 = rdy ts hs (bl ts hs p) p 4 := by
        rw [Bv_end, Bv_rdy ts hs p (by decide)]
      rw [e]
      exact this
theorem Bv_rd (p : Nat) {k : Nat} (hk : k < 4) : rdy ts hs (bl ts hs p) p k ≤ Bv ts hs p k := by
  rw [Bv_beg ts hs p hk]
  have h1 : rdy ts hs (bl ts hs p) p k ≤ begA (bl ts hs p) p k (rdy ts hs (bl ts hs p) p k) := by
    unfold begA
    split
    · exact le_mx1 _ _
    · exact Int.le_refl _
  unfold begF
  split
  · exact Int.le_trans h1 (le_mx1 _ _)
  · exact h1
theorem Bv_next (p : Nat) {k : Nat} (hk : k < 4) : Bv ts hs p k + gt ts k ≤ Bv ts hs p (k + 1) := by
  by_cases c : k + 1 < 4
  · have := Bv_rd ft fh p c
    rw [Bv_rdy ts hs p (by omega)] at this
    exact this
  · obtain rfl : k = 3 := by omega
    rw [Bv_end]
    exact Int.le_refl _
theorem Bv_one (p : Nat) {k : Nat} (hk : k < 4) : Bv ts hs p k ≤ Bv ts hs (p + 1) k := by
  rw [Bv_beg ts hs (p + 1) hk]
  have h1 : Bv ts hs p k ≤ begA (bl ts hs (p + 1)) (p + 1) k (rdy ts hs (bl ts hs (p + 1)) (p + 1) k) := by
    unfold begA
    rw [if_pos (by omega), at_bl ts hs (by omega)]
    exact le_mx2 _ _
  unfold begF
  split
  · exact Int.le_trans h1 (le_mx1 _ _)
  · exact h1
theorem Bv_mono (p : Nat) {k : Nat} (hk : k < 4) (m : Nat) : Bv ts hs p k ≤ Bv ts hs (p + m) k := by
  induction m with
  | zero => exact Int.le_refl _
  | succ m ih => exact Int.le_trans ih (Bv_one ft fh (p + m) hk)
theorem Bv_hand (p : Nat) {k : Nat} (hk : k < 4) : Bv ts hs p k + gt ts k ≤ Bv ts hs (p + (gt hs k).toNat) k := by
  have hh := hs_pos ft fh hk
  have h1 : Bv ts hs p (k + 1) ≤ Bv ts hs (p + (gt hs k).toNat) k := by
    rw [Bv_beg ts hs (p + (gt hs k).toNat) hk]
    unfold begF
    rw [if_pos (by omega), at_bl ts hs (by omega), show p + (gt hs k).toNat - (gt hs k).toNat = p by omega]
    exact le_mx2 _ _
  exact Int.le_trans (Bv_next ft fh p hk) h1
theorem Bv_hands (p : Nat) {k : Nat} (hk : k < 4) : ∀ m : Nat, Bv ts hs p k + m * gt ts k ≤ Bv ts hs (p + m * (gt hs k).toNat) k
  | 0 => by
    rw [Nat.zero_mul, Nat.add_zero]
    have : ((0 : Nat) : Int) * gt ts k = 0 := Int.zero_mul _
    omega
  | m + 1 => by
    have ih := Bv_hands p hk m
    have st := Bv_hand ft fh (p + m * (gt hs k).toNat) hk
    have e : p + (m + 1) * (gt hs k).toNat = p + m * (gt hs k).toNat + (gt hs k).toNat := by rw [Nat.succ_mul, Nat.add_assoc]
    have e2 : ((m + 1 : Nat) : Int) * gt ts k = (m : Int) * gt ts k + gt ts k := by rw [Int.natCast_add, Int.add_mul]; simp
    rw [e, e2]
    omega
theorem Bv_ge (r : Pk) {p : Nat} (h : r.wt hs ≤ p) : Sv ts 4 + r.val ts ≤ Bv ts hs p 4 := by
  have z : 0 ≤ Bv ts hs 0 0 := Bv_rd ft fh 0 (by decide)
  have a0 := Bv_hands ft fh 0 (k := 0) (by decide) r.a
  have n0 := Bv_next ft fh (0 + r.a * (gt hs 0).toNat) (k := 0) (by decide)
  have a1 := Bv_hands ft fh (0 + r.a * (gt hs 0).toNat) (k := 1) (by decide) r.b
  have n1 := Bv_next ft fh (0 + r.a * (gt hs 0).toNat + r.b * (gt hs 1).toNat) (k := 1) (by decide)
  have a2 := Bv_hands ft fh (0 + r.a * (gt hs 0).toNat + r.b * (gt hs 1).toNat) (k := 2) (by decide) r.c
  have n2 := Bv_next ft fh (0 + r.a * (gt hs 0).toNat + r.b * (gt hs 1).toNat + r.c * (gt hs 2).toNat) (k := 2) (by decide)
  have a3 := Bv_hands ft fh (0 + r.a * (gt hs 0).toNat + r.b * (gt hs 1).toNat + r.c * (gt hs 2).toNat) (k := 3) (by decide) r.d
  have e : 0 + r.a * (gt hs 0).toNat + r.b * (gt hs 1).toNat + r.c * (gt hs 2).toNat + r.d * (gt hs 3).toNat = r.wt hs := by unfold Pk.wt; omega
  rw [e] at a3
  have m3 := Bv_mono ft fh (r.wt hs) (k := 3) (by decide) (p - r.wt hs)
  rw [show r.wt hs + (p - r.wt hs) = p by omega] at m3
  rw [Bv_end]
  have s4 : Sv ts 4 = 0 + gt ts 0 + gt ts 1 + gt ts 2 + gt ts 3 := rfl
  unfold Pk.val
  simp only [Nat.reduceAdd] at *
  omega
theorem Bv_all (p : Nat) : Bv ts hs p 4 = Sv ts 4 + Wv ts hs p := by
  obtain ⟨r, h1, h2⟩ := Wv_pick ft fh p
  have := Bv_ge ft fh r h1
  have := Bv_le ft fh p 4 (by decide)
  omega
theorem Sv_sum : Sv ts 4 = ts.sum := by
  obtain ⟨h4, _⟩ := ft
  match ts, h4 with
  | [a, b, c, d], _ =>
    show 0 + a + b + c + d = [a, b, c, d].sum
    simp only [List.sum_cons, List.sum_nil]
    omega
end
end HP
namespace HP
open PySem L2
theorem dp_ints {K : PySem.W.Frag} {H : Hp} : ∀ ns : List Int, DpAll K H (ns.map V.int) (ns.map PyData.int)
  | [] => .nil
  | n :: ns => .cons (.int n) (dp_ints ns)
theorem eqv_ints (ns : List Int) : PyData.eqv (.list (ns.map PyData.int)) (.list (ns.map PyData.int)) = true := SeqAt.eqv_refl _ (SeqAt.canLay_of_shaped (PySem.W.ke_shaped_ints ns))
def spLaw (K : PySem.W.Frag) : Sp := fun vs H Q _ => ∃ (a : Addr) (ns : List Int), vs = [.ref a] ∧ SqL K H a (ns.map V.int) ∧ ns.length ≤ 63 ∧ ∀ H', Q (.bl true) H'
end HP
namespace HP
open PySem L2
section
variable {P : Program} {w : World} {K : PySem.W.Frag} {mg : Str → Option Value} {base : Heap} {tM tL : Tok}
/-! ### Gang.binds -/
def spBinds (C : Addr) : Sp := fun vs H Q _ => ∃ (p : Addr) (ts hs : List Int), vs = [.ref p] ∧ GangAt C H p ts hs ∧ ∀ (r : Addr) (H' : Hp), H r = none → H' r = some (.lst ((bindsOf ts hs).map V.int)) → Same H H' → Q (.ref r) H'
abbrev sGang_binds : Stmt := inClass (top 20) 9
theorem scGang_binds : FnScope ["self", "top", "bottom", "kind"] ["self"] (defScope sGang_binds) := ⟨rfl, rfl, rfl, by decide +kernel, rfl, by decide +kernel, by decide +kernel⟩
theorem gf_pace (z : Str) (tk hd : Addr) : (gf z tk hd).lookup ("pace" : Str) = none := gf_no _ _ _ (by decide +kernel) (by decide +kernel) (by decide +kernel)
theorem gf_binds (z : Str) (tk hd : Addr) : (gf z tk hd).lookup ("binds" : Str) = none := gf_no _ _ _ (by decide +kernel) (by decide +kernel) (by decide +kernel)
theorem gf_through (z : Str) (tk hd : Addr) : (gf z tk hd).lookup ("through" : Str) = none := gf_no _ _ _ (by decide +kernel) (by decide +kernel) (by decide +kernel)
theorem at_gt {ns : List Int} {k : Int} {i : Nat} (e : k = (i : Int)) (h1 : i < ns.length) : atI (ns.map V.int) k = some (V.int (gt ns i)) := by
  refine at_of (j := i) (by omega) ?_
  rw [List.getElem?_map, gt_at h1]
  rfl
def upTo (ts hs : List Int) (i : Nat) : List Int := ((List.range i).filter (bindB ts hs)).map fun (k : Nat) => (k : Int)
theorem up_yes {ts hs : List Int} {i : Nat} (h : bindB ts hs i = true) : upTo ts hs (i + 1) = upTo ts hs i ++ [(i : Int)] := by
  unfold upTo
  rw [List.range_succ, List.filter_append, List.map_append]
  simp [h]
theorem up_no {ts hs : List Int} {i : Nat} (h : ¬ bindB ts hs i = true) : upTo ts hs (i + 1) = upTo ts hs i := by
  unfold upTo
  rw [List.range_succ, List.filter_append, List.map_append]
  simp [h]
theorem up_len (ts hs : List Int) (i : Nat) : (upTo ts hs i).length ≤ i := by
  unfold upTo
  rw [List.length_map]
  exact Nat.le_trans (List.length_filter_le ..) (by rw [List.length_range]; exact Nat.le_refl _)
theorem ok_binds {f C : Addr} {fd : FuncData} (F : Fun K "binds" "Gang.binds" sGang_binds f fd) (T : Txt mg tM tL) (GT : GangTxt K C) (Dpace : Dm P w K mg base C "pace" 2 ["self"] (spPace C)) : FnOk P w K mg base CX0 3 f fd ["self"] (spBinds C) := by
  refine F.ok scGang_binds (fun vs H Q E h => ?_) (fun cdv A outer s H vs Q E hr h => ?_)
  · obtain ⟨p, ts, hs, rfl, _⟩ := h
    rfl
  · obtain ⟨p, ts, hs, rfl, M, q⟩ := h
    obtain ⟨⟨z, dx, tk, hd, hp, htk, hhd⟩, ft, fh⟩ := id M
    obtain ⟨t4, tB⟩ := id ft
    obtain ⟨h4, hB⟩ := id fh
    refine ⟨_, (pss_cons (ps_asg (pe_mt0 (C := C) Dpace (hr.mono (by decide)) (pv 0)) (pg_tup rfl (pgs_cons (pg_name (i := 1) scGang_binds.nd rfl (Or.inr rfl)) (pgs_cons (pg_name (i := 2) scGang_binds.nd rfl (Or.inr rfl)) pgs_nil))))
    (pss_one (ps_ret (pe_lc (own := [("kind", 3)]) (g := gName 3) (tt := L2.tB (tEqI (tOp (rI CMul fun i j => .int (i * j)) (tOp (rIxT K) (tFld K (tVar 0) "takes") (tVar 3)) (tVar 2)) (tOp (rI CMul fun i j => .int (i * j)) (tVar 1) (tOp (rIxT K) (tFld K (tVar 0) "hands") (tVar 3))))) (by rfl) scGang_binds.nd (pi_range1 (by rfl) T.zrange (pa_cons (pe_gi T.gKINDS) pa_nil)) (blkOk_by (own := [("kind", 3)]) (N := ["self", "top", "bottom", "kind"]) (sc := defScope sGang_binds) (by decide +kernel)) (fun _ _ _ _ _ => (pg_name (i := 3) scGang_binds.nd rfl (Or.inl rfl))) (fun _ _ _ _ _ => (pts_one (pt_cmp (pc_eqI (pe_op op_mul (pe_ix ix_tup (pe_fld (pv 0) rfl) (pv 3) (fun _ _ => rfl)) (pv 2)) (pe_op op_mul (pv 1) (pe_ix ix_tup (pe_fld (pv 0) rfl) (pv 3) (fun _ _ => rfl))))))) (fun _ _ _ _ _ => (pv 3)))))), ?_⟩
    refine ⟨_, rfl, p, dx, _, rfl, hp, gf_pace _ _ _, p, ts, hs, rfl, M, fun r tp bt H1 hP hr1 s1 => ?_⟩
    refine ⟨r, _, rfl, SqT.of hr1, rfl, _, _, rfl, _, _, rfl, rfl, ?_⟩
    have zm := List.of_mem_zip hP.1
    have b1 := tB tp zm.1
    have b2 := hB bt zm.2
    have bl := fun k hk => bind_low (k := k) ft fh hP hk
    have gp : 0 < ((Int.gcd tp bt : Nat) : Int) := by
      have : 0 < Int.gcd tp bt := Int.gcd_pos_of_ne_zero_left _ (by omega)
      omega
    have c1 : ∀ y : Int, CMul y (bt / (Int.gcd tp bt : Nat)) := fun y => .inr ⟨by have := Int.ediv_nonneg (a := bt) (b := ((Int.gcd tp bt : Nat) : Int)) (by omega) (by omega); omega, by have := Int.ediv_le_self (a := bt) ((Int.gcd tp bt : Nat) : Int) (by omega); omega⟩
    have c2 : ∀ y : Int, CMul (tp / (Int.gcd tp bt : Nat)) y := fun y => .inl ⟨by have := Int.ediv_nonneg (a := tp) (b := ((Int.gcd tp bt : Nat) : Int)) (by omega) (by omega); omega, by have := Int.ediv_le_self (a := tp) ((Int.gcd tp bt : Nat) : Int) (by omega); omega⟩
    generalize tp / ((Int.gcd tp bt : Nat) : Int) = a at *
    generalize bt / ((Int.gcd tp bt : Nat) : Int) = b at *
    refine ⟨4, rfl, by decide, by decide, fun D hD => ?_⟩
    refine lc_range (lo := 0) (n := (4 : Int).toNat) (fun i H' => H' D = some (.lst ((upTo ts hs i).map V.int)) ∧ Same H1 H') ⟨upd_same, same_new hD⟩ ?_ ?_
    · rintro i H' hi ⟨hd', s2⟩
      have hi4 : i < 4 := hi
      have t2 := s1.trans s2
      refine ⟨rfl, ?_⟩
      refine ⟨_, rfl, p, C, dx, _, _, rfl, t2 _ _ hp, GT.cl, GT.n2, gf_takes _ _ _, _, rfl, tk, _, _, _, rfl, rfl, SqT.of (t2 _ _ htk), at_gt (i := i) (by omega) (by omega), _, rfl, gt ts i, b, rfl, rfl, c1 _, ?_⟩
      refine ⟨_, rfl, _, rfl, p, C, dx, _, _, rfl, t2 _ _ hp, GT.cl, GT.n3, gf_hands _ _ _, _, rfl, hd, _, _, _, rfl, rfl, SqT.of (t2 _ _ hhd), at_gt (i := i) (by omega) (by omega), a, gt hs i, rfl, rfl, c2 _, _, _, rfl, rfl, _, rfl, iteD (fun c => ?_) (fun c => ?_)⟩
      · have hb : bindB ts hs i = true := by rw [← bl i hi4]; exact decide_eq_true c
        refine ⟨_, rfl, _, hd', ?_, ?_, ?_⟩
        · rw [List.length_map]
          exact Nat.lt_of_le_of_lt (Nat.le_trans (up_len ts hs i) (by omega : i ≤ 4)) (by decide)
        · rw [upd_same, up_yes hb, List.map_append, show (0 : Int) + (i : Int) = (i : Int) by omega]
          rfl
        · intro x o e
          rw [upd_ne (ne_of_none e hD)]
          exact s2 _ _ e
      · refine ⟨?_, s2⟩
        rw [up_no (by rw [← bl i hi4]; exact fun z => c (of_decide_eq_true z))]
        exact hd'
    · rintro H' ⟨hd', s2⟩
      exact q D H' (s1.free hD) hd' (s1.trans s2)
end
end HP
namespace HP
open PySem L2
section
variable {P : Program} {w : World} {K : PySem.W.Frag} {mg : Str → Option Value} {base : Heap} {tM tL : Tok}
/-! ### a def called by keywords alone, or with a default left out -/
def tCallK0 (m : Nat) (sp : Sp) (gV : List V → List V → List V) (E : XK) (tk : TA) : TE := fun σ H Q => tk σ H fun zs H2 => zs.length = m ∧ sp (gV [] zs) H2 Q E
structure DfK (P : Program) (w : World) (K : PySem.W.Frag) (mg : Str → Option Value) (base : Heap) (x : Str) (k : Nat) (ps ks : List Str) (gV : List V → List V → List V) (sp : Sp) : Prop where
  ex : ∃ (f : Addr) (fd : FuncData) (g : List Value → List Value → List Value), FnOk P w K mg base CX0 k f fd ps sp ∧ mg x = some (.ref f) ∧ PySem.W.keepIn K (.ref f) = true ∧ KBn K fd ps 0 ks g gV
theorem pe_fnK {X : Cx} {x : Str} {k : Nat} {ps ks : List Str} {gV : List V → List V → List V} {sp : Sp} {p pos : Pos} {kws : List Keyword} {tk : TA} (D : DfK X.prog X.w X.K X.mg X.base x k ps ks gV sp) (hr : Room k X.A) (hkw : PK X kws tk) (hg : Gl X x := by rfl)
    (hall : (backToKw pos (keywordEach kws X.env)).all (·.1.isSome) = true := by rfl) (hks : (backToKw pos (keywordEach kws X.env)).filterMap (·.1) = ks := by rfl) (hdb : (x == ("__debug__" : Str)) = false := by decide)
    (hpl : ((backTo pos (starEach [] X.env)).any (·.1) || (backToKw pos (keywordEach kws X.env)).any (·.1.isNone)) = false := by rfl) :
    PE X (.Call (.Name x p) [] kws pos) (tCallK0 ks.length sp gV E0 tk) := by
  obtain ⟨f, fd, g, F, hm, kp, b⟩ := D.ex
  refine ⟨fun pins s σ H Q I h => ?_⟩
  refine wpAny_Call_Name_kw (ld_glob I hg hm ?_ hdb)
  refine PySem.W.callWith_KW0 (first := []) (h₀ := X.base) I.ok.mod.kin kp hall ?_ hpl
  refine thn (hkw.run pos pins s σ H _ I h) fun ws s2 ⟨zs, H2, I2, rz, l2, q2⟩ => ⟨I2.kIn, ?_⟩
  rw [hks]
  exact run_fnN (us := []) (vs := []) F hr b pass0 I2 .nil rz rfl l2 q2
structure DfD (P : Program) (w : World) (K : PySem.W.Frag) (mg : Str → Option Value) (base : Heap) (x : Str) (k : Nat) (ps : List Str) (dvs : List V) (sp : Sp) : Prop where
  ex : ∃ (f : Addr) (fd : FuncData) (ds : List Value), FnOk P w K mg base CX0 k f fd ps sp ∧ mg x = some (.ref f) ∧ PySem.W.keepIn K (.ref f) = true ∧ Vals dvs ds ∧ Binds K fd ps ds
theorem pe_fnD {X : Cx} {x : Str} {k : Nat} {ps : List Str} {dvs : List V} {sp : Sp} {p pos : Pos} {e : Expr} {es : List Expr} {t : TA} (D : DfD X.prog X.w X.K X.mg X.base x k ps dvs sp) (hr : Room k X.A) (ha : PA X (e :: es) t)
    (hg : Gl X x := by rfl) (hdb : (x == ("__debug__" : Str)) = false := by decide) (he : starEach (e :: es) X.env = (false, eval e X.env) :: starEach es X.env := by rfl) (hpl : (backTo pos (starEach es X.env)).any (·.1) = false := by rfl) :
    PE X (.Call (.Name x p) (e :: es) [] pos) (tCall sp dvs E0 t) := by
  obtain ⟨f, fd, ds, F, hm, kp, v, b⟩ := D.ex
  exact pe_call F hr hg hm kp b v pass0 ha hdb he hpl
end
end HP
namespace HP
open PySem L2
section
variable {P : Program} {w : World} {K : PySem.W.Frag} {mg : Str → Option Value} {base : Heap} {tM tL : Tok}
/-! ### few_waits -/
def spFew (C : Addr) : Sp := fun vs H Q _ => ∃ (g : Addr) (ts hs : List Int) (m : Nat), vs = [.ref g, .int (m : Int)] ∧ GangAt C H g ts hs ∧ m ≤ 100 ∧ ∀ (r : Addr) (H' : Hp), H' r = some (.lst ((wl ts hs m).map V.int)) → Same H H' → Q (.ref r) H'
abbrev sfew_waits : Stmt := top 3
theorem scfew_waits : FnScope ["gang", "most", "waits", "number", "behind", "take", "many"] ["gang", "most"] (defScope sfew_waits) := ⟨rfl, rfl, rfl, by decide +kernel, rfl, by decide +kernel, by decide +kernel⟩
theorem beh_yes {wt : List Int} {n : Nat} {qs : List (Int × Int)} {q : Int × Int} (h : q.2 ≤ (n : Int)) : behindOf wt n (qs ++ [q]) = behindOf wt n qs ++ [gt wt (n - q.2.toNat) + q.1] := by
  unfold behindOf
  rw [List.filter_append, List.map_append]
  simp [h]
theorem beh_no {wt : List Int} {n : Nat} {qs : List (Int × Int)} {q : Int × Int} (h : ¬ q.2 ≤ (n : Int)) : behindOf wt n (qs ++ [q]) = behindOf wt n qs := by
  unfold behindOf
  rw [List.filter_append, List.map_append]
  simp [h]
theorem beh_len (wt : List Int) (n : Nat) (qs : List (Int × Int)) : (behindOf wt n qs).length ≤ qs.length := by
  unfold behindOf
  rw [List.length_map]
  exact List.length_filter_le ..
theorem ok_few {f C : Addr} {fd : FuncData} (F : Fun K "few_waits" "few_waits" sfew_waits f fd) (T : Txt mg tM tL) (GT : GangTxt K C) : FnOk P w K mg base CX0 1 f fd ["gang", "most"] (spFew C) := by
  refine F.ok scfew_waits (fun vs H Q E h => ?_) (fun cdv A outer s H vs Q E hr h => ?_)
  · obtain ⟨g, ts, hs, m, rfl, _⟩ := h
    rfl
  · obtain ⟨g, ts, hs, m, rfl, M, hm, q⟩ := h
    obtain ⟨⟨z, dx, tk, hd, hg, htk, hhd⟩, ft, fh⟩ := id M
    refine ⟨_, (pss_cons (ps_set (i := 2) scfew_waits.nd rfl (Or.inr rfl) (pe_lst (pa_cons pe_int pa_nil)))
    (pss_cons (ps_for PassesOwn.never rfl (pi_range2 (by rfl) T.zrange (pa_cons pe_int (pa_cons (pe_op op_add (pv 1) pe_int) pa_nil))) (pg_name (i := 3) scfew_waits.nd rfl (Or.inr rfl))
    (pss_cons (ps_setLc (i := 4) (own := [("take", 5), ("many", 6)]) (g := gTup K 2 (gCons (gName 5) (gCons (gName 6) gNil))) (te := tOp (rI0 fun i j => .int (i + j)) (tOp (rIxL K) (tVar 2) (tOp (rI0 fun i j => .int (i - j)) (tVar 3) (tVar 6))) (tVar 5)) (by rfl) scfew_waits.nd rfl rfl (sw_true rfl rfl rfl (by decide +kernel)) (RZ.pi_zipA (by rfl) T.zzip (pa_cons (pe_fld (pv 0) rfl) (pa_cons (pe_fld (pv 0) rfl) pa_nil))) (blkOk_by (own := [("take", 5), ("many", 6)]) (N := ["gang", "most", "waits", "number", "behind", "take", "many"]) (sc := defScope sfew_waits) (by decide +kernel)) (fun _ _ _ _ _ => (pg_tup rfl (pgs_cons (pg_name (i := 5) scfew_waits.nd rfl (Or.inl rfl)) (pgs_cons (pg_name (i := 6) scfew_waits.nd rfl (Or.inl rfl)) pgs_nil)))) (fun _ _ _ _ _ => (pts_one (pt_cmp (pc_le (pv 6) (pv 3))))) (fun _ _ _ _ _ => (pe_op op_add (pe_ix ix_list (pv 2) (pe_op op_sub (pv 3) (pv 6)) (fun _ _ => rfl)) (pv 5))))
    (pss_one (ps_expr (pe_bm PySem.F.plainAttrs_list PySem.F.slot_list_append PySem.F.type_list_append mt_append (pv 2) (pa_cons (pe_callB (cr_max rfl) (by rfl) T.zmax (by decide +kernel) (pa_cons (pe_op op_cat (pe_lst (pa_cons (pe_ix ix_list (pv 2) (pe_op op_sub (pv 3) pe_int) (fun _ _ => rfl)) pa_nil)) (pv 4)) pa_nil)) pa_nil))))))
    (pss_one (ps_ret (pv 2))))), ?_⟩
    refine ⟨(by show 1 ≤ sizeLine; decide), fun wa hwa => ?_⟩
    refine ⟨_, rfl, (m : Int), 1, rfl, rfl, 1, _, rfl, ⟨by decide, by decide, by omega, by omega⟩, ?_⟩
    refine for_range (lo := 1) (n := ((m : Int) + 1 - 1).toNat) (fun i σ H' => ∃ v3 v4 v5 v6 : Option V, σ = [some (.ref g), some (.int (m : Int)), some (.ref wa), v3, v4, v5, v6] ∧ H' wa = some (.lst ((wl ts hs i).map V.int)) ∧ Same H H')
      ⟨_, _, _, _, rfl, upd_same, same_new hwa⟩ ?_ ?_
    · rintro i σ H' hi ⟨v3, v4, v5, v6, rfl, hwa', s1⟩
      have hi' : i < 100 := by omega
      have hwl := wl_len ts hs i
      refine ⟨_, rfl, g, C, dx, _, _, rfl, s1 _ _ hg, GT.cl, GT.n2, gf_takes _ _ _, _, rfl, g, C, dx, _, _, rfl, s1 _ _ hg, GT.cl, GT.n3, gf_hands _ _ _, tk, hd, _, _, rfl, .inr ⟨SqT.of (s1 _ _ htk), SqT.of (s1 _ _ hhd), fun D hD => ?_⟩⟩
      have hlz : (ts.zip hs).length = 4 := by rw [List.length_zip, ft.1, fh.1]; rfl
      refine lc_zipT (K := K) (a := tk) (b := hd) (xs := ts.map V.int) (ys := hs.map V.int) (by rw [List.length_map, List.length_map, ft.1, fh.1]) (fun j H2 => H2 D = some (.lst ((behindOf (wl ts hs i) (i + 1) ((ts.zip hs).take j)).map V.int)) ∧ Same H' H2)
        ⟨by rw [upd_same, List.take_zero]; rfl, same_new hD⟩ (fun j H2 ⟨_, s⟩ => ⟨SqT.of (s _ _ (s1 _ _ htk)), SqT.of (s _ _ (s1 _ _ hhd))⟩) ?_ ?_
      · rintro j x y T' H2 hx hy ⟨hd2, s2⟩ hT'
        obtain ⟨tt, htt, rfl⟩ := map_int hx
        obtain ⟨hh, hhh, rfl⟩ := map_int hy
        have b2 := fh.2 hh (List.mem_of_getElem? hhh)
        have hz := zip_at htt hhh
        have hj4 : j < 4 := by have := (List.getElem?_eq_some_iff.mp hz).1; omega
        have s3 : Same H' (upd H2 T' (.tup [.int tt, .int hh])) := s2.trans (same_new hT')
        have nDT : D ≠ T' := ne_of_none hd2 hT'
        have hd3 : (upd H2 T' (.tup [.int tt, .int hh])) D = some (.lst ((behindOf (wl ts hs i) (i + 1) ((ts.zip hs).take j)).map V.int)) := by rw [upd_ne nDT]; exact hd2
        refine ⟨T', _, rfl, SqT.of upd_same, rfl, _, _, rfl, _, _, rfl, rfl, rfl, ?_⟩
        refine ⟨_, rfl, _, rfl, hh, 1 + (i : Int), rfl, rfl, _, rfl, iteD (fun c => ?_) (fun c => ?_)⟩
        · have c' : hh ≤ ((i + 1 : Nat) : Int) := by have : hh ≤ 1 + (i : Int) := c; omega
          refine ⟨_, rfl, _, rfl, _, rfl, 1 + (i : Int), hh, rfl, rfl, wa, _, _, _, rfl, rfl, SqL.of (s3 _ _ hwa'), at_gt (i := i + 1 - hh.toNat) (by omega) (by omega), _, rfl, _, tt, rfl, rfl, _, hd3, ?_, ?_, ?_⟩
          · rw [List.length_map]
            exact Nat.lt_of_le_of_lt (Nat.le_trans (beh_len ..) (by rw [List.length_take]; omega : ((ts.zip hs).take j).length ≤ 4)) (by decide)
          · rw [upd_same, take_more hz, beh_yes c', List.map_append]
            rfl
          · intro b o e
            rw [upd_ne (ne_of_none e hD)]
            exact s3 _ _ e
        · have c' : ¬ hh ≤ ((i + 1 : Nat) : Int) := by have : ¬ hh ≤ 1 + (i : Int) := c; omega
          refine ⟨?_, s3⟩
          rw [take_more hz, beh_no c']
          exact hd3
      · rintro H2 ⟨hd2, s2⟩
        rw [List.length_map, List.take_of_length_le (by rw [hlz, ft.1]; exact Nat.le_refl _)] at hd2
        have hwa2 := s2 _ _ hwa'
        refine ⟨_, rfl, .inl ⟨rfl, _, SqL.of hwa2⟩, ?_⟩
        refine ⟨_, rfl, _, rfl, 1 + (i : Int), 1, rfl, rfl, wa, _, _, _, rfl, rfl, SqL.of hwa2, at_gt (i := i) (by omega) (by omega), (by show 1 ≤ sizeLine; decide), fun d1 hd1 => ?_⟩
        have s3 : Same H2 (upd H2 d1 (.lst [.int (gt (wl ts hs i) i)])) := same_new hd1
        have bl4 := beh_len (wl ts hs i) (i + 1) (ts.zip hs)
        refine ⟨_, rfl, d1, D, _, _, rfl, rfl, upd_same, s3 _ _ hd2, ?_, fun d2 hd2' => ?_⟩
        · rw [List.length_map]
          exact Nat.le_trans (show 1 + (behindOf (wl ts hs i) (i + 1) (ts.zip hs)).length ≤ 5 by omega) (by decide)
        have s4 : Same H2 (upd (upd H2 d1 (.lst [.int (gt (wl ts hs i) i)])) d2 (.lst ([.int (gt (wl ts hs i) i)] ++ (behindOf (wl ts hs i) (i + 1) (ts.zip hs)).map V.int))) := s3.trans (same_new hd2')
        refine ⟨d2, gt (wl ts hs i) i :: behindOf (wl ts hs i) (i + 1) (ts.zip hs), rfl, SqL.of upd_same, Nat.succ_pos _, fun mm hmem hmax => ?_⟩
        have emm := mxL_eq hmem hmax
        refine ⟨wa, _, _, rfl, rfl, s4 _ _ hwa2, ?_, _, _, _, _, rfl, ?_, ?_⟩
        · rw [List.length_map, hwl]
          exact Nat.lt_of_lt_of_le (show i + 1 < 200 by omega) (by decide)
        · rw [upd_same, emm]
          show some (HO.lst ((wl ts hs i).map V.int ++ [V.int _])) = some (HO.lst ((wl ts hs i ++ [_]).map V.int))
          rw [List.map_append]
          rfl
        · intro b o e
          rw [upd_ne (ne_of_none e hwa)]
          exact s4 _ _ (s2 _ _ (s1 _ _ e))
    · rintro σ H' ⟨v3, v4, v5, v6, rfl, hwa', s1⟩
      rw [show ((m : Int) + 1 - 1).toNat = m by omega] at hwa'
      exact ⟨_, rfl, q wa H' hwa' s1⟩
/-! ### waits_of -/
def spWaits (C : Addr) : Sp := fun vs H Q _ => ∃ (g : Addr) (ts hs : List Int) (n : Nat), vs = [.ref g, .int (n : Int)] ∧ GangAt C H g ts hs ∧ n ≤ 10000000000000 ∧ ∀ H', Same H H' → Q (.int (Wv ts hs n)) H'
abbrev swaits_of : Stmt := top 4
theorem scwaits_of : FnScope ["gang", "number", "kind", "rounds", "rest"] ["gang", "number"] (defScope swaits_of) := ⟨rfl, rfl, rfl, by decide +kernel, rfl, by decide +kernel, by decide +kernel⟩
theorem Wv_all {ts hs : List Int} (ft : Four ts 1000000) (fh : Four hs 4) {k : Nat} (hk : k < 4) (hb : bindB ts hs k = true) (n : Nat) : Wv ts hs n = Wv ts hs (n - (n - 12) / (gt hs k).toNat * (gt hs k).toNat) + ((n - 12) / (gt hs k).toNat : Nat) * gt ts k := by
  have hh := hs_pos ft fh hk
  by_cases c : n < 12
  · rw [show n - 12 = 0 by omega, Nat.zero_div, Nat.zero_mul, Nat.sub_zero]
    have : ((0 : Nat) : Int) * gt ts k = 0 := Int.zero_mul _
    omega
  · have hle : (n - 12) / (gt hs k).toNat * (gt hs k).toNat ≤ n - 12 := Nat.div_mul_le_self ..
    have := Wv_rounds ft fh hk hb (n := n - (n - 12) / (gt hs k).toNat * (gt hs k).toNat) (by omega) ((n - 12) / (gt hs k).toNat)
    rw [← this]
    congr 1
    omega
theorem ok_waits {f C : Addr} {fd : FuncData} (F : Fun K "waits_of" "waits_of" swaits_of f fd) (T : Txt mg tM tL) (hRE : ∃ t, mg "REACH_OF_OTHERS" = some (.int 12 t)) (GT : GangTxt K C) (Dbinds : Dm P w K mg base C "binds" 3 ["self"] (spBinds C)) (Dfew_waits : Df P w K mg base "few_waits" 1 ["gang", "most"] (spFew C)) : FnOk P w K mg base CX0 4 f fd ["gang", "number"] (spWaits C) := by
  refine F.ok scwaits_of (fun vs H Q E h => ?_) (fun cdv A outer s H vs Q E hr h => ?_)
  · obtain ⟨g, ts, hs, n, rfl, _⟩ := h
    rfl
  · obtain ⟨g, ts, hs, n, rfl, M, hn, q⟩ := h
    obtain ⟨⟨z, dx, tk, hd, hg, htk, hhd⟩, ft, fh⟩ := id M
    refine ⟨_, (pss_cons (ps_set (i := 2) scwaits_of.nd rfl (Or.inl rfl) (pe_ix ix_list (pe_mt0 (C := C) Dbinds (hr.mono (by decide)) (pv 0)) pe_int (fun _ _ => rfl)))
    (pss_cons (ps_set (i := 3) scwaits_of.nd rfl (Or.inl rfl) (pe_op op_fdivW (pe_callB (call_max2 rfl) (by rfl) T.zmax (by decide +kernel) (pa_cons pe_int (pa_cons (pe_op op_sub (pv 1) (pe_gi hRE)) pa_nil))) (pe_ix ix_tup (pe_fld (pv 0) rfl) (pv 2) (fun _ _ => rfl))))
    (pss_cons (ps_set (i := 4) scwaits_of.nd rfl (Or.inl rfl) (pe_op op_sub (pv 1) (pe_op op_mul (pv 3) (pe_ix ix_tup (pe_fld (pv 0) rfl) (pv 2) (fun _ _ => rfl)))))
    (pss_one (ps_ret (pe_op op_add (pe_ix ix_list (pe_fn Dfew_waits (hr.mono (by decide)) (pa_cons (pv 0) (pa_cons (pv 4) pa_nil))) (pv 4) (fun _ _ => rfl)) (pe_op op_mul (pv 3) (pe_ix ix_tup (pe_fld (pv 0) rfl) (pv 2) (fun _ _ => rfl))))))))), ?_⟩
    obtain ⟨k, l, ek, hk, hbk⟩ := bind_some ft fh
    have ebs : bindsOf ts hs = (k : Int) :: l.map fun (j : Nat) => (j : Int) := by unfold bindsOf; rw [ek]; rfl
    have hh := hs_pos ft fh hk
    have tt := ts_pos ft fh hk
    refine ⟨_, rfl, g, dx, _, rfl, hg, gf_binds _ _ _, g, ts, hs, rfl, M, fun r H1 hr0 hr1 s1 => ⟨r, _, 0, .int (k : Int), rfl, rfl, SqL.of hr1, by rw [ebs]; exact at_of (j := 0) rfl rfl, ?_⟩⟩
    have ath : atI (hs.map V.int) (k : Int) = some (V.int (gt hs k)) := at_gt (i := k) rfl (by rw [fh.1]; exact hk)
    have att : atI (ts.map V.int) (k : Int) = some (V.int (gt ts k)) := at_gt (i := k) rfl (by rw [ft.1]; exact hk)
    refine ⟨_, rfl, (n : Int), 12, rfl, rfl, 0, _, rfl, _, rfl, g, C, dx, _, _, rfl, s1 _ _ hg, GT.cl, GT.n3, gf_hands _ _ _, _, rfl, hd, _, _, _, rfl, rfl, SqT.of (s1 _ _ hhd), ath, _, gt hs k, rfl, rfl, wd (by omega) (by omega), ?_⟩
    have eR : (if (0 : Int) < (n : Int) - 12 then (n : Int) - 12 else 0) / gt hs k = (((n - 12) / (gt hs k).toNat : Nat) : Int) := by
      have h1 : (if (0 : Int) < (n : Int) - 12 then (n : Int) - 12 else 0) = ((n - 12 : Nat) : Int) := by split <;> omega
      rw [h1, Int.natCast_ediv, Int.toNat_of_nonneg (by omega)]
    have hmod := Nat.div_add_mod (n - 12) (gt hs k).toNat
    have hml := Nat.mod_lt (n - 12) (show 0 < (gt hs k).toNat by omega)
    have key := Wv_all ft fh hk hbk n
    generalize hq : (n - 12) / (gt hs k).toNat = Rn at *
    dsimp only
    rw [eR]
    have em : (Rn : Int) * gt hs k = ((Rn * (gt hs k).toNat : Nat) : Int) := by rw [Int.natCast_mul, Int.toNat_of_nonneg (by omega)]
    have hle : Rn * (gt hs k).toNat ≤ n := by
      rw [Nat.mul_comm] at hmod
      omega
    refine ⟨_, rfl, _, rfl, _, rfl, g, C, dx, _, _, rfl, s1 _ _ hg, GT.cl, GT.n3, gf_hands _ _ _, _, rfl, hd, _, _, _, rfl, rfl, SqT.of (s1 _ _ hhd), ath, (Rn : Int), gt hs k, rfl, rfl, .inr ⟨by omega, by omega⟩, (n : Int), _, rfl, rfl, ?_⟩
    dsimp only
    have eS : (n : Int) - (Rn : Int) * gt hs k = ((n - Rn * (gt hs k).toNat : Nat) : Int) := by rw [em]; omega
    have hrest : n - Rn * (gt hs k).toNat ≤ 100 := by
      rw [Nat.mul_comm] at hmod
      omega
    rw [eS]
    generalize n - Rn * (gt hs k).toNat = rest at *
    refine ⟨_, rfl, _, rfl, g, ts, hs, rest, rfl, M.same s1, hrest, fun wa H2 hwa s2 => ?_⟩
    have s12 := s1.trans s2
    refine ⟨_, rfl, wa, _, _, _, rfl, rfl, SqL.of hwa, at_gt (i := rest) rfl (by rw [wl_len]; omega), ?_⟩
    refine ⟨_, rfl, _, rfl, g, C, dx, _, _, rfl, s12 _ _ hg, GT.cl, GT.n2, gf_takes _ _ _, _, rfl, tk, _, _, _, rfl, rfl, SqT.of (s12 _ _ htk), att, (Rn : Int), gt ts k, rfl, rfl, .inr ⟨by omega, by omega⟩, _, _, rfl, rfl, ?_⟩
    show Q (.int (gt (wl ts hs rest) rest + (Rn : Int) * gt ts k)) H2
    have e : gt (wl ts hs rest) rest + (Rn : Int) * gt ts k = Wv ts hs n := key.symm
    rw [e]
    exact q H2 s12
/-! ### least_end -/
def spLeast (C : Addr) : Sp := fun vs H Q _ => ∃ (g : Addr) (ts hs : List Int) (n : Nat), vs = [.ref g, .int ((n : Int) + 1)] ∧ GangAt C H g ts hs ∧ n ≤ 10000000000000 ∧ ∀ H', Same H H' → Q (.int (ts.sum + Wv ts hs n)) H'
abbrev sleast_end : Stmt := top 5
theorem scleast_end : FnScope ["gang", "many"] ["gang", "many"] (defScope sleast_end) := ⟨rfl, rfl, rfl, by decide +kernel, rfl, by decide +kernel, by decide +kernel⟩
theorem ok_least {f C : Addr} {fd : FuncData} (F : Fun K "least_end" "least_end" sleast_end f fd) (T : Txt mg tM tL) (GT : GangTxt K C) (Dwaits_of : Df P w K mg base "waits_of" 4 ["gang", "number"] (spWaits C)) : FnOk P w K mg base CX0 5 f fd ["gang", "many"] (spLeast C) := by
  refine F.ok scleast_end (fun vs H Q E h => ?_) (fun cdv A outer s H vs Q E hr h => ?_)
  · obtain ⟨g, ts, hs, n, rfl, _⟩ := h
    rfl
  · obtain ⟨g, ts, hs, n, rfl, M, hn, q⟩ := h
    obtain ⟨⟨z, dx, tk, hd, hg, htk, hhd⟩, ft, fh⟩ := id M
    refine ⟨_, (pss_one (ps_ret (pe_op op_add (pe_callB (cr_sumT rfl) (by rfl) T.zsum (by decide +kernel) (pa_cons (pe_fld (pv 0) rfl) pa_nil)) (pe_fn Dwaits_of (hr.mono (by decide)) (pa_cons (pv 0) (pa_cons (pe_op op_sub (pv 1) pe_int) pa_nil)))))), ?_⟩
    refine ⟨_, rfl, g, C, dx, _, _, rfl, hg, GT.cl, GT.n2, gf_takes _ _ _, tk, _, rfl, SqT.of htk, ?_⟩
    refine ⟨_, rfl, _, rfl, (n : Int) + 1, 1, rfl, rfl, g, ts, hs, n, ?_, M, hn, fun H' s' => ⟨_, _, rfl, rfl, q H' s'⟩⟩
    show [V.ref g, V.int ((n : Int) + 1 - 1)] = _
    rw [show (n : Int) + 1 - 1 = (n : Int) by omega]
/-! ### _law_is -/
def spIs : Sp := fun vs H Q _ => ∃ i : Int, vs = [.int i, .int i] ∧ Q (.bl true) H
abbrev sLis : Stmt := top 29
theorem scLis : FnScope ["_law_found", "_law_due"] ["_law_found", "_law_due"] (defScope sLis) := ⟨rfl, rfl, rfl, by decide +kernel, rfl, by decide +kernel, by decide +kernel⟩
theorem ok_is {f : Addr} {fd : FuncData} (F : Fun K "_law_is" "_law_is" sLis f fd) (T : Txt mg tM tL) : FnOk P w K mg base CX0 1 f fd ["_law_found", "_law_due"] spIs := by
  refine F.ok scLis (fun vs H Q E h => ?_) (fun cdv A outer s H vs Q E hr h => ?_)
  · obtain ⟨i, rfl, _⟩ := h
    rfl
  · obtain ⟨i, rfl, q⟩ := h
    refine ⟨_, (pss_one (ps_ret (pe_and (pe_callB call_isi (by rfl) T.zisinstance (by decide +kernel) (pa_cons (pv 0) (pa_cons (pe_bltn (v := .ty "int") (u := .type "int") (by rfl) T.zint (by decide +kernel) rfl) pa_nil))) (pe_and (pe_not (pe_callB call_isi (by rfl) T.zisinstance (by decide +kernel) (pa_cons (pv 0) (pa_cons (pe_bltn (v := .ty "bool") (u := .type "bool") (by rfl) T.zbool (by decide +kernel) rfl) pa_nil)))) (pe_one (pe_cmp (pc_eqI (pv 0) (pv 1)))))))), ?_⟩
    refine ⟨_, rfl, _, _, _, _, true, rfl, .ty "int", .base (.int i), kit_ty kit1, true, rfl, iteT ?_⟩
    refine ⟨_, rfl, _, _, _, _, false, rfl, .ty "bool", .base (.int i), kit_ty kit2, false, rfl, true, rfl, iteT ?_⟩
    refine ⟨_, rfl, _, rfl, i, i, rfl, rfl, ?_⟩
    show Q (.bl (decide (i = i))) H
    rw [decide_eq_true rfl]
    exact q
end
end HP
namespace HP
open PySem L2
section
variable {P : Program} {w : World} {K : PySem.W.Frag} {mg : Str → Option Value} {base : Heap} {tM tL : Tok}
/-! ### _law_ends -/
/-- rows of numbers, each a list, none of them the one at z -/
inductive RowsL (z : Addr) (H : Hp) : List V → List (List Int) → Prop
  | nil : RowsL z H [] []
  | cons {t : Addr} {r : List Int} {xs : List V} {L : List (List Int)} (n : t ≠ z) (h : H t = some (.lst (r.map V.int))) (rs : RowsL z H xs L) : RowsL z H (.ref t :: xs) (r :: L)
theorem RowsL.move {z : Addr} {H H' : Hp} {xs : List V} {L : List (List Int)} (h : RowsL z H xs L) (s : ∀ a o, a ≠ z → H a = some o → H' a = some o) : RowsL z H' xs L := by
  induction h with
  | nil => exact .nil
  | cons n h1 _ ih => exact .cons n (s _ _ n h1) ih
theorem RowsL.len {z : Addr} {H : Hp} {xs : List V} {L : List (List Int)} (h : RowsL z H xs L) : xs.length = L.length := by
  induction h with
  | nil => rfl
  | cons _ _ _ ih => rw [List.length_cons, List.length_cons, ih]
theorem RowsL.snoc {z : Addr} {H : Hp} {xs : List V} {L : List (List Int)} {t : Addr} {r : List Int} (h : RowsL z H xs L) (n : t ≠ z) (ht : H t = some (.lst (r.map V.int))) : RowsL z H (xs ++ [.ref t]) (L ++ [r]) := by
  induction h with
  | nil => exact .cons n ht .nil
  | cons n1 h1 _ ih => exact .cons n1 h1 ih
theorem RowsL.at {z : Addr} {H : Hp} {xs : List V} {L : List (List Int)} (h : RowsL z H xs L) : ∀ {i : Nat} {r : List Int}, L[i]? = some r → ∃ t, xs[i]? = some (.ref t) ∧ H t = some (.lst (r.map V.int)) := by
  induction h with
  | nil => intro i r e; simp at e
  | @cons t r0 xs L n h1 rs ih =>
    intro i r e
    cases i with
    | zero =>
      have e' : r0 = r := Option.some.inj e
      exact ⟨t, rfl, e' ▸ h1⟩
    | succ j => exact ih (i := j) e
theorem at_last {α : Type} {xs : List α} {p : Nat} {x : α} (hl : xs.length = p) (hp : 0 < p) (h : xs[p - 1]? = some x) : atI xs (-1) = some x := by
  unfold atI ixN
  rw [if_neg (by decide), if_pos (by omega), hl]
  show xs[(-1 + (p : Int)).toNat]? = some x
  rw [show (-1 + (p : Int)).toNat = p - 1 by omega]
  exact h
def endsL (ts hs : List Int) (m : Nat) : List Int := (List.range m).map fun p => ts.sum + Wv ts hs p
theorem ends_more (ts hs : List Int) (m : Nat) : endsL ts hs (m + 1) = endsL ts hs m ++ [ts.sum + Wv ts hs m] := by
  unfold endsL
  rw [List.range_succ, List.map_append]
  rfl
theorem ends_len (ts hs : List Int) (m : Nat) : (endsL ts hs m).length = m := by
  unfold endsL
  rw [List.length_map, List.length_range]
theorem begs_more (ts hs : List Int) (rows : List (List Int)) (p k : Nat) : begs ts hs rows p (k + 1) = begs ts hs rows p k ++ [begF hs rows p k (rdy ts hs rows p k)] := by
  unfold begs
  rw [List.range_succ, List.map_append]
  rfl
def spEnds : Sp := fun vs H Q _ => ∃ (tk hd : Addr) (ts hs : List Int) (m : Nat), vs = [.ref tk, .ref hd, .int (m : Int)] ∧ H tk = some (.tup (ts.map V.int)) ∧ H hd = some (.tup (hs.map V.int)) ∧ Four ts 1000000 ∧ Four hs 4 ∧ m ≤ 100 ∧
  ∀ (r : Addr) (H' : Hp), H r = none → H' r = some (.lst ((endsL ts hs m).map V.int)) → Same H H' → Q (.ref r) H'
abbrev sLends : Stmt := top 28
theorem scLends : FnScope ["_law_takes_here", "_law_hands_here", "_law_a_many", "_law_rows", "_law_piece", "_law_row", "_law_ready", "_law_kind", "_law_begin"] ["_law_takes_here", "_law_hands_here", "_law_a_many"] (defScope sLends) := ⟨rfl, rfl, rfl, by decide +kernel, rfl, by decide +kernel, by decide +kernel⟩
theorem ok_ends {f : Addr} {fd : FuncData} (F : Fun K "_law_ends" "_law_ends" sLends f fd) (T : Txt mg tM tL) : FnOk P w K mg base CX0 1 f fd ["_law_takes_here", "_law_hands_here", "_law_a_many"] spEnds := by
  refine F.ok scLends (fun vs H Q E h => ?_) (fun cdv A outer s H vs Q E hr h => ?_)
  · obtain ⟨tk, hd, ts, hs, m, rfl, _⟩ := h
    rfl
  · obtain ⟨tk, hd, ts, hs, m, rfl, htk, hhd, ft, fh, hm, q⟩ := h
    refine ⟨_, (pss_cons (ps_set (i := 3) scLends.nd rfl (Or.inl rfl) (pe_lst pa_nil))
    (pss_cons (ps_for PassesOwn.never rfl (pi_range1 (by rfl) T.zrange (pa_cons (pv 2) pa_nil)) (pg_name (i := 4) scLends.nd rfl (Or.inl rfl))
    (pss_cons (ps_par (i := 5) (j := 6) (by rfl) scLends.nd rfl rfl (by decide) rfl rfl (pa_cons (pe_lst pa_nil) (pa_cons pe_int pa_nil)) (by rfl))
    (pss_cons (ps_for PassesOwn.never rfl (pi_range1 (by rfl) T.zrange (pa_cons pe_int pa_nil)) (pg_name (i := 7) scLends.nd rfl (Or.inl rfl))
    (pss_cons (ps_set (i := 8) scLends.nd rfl (Or.inl rfl) (pv 6))
    (C8.pss_cut (ps_if (pt_cmp (pc_gt (pv 4) pe_int)) (pss_one (ps_set (i := 8) scLends.nd rfl (Or.inl rfl) (pe_callB (call_max2 rfl) (by rfl) T.zmax (by decide +kernel) (pa_cons (pv 8) (pa_cons (pe_ix ix_list (pe_ix ix_list (pv 3) (pe_un un_neg pe_int) (fun _ _ => rfl)) (pv 7) (fun _ _ => rfl)) pa_nil))))) pss_nil)
    (C8.pss_cut (ps_if (pt_cmp (pc_ge (pv 4) (pe_ix ix_tup (pv 1) (pv 7) (fun _ _ => rfl)))) (pss_one (ps_set (i := 8) scLends.nd rfl (Or.inl rfl) (pe_callB (call_max2 rfl) (by rfl) T.zmax (by decide +kernel) (pa_cons (pv 8) (pa_cons (pe_ix ix_list (pe_ix ix_list (pv 3) (pe_op op_sub (pv 4) (pe_ix ix_tup (pv 1) (pv 7) (fun _ _ => rfl))) (fun _ _ => rfl)) (pe_op op_add (pv 7) pe_int) (fun _ _ => rfl)) pa_nil))))) pss_nil)
    (pss_cons (ps_expr (pe_bm PySem.F.plainAttrs_list PySem.F.slot_list_append PySem.F.type_list_append mt_append (pv 5) (pa_cons (pv 8) pa_nil)))
    (pss_one (ps_set (i := 6) scLends.nd rfl (Or.inl rfl) (pe_op op_add (pv 8) (pe_ix ix_tup (pv 0) (pv 7) (fun _ _ => rfl))))))))))
    (pss_one (ps_expr (pe_bm PySem.F.plainAttrs_list PySem.F.slot_list_append PySem.F.type_list_append mt_append (pv 3) (pa_cons (pe_op op_cat (pv 5) (pe_lst (pa_cons (pv 6) pa_nil))) pa_nil)))))))
    (pss_one (ps_ret (pe_lc (own := [("_law_row", 5)]) (g := gName 5) (tt := tYes) (te := tOp (rIxL K) (tVar 5) (tC (.int 4))) (by rfl) scLends.nd (pi_list (pv 3)) (blkOk_by (own := [("_law_row", 5)]) (N := ["_law_takes_here", "_law_hands_here", "_law_a_many", "_law_rows", "_law_piece", "_law_row", "_law_ready", "_law_kind", "_law_begin"]) (sc := defScope sLends) (by decide +kernel)) (fun _ _ _ _ _ => (pg_name (i := 5) scLends.nd rfl (Or.inl rfl))) (fun _ _ _ _ _ => pts_nil) (fun _ _ _ _ _ => (pe_ix ix_list (pv 5) pe_int (fun _ _ => rfl)))))))), ?_⟩
    refine ⟨(by show 0 ≤ sizeLine; decide), fun lr hlr => ?_⟩
    refine ⟨_, rfl, (m : Int), rfl, by omega, by omega, ?_⟩
    refine for_range (lo := 0) (n := ((m : Int)).toNat) (fun p σ H' => ∃ (v4 v5 v6 v7 v8 : Option V) (xs : List V), σ = [some (.ref tk), some (.ref hd), some (.int (m : Int)), some (.ref lr), v4, v5, v6, v7, v8] ∧ H' lr = some (.lst xs) ∧ RowsL lr H' xs (bl ts hs p) ∧ Same H H')
      ⟨_, _, _, _, _, [], rfl, upd_same, .nil, same_new hlr⟩ ?_ ?_
    · rintro p σ H' hp ⟨v4, v5, v6, v7, v8, xs, rfl, hlr', hR, s1⟩
      have hp' : p < 100 := by omega
      have hxl : xs.length = p := by rw [hR.len, bl_len]
      refine ⟨(by show 0 ≤ sizeLine; decide), fun rl hrl => ⟨_, _, rfl, ?_⟩⟩
      have nrl : rl ≠ lr := (ne_of_none hlr' hrl).symm
      refine ⟨4, rfl, by decide, by decide, ?_⟩
      refine for_range (lo := 0) (n := (4 : Int).toNat) (fun k σ H2 => ∃ v7 v8 : Option V, σ = [some (.ref tk), some (.ref hd), some (.int (m : Int)), some (.ref lr), some (.int (0 + (p : Int))), some (.ref rl), some (.int (rdy ts hs (bl ts hs p) p k)), v7, v8] ∧ H2 rl = some (.lst ((begs ts hs (bl ts hs p) p k).map V.int)) ∧ Same H' H2)
        ⟨_, _, rfl, upd_same, same_new hrl⟩ ?_ ?_
      · rintro k σ H2 hk ⟨v7, v8, rfl, hrl2, s2⟩
        have hk4 : k < 4 := hk
        have hh := hs_pos ft fh hk4
        have hlr2 := s2 _ _ hlr'
        have hR2 : RowsL lr H2 xs (bl ts hs p) := hR.move fun a o _ e => s2 _ _ e
        have htk2 := s2 _ _ (s1 _ _ htk)
        have hhd2 := s2 _ _ (s1 _ _ hhd)
        have ath : atI (hs.map V.int) (0 + (k : Int)) = some (V.int (gt hs k)) := at_gt (i := k) (by omega) (by rw [fh.1]; exact hk4)
        have att : atI (ts.map V.int) (0 + (k : Int)) = some (V.int (gt ts k)) := at_gt (i := k) (by omega) (by rw [ft.1]; exact hk4)
        refine ⟨_, rfl, ?_⟩
        -- behind the piece ahead
        refine ⟨fun σ' H3 => σ' = [some (.ref tk), some (.ref hd), some (.int (m : Int)), some (.ref lr), some (.int (0 + (p : Int))), some (.ref rl), some (.int (rdy ts hs (bl ts hs p) p k)), some (.int (0 + (k : Int))), some (.int (begA (bl ts hs p) p k (rdy ts hs (bl ts hs p) p k)))] ∧ H3 = H2, ?_, ?_⟩
        · refine ⟨_, rfl, 0 + (p : Int), 0, rfl, rfl, _, rfl, iteD (fun c => ?_) (fun c => ?_)⟩
          · have c' : 0 < p := by have : 0 < 0 + (p : Int) := c; omega
            have hb := bl_get ts hs p (p - 1) (by omega)
            obtain ⟨t, ht, hrow⟩ := hR2.at hb
            refine ⟨_, rfl, _, rfl, 1, rfl, lr, _, -1, .ref t, rfl, rfl, SqL.of hlr2, at_last hxl c' ht, _, rfl, t, _, _, _, rfl, rfl, SqL.of hrow, at_gt (i := k) (by omega) (by rw [row_len]; omega), _, _, rfl, ?_⟩
            refine ⟨?_, rfl⟩
            have e : begA (bl ts hs p) p k (rdy ts hs (bl ts hs p) p k) = mx (rdy ts hs (bl ts hs p) p k) (gt (rowOf ts hs (bl ts hs (p - 1)) (p - 1)) k) := by
              unfold begA
              rw [if_pos c', at_bl ts hs (by omega)]
              rfl
            rw [e]
            rfl
          · have c' : ¬ 0 < p := by have : ¬ 0 < 0 + (p : Int) := c; omega
            refine ⟨?_, rfl⟩
            have e : begA (bl ts hs p) p k (rdy ts hs (bl ts hs p) p k) = rdy ts hs (bl ts hs p) p k := by
              unfold begA
              rw [if_neg c']
            rw [e]
            rfl
        rintro σ' H3 ⟨rfl, rfl⟩
        -- behind the hands
        refine ⟨fun σ' H4 => σ' = [some (.ref tk), some (.ref hd), some (.int (m : Int)), some (.ref lr), some (.int (0 + (p : Int))), some (.ref rl), some (.int (rdy ts hs (bl ts hs p) p k)), some (.int (0 + (k : Int))), some (.int (begF hs (bl ts hs p) p k (rdy ts hs (bl ts hs p) p k)))] ∧ H4 = H3, ?_, ?_⟩
        · refine ⟨_, rfl, _, rfl, _, rfl, hd, _, _, _, rfl, rfl, SqT.of hhd2, ath, 0 + (p : Int), gt hs k, rfl, rfl, _, rfl, iteD (fun c => ?_) (fun c => ?_)⟩
          · have c' : gt hs k ≤ (p : Int) := by have : gt hs k ≤ 0 + (p : Int) := c; omega
            have hb := bl_get ts hs p (p - (gt hs k).toNat) (by omega)
            obtain ⟨t, ht, hrow⟩ := hR2.at hb
            refine ⟨_, rfl, _, rfl, _, rfl, _, rfl, _, rfl, hd, _, _, _, rfl, rfl, SqT.of hhd2, ath, 0 + (p : Int), gt hs k, rfl, rfl, lr, _, _, .ref t, rfl, rfl, SqL.of hlr2, at_of (j := p - (gt hs k).toNat) (by omega) ht, ?_⟩
            refine ⟨_, rfl, 0 + (k : Int), 1, rfl, rfl, t, _, _, _, rfl, rfl, SqL.of hrow, at_gt (i := k + 1) (by omega) (by rw [row_len]; omega), _, _, rfl, ?_⟩
            refine ⟨?_, rfl⟩
            have e : begF hs (bl ts hs p) p k (rdy ts hs (bl ts hs p) p k) = mx (begA (bl ts hs p) p k (rdy ts hs (bl ts hs p) p k)) (gt (rowOf ts hs (bl ts hs (p - (gt hs k).toNat)) (p - (gt hs k).toNat)) (k + 1)) := by
              unfold begF
              rw [if_pos c', at_bl ts hs (by omega)]
              rfl
            rw [e]
            rfl
          · have c' : ¬ gt hs k ≤ (p : Int) := by have : ¬ gt hs k ≤ 0 + (p : Int) := c; omega
            refine ⟨?_, rfl⟩
            have e : begF hs (bl ts hs p) p k (rdy ts hs (bl ts hs p) p k) = begA (bl ts hs p) p k (rdy ts hs (bl ts hs p) p k) := by
              unfold begF
              rw [if_neg c']
            rw [e]
        rintro σ' H4 ⟨rfl, rfl⟩
        refine ⟨_, rfl, .inl ⟨rfl, _, SqL.of hrl2⟩, _, rfl, rl, _, _, rfl, rfl, hrl2, ?_, ?_⟩
        · rw [List.length_map, begs_len]
          exact Nat.lt_of_lt_of_le hk4 (by decide)
        have ntk : tk ≠ rl := ne_of_none (s1 _ _ htk) hrl
        refine ⟨_, rfl, _, rfl, _, rfl, tk, _, _, _, rfl, rfl, SqT.of (by rw [upd_ne ntk]; exact htk2), att, _, gt ts k, rfl, rfl, ?_⟩
        refine ⟨_, _, rfl, ?_, ?_⟩
        · rw [upd_same, begs_more, List.map_append]
          rfl
        · intro b o e
          rw [upd_ne (ne_of_none e hrl)]
          exact s2 _ _ e
      · rintro σ H2 ⟨v7, v8, rfl, hrl2, s2⟩
        have hrl2' : H2 rl = some (.lst ((begs ts hs (bl ts hs p) p 4).map V.int)) := hrl2
        have hlr2 := s2 _ _ hlr'
        refine ⟨_, rfl, .inl ⟨rfl, _, SqL.of hlr2⟩, _, rfl, _, rfl, (by show 1 ≤ sizeLine; decide), fun d1 hd1 => ?_⟩
        have s3 : Same H2 (upd H2 d1 (.lst [.int (rdy ts hs (bl ts hs p) p 4)])) := same_new hd1
        refine ⟨rl, d1, _, _, rfl, rfl, s3 _ _ hrl2', upd_same, ?_, fun d2 hd2 => ?_⟩
        · rw [List.length_map, begs_len]
          exact (by decide : 4 + 1 ≤ sizeLine)
        have s4 : Same H2 (upd (upd H2 d1 (.lst [.int (rdy ts hs (bl ts hs p) p 4)])) d2 (.lst ((begs ts hs (bl ts hs p) p 4).map V.int ++ [.int (rdy ts hs (bl ts hs p) p 4)]))) := s3.trans (same_new hd2)
        have hlr4 := s4 _ _ hlr2
        have nd2 : d2 ≠ lr := (ne_of_none (s3 _ _ hlr2) hd2).symm
        refine ⟨lr, _, _, rfl, rfl, hlr4, ?_, ?_⟩
        · rw [hxl]
          exact Nat.lt_of_lt_of_le (show p < 200 by omega) (by decide)
        refine ⟨_, _, _, _, _, xs ++ [.ref d2], rfl, upd_same, ?_, ?_⟩
        · refine RowsL.snoc (hR.move fun a o n e => ?_) nd2 ?_
          · rw [upd_ne n]
            exact s4 _ _ (s2 _ _ e)
          · rw [upd_ne nd2, upd_same]
            show some (HO.lst _) = some (HO.lst ((begs ts hs (bl ts hs p) p 4 ++ [_]).map V.int))
            rw [List.map_append]
            rfl
        · intro b o e
          rw [upd_ne (ne_of_none e hlr)]
          exact s4 _ _ (s2 _ _ (s1 _ _ e))
    · rintro σ H' ⟨v4, v5, v6, v7, v8, xs, rfl, hlr', hR, s1⟩
      rw [show ((m : Int)).toNat = m by omega] at hR
      have hxl : xs.length = m := by rw [hR.len, bl_len]
      refine ⟨_, rfl, lr, rfl, ⟨_, SqL.of hlr'⟩, fun D hD => ?_⟩
      refine lc_list (K := K) (a := lr) (xs := xs) (fun i H2 => H2 D = some (.lst ((endsL ts hs i).map V.int)) ∧ Same H' H2) ⟨upd_same, same_new hD⟩ (fun i H2 _ ⟨_, s⟩ => SqL.of (s _ _ hlr')) ?_ ?_
      · rintro i x H2 hi ⟨hd2, s2⟩
        have him : i < m := by have := (List.getElem?_eq_some_iff.mp hi).1; omega
        obtain ⟨t, ht, hrow⟩ := hR.at (bl_get ts hs m i him)
        obtain rfl : V.ref t = x := Option.some.inj (ht.symm.trans hi)
        refine ⟨rfl, ?_⟩
        refine ⟨_, rfl, t, _, 4, _, rfl, rfl, SqL.of (s2 _ _ hrow), at_gt (i := 4) rfl (by rw [row_len]; decide), _, hd2, ?_, ?_, ?_⟩
        · rw [List.length_map, ends_len]
          exact Nat.lt_of_lt_of_le (show i < 100 by omega) (by decide)
        · have e : gt (rowOf ts hs (bl ts hs i) i) 4 = ts.sum + Wv ts hs i := by
            have := Bv_all ft fh i
            rw [Sv_sum ft fh] at this
            exact this
          rw [upd_same, ends_more, List.map_append, e]
          rfl
        · intro b o e
          rw [upd_ne (ne_of_none e hD)]
          exact s2 _ _ e
      · rintro H2 ⟨hd2, s2⟩
        rw [hxl] at hd2
        exact q D H2 (s1.free hD) hd2 (s1.trans s2)
end
end HP
namespace HP
open PySem L2
section
variable {P : Program} {w : World} {K : PySem.W.Frag} {mg : Str → Option Value} {base : Heap} {tM tL : Tok}
structure Cs where
  c : Addr
  g : Addr
  e : Addr
  ts : List Int
  hs : List Int
structure CaseOk (C lr t : Addr) (H : Hp) (x : Cs) : Prop where
  h1 : H x.c = some (.tup [.ref x.g, .ref x.e])
  h2 : GangAt C H x.g x.ts x.hs
  h3 : H x.e = some (.lst ((endsL x.ts x.hs 60).map V.int))
  n1 : x.e ≠ lr
  n2 : x.e ≠ t
theorem CaseOk.move {C lr t : Addr} {H H' : Hp} {x : Cs} (h : CaseOk C lr t H x) (s1 : ∀ a ys, H a = some (.tup ys) → H' a = some (.tup ys)) (s2 : ∀ a C dx fs, H a = some (.ins C dx fs) → H' a = some (.ins C dx fs)) (s3 : ∀ a ys, a ≠ lr → a ≠ t → H a = some (.lst ys) → H' a = some (.lst ys)) : CaseOk C lr t H' x := by
  obtain ⟨⟨z, dx, tk, hd, g1, g2, g3⟩, ft, fh⟩ := h.h2
  exact ⟨s1 _ _ h.h1, ⟨⟨z, dx, tk, hd, s2 _ _ _ _ g1, s1 _ _ g2, s1 _ _ g3⟩, ft, fh⟩, s3 _ _ h.n1 h.n2 h.h3, h.n1, h.n2⟩
theorem CaseOk.same {C lr t : Addr} {H H' : Hp} {x : Cs} (h : CaseOk C lr t H x) (s : Same H H') : CaseOk C lr t H' x := h.move (fun _ _ e => s _ _ e) (fun _ _ _ _ e => s _ _ e) fun _ _ _ _ e => s _ _ e
theorem get_cs {L : List Cs} {i : Nat} {x : V} (h : (L.map fun e => V.ref e.c)[i]? = some x) : ∃ e, L[i]? = some e ∧ x = .ref e.c := by
  rw [List.getElem?_map] at h
  cases e : L[i]? with
  | none => rw [e] at h; cases h
  | some z => rw [e] at h; exact ⟨z, rfl, (Option.some.inj h).symm⟩
abbrev slaw : Stmt := top 30
theorem sclaw : FnScope ["_law_script", "_law_cells", "_law_k", "_law_tape_here", "_law_cases", "_law_name", "_law_takes_here", "_law_hands_here", "_law_a_many", "_law_a_gang", "_law_ends_here", "_law_found"] ["_law_script"] (defScope slaw) := ⟨rfl, rfl, rfl, by decide +kernel, rfl, by decide +kernel, by decide +kernel⟩
def turnV : List V → List V → List V := fun _ zs => zs.reverse
theorem ok_law {f C : Addr} {fd : FuncData} (F : Fun K "law" "law" slaw f fd) (T : Txt mg tM tL) (DLfolded : Df P w K mg base "_law_folded" 1 ["_law_script", "_law_a_many"] (spFolded K)) (DLtape : Df P w K mg base "_law_tape" 1 ["_law_script", "_law_k"] (spTape K)) (DLdraw : DDraw P w K mg base)
    (DLtakes : Df P w K mg base "_law_takes" 2 ["_law_tape_here", "_law_most"] spTakes) (DLhands : Df P w K mg base "_law_hands" 2 ["_law_tape_here"] spHands) (DLnames : Df P w K mg base "_law_names" 2 ["_law_tape_here", "_law_a_many"] spNames) (DG : DGk P w K mg base C)
    (DLends : Df P w K mg base "_law_ends" 1 ["_law_takes_here", "_law_hands_here", "_law_a_many"] spEnds) (Dleast_end : Df P w K mg base "least_end" 5 ["gang", "many"] (spLeast C)) (Dleast_endK2 : DfK P w K mg base "least_end" 5 ["gang", "many"] ["many", "gang"] turnV (spLeast C))
    (DLis : Df P w K mg base "_law_is" 1 ["_law_found", "_law_due"] spIs) : FnOk P w K mg base CX0 6 f fd ["_law_script"] (spLaw K) := by
  refine F.ok sclaw (fun vs H Q E h => ?_) (fun cdv A outer s H vs Q E hr h => ?_)
  · obtain ⟨a, ns, rfl, _⟩ := h
    rfl
  · obtain ⟨a, ns, rfl, hS, hn, q⟩ := h
    refine ⟨_, (C8.pss_cut (ps_set (i := 1) sclaw.nd rfl (Or.inl rfl) (pe_ifExp (pt_cmpR (op_neD hr.units) (pv 0) (pe_lst pa_nil) (nomark _)) (pe_fn DLfolded (hr.mono (by decide)) (pa_cons (pv 0) (pa_cons pe_int pa_nil))) (pe_lst (pa_cons pe_int pa_nil))))
    (pss_cons (ps_for PassesOwn.never rfl (pi_range1 (by rfl) T.zrange (pa_cons (pe_callB call_len_seq (by rfl) T.zlen (by decide +kernel) (pa_cons (pv 1) pa_nil)) pa_nil)) (pg_name (i := 2) sclaw.nd rfl (Or.inl rfl))
    (pss_cons (ps_set (i := 3) sclaw.nd rfl (Or.inl rfl) (pe_fn DLtape (hr.mono (by decide)) (pa_cons (pv 1) (pa_cons (pv 2) pa_nil))))
    (pss_cons (ps_set (i := 4) sclaw.nd rfl (Or.inl rfl) (pe_lst pa_nil))
    (pss_cons (ps_for PassesOwn.never rfl (pi_list (pe_fn DLnames (hr.mono (by decide)) (pa_cons (pv 3) (pa_cons pe_int pa_nil)))) (pg_name (i := 5) sclaw.nd rfl (Or.inl rfl))
    (pss_cons (ps_par (i := 6) (j := 7) (by rfl) sclaw.nd rfl rfl (by decide) rfl rfl (pa_cons (pe_fn DLtakes (hr.mono (by decide)) (pa_cons (pv 3) (pa_cons (pe_ix ix_list (pe_lst (pa_cons pe_int (pa_cons (pe_op op_pow pe_int pe_int) pa_nil))) (pe_fn DLdraw (hr.mono (by decide)) (pa_cons (pv 3) (pa_cons pe_int pa_nil))) (fun _ _ => rfl)) pa_nil))) (pa_cons (pe_fn DLhands (hr.mono (by decide)) (pa_cons (pv 3) pa_nil)) pa_nil)) (by rfl))
    (pss_one (ps_expr (pe_bm PySem.F.plainAttrs_list PySem.F.slot_list_append PySem.F.type_list_append mt_append (pv 4) (pa_cons (pe_tup (pa_cons (pe_gang (C := C) DG (hr.mono (by decide)) (pa_cons (pv 5) (pa_cons (pv 6) (pa_cons (pv 7) pa_nil)))) (pa_cons (pe_fn DLends (hr.mono (by decide)) (pa_cons (pv 6) (pa_cons (pv 7) (pa_cons pe_int pa_nil)))) pa_nil))) pa_nil))))))
    (pss_one (ps_for PassesOwn.never rfl (pi_range2 (by rfl) T.zrange (pa_cons pe_int (pa_cons pe_int pa_nil))) (pg_name (i := 8) sclaw.nd rfl (Or.inl rfl))
    (pss_one (ps_for PassesOwn.never rfl (pi_list (pv 4)) (pg_tup rfl (pgs_cons (pg_name (i := 9) sclaw.nd rfl (Or.inl rfl)) (pgs_cons (pg_name (i := 10) sclaw.nd rfl (Or.inl rfl)) pgs_nil)))
    (C8.pss_cut (ps_set (i := 11) sclaw.nd rfl (Or.inl rfl) (pe_ifExp (pt_cmp (pc_eqI (pe_op op_mod (pv 8) pe_int) pe_int)) (pe_fn Dleast_end (hr.mono (by decide)) (pa_cons (pv 9) (pa_cons (pv 8) pa_nil))) (pe_fnK Dleast_endK2 (hr.mono (by decide)) (pk_cons (pv 8) (pk_cons (pv 9) pk_nil)))))
    (pss_one (ps_if (pt_not (pt_val (pe_fn DLis (hr.mono (by decide)) (pa_cons (pv 11) (pa_cons (pe_ix ix_list (pv 10) (pe_op op_sub (pv 8) pe_int) (fun _ _ => rfl)) pa_nil))))) (pss_one (ps_ret pe_bl)) pss_nil)))))))))))
    (pss_one (ps_ret pe_bl)))), ?_⟩
    have e6 : (10 : Int) ^ (6 : Int).toNat = 1000000 := by decide
    -- _law_cells
    refine ⟨fun σ H1 => ∃ (pc : Addr) (cs : List Int), σ = [some (.ref a), some (.ref pc), none, none, none, none, none, none, none, none, none, none] ∧ H1 pc = some (.lst (cs.map V.int)) ∧ cs.length ≤ 5, ?_, ?_⟩
    · refine ⟨_, rfl, (by show 0 ≤ sizeLine; decide), fun d hd => ?_⟩
      have hS' : SqL K (upd H d (.lst [])) a (ns.map V.int) := Same.seq (same_new hd) hS
      refine ⟨_, _, .lst hS' (dp_ints ns), .lst (SqL.of upd_same) .nil, PySem.W.ke_shaped_ints ns, PySem.W.ke_shaped_ints [], _, rfl, ?_⟩
      refine ite2 (fun _ => ?_) (fun _ => ?_)
      · refine ⟨_, rfl, a, ns, 5, rfl, hS', by decide, by decide, hn, fun p cs H1 hp hl hc s1 => ?_⟩
        exact ⟨p, cs, rfl, hc, by omega⟩
      · refine ⟨(by show 1 ≤ sizeLine; decide), fun p hp => ?_⟩
        exact ⟨p, [0], rfl, upd_same, by decide⟩
    · rintro σ H1 ⟨pc, cs, rfl, hpc, hcs⟩
      refine ⟨_, rfl, pc, _, rfl, .inl (SqL.of hpc), _, rfl, ?_, ?_, ?_⟩
      · rw [List.length_map]; omega
      · rw [List.length_map]; omega
      refine for_range (lo := 0) (n := ((cs.map V.int).length : Int).toNat) (fun i σ H' => ∃ (v2 v3 v4 v5 v6 v7 v8 v9 v10 v11 : Option V), σ = [some (.ref a), some (.ref pc), v2, v3, v4, v5, v6, v7, v8, v9, v10, v11] ∧ H' pc = some (.lst (cs.map V.int)))
        ⟨_, _, _, _, _, _, _, _, _, _, rfl, hpc⟩ ?_ ?_
      · rintro i σ H2 hi ⟨v2, v3, v4, v5, v6, v7, v8, v9, v10, v11, rfl, hpc2⟩
        rw [List.length_map] at hi
        -- the tape
        refine ⟨_, rfl, _, rfl, pc, cs, _, rfl, SqL.of hpc2, by omega, by omega, fun t H3 ht T3 s3 => ?_⟩
        have hpc3 := s3 _ _ hpc2
        have npc : pc ≠ t := ne_of_none hpc2 ht
        refine ⟨(by show 0 ≤ sizeLine; decide), fun lr hlr0 => ?_⟩
        have nlr : lr ≠ t := T3.ne hlr0
        refine ⟨_, rfl, t, 0, 2, rfl, T3.new hlr0, by decide, by decide, fun nl zs H4 hnl0 lzs hZ hnl T4 S4 => ?_⟩
        have hlr4 : H4 lr = some (.lst []) := S4 _ _ upd_same nlr
        have nnl : nl ≠ t := (T3.new hlr0).ne hnl0
        have nnr : nl ≠ lr := fun e => by rw [e, upd_same] at hnl0; cases hnl0
        have hpc4 : H4 pc = some (.lst (cs.map V.int)) := S4 _ _ ((same_new hlr0) _ _ hpc3) npc
        have npr : pc ≠ lr := ne_of_none hpc3 hlr0
        refine ⟨nl, rfl, ⟨_, SqL.of hnl⟩, ?_⟩
        refine for_list (K := K) (a := nl) (xs := zs.map V.str) (fun j σ H' => ∃ (v2 v5 v6 v7 v8 v9 v10 v11 : Option V) (L : List Cs), σ = [some (.ref a), some (.ref pc), v2, some (.ref t), some (.ref lr), v5, v6, v7, v8, v9, v10, v11] ∧
            H' lr = some (.lst (L.map fun e => V.ref e.c)) ∧ (∀ e ∈ L, CaseOk C lr t H' e) ∧ L.length = j ∧ TapeAt H' t (20 + 30 * (j : Int)) ∧ H' nl = some (.lst (zs.map V.str)) ∧ H' pc = some (.lst (cs.map V.int)))
          ⟨_, _, _, _, _, _, _, _, [], rfl, hlr4, (fun e he => by cases he), rfl, T4.mono (by omega), hnl, hpc4⟩ (fun j σ H' _ ⟨_, _, _, _, _, _, _, _, _, _, _, _, _, _, h, _⟩ => SqL.of h) ?_ ?_
        · rintro j x σ H' hj ⟨v2, v5, v6, v7, v8, v9, v10, v11, L, rfl, hlr', hR, lL, T', hnl', hpc'⟩
          have hj2 : j < 2 := by have := (List.getElem?_eq_some_iff.mp hj).1; rw [List.length_map, lzs] at this; exact this
          obtain ⟨z, hz, rfl⟩ : ∃ z, zs[j]? = some z ∧ x = .str z := by
            rw [List.getElem?_map] at hj
            cases e : zs[j]? with
            | none => rw [e] at hj; cases hj
            | some z => rw [e] at hj; exact ⟨z, rfl, (Option.some.inj hj).symm⟩
          -- takes, hands
          refine ⟨_, rfl, 10, 6, rfl, rfl, pow6, (by show 2 ≤ sizeLine; decide), fun d hd => ?_⟩
          refine ⟨_, rfl, t, _, 2, rfl, T'.new hd, by omega, by decide, by decide, fun r1 H5 a0 a1 T5 S5 => ?_⟩
          obtain ⟨most, hm, em⟩ : ∃ b : Int, atI [V.int 12, V.int ((10 : Int) ^ (6 : Int).toNat)] r1 = some (V.int b) ∧ (b = 12 ∨ b = 1000000) := by
            have : r1 = 0 ∨ r1 = 1 := by omega
            rcases this with rfl | rfl
            · exact ⟨12, rfl, .inl rfl⟩
            · exact ⟨1000000, by rw [e6]; rfl, .inr rfl⟩
          refine ⟨d, _, _, _, rfl, rfl, SqL.of (S5 _ _ upd_same (T'.ne hd)), hm, ?_⟩
          have SB5 : SameBut t H' H5 := (Same.but (same_new hd)).trans S5
          refine ⟨t, _, most, rfl, T5, by omega, by omega, by omega, fun tk ts H6 ft htk T6 S6 => ?_⟩
          refine ⟨_, rfl, t, _, rfl, T6, by omega, fun hd hs H7 fh hhd T7 S7 => ⟨_, _, rfl, ?_⟩⟩
          have ft' : Four ts 1000000 := ⟨ft.1, fun n hn => by have := ft.2 n hn; omega⟩
          have htk7 := S7.tup T6 htk
          have SB7 : SameBut t H' H7 := (SB5.trans S6).trans S7
          have hlr7 := SB7 _ _ hlr' nlr
          -- the gang, the ends
          refine ⟨_, rfl, .inl ⟨rfl, _, SqL.of hlr7⟩, ?_⟩
          refine ⟨_, rfl, _, rfl, _, rfl, fun x dx hx hdx ne => ?_⟩
          have s8 : Same H7 (upd (upd H7 dx (.own x)) x (.ins C dx [])) := fun b o e => by
            rw [upd_ne (ne_of_none e hx), upd_ne (ne_of_none e hdx)]
            exact e
          refine ⟨x, dx, tk, hd, z, ts, hs, rfl, upd_same, hZ z (List.mem_of_getElem? hz), s8 _ _ htk7, s8 _ _ hhd, ft', fh, fun H8 GA k4 => ⟨rfl, ?_⟩⟩
          have s78 : Same H7 H8 := fun b o e => k4 b o (s8 b o e) (ne_of_none e hx)
          have T8 := T7.same s78
          have hlr8 := s78 _ _ hlr7
          refine ⟨_, rfl, _, rfl, tk, hd, ts, hs, 60, rfl, s78 _ _ htk7, s78 _ _ hhd, ft', fh, by decide, fun en H9 hen0 hen s9 => ?_⟩
          have hlr9 := s9 _ _ hlr8
          have T9 := T8.same s9
          have nen : en ≠ lr := (ne_of_none hlr8 hen0).symm
          have nent : en ≠ t := T8.ne hen0
          refine ⟨(by show 2 ≤ sizeLine; decide), fun r hr' => ?_⟩
          have nrr : lr ≠ r := ne_of_none hlr9 hr'
          have SB9 : SameBut t H' H9 := (SB7.trans (Same.but s78)).trans (Same.but s9)
          have mv : ∀ a o, a ≠ lr → H9 a = some o → (upd (upd H9 r (.tup [.ref x, .ref en])) lr (.lst (L.map (fun e => V.ref e.c) ++ [V.ref r]))) a = some o := fun a o n e => by
            rw [upd_ne n, upd_ne (ne_of_none e hr')]
            exact e
          have mt : ∀ a ys, H9 a = some (.tup ys) → (upd (upd H9 r (.tup [.ref x, .ref en])) lr (.lst (L.map (fun e => V.ref e.c) ++ [V.ref r]))) a = some (.tup ys) := fun a ys e => mv _ _ (ne_of e hlr9 (by intro z; cases z)) e
          have mi : ∀ a C dx fs, H9 a = some (.ins C dx fs) → (upd (upd H9 r (.tup [.ref x, .ref en])) lr (.lst (L.map (fun e => V.ref e.c) ++ [V.ref r]))) a = some (.ins C dx fs) := fun a C dx fs e => mv _ _ (ne_of e hlr9 (by intro z; cases z)) e
          refine ⟨lr, _, _, rfl, rfl, (by rw [upd_ne nrr]; exact hlr9), ?_, _, _, _, _, _, _, _, _, L ++ [⟨r, x, en, ts, hs⟩], rfl, ?_, ?_, ?_, ?_, ?_, ?_⟩
          · rw [List.length_map, lL]
            exact Nat.lt_of_lt_of_le hj2 (by decide)
          · rw [upd_same, List.map_append]
            rfl
          · intro e he
            rcases List.mem_append.mp he with h | h
            · exact (hR e h).move (fun a ys z => mt _ _ (SB9.tup T' z)) (fun a C dx fs z => mi _ _ _ _ (SB9.ins T' z)) fun a ys n1 n2 z => mv _ _ n1 (SB9 _ _ z n2)
            · obtain rfl := List.mem_singleton.mp h
              have GA9 := GA.same s9
              obtain ⟨⟨z', dx', tk', hd', g1, g2, g3⟩, gft, gfh⟩ := GA9
              exact ⟨by rw [upd_ne nrr.symm, upd_same], ⟨⟨z', dx', tk', hd', mi _ _ _ _ g1, mt _ _ g2, mt _ _ g3⟩, gft, gfh⟩, mv _ _ nen hen, nen, nent⟩
          · rw [List.length_append, lL]
            rfl
          · obtain ⟨a', b', k', g1, g2⟩ := T9.new (o := .tup [.ref x, .ref en]) hr'
            exact ⟨a', b', k', by rw [upd_ne nlr.symm]; exact g1, g2.1, g2.2.1, g2.2.2.1, g2.2.2.2.1, by have := g2.2.2.2.2; omega⟩
          · exact mv _ _ nnr (SB9 _ _ hnl' nnl)
          · exact mv _ _ npr (SB9 _ _ hpc' npc)
        rintro σ H7 ⟨v2, v5, v6, v7, v8, v9, v10, v11, L, rfl, hlr7, hR7, lL, T7, hnl7, hpc7⟩
        -- all counts
        refine ⟨1, 61, rfl, ⟨by decide, by decide, by decide, by decide⟩, ?_⟩
        refine for_range (lo := 1) (n := ((61 : Int) - 1).toNat) (fun i σ H' => ∃ (v2 v5 v6 v7 v8 v9 v10 v11 : Option V), σ = [some (.ref a), some (.ref pc), v2, some (.ref t), some (.ref lr), v5, v6, v7, v8, v9, v10, v11] ∧ Same H7 H')
          ⟨_, _, _, _, _, _, _, _, rfl, Same.refl _⟩ ?_ ?_
        · rintro i σ H' hi ⟨v2, v5, v6, v7, v8, v9, v10, v11, rfl, s8⟩
          have hi60 : i < 60 := hi
          refine ⟨_, rfl, lr, rfl, ⟨_, SqL.of (s8 _ _ hlr7)⟩, ?_⟩
          refine for_list (K := K) (a := lr) (xs := L.map fun e => V.ref e.c) (fun j σ H2 => ∃ (v2 v5 v6 v7 v9 v10 v11 : Option V), σ = [some (.ref a), some (.ref pc), v2, some (.ref t), some (.ref lr), v5, v6, v7, some (.int (1 + (i : Int))), v9, v10, v11] ∧ Same H7 H2)
            ⟨_, _, _, _, _, _, _, rfl, s8⟩ (fun j σ H2 _ ⟨_, _, _, _, _, _, _, _, s⟩ => SqL.of (s _ _ hlr7)) ?_ ?_
          · rintro j x σ H2 hj ⟨v2, v5, v6, v7, v9, v10, v11, rfl, s9⟩
            obtain ⟨e, hLj, rfl⟩ := get_cs hj
            have R := (hR7 e (List.mem_of_getElem? hLj)).same s9
            refine ⟨e.c, _, rfl, SqT.of R.h1, rfl, _, _, rfl, _, _, rfl, rfl, ?_⟩
            refine ⟨fun σ' H3 => ∃ (v2 v5 v6 v7 : Option V), σ' = [some (.ref a), some (.ref pc), v2, some (.ref t), some (.ref lr), v5, v6, v7, some (.int (1 + (i : Int))), some (.ref e.g), some (.ref e.e), some (.int (e.ts.sum + Wv e.ts e.hs i))] ∧ Same H2 H3, ?_, ?_⟩
            · refine ⟨_, rfl, 1 + (i : Int), 2, rfl, rfl, (show (0 : Int) < 2 by decide), _, 0, rfl, rfl, _, rfl, iteD (fun _ => ?_) (fun _ => ?_)⟩
              · refine ⟨_, rfl, _, rfl, e.g, e.ts, e.hs, i, (by show [V.ref e.g, V.int (1 + (i : Int))] = _; rw [show (1 : Int) + (i : Int) = (i : Int) + 1 from Int.add_comm ..]), R.h2, by omega, fun H3 s3' => ?_⟩
                exact ⟨_, _, _, _, rfl, s3'⟩
              · refine ⟨_, rfl, _, rfl, rfl, e.g, e.ts, e.hs, i, (by show [V.ref e.g, V.int (1 + (i : Int))] = _; rw [show (1 : Int) + (i : Int) = (i : Int) + 1 from Int.add_comm ..]), R.h2, by omega, fun H3 s3' => ?_⟩
                exact ⟨_, _, _, _, rfl, s3'⟩
            · rintro σ' H3 ⟨v2, v5, v6, v7, rfl, s10⟩
              refine ⟨_, rfl, _, rfl, _, rfl, 1 + (i : Int), 1, rfl, rfl, e.e, _, _, _, rfl, rfl, SqL.of (s10 _ _ R.h3), at_gt (i := i) (by omega) (by rw [ends_len]; exact hi60), ?_⟩
              have eg : gt (endsL e.ts e.hs 60) i = e.ts.sum + Wv e.ts e.hs i := by
                refine gt_some ?_
                unfold endsL
                rw [List.getElem?_map, List.getElem?_range hi60]
                rfl
              rw [eg]
              refine ⟨_, rfl, true, rfl, iteF ?_⟩
              exact ⟨_, _, _, _, _, _, _, rfl, s9.trans s10⟩
          · rintro σ H2 ⟨v2, v5, v6, v7, v9, v10, v11, rfl, s9⟩
            exact ⟨_, _, _, _, _, _, _, _, rfl, s9⟩
        · rintro σ H' ⟨v2, v5, v6, v7, v8, v9, v10, v11, rfl, s8⟩
          exact ⟨_, _, _, _, _, _, _, _, _, _, rfl, s8 _ _ hpc7⟩
      · rintro σ H2 ⟨v2, v3, v4, v5, v6, v7, v8, v9, v10, v11, rfl, hpc2⟩
        exact q H2
end
end HP
namespace HP
open PySem L2
/-- keywords alone, of a def without defaults, in the order turned about -/
theorem fun_kbr {K : PySem.W.Frag} {x qual : Str} {st : Stmt} {f : Addr} {fd : FuncData} {ps ks : List Str} (F : Fun K x qual st f fd)
    (h : ∀ (kV doc pm : Value) (an : Option Addr) (cdv ct : Value) (ws : List Value), ws.length = ks.length → bindArgs (PySem.W.fnOf x qual (defArgs st) (defBody st) (defScope st) .none kV doc pm an cdv ct) ⟨[], ks.zip ws⟩ = pure (ps.zip ws.reverse)) :
    KBn K fd ps 0 ks (fun _ ws => ws.reverse) turnV := by
  obtain ⟨oc, od, kV, doc, pm, an, cdv, ct, osl, rfl, lk, hcd⟩ := F.ex
  refine ⟨fun s us ws _ l1 l2 => ?_, fun _ r2 => r2.reverse⟩
  obtain rfl : us = [] := List.eq_nil_of_length_eq_zero l1
  exact .of_eq (h kV doc pm an cdv ct ws l2)
end HP
namespace HP
open PySem L2
theorem all_mk {l : PySem.W.OpenLaw} {w : World} {K : PySem.W.Frag} {h : Heap} {mg : Str → Option Value} {fa : Addr} {C : Addr} {f_few : Addr} {oc_few kV_few dc_few pm_few cd_few ct_few : Value} {od_few an_few : Option Addr} {sl_few : Array (Option Value)} {f_wts : Addr} {oc_wts kV_wts dc_wts pm_wts cd_wts ct_wts : Value} {od_wts an_wts : Option Addr} {sl_wts : Array (Option Value)} {f_lst : Addr} {oc_lst kV_lst dc_lst pm_lst cd_lst ct_lst : Value} {od_lst an_lst : Option Addr} {sl_lst : Array (Option Value)} {f_isn T_isn : Addr} {oc_isn kV_isn dc_isn pm_isn cd_isn ct_isn ot_isn : Value} {od_isn an_isn dt_isn : Option Addr} {sl_isn st_isn : Array (Option Value)} {n_isn : Nat} {f_isr : Addr} {oc_isr kV_isr dc_isr pm_isr cd_isr ct_isr : Value} {od_isr an_isr : Option Addr} {sl_isr : Array (Option Value)} {f_ism : Addr} {oc_ism kV_ism dc_ism pm_ism cd_ism ct_ism : Value} {od_ism an_ism : Option Addr} {sl_ism : Array (Option Value)} {f_afk : Addr} {oc_afk kV_afk dc_afk pm_afk cd_afk ct_afk : Value} {od_afk an_afk : Option Addr} {sl_afk : Array (Option Value)} {f_gcd : Addr} {oc_gcd kV_gcd dc_gcd pm_gcd cd_gcd ct_gcd : Value} {od_gcd an_gcd : Option Addr} {sl_gcd : Array (Option Value)} {f_tape : Addr} {oc_tape kV_tape dc_tape pm_tape cd_tape ct_tape : Value} {od_tape an_tape : Option Addr} {sl_tape : Array (Option Value)} {f_draw : Addr} {oc_draw kV_draw dc_draw pm_draw cd_draw ct_draw : Value} {od_draw an_draw : Option Addr} {sl_draw : Array (Option Value)} {f_fold : Addr} {oc_fold kV_fold dc_fold pm_fold cd_fold ct_fold : Value} {od_fold an_fold : Option Addr} {sl_fold : Array (Option Value)} {f_nam : Addr} {oc_nam kV_nam dc_nam pm_nam cd_nam ct_nam : Value} {od_nam an_nam : Option Addr} {sl_nam : Array (Option Value)} {f_tak : Addr} {oc_tak kV_tak dc_tak pm_tak cd_tak ct_tak : Value} {od_tak an_tak : Option Addr} {sl_tak : Array (Option Value)} {f_han : Addr} {oc_han kV_han dc_han pm_han cd_han ct_han : Value} {od_han an_han : Option Addr} {sl_han : Array (Option Value)} {f_ends : Addr} {oc_ends kV_ends dc_ends pm_ends cd_ends ct_ends : Value} {od_ends an_ends : Option Addr} {sl_ends : Array (Option Value)} {f_is : Addr} {oc_is kV_is dc_is pm_is cd_is ct_is : Value} {od_is an_is : Option Addr} {sl_is : Array (Option Value)} {f_law : Addr} {oc_law kV_law dc_law pm_law cd_law ct_law : Value} {od_law an_law : Option Addr} {sl_law : Array (Option Value)} {f_init T_init : Addr} {oc_init kV_init dc_init pm_init cd_init ct_init ot_init : Value} {od_init an_init dt_init : Option Addr} {sl_init st_init : Array (Option Value)} {n_init : Nat} {f_pace : Addr} {oc_pace kV_pace dc_pace pm_pace cd_pace ct_pace : Value} {od_pace an_pace : Option Addr} {sl_pace : Array (Option Value)} {f_bnd : Addr} {oc_bnd kV_bnd dc_bnd pm_bnd cd_bnd ct_bnd : Value} {od_bnd an_bnd : Option Addr} {sl_bnd : Array (Option Value)} {t1 : Tok} {t2 : Tok} {t3 : Tok} {t4 : Tok} {t5 : Tok} {t6 : Tok} (X : K.In h) (G : h.Ns mainGlobals mg) (hfa : mg "law" = some (.ref fa))
    (g_C : PySem.W.nsIn K mainGlobals "Gang" = some (some (.ref C)))
    (pg_C : PySem.W.plainGet K C Str.empty = true)
    (hd_C : PySem.W.hasDictIn K C = true)
    (po_C : PySem.W.plainOver K C = true)
    (sa_C : PySem.W.findIn K (.ref C) "__setattr__" = some (some (.builtin "object.__setattr__")))
    (mk_C : PySem.W.makesIn K C = true)
    (kc_C : PySem.W.keepIn K (.ref C) = true)
    (at_C_name : PySem.W.findIn K (.ref C) "name" = some none)
    (at_C_takes : PySem.W.findIn K (.ref C) "takes" = some none)
    (at_C_hands : PySem.W.findIn K (.ref C) "hands" = some none)
    (a_few : PySem.W.nsIn K mainGlobals "few_waits" = some (some (.ref f_few)))
    (l_few : K.lookup f_few = some ⟨oc_few, od_few, .func (PySem.W.fnOf "few_waits" "few_waits" (defArgs sfew_waits) (defBody sfew_waits) (defScope sfew_waits) .none kV_few dc_few pm_few an_few cd_few ct_few), sl_few⟩)
    (c_few : PySem.W.codeIn K cd_few "few_waits" = true)
    (k_few : PySem.W.keepIn K (.ref f_few) = true)
    (a_wts : PySem.W.nsIn K mainGlobals "waits_of" = some (some (.ref f_wts)))
    (l_wts : K.lookup f_wts = some ⟨oc_wts, od_wts, .func (PySem.W.fnOf "waits_of" "waits_of" (defArgs swaits_of) (defBody swaits_of) (defScope swaits_of) .none kV_wts dc_wts pm_wts an_wts cd_wts ct_wts), sl_wts⟩)
    (c_wts : PySem.W.codeIn K cd_wts "waits_of" = true)
    (k_wts : PySem.W.keepIn K (.ref f_wts) = true)
    (a_lst : PySem.W.nsIn K mainGlobals "least_end" = some (some (.ref f_lst)))
    (l_lst : K.lookup f_lst = some ⟨oc_lst, od_lst, .func (PySem.W.fnOf "least_end" "least_end" (defArgs sleast_end) (defBody sleast_end) (defScope sleast_end) .none kV_lst dc_lst pm_lst an_lst cd_lst ct_lst), sl_lst⟩)
    (c_lst : PySem.W.codeIn K cd_lst "least_end" = true)
    (k_lst : PySem.W.keepIn K (.ref f_lst) = true)
    (a_isn : PySem.W.nsIn K mainGlobals "is_number" = some (some (.ref f_isn)))
    (l_isn : K.lookup f_isn = some ⟨oc_isn, od_isn, .func (PySem.W.fnOf "is_number" "is_number" (defArgs sis_number) (defBody sis_number) (defScope sis_number) (.ref T_isn) kV_isn dc_isn pm_isn an_isn cd_isn ct_isn), sl_isn⟩)
    (c_isn : PySem.W.codeIn K cd_isn "is_number" = true)
    (k_isn : PySem.W.keepIn K (.ref f_isn) = true)
    (d_isn : K.lookup T_isn = some ⟨ot_isn, dt_isn, .seq #[.none] n_isn, st_isn⟩)
    (a_isr : PySem.W.nsIn K mainGlobals "is_row" = some (some (.ref f_isr)))
    (l_isr : K.lookup f_isr = some ⟨oc_isr, od_isr, .func (PySem.W.fnOf "is_row" "is_row" (defArgs sis_row) (defBody sis_row) (defScope sis_row) .none kV_isr dc_isr pm_isr an_isr cd_isr ct_isr), sl_isr⟩)
    (c_isr : PySem.W.codeIn K cd_isr "is_row" = true)
    (k_isr : PySem.W.keepIn K (.ref f_isr) = true)
    (a_ism : PySem.W.nsIn K mainGlobals "is_name" = some (some (.ref f_ism)))
    (l_ism : K.lookup f_ism = some ⟨oc_ism, od_ism, .func (PySem.W.fnOf "is_name" "is_name" (defArgs sis_name) (defBody sis_name) (defScope sis_name) .none kV_ism dc_ism pm_ism an_ism cd_ism ct_ism), sl_ism⟩)
    (c_ism : PySem.W.codeIn K cd_ism "is_name" = true)
    (k_ism : PySem.W.keepIn K (.ref f_ism) = true)
    (a_afk : PySem.W.nsIn K mainGlobals "are_for_kinds" = some (some (.ref f_afk)))
    (l_afk : K.lookup f_afk = some ⟨oc_afk, od_afk, .func (PySem.W.fnOf "are_for_kinds" "are_for_kinds" (defArgs sare_for_kinds) (defBody sare_for_kinds) (defScope sare_for_kinds) .none kV_afk dc_afk pm_afk an_afk cd_afk ct_afk), sl_afk⟩)
    (c_afk : PySem.W.codeIn K cd_afk "are_for_kinds" = true)
    (k_afk : PySem.W.keepIn K (.ref f_afk) = true)
    (a_gcd : PySem.W.nsIn K mainGlobals "common_divisor" = some (some (.ref f_gcd)))
    (l_gcd : K.lookup f_gcd = some ⟨oc_gcd, od_gcd, .func (PySem.W.fnOf "common_divisor" "common_divisor" (defArgs scommon_divisor) (defBody scommon_divisor) (defScope scommon_divisor) .none kV_gcd dc_gcd pm_gcd an_gcd cd_gcd ct_gcd), sl_gcd⟩)
    (c_gcd : PySem.W.codeIn K cd_gcd "common_divisor" = true)
    (k_gcd : PySem.W.keepIn K (.ref f_gcd) = true)
    (a_tape : PySem.W.nsIn K mainGlobals "_law_tape" = some (some (.ref f_tape)))
    (l_tape : K.lookup f_tape = some ⟨oc_tape, od_tape, .func (PySem.W.fnOf "_law_tape" "_law_tape" (defArgs sLtape) (defBody sLtape) (defScope sLtape) .none kV_tape dc_tape pm_tape an_tape cd_tape ct_tape), sl_tape⟩)
    (c_tape : PySem.W.codeIn K cd_tape "_law_tape" = true)
    (k_tape : PySem.W.keepIn K (.ref f_tape) = true)
    (a_draw : PySem.W.nsIn K mainGlobals "_law_draw" = some (some (.ref f_draw)))
    (l_draw : K.lookup f_draw = some ⟨oc_draw, od_draw, .func (PySem.W.fnOf "_law_draw" "_law_draw" (defArgs sLdraw) (defBody sLdraw) (defScope sLdraw) .none kV_draw dc_draw pm_draw an_draw cd_draw ct_draw), sl_draw⟩)
    (c_draw : PySem.W.codeIn K cd_draw "_law_draw" = true)
    (k_draw : PySem.W.keepIn K (.ref f_draw) = true)
    (a_fold : PySem.W.nsIn K mainGlobals "_law_folded" = some (some (.ref f_fold)))
    (l_fold : K.lookup f_fold = some ⟨oc_fold, od_fold, .func (PySem.W.fnOf "_law_folded" "_law_folded" (defArgs sLfolded) (defBody sLfolded) (defScope sLfolded) .none kV_fold dc_fold pm_fold an_fold cd_fold ct_fold), sl_fold⟩)
    (c_fold : PySem.W.codeIn K cd_fold "_law_folded" = true)
    (k_fold : PySem.W.keepIn K (.ref f_fold) = true)
    (a_nam : PySem.W.nsIn K mainGlobals "_law_names" = some (some (.ref f_nam)))
    (l_nam : K.lookup f_nam = some ⟨oc_nam, od_nam, .func (PySem.W.fnOf "_law_names" "_law_names" (defArgs sLnames) (defBody sLnames) (defScope sLnames) .none kV_nam dc_nam pm_nam an_nam cd_nam ct_nam), sl_nam⟩)
    (c_nam : PySem.W.codeIn K cd_nam "_law_names" = true)
    (k_nam : PySem.W.keepIn K (.ref f_nam) = true)
    (a_tak : PySem.W.nsIn K mainGlobals "_law_takes" = some (some (.ref f_tak)))
    (l_tak : K.lookup f_tak = some ⟨oc_tak, od_tak, .func (PySem.W.fnOf "_law_takes" "_law_takes" (defArgs sLtakes) (defBody sLtakes) (defScope sLtakes) .none kV_tak dc_tak pm_tak an_tak cd_tak ct_tak), sl_tak⟩)
    (c_tak : PySem.W.codeIn K cd_tak "_law_takes" = true)
    (k_tak : PySem.W.keepIn K (.ref f_tak) = true)
    (a_han : PySem.W.nsIn K mainGlobals "_law_hands" = some (some (.ref f_han)))
    (l_han : K.lookup f_han = some ⟨oc_han, od_han, .func (PySem.W.fnOf "_law_hands" "_law_hands" (defArgs sLhands) (defBody sLhands) (defScope sLhands) .none kV_han dc_han pm_han an_han cd_han ct_han), sl_han⟩)
    (c_han : PySem.W.codeIn K cd_han "_law_hands" = true)
    (k_han : PySem.W.keepIn K (.ref f_han) = true)
    (a_ends : PySem.W.nsIn K mainGlobals "_law_ends" = some (some (.ref f_ends)))
    (l_ends : K.lookup f_ends = some ⟨oc_ends, od_ends, .func (PySem.W.fnOf "_law_ends" "_law_ends" (defArgs sLends) (defBody sLends) (defScope sLends) .none kV_ends dc_ends pm_ends an_ends cd_ends ct_ends), sl_ends⟩)
    (c_ends : PySem.W.codeIn K cd_ends "_law_ends" = true)
    (k_ends : PySem.W.keepIn K (.ref f_ends) = true)
    (a_is : PySem.W.nsIn K mainGlobals "_law_is" = some (some (.ref f_is)))
    (l_is : K.lookup f_is = some ⟨oc_is, od_is, .func (PySem.W.fnOf "_law_is" "_law_is" (defArgs sLis) (defBody sLis) (defScope sLis) .none kV_is dc_is pm_is an_is cd_is ct_is), sl_is⟩)
    (c_is : PySem.W.codeIn K cd_is "_law_is" = true)
    (k_is : PySem.W.keepIn K (.ref f_is) = true)
    (a_law : PySem.W.nsIn K mainGlobals "law" = some (some (.ref f_law)))
    (l_law : K.lookup f_law = some ⟨oc_law, od_law, .func (PySem.W.fnOf "law" "law" (defArgs slaw) (defBody slaw) (defScope slaw) .none kV_law dc_law pm_law an_law cd_law ct_law), sl_law⟩)
    (c_law : PySem.W.codeIn K cd_law "law" = true)
    (k_law : PySem.W.keepIn K (.ref f_law) = true)
    (a_init : PySem.W.findIn K (.ref C) "__init__" = some (some (.ref f_init)))
    (i_init : PySem.W.isFn K (.ref f_init) = true)
    (l_init : K.lookup f_init = some ⟨oc_init, od_init, .func (PySem.W.fnOf "__init__" "Gang.__init__" (defArgs sGang_init) (defBody sGang_init) (defScope sGang_init) (.ref T_init) kV_init dc_init pm_init an_init cd_init ct_init), sl_init⟩)
    (c_init : PySem.W.codeIn K cd_init "Gang.__init__" = true)
    (k_init : PySem.W.keepIn K (.ref f_init) = true)
    (d_init : K.lookup T_init = some ⟨ot_init, dt_init, .seq #[.none] n_init, st_init⟩)
    (a_pace : PySem.W.findIn K (.ref C) "pace" = some (some (.ref f_pace)))
    (i_pace : PySem.W.isFn K (.ref f_pace) = true)
    (l_pace : K.lookup f_pace = some ⟨oc_pace, od_pace, .func (PySem.W.fnOf "pace" "Gang.pace" (defArgs sGang_pace) (defBody sGang_pace) (defScope sGang_pace) .none kV_pace dc_pace pm_pace an_pace cd_pace ct_pace), sl_pace⟩)
    (c_pace : PySem.W.codeIn K cd_pace "Gang.pace" = true)
    (k_pace : PySem.W.keepIn K (.ref f_pace) = true)
    (a_bnd : PySem.W.findIn K (.ref C) "binds" = some (some (.ref f_bnd)))
    (i_bnd : PySem.W.isFn K (.ref f_bnd) = true)
    (l_bnd : K.lookup f_bnd = some ⟨oc_bnd, od_bnd, .func (PySem.W.fnOf "binds" "Gang.binds" (defArgs sGang_binds) (defBody sGang_binds) (defScope sGang_binds) .none kV_bnd dc_bnd pm_bnd an_bnd cd_bnd ct_bnd), sl_bnd⟩)
    (c_bnd : PySem.W.codeIn K cd_bnd "Gang.binds" = true)
    (k_bnd : PySem.W.keepIn K (.ref f_bnd) = true)
    (z_len : PySem.W.nsIn K mainGlobals "len" = some none)
    (z_range : PySem.W.nsIn K mainGlobals "range" = some none)
    (z_enumerate : PySem.W.nsIn K mainGlobals "enumerate" = some none)
    (z_abs : PySem.W.nsIn K mainGlobals "abs" = some none)
    (z_min : PySem.W.nsIn K mainGlobals "min" = some none)
    (z_max : PySem.W.nsIn K mainGlobals "max" = some none)
    (z_any : PySem.W.nsIn K mainGlobals "any" = some none)
    (z_all : PySem.W.nsIn K mainGlobals "all" = some none)
    (z_sum : PySem.W.nsIn K mainGlobals "sum" = some none)
    (z_zip : PySem.W.nsIn K mainGlobals "zip" = some none)
    (z_divmod : PySem.W.nsIn K mainGlobals "divmod" = some none)
    (z_isinstance : PySem.W.nsIn K mainGlobals "isinstance" = some none)
    (z_int : PySem.W.nsIn K mainGlobals "int" = some none)
    (z_bool : PySem.W.nsIn K mainGlobals "bool" = some none)
    (z_list : PySem.W.nsIn K mainGlobals "list" = some none)
    (z_tuple : PySem.W.nsIn K mainGlobals "tuple" = some none)
    (z_str : PySem.W.nsIn K mainGlobals "str" = some none)
    (g_LETTERS : PySem.W.nsIn K mainGlobals "LETTERS" = some (some (.str (Str.ofString "abcdefghijklmnopqrstuvwxyz") t1)))
    (g_MOST_LETTERS : PySem.W.nsIn K mainGlobals "MOST_LETTERS" = some (some (.int 8 t2)))
    (g_KINDS : PySem.W.nsIn K mainGlobals "KINDS" = some (some (.int 4 t3)))
    (g_MOST_TAKE : PySem.W.nsIn K mainGlobals "MOST_TAKE" = some (some (.int 1000000 t4)))
    (g_MOST_HANDS : PySem.W.nsIn K mainGlobals "MOST_HANDS" = some (some (.int 4 t5)))
    (g_REACH_OF_OTHERS : PySem.W.nsIn K mainGlobals "REACH_OF_OTHERS" = some (some (.int 12 t6))) :
    ∃ fd : FuncData, (∀ (s : Shared) (v : Value), BindsTo s fd ⟨[v], []⟩ [("_law_script", v)]) ∧ ∀ base : Heap, K.In base → base.Ns mainGlobals mg → FnOk l.prog w K mg base CX0 6 fa fd ["_law_script"] (spLaw K) := by
  have e := hfa.symm.trans (PySem.W.mg_of X G a_law)
  cases e
  have T : Txt mg default default := ⟨PySem.W.mg_none_of X G z_len, PySem.W.mg_none_of X G z_range, PySem.W.mg_none_of X G z_enumerate, PySem.W.mg_none_of X G z_abs, PySem.W.mg_none_of X G z_min, PySem.W.mg_none_of X G z_max, PySem.W.mg_none_of X G z_any, PySem.W.mg_none_of X G z_all, PySem.W.mg_none_of X G z_sum, PySem.W.mg_none_of X G z_zip, PySem.W.mg_none_of X G z_divmod, PySem.W.mg_none_of X G z_isinstance, PySem.W.mg_none_of X G z_int, PySem.W.mg_none_of X G z_bool, PySem.W.mg_none_of X G z_list, PySem.W.mg_none_of X G z_tuple, PySem.W.mg_none_of X G z_str, ⟨_, PySem.W.mg_of X G g_LETTERS⟩, ⟨_, PySem.W.mg_of X G g_MOST_LETTERS⟩, ⟨_, PySem.W.mg_of X G g_KINDS⟩, ⟨_, PySem.W.mg_of X G g_MOST_TAKE⟩, ⟨_, PySem.W.mg_of X G g_MOST_HANDS⟩⟩
  have hRE : ∃ t, mg "REACH_OF_OTHERS" = some (.int 12 t) := ⟨_, PySem.W.mg_of X G g_REACH_OF_OTHERS⟩
  have GT : GangTxt K C := ⟨⟨pg_C, hd_C, po_C, sa_C⟩, at_C_name, at_C_takes, at_C_hands⟩
  have F_few := fun_mk (st := sfew_waits) l_few c_few k_few
  have b_few := F_few.binds (ps := ["gang", "most"]) fun _ _ _ _ _ _ us hl => match us, hl with | [_, _], _ => rfl
  have F_wts := fun_mk (st := swaits_of) l_wts c_wts k_wts
  have b_wts := F_wts.binds (ps := ["gang", "number"]) fun _ _ _ _ _ _ us hl => match us, hl with | [_, _], _ => rfl
  have F_lst := fun_mk (st := sleast_end) l_lst c_lst k_lst
  have b_lst := F_lst.binds (ps := ["gang", "many"]) fun _ _ _ _ _ _ us hl => match us, hl with | [_, _], _ => rfl
  have F_isn : FunD K "is_number" "is_number" (defArgs sis_number) (defBody sis_number) (defScope sis_number) [.non] [] f_isn _ := ⟨⟨_, _, _, _, _, _, _, _, _, _, rfl, l_isn, c_isn, .inr ⟨by simp, T_isn, _, [.none], _, rfl, d_isn, rfl, .cons rfl .nil⟩, .inl rfl⟩, k_isn⟩
  obtain ⟨ds_isn, vd_isn, b_isn⟩ := F_isn.binds1 (ps := ["thing", "least", "most"]) 3 1 (by simp) rfl fun T kV doc pm an cdv ct us its h1 h2 => match us, h1, its, h2 with | [_, _, _], _, [_], _ => ⟨_, rfl, rfl⟩
  cases vd_isn
  have F_isr := fun_mk (st := sis_row) l_isr c_isr k_isr
  have b_isr := F_isr.binds (ps := ["thing", "least", "most"]) fun _ _ _ _ _ _ us hl => match us, hl with | [_, _, _], _ => rfl
  have F_ism := fun_mk (st := sis_name) l_ism c_ism k_ism
  have b_ism := F_ism.binds (ps := ["thing"]) fun _ _ _ _ _ _ us hl => match us, hl with | [_], _ => rfl
  have F_afk := fun_mk (st := sare_for_kinds) l_afk c_afk k_afk
  have b_afk := F_afk.binds (ps := ["thing", "most"]) fun _ _ _ _ _ _ us hl => match us, hl with | [_, _], _ => rfl
  have F_gcd := fun_mk (st := scommon_divisor) l_gcd c_gcd k_gcd
  have b_gcd := F_gcd.binds (ps := ["one", "other"]) fun _ _ _ _ _ _ us hl => match us, hl with | [_, _], _ => rfl
  have F_tape := fun_mk (st := sLtape) l_tape c_tape k_tape
  have b_tape := F_tape.binds (ps := ["_law_script", "_law_k"]) fun _ _ _ _ _ _ us hl => match us, hl with | [_, _], _ => rfl
  have F_draw := fun_mk (st := sLdraw) l_draw c_draw k_draw
  have b_draw := F_draw.binds (ps := ["_law_tape_here", "_law_a_many"]) fun _ _ _ _ _ _ us hl => match us, hl with | [_, _], _ => rfl
  have F_fold := fun_mk (st := sLfolded) l_fold c_fold k_fold
  have b_fold := F_fold.binds (ps := ["_law_script", "_law_a_many"]) fun _ _ _ _ _ _ us hl => match us, hl with | [_, _], _ => rfl
  have F_nam := fun_mk (st := sLnames) l_nam c_nam k_nam
  have b_nam := F_nam.binds (ps := ["_law_tape_here", "_law_a_many"]) fun _ _ _ _ _ _ us hl => match us, hl with | [_, _], _ => rfl
  have F_tak := fun_mk (st := sLtakes) l_tak c_tak k_tak
  have b_tak := F_tak.binds (ps := ["_law_tape_here", "_law_most"]) fun _ _ _ _ _ _ us hl => match us, hl with | [_, _], _ => rfl
  have F_han := fun_mk (st := sLhands) l_han c_han k_han
  have b_han := F_han.binds (ps := ["_law_tape_here"]) fun _ _ _ _ _ _ us hl => match us, hl with | [_], _ => rfl
  have F_ends := fun_mk (st := sLends) l_ends c_ends k_ends
  have b_ends := F_ends.binds (ps := ["_law_takes_here", "_law_hands_here", "_law_a_many"]) fun _ _ _ _ _ _ us hl => match us, hl with | [_, _, _], _ => rfl
  have F_is := fun_mk (st := sLis) l_is c_is k_is
  have b_is := F_is.binds (ps := ["_law_found", "_law_due"]) fun _ _ _ _ _ _ us hl => match us, hl with | [_, _], _ => rfl
  have F_pace := fun_mk (st := sGang_pace) l_pace c_pace k_pace
  have b_pace := F_pace.binds (ps := ["self"]) fun _ _ _ _ _ _ us hl => match us, hl with | [_], _ => rfl
  have F_bnd := fun_mk (st := sGang_binds) l_bnd c_bnd k_bnd
  have b_bnd := F_bnd.binds (ps := ["self"]) fun _ _ _ _ _ _ us hl => match us, hl with | [_], _ => rfl
  have F_init : FunD K "__init__" "Gang.__init__" (defArgs sGang_init) (defBody sGang_init) (defScope sGang_init) [.non] [] f_init _ := ⟨⟨_, _, _, _, _, _, _, _, _, _, rfl, l_init, c_init, .inr ⟨by simp, T_init, _, [.none], _, rfl, d_init, rfl, .cons rfl .nil⟩, .inl rfl⟩, k_init⟩
  obtain ⟨ds1, vd1, b_init⟩ := F_init.binds1 (ps := ["self", "name", "takes", "hands"]) 4 1 (by simp) rfl fun T kV doc pm an cdv ct us its h1 h2 => match us, h1, its, h2 with | [_, _, _, _], _, [_], _ => ⟨_, rfl, rfl⟩
  cases vd1
  have kb_lst := fun_kbr (ps := ["gang", "many"]) (ks := ["many", "gang"]) F_lst fun _ _ _ _ _ _ ws hl => match ws, hl with | [_, _], _ => rfl
  refine ⟨PySem.W.fnOf "law" "law" (defArgs slaw) (defBody slaw) (defScope slaw) .none kV_law dc_law pm_law an_law cd_law ct_law, fun s v => .of_eq rfl, fun base _ _ => ?_⟩
  have Disn : Df l.prog w K mg base "is_number" 1 ["thing", "least", "most"] spIsNumber := ⟨⟨_, _, ok_is_number F_isn T, PySem.W.mg_of X G a_isn, k_isn, b_isn⟩⟩
  have Disr : Df l.prog w K mg base "is_row" 1 ["thing", "least", "most"] spIsRow := ⟨⟨_, _, ok_is_row F_isr T, PySem.W.mg_of X G a_isr, k_isr, b_isr⟩⟩
  have Dism : Df l.prog w K mg base "is_name" 1 ["thing"] spIsName := ⟨⟨_, _, ok_is_name F_ism T, PySem.W.mg_of X G a_ism, k_ism, b_ism⟩⟩
  have Dafk : Df l.prog w K mg base "are_for_kinds" 2 ["thing", "most"] spKinds := ⟨⟨_, _, ok_kinds F_afk T Disr Disn, PySem.W.mg_of X G a_afk, k_afk, b_afk⟩⟩
  have Dgcd : Df l.prog w K mg base "common_divisor" 1 ["one", "other"] spGcd := ⟨⟨_, _, ok_gcd F_gcd, PySem.W.mg_of X G a_gcd, k_gcd, b_gcd⟩⟩
  have Ddraw : Df l.prog w K mg base "_law_draw" 1 ["_law_tape_here", "_law_a_many"] spDraw := ⟨⟨_, _, ok_draw F_draw, PySem.W.mg_of X G a_draw, k_draw, b_draw⟩⟩
  have Dtape : Df l.prog w K mg base "_law_tape" 1 ["_law_script", "_law_k"] (spTape K) := ⟨⟨_, _, ok_tape F_tape T, PySem.W.mg_of X G a_tape, k_tape, b_tape⟩⟩
  have Dfold : Df l.prog w K mg base "_law_folded" 1 ["_law_script", "_law_a_many"] (spFolded K) := ⟨⟨_, _, ok_folded F_fold T, PySem.W.mg_of X G a_fold, k_fold, b_fold⟩⟩
  have Dnam : Df l.prog w K mg base "_law_names" 2 ["_law_tape_here", "_law_a_many"] spNames := ⟨⟨_, _, ok_names F_nam T Ddraw, PySem.W.mg_of X G a_nam, k_nam, b_nam⟩⟩
  have Dtak : Df l.prog w K mg base "_law_takes" 2 ["_law_tape_here", "_law_most"] spTakes := ⟨⟨_, _, ok_takes F_tak T Ddraw, PySem.W.mg_of X G a_tak, k_tak, b_tak⟩⟩
  have Dhan : Df l.prog w K mg base "_law_hands" 2 ["_law_tape_here"] spHands := ⟨⟨_, _, ok_hands F_han T Ddraw, PySem.W.mg_of X G a_han, k_han, b_han⟩⟩
  have Dends : Df l.prog w K mg base "_law_ends" 1 ["_law_takes_here", "_law_hands_here", "_law_a_many"] spEnds := ⟨⟨_, _, ok_ends F_ends T, PySem.W.mg_of X G a_ends, k_ends, b_ends⟩⟩
  have Dis : Df l.prog w K mg base "_law_is" 1 ["_law_found", "_law_due"] spIs := ⟨⟨_, _, ok_is F_is T, PySem.W.mg_of X G a_is, k_is, b_is⟩⟩
  have Dpace : Dm l.prog w K mg base C "pace" 2 ["self"] (spPace C) := ⟨⟨f_pace, _, ok_pace F_pace T GT Dgcd, GT.cl, ⟨a_pace, i_pace, k_pace⟩, b_pace⟩⟩
  have Dbnd : Dm l.prog w K mg base C "binds" 3 ["self"] (spBinds C) := ⟨⟨f_bnd, _, ok_binds F_bnd T GT Dpace, GT.cl, ⟨a_bnd, i_bnd, k_bnd⟩, b_bnd⟩⟩
  have DG : DGk l.prog w K mg base C := ⟨⟨f_init, _, ⟨mk_C, a_init, i_init, kc_C⟩, ok_ginit F_init T GT Dism Dafk, PySem.W.mg_of X G g_C, b_init⟩⟩
  have Dfew : Df l.prog w K mg base "few_waits" 1 ["gang", "most"] (spFew C) := ⟨⟨_, _, ok_few F_few T GT, PySem.W.mg_of X G a_few, k_few, b_few⟩⟩
  have Dwts : Df l.prog w K mg base "waits_of" 4 ["gang", "number"] (spWaits C) := ⟨⟨_, _, ok_waits F_wts T hRE GT Dbnd Dfew, PySem.W.mg_of X G a_wts, k_wts, b_wts⟩⟩
  have Dlst : Df l.prog w K mg base "least_end" 5 ["gang", "many"] (spLeast C) := ⟨⟨_, _, ok_least F_lst T GT Dwts, PySem.W.mg_of X G a_lst, k_lst, b_lst⟩⟩
  have DlstK : DfK l.prog w K mg base "least_end" 5 ["gang", "many"] ["many", "gang"] turnV (spLeast C) := ⟨⟨_, _, _, ok_least F_lst T GT Dwts, PySem.W.mg_of X G a_lst, k_lst, kb_lst⟩⟩
  exact ok_law (fun_mk (st := slaw) l_law c_law k_law) T Dfold Dtape Ddraw Dtak Dhan Dnam DG Dends Dlst DlstK Dis
theorem walk {l : PySem.W.OpenLaw} {q : Program} {loose : List Str} {XP : (Str → Option Value) → Heap → Prop} {YP : World → Heap → Prop} {d : DefRec} {K : Params → PySem.W.Frag} (hn : l.most = some 63) (hdf : d.params.defaults = [])
    (hY : ∀ (w : World) (h : Heap), YP w h → (K w.params).In h)
    (F : ∀ (w : World) (mg : Str → Option Value) (fa : Addr) (h : Heap), (K w.params).In h → h.Ns mainGlobals mg → mg d.name = some (.ref fa) →
      ∃ fd : FuncData, (∀ (s : Shared) (u : Value), BindsTo s fd ⟨[u], []⟩ [("_law_script", u)]) ∧ ∀ base : Heap, (K w.params).In base → base.Ns mainGlobals mg → FnOk l.prog w (K w.params) mg base CX0 6 fa fd ["_law_script"] (spLaw (K w.params))) :
    PySem.W.WalkO q loose XP YP l.row.toRowW d [] (fun f vs => PySem.call f vs) :=
  L2.walk_of (n := 63) (k := 6) (x := "_law_script") (CX := fun _ => CX0) (sp := fun w => spLaw (K w.params)) hn (by decide) hdf ⟨rfl, by decide, by decide⟩ hY F (fun _ _ a ns hl _ hS => ⟨a, ns, rfl, hS, hl, fun _ => rfl⟩) fun _ _ _ _ _ z => z
end HP
open PySem PySem.W PyProof.Rows in
set_option maxRecDepth 100000 in
set_option maxHeartbeats 0 in
theorem PySem.Challenge.cw_hotpass_k10_least_ends_piece_by_piece_holds : PySem.Challenge.rw_hotpass_k10_least_ends_piece_by_piece.Holds := by
  w_on; o_law; k_head; (case hw => w_witness2)
  k_fill
  refine HP.walk (l := PySem.Challenge.rw_hotpass_k10_least_ends_piece_by_piece) rfl rfl (fun w h Y => PySem.W.kIn_of Y) ?F
  case F =>
    intro w mg fa h KX G hmg
    refine' HP.all_mk KX G hmg ?g_C ?pg_C ?hd_C ?po_C ?sa_C ?mk_C ?kc_C ?at_C_name ?at_C_takes ?at_C_hands ?a_few ?l_few ?c_few ?k_few ?a_wts ?l_wts ?c_wts ?k_wts ?a_lst ?l_lst ?c_lst ?k_lst ?a_isn ?l_isn ?c_isn ?k_isn ?d_isn ?a_isr ?l_isr ?c_isr ?k_isr ?a_ism ?l_ism ?c_ism ?k_ism ?a_afk ?l_afk ?c_afk ?k_afk ?a_gcd ?l_gcd ?c_gcd ?k_gcd ?a_tape ?l_tape ?c_tape ?k_tape ?a_draw ?l_draw ?c_draw ?k_draw ?a_fold ?l_fold ?c_fold ?k_fold ?a_nam ?l_nam ?c_nam ?k_nam ?a_tak ?l_tak ?c_tak ?k_tak ?a_han ?l_han ?c_han ?k_han ?a_ends ?l_ends ?c_ends ?k_ends ?a_is ?l_is ?c_is ?k_is ?a_law ?l_law ?c_law ?k_law ?a_init ?i_init ?l_init ?c_init ?k_init ?d_init ?a_pace ?i_pace ?l_pace ?c_pace ?k_pace ?a_bnd ?i_bnd ?l_bnd ?c_bnd ?k_bnd ?z_len ?z_range ?z_enumerate ?z_abs ?z_min ?z_max ?z_any ?z_all ?z_sum ?z_zip ?z_divmod ?z_isinstance ?z_int ?z_bool ?z_list ?z_tuple ?z_str ?g_LETTERS ?g_MOST_LETTERS ?g_KINDS ?g_MOST_TAKE ?g_MOST_HANDS ?g_REACH_OF_OTHERS
    (case g_C => k_is)
    (case pg_C => k_is)
    (case hd_C => k_is)
    (case po_C => k_is)
    (case sa_C => k_is)
    (case mk_C => k_is)
    (case kc_C => k_is)
    (case at_C_name => k_is)
    (case at_C_takes => k_is)
    (case at_C_hands => k_is)
    (case a_few => k_is)
    (case l_few => k_is)
    (case c_few => k_is)
    (case k_few => k_is)
    (case a_wts => k_is)
    (case l_wts => k_is)
    (case c_wts => k_is)
    (case k_wts => k_is)
    (case a_lst => k_is)
    (case l_lst => k_is)
    (case c_lst => k_is)
    (case k_lst => k_is)
    (case a_isn => k_is)
    (case l_isn => k_is)
    (case c_isn => k_is)
    (case k_isn => k_is)
    (case d_isn => k_is)
    (case a_isr => k_is)
    (case l_isr => k_is)
    (case c_isr => k_is)
    (case k_isr => k_is)
    (case a_ism => k_is)
    (case l_ism => k_is)
    (case c_ism => k_is)
    (case k_ism => k_is)
    (case a_afk => k_is)
    (case l_afk => k_is)
    (case c_afk => k_is)
    (case k_afk => k_is)
    (case a_gcd => k_is)
    (case l_gcd => k_is)
    (case c_gcd => k_is)
    (case k_gcd => k_is)
    (case a_tape => k_is)
    (case l_tape => k_is)
    (case c_tape => k_is)
    (case k_tape => k_is)
    (case a_draw => k_is)
    (case l_draw => k_is)
    (case c_draw => k_is)
    (case k_draw => k_is)
    (case a_fold => k_is)
    (case l_fold => k_is)
    (case c_fold => k_is)
    (case k_fold => k_is)
    (case a_nam => k_is)
    (case l_nam => k_is)
    (case c_nam => k_is)
    (case k_nam => k_is)
    (case a_tak => k_is)
    (case l_tak => k_is)
    (case c_tak => k_is)
    (case k_tak => k_is)
    (case a_han => k_is)
    (case l_han => k_is)
    (case c_han => k_is)
    (case k_han => k_is)
    (case a_ends => k_is)
    (case l_ends => k_is)
    (case c_ends => k_is)
    (case k_ends => k_is)
    (case a_is => k_is)
    (case l_is => k_is)
    (case c_is => k_is)
    (case k_is => k_is)
    (case a_law => k_is)
    (case l_law => k_is)
    (case c_law => k_is)
    (case k_law => k_is)
    (case a_init => k_is)
    (case i_init => k_is)
    (case l_init => k_is)
    (case c_init => k_is)
    (case k_init => k_is)
    (case d_init => k_is)
    (case a_pace => k_is)
    (case i_pace => k_is)
    (case l_pace => k_is)
    (case c_pace => k_is)
    (case k_pace => k_is)
    (case a_bnd => k_is)
    (case i_bnd => k_is)
    (case l_bnd => k_is)
    (case c_bnd => k_is)
    (case k_bnd => k_is)
    (case z_len => k_is)
    (case z_range => k_is)
    (case z_enumerate => k_is)
    (case z_abs => k_is)
    (case z_min => k_is)
    (case z_max => k_is)
    (case z_any => k_is)
    (case z_all => k_is)
    (case z_sum => k_is)
    (case z_zip => k_is)
    (case z_divmod => k_is)
    (case z_isinstance => k_is)
    (case z_int => k_is)
    (case z_bool => k_is)
    (case z_list => k_is)
    (case z_tuple => k_is)
    (case z_str => k_is)
    (case g_LETTERS => k_is)
    (case g_MOST_LETTERS => k_is)
    (case g_KINDS => k_is)
    (case g_MOST_TAKE => k_is)
    (case g_MOST_HANDS => k_is)
    (case g_REACH_OF_OTHERS => k_is)

