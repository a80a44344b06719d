import PyProof.Rows.All
import Wide.All
import OpenK.AllK
import Wide.FinOn
import HandS.Base
import HandS.Call
import HandS.List
import HandS.Comp
import HandS.Ends
import HandS.Iter
import HandS.Text
import HandS.Words
import HandS.WordsList
import HandS.IsInst
import HandS.Wide
import HandS.Defaults
import HandS.MakeKw
import HandS.Style
import HandS.Codes
import KE.KEqSeq
import PySem.Challenge.RW_hotpass_k02_heats_beat_by_beat
set_option Elab.async false
set_option linter.all false
set_option maxRecDepth 100000
set_option maxHeartbeats 4000000
namespace HM
/-- what is lost behind so many beats -/
def lostOf : List (Int × Int) → Int → Int
  | [], _ => 0
  | [(_, l)], left => left * l
  | (n, l) :: p :: r, left => (if n < left then n else left) * l + lostOf (p :: r) (left - (if n < left then n else left))
/-- one turn of the walk over all but the last pair: (left, lost) -/
def step (s : Int × Int) (p : Int × Int) : Int × Int := (s.1 - (if p.1 < s.1 then p.1 else s.1), s.2 + (if p.1 < s.1 then p.1 else s.1) * p.2)
theorem fold_lost : ∀ (L : List (Int × Int)) (q : Int × Int) (left lost : Int),
    (L.foldl step (left, lost)).2 + (L.foldl step (left, lost)).1 * q.2 = lost + lostOf (L ++ [q]) left
  | [], q, left, lost => by
    obtain ⟨m, l⟩ := q
    rfl
  | (n, l) :: r, q, left, lost => by
    have ih := fold_lost r q (left - (if n < left then n else left)) (lost + (if n < left then n else left) * l)
    have e : lostOf ((n, l) :: r ++ [q]) left = (if n < left then n else left) * l + lostOf (r ++ [q]) (left - (if n < left then n else left)) := by
      cases r with
      | nil => rfl
      | cons a b => rfl
    rw [List.foldl_cons, e]
    show ((r.foldl step (left - (if n < left then n else left), lost + (if n < left then n else left) * l)).2) + _ = _
    have ih2 : (r.foldl step (step (left, lost) (n, l))).2 + (r.foldl step (step (left, lost) (n, l))).1 * q.2 = lost + (if n < left then n else left) * l + lostOf (r ++ [q]) (left - (if n < left then n else left)) := ih
    rw [show (r.foldl step (left - (if n < left then n else left), lost + (if n < left then n else left) * l)) = r.foldl step (step (left, lost) (n, l)) from rfl, ih2]
    omega
/-- the losses of the first m beats, one by one -/
def eachOf : List (Int × Int) → Nat → List Int
  | [], _ => []
  | [(_, l)], m => List.replicate m l
  | (n, l) :: p :: r, m => List.replicate (min n.toNat m) l ++ eachOf (p :: r) (m - min n.toNat m)
theorem sum_rep (j : Nat) (l : Int) : (List.replicate j l).sum = j * l := by
  induction j with
  | zero => simp
  | succ k ih =>
    rw [List.replicate_succ, List.sum_cons, ih]
    have : ((k + 1 : Nat) : Int) * l = (k : Int) * l + l := by
      rw [Int.natCast_add, Int.add_mul]
      simp
    rw [this]
    omega
theorem lostOf_zero : ∀ L : List (Int × Int), (∀ p ∈ L, 1 ≤ p.1) → lostOf L 0 = 0
  | [], _ => rfl
  | [(_, l)], _ => by show 0 * l = 0; simp
  | (n, l) :: p :: r, h => by
    have h1 : 1 ≤ n := h (n, l) List.mem_cons_self
    have e : (if n < 0 then n else 0) = 0 := if_neg (by omega)
    have ih := lostOf_zero (p :: r) (fun q hq => h q (List.mem_cons_of_mem _ hq))
    show (if n < 0 then n else 0) * l + lostOf (p :: r) (0 - (if n < 0 then n else 0)) = 0
    rw [e]
    simp [ih]
theorem each_sum : ∀ (L : List (Int × Int)) (m j : Nat), L ≠ [] → (∀ p ∈ L, 1 ≤ p.1) → j ≤ m → ((eachOf L m).take j).sum = lostOf L j
  | [], _, _, h, _, _ => absurd rfl h
  | [(n, l)], m, j, _, _, hj => by
    show ((List.replicate m l).take j).sum = (j : Int) * l
    rw [List.take_replicate, sum_rep]
    have : min j m = j := by omega
    rw [this]
  | (n, l) :: p :: r, m, j, _, h, hj => by
    have h1 : 1 ≤ n := h (n, l) List.mem_cons_self
    have hr : ∀ q ∈ p :: r, 1 ≤ q.1 := fun q hq => h q (List.mem_cons_of_mem _ hq)
    show ((List.replicate (min n.toNat m) l ++ eachOf (p :: r) (m - min n.toNat m)).take j).sum = (if n < (j : Int) then n else (j : Int)) * l + lostOf (p :: r) ((j : Int) - (if n < (j : Int) then n else (j : Int)))
    rw [List.take_append, List.sum_append, List.take_replicate, List.length_replicate, sum_rep]
    by_cases c : n < (j : Int)
    · rw [if_pos c]
      have e1 : min n.toNat m = n.toNat := by omega
      have e2 : min j n.toNat = n.toNat := by omega
      rw [e1, e2, each_sum (p :: r) (m - n.toNat) (j - n.toNat) (by simp) hr (by omega)]
      have e3 : ((n.toNat : Nat) : Int) = n := by omega
      have e4 : ((j - n.toNat : Nat) : Int) = (j : Int) - n := by omega
      rw [e3, e4]
    · rw [if_neg c]
      have e1 : min j (min n.toNat m) = j := by omega
      have e2 : j - min n.toNat m = 0 := by omega
      have e3 : (j : Int) - (j : Int) = 0 := by omega
      rw [e1, e2, List.take_zero, e3, lostOf_zero _ hr]
      simp
theorem each_len : ∀ (L : List (Int × Int)) (m : Nat), L ≠ [] → (eachOf L m).length = m
  | [], _, h => absurd rfl h
  | [(n, l)], m, _ => by show (List.replicate m l).length = m; simp
  | (n, l) :: p :: r, m, _ => by
    show (List.replicate (min n.toNat m) l ++ eachOf (p :: r) (m - min n.toNat m)).length = m
    rw [List.length_append, List.length_replicate, each_len (p :: r) _ (by simp)]
    omega
theorem each_nonneg : ∀ (L : List (Int × Int)) (m : Nat), (∀ p ∈ L, 0 ≤ p.2) → ∀ e ∈ eachOf L m, 0 ≤ e
  | [], _, _ => fun e he => by cases he
  | [(n, l)], m, h => fun e he => by
    have : e ∈ List.replicate m l := he
    rw [List.mem_replicate] at this
    rw [this.2]
    exact h (n, l) List.mem_cons_self
  | (n, l) :: p :: r, m, h => fun e he => by
    have he' : e ∈ List.replicate (min n.toNat m) l ++ eachOf (p :: r) (m - min n.toNat m) := he
    rcases List.mem_append.mp he' with h1 | h1
    · rw [List.mem_replicate] at h1
      rw [h1.2]
      exact h (n, l) List.mem_cons_self
    · exact each_nonneg (p :: r) _ (fun q hq => h q (List.mem_cons_of_mem _ hq)) e h1
/-- the loop that fills: what stands behind the pairs taken -/
def fill (m : Nat) (acc : List Int) (p : Int × Int) : List Int := acc ++ List.replicate (min p.1.toNat (m - acc.length)) p.2
theorem fill_each : ∀ (L : List (Int × Int)) (q : Int × Int) (m : Nat) (acc : List Int), acc.length ≤ m →
    ((L ++ [q]).foldl (fill m) acc) ++ List.replicate (m - ((L ++ [q]).foldl (fill m) acc).length) q.2 = acc ++ eachOf (L ++ [q]) (m - acc.length)
  | [], (n, l), m, acc, h => by
    show (acc ++ List.replicate (min n.toNat (m - acc.length)) l) ++ List.replicate (m - (acc ++ List.replicate (min n.toNat (m - acc.length)) l).length) l = acc ++ List.replicate (m - acc.length) l
    rw [List.append_assoc, List.replicate_append_replicate, List.length_append, List.length_replicate]
    congr 2
    omega
  | (n, l) :: r, q, m, acc, h => by
    have hl : (fill m acc (n, l)).length = acc.length + min n.toNat (m - acc.length) := by
      show (acc ++ List.replicate (min n.toNat (m - acc.length)) l).length = _
      rw [List.length_append, List.length_replicate]
    have ih := fill_each r q m (fill m acc (n, l)) (by rw [hl]; omega)
    have e0 : ((n, l) :: r ++ [q]).foldl (fill m) acc = (r ++ [q]).foldl (fill m) (fill m acc (n, l)) := rfl
    rw [e0, ih, hl]
    have e : eachOf ((n, l) :: r ++ [q]) (m - acc.length) = List.replicate (min n.toNat (m - acc.length)) l ++ eachOf (r ++ [q]) ((m - acc.length) - min n.toNat (m - acc.length)) := by
      cases r with
      | nil => rfl
      | cons a b => rfl
    rw [e, show m - (acc.length + min n.toNat (m - acc.length)) = (m - acc.length) - min n.toNat (m - acc.length) by omega]
    show (acc ++ List.replicate (min n.toNat (m - acc.length)) l) ++ _ = _
    rw [List.append_assoc]
/-- Python's max of two -/
def mx (a b : Int) : Int := if b > a then b else a
theorem mx_step (air full s e : Int) (he : 0 ≤ e) : mx air (mx air (full - s) - e) = mx air (full - (s + e)) := by
  unfold mx
  split <;> split <;> (try split) <;> omega
theorem mx_start (air full : Int) (h : air ≤ full) : full = mx air (full - 0) := by
  unfold mx
  split <;> omega
end HM
namespace HP
open PySem L2
def top (i : Nat) : Stmt := PySem.Challenge.pw_hotpass_k02_heats_beat_by_beat.main.body.getD i (.Pass ⟨0, 0, 0, 0⟩)
/-! ### a def called by its name -/
structure Df (P : Program) (w : World) (K : PySem.W.Frag) (mg : Str → Option Value) (base : Heap) (x : Str) (k : Nat) (ps : List Str) (sp : Sp) : Prop where
  ex : ∃ (f : Addr) (fd : FuncData), FnOk P w K mg base CX0 k f fd ps sp ∧ mg x = some (.ref f) ∧ PySem.W.keepIn K (.ref f) = true ∧ Binds K fd ps []
theorem pe_fn {X : Cx} {x : Str} {k : Nat} {ps : List Str} {sp : Sp} {p pos : Pos} {e : Expr} {es : List Expr} {t : TA} (D : Df X.prog X.w X.K X.mg X.base x k ps sp) (hr : Room k X.A) (ha : PA X (e :: es) t)
    (hg : Gl X x := by rfl) (hdb : (x == ("__debug__" : Str)) = false := by decide) (he : starEach (e :: es) X.env = (false, eval e X.env) :: starEach es X.env := by rfl) (hpl : (backTo pos (starEach es X.env)).any (·.1) = false := by rfl) :
    PE X (.Call (.Name x p) (e :: es) [] pos) (tCall sp [] E0 t) := by
  obtain ⟨f, fd, F, hm, kp, b⟩ := D.ex
  exact pe_call F hr hg hm kp b .nil pass0 ha hdb he hpl
/-! ### o.m(k = v) -/
def tMethK (C : Addr) (m : Str) (n : Nat) (sp : Sp) (gV : List V → List V → List V) (E : XK) (ta : TE) (tk : TA) : TE := fun σ H Q => ta σ H fun x H1 => ∃ a dx fs, x = .ref a ∧ H1 a = some (.ins C dx fs) ∧ fs.lookup m = none ∧
  tk σ H1 fun zs H2 => zs.length = n ∧ sp (gV [x] zs) H2 Q E
theorem pe_methK0 {X : Cx} {CX : CXT} {k : Nat} {f C : Addr} {fd : FuncData} {ps ks : List Str} {sp : Sp} {E : XK} {m : Str} {apos pos : Pos} {o : Expr} {kws : List Keyword} {ta : TE} {tk : TA} {g : List Value → List Value → List Value} {gV : List V → List V → List V} {pl : Sem Bool}
    (he : PE X o ta) (c : Cls X.K C) (hm : Meth X.K C m f) (F : FnOk X.prog X.w X.K X.mg X.base CX k f fd ps sp) (hr : Room k X.A) (hb : KBn X.K fd ps 1 ks g gV) (hx : Passes CX X E) (hkw : PK X kws tk)
    (hall : (backToKw pos (keywordEach kws X.env)).all (·.1.isSome) = true := by rfl) (hks : (backToKw pos (keywordEach kws X.env)).filterMap (·.1) = ks := by rfl)
    (hpl : ((backTo pos (starEach [] X.env)).any (·.1) || (backToKw pos (keywordEach kws X.env)).any (·.1.isNone)) = false := by rfl)
    (ht : eval (.Call (.Attribute o m apos) [] kws pos) X.env = (do
      let ov ← eval o X.env
      standAt apos.atName
      let (f, first) ← holding [ov] (getMethod ov m pl)
      callWith pos f first (backTo pos (starEach [] X.env)) (backToKw pos (keywordEach kws X.env))) := by rfl) :
    PE X (.Call (.Attribute o m apos) [] kws pos) (tMethK C m ks.length sp gV E ta tk) := by
  refine ⟨fun pins s σ H Q I h => ?_⟩
  refine PySem.W.methodCall_KW (pl := pl) (thn (he.run pins s σ H _ I h) fun u s1 ⟨x, H1, I1, rx, a, dx, fs, ex, ea, l, q⟩ => ?_) ht
  subst ex
  obtain rfl : u = Value.ref a := rx
  refine getmeth_ok I1 ea c hm l ?_
  refine PySem.W.callWith_KW0 (first := [.ref a]) (h₀ := X.base) I.ok.mod.kin hm.kp hall ?_ hpl
  refine thn (hkw.run pos pins s1 σ H1 _ I1 q) fun ws s2 ⟨zs, H2, I2, rz, l2, q2⟩ => ⟨I2.kIn, ?_⟩
  rw [hks]
  exact run_fnN (us := [.ref a]) (vs := [.ref a]) F hr hb hx I2 (.cons rfl .nil) rz rfl l2 q2
/-! ### the names of Python's own that the text reads, its constants -/
structure Txt (mg : Str → Option Value) (tM tL : Tok) : Prop where
  zlen : mg "len" = none
  zrange : mg "range" = none
  zenumerate : mg "enumerate" = none
  zabs : mg "abs" = none
  zmin : mg "min" = none
  zmax : mg "max" = none
  zany : mg "any" = none
  zall : mg "all" = none
  zisinstance : mg "isinstance" = none
  zint : mg "int" = none
  zbool : mg "bool" = none
  zlist : mg "list" = none
  ztuple : mg "tuple" = none
  gMOST : mg "MOST" = some (.int 1000000 tM)
  gMOST_LOSSES : mg "MOST_LOSSES" = some (.int 6 tL)
theorem iteD {c A B : Prop} [Decidable c] (h1 : c → A) (h2 : ¬ c → B) : if decide c = true then A else B := by
  by_cases h : c
  · rw [decide_eq_true h, if_pos rfl]
    exact h1 h
  · rw [decide_eq_false h, if_neg Bool.false_ne_true]
    exact h2 h
/-! ### heaps -/
/-- all but t is as it was -/
def SameBut (t : Addr) (H H' : Hp) : Prop := ∀ b o, H b = some o → b ≠ t → H' b = some o
theorem SameBut.trans {t : Addr} {H H1 H2 : Hp} (a : SameBut t H H1) (b : SameBut t H1 H2) : SameBut t H H2 := fun c o h n => b c o (a c o h n) n
theorem Same.but {t : Addr} {H H' : Hp} (s : Same H H') : SameBut t H H' := fun b o h _ => s b o h
theorem same_new {H : Hp} {p : Addr} {o : HO} (h : H p = none) : Same H (upd H p o) := fun b u e => by
  rw [upd_ne (ne_of_none e h)]
  exact e
/-- a tape of which at most c numbers were counted -/
def TapeAt (H : Hp) (t : Addr) (c : Int) : Prop := ∃ a b k : Int, H t = some (.lst [.int a, .int b, .int k]) ∧ 0 ≤ a ∧ 0 ≤ b ∧ b ≤ 2305843009300000000 ∧ 0 ≤ k ∧ k ≤ c
theorem TapeAt.mono {H : Hp} {t : Addr} {c d : Int} (h : TapeAt H t c) (l : c ≤ d) : TapeAt H t d := by
  obtain ⟨a, b, k, h1, h2, h3, h4, h5, h6⟩ := h
  exact ⟨a, b, k, h1, h2, h3, h4, h5, Int.le_trans h6 l⟩
theorem TapeAt.same {H H' : Hp} {t : Addr} {c : Int} (h : TapeAt H t c) (s : Same H H') : TapeAt H' t c := by
  obtain ⟨a, b, k, h1, h2⟩ := h
  exact ⟨a, b, k, s _ _ h1, h2⟩
theorem TapeAt.some {H : Hp} {t : Addr} {c : Int} (h : TapeAt H t c) : ∃ zs, H t = some (.lst zs) := by
  obtain ⟨a, b, k, h1, h2⟩ := h
  exact ⟨_, h1⟩
theorem SameBut.tup {t : Addr} {c : Int} {H H' : Hp} {a : Addr} {xs : List V} (s : SameBut t H H') (ht : TapeAt H t c) (h : H a = some (.tup xs)) : H' a = some (.tup xs) := by
  obtain ⟨zs, hz⟩ := ht.some
  exact s _ _ h (ne_of h hz (by intro z; cases z))
theorem SameBut.ins {t : Addr} {c : Int} {H H' : Hp} {a C dx : Addr} {fs : List (Str × V)} (s : SameBut t H H') (ht : TapeAt H t c) (h : H a = some (.ins C dx fs)) : H' a = some (.ins C dx fs) := by
  obtain ⟨zs, hz⟩ := ht.some
  exact s _ _ h (ne_of h hz (by intro z; cases z))
/-- pairs of numbers, each a tuple -/
inductive PairsAt (H : Hp) : List V → List (Int × Int) → Prop
  | nil : PairsAt H [] []
  | cons {t : Addr} {m l : Int} {xs : List V} {L : List (Int × Int)} (h : H t = some (.tup [.int m, .int l])) (r : PairsAt H xs L) : PairsAt H (.ref t :: xs) ((m, l) :: L)
theorem PairsAt.len {H : Hp} {xs : List V} {L : List (Int × Int)} (h : PairsAt H xs L) : xs.length = L.length := by
  induction h with
  | nil => rfl
  | cons _ _ ih => rw [List.length_cons, List.length_cons, ih]
theorem PairsAt.get {H : Hp} {xs : List V} {L : List (Int × Int)} (h : PairsAt H xs L) : ∀ {i : Nat} {x : V}, xs[i]? = some x → ∃ t m l, x = .ref t ∧ H t = some (.tup [.int m, .int l]) ∧ L[i]? = some (m, l) := by
  induction h with
  | nil => intro i x e; simp at e
  | @cons t m l xs L h1 r ih =>
    intro i x e
    cases i with
    | zero =>
      have e' : V.ref t = x := Option.some.inj e
      exact ⟨t, m, l, e'.symm, h1, rfl⟩
    | succ j => exact ih (i := j) e
theorem PairsAt.move {H H' : Hp} {xs : List V} {L : List (Int × Int)} (h : PairsAt H xs L) (s : ∀ a ys, H a = some (.tup ys) → H' a = some (.tup ys)) : PairsAt H' xs L := by
  induction h with
  | nil => exact .nil
  | cons h1 _ ih => exact .cons (s _ _ h1) ih
theorem PairsAt.snoc {H : Hp} {xs : List V} {L : List (Int × Int)} {t : Addr} {m l : Int} (h : PairsAt H xs L) (ht : H t = some (.tup [.int m, .int l])) : PairsAt H (xs ++ [.ref t]) (L ++ [(m, l)]) := by
  induction h with
  | nil => exact .cons ht .nil
  | cons h1 _ ih => exact .cons h1 ih
theorem PairsAt.take {H : Hp} {xs : List V} {L : List (Int × Int)} (h : PairsAt H xs L) : ∀ n : Nat, PairsAt H (xs.take n) (L.take n) := by
  induction h with
  | nil => intro n; simp only [List.take_nil]; exact .nil
  | cons h1 _ ih =>
    intro n
    cases n with
    | zero => exact .nil
    | succ j => exact .cons h1 (ih j)
def GoodL (L : List (Int × Int)) : Prop := L ≠ [] ∧ L.length ≤ 6 ∧ ∀ p ∈ L, 1 ≤ p.1 ∧ p.1 ≤ 1000000 ∧ 0 ≤ p.2 ∧ p.2 ≤ 1000000
/-! ### _law_draw -/
def spDraw : Sp := fun vs H Q _ => ∃ (t : Addr) (c many : Int), vs = [.ref t, .int many] ∧ TapeAt H t c ∧ c ≤ 100000 ∧ 0 < many ∧ many ≤ 10000000000000 ∧
  ∀ (r : Int) (H' : Hp), 0 ≤ r → r < many → TapeAt H' t (c + 1) → SameBut t H H' → Q (.int r) H'
section
variable {P : Program} {w : World} {K : PySem.W.Frag} {mg : Str → Option Value} {base : Heap}
abbrev sLdraw : Stmt := top 14
theorem scLdraw : FnScope ["_law_tape_here", "_law_many", "_law_found", "_law_once", "_law_twice", "_law_wide"] ["_law_tape_here", "_law_many"] (defScope sLdraw) := ⟨rfl, rfl, rfl, by decide +kernel, rfl, by decide +kernel, by decide +kernel⟩
theorem wd {i j : Int} (h : 0 < j) (h2 : j ≤ 10000000000000) : CDivW i j := wide_div (b := 64) h (by omega) (by decide) (by decide)
theorem ok_draw {f : Addr} {fd : FuncData} (F : Fun K "_law_draw" "_law_draw" sLdraw f fd) : FnOk P w K mg base CX0 1 f fd ["_law_tape_here", "_law_many"] spDraw := by
  refine F.ok scLdraw (fun vs H Q E h => ?_) (fun cdv A outer s H vs Q E hr h => ?_)
  · obtain ⟨t, c, many, rfl, _⟩ := h
    rfl
  · obtain ⟨t, c, many, rfl, ⟨a, b, k, ht, ha, hb, hb2, hk, hkc⟩, hc, hm, hm2, q⟩ := h
    refine ⟨_, (pss_cons (ps_if (pt_cmp (pc_gt (pe_ix ix_list (pv 0) pe_int (fun _ _ => rfl)) pe_int)) (pss_cons (ps_set (i := 2) scLdraw.nd rfl (Or.inl rfl) (pe_op op_mod (pe_ix ix_list (pv 0) pe_int (fun _ _ => rfl)) (pv 1)))
    (pss_cons (ps_asg (pe_op op_fdivW (pe_ix ix_list (pv 0) pe_int (fun _ _ => rfl)) (pv 1)) (pg_sub (pv 0) pe_int set_list))
    (pss_one (ps_ret (pv 2))))) pss_nil)
    (pss_cons (ps_asg (pe_op op_add (pe_ix ix_list (pv 0) pe_int (fun _ _ => rfl)) pe_int) (pg_sub (pv 0) pe_int set_list))
    (pss_cons (ps_set (i := 3) scLdraw.nd rfl (Or.inl rfl) (pe_op op_mod (pe_op op_pow (pe_op op_add (pe_ix ix_list (pv 0) pe_int (fun _ _ => rfl)) (pe_op op_mul pe_int (pe_ix ix_list (pv 0) pe_int (fun _ _ => rfl)))) pe_int) pe_int))
    (pss_cons (ps_set (i := 4) scLdraw.nd rfl (Or.inl rfl) (pe_op op_mod (pe_op op_mul (pe_op op_add (pv 3) (pe_ix ix_list (pv 0) pe_int (fun _ _ => rfl))) (pe_op op_add (pe_op op_add (pe_op op_mod (pv 3) pe_int) pe_int) (pe_ix ix_list (pv 0) pe_int (fun _ _ => rfl)))) pe_int))
    (pss_cons (ps_set (i := 5) scLdraw.nd rfl (Or.inl rfl) (pe_op op_mod (pe_op op_add (pe_op op_add (pe_op op_fdivW (pe_ix ix_list (pv 0) pe_int (fun _ _ => rfl)) pe_int) (pe_op op_mul (pv 4) pe_int)) (pe_ix ix_list (pv 0) pe_int (fun _ _ => rfl))) pe_int))
    (pss_one (ps_ret (pe_op op_mod (pe_op op_fdivW (pe_op op_mod (pe_op op_add (pe_op op_add (pe_op op_mul (pv 4) pe_int) (pe_op op_mul (pv 5) pe_int)) (pv 3)) pe_int) pe_int) (pv 1))))))))), ?_⟩
    have S0 : SqL K H t [.int a, .int b, .int k] := SqL.of ht
    refine ⟨_, rfl, t, _, 0, .int a, rfl, rfl, S0, rfl, a, 0, rfl, rfl, _, rfl, ?_⟩
    refine iteD (fun ca => ?_) (fun ca => ?_)
    · show tSeq _ _ _ _ _
      refine ⟨_, rfl, t, _, 0, .int a, rfl, rfl, S0, rfl, _, rfl, a, many, rfl, rfl, hm, ?_⟩
      refine ⟨_, rfl, t, _, 0, .int a, rfl, rfl, S0, rfl, _, rfl, a, many, rfl, rfl, wd hm hm2, ?_⟩
      refine ⟨_, rfl, t, _, 0, 0, rfl, rfl, ht, rfl, ?_⟩
      refine ⟨_, rfl, ?_⟩
      refine q (a % many) _ (Int.emod_nonneg _ (by omega)) (Int.emod_lt_of_pos _ hm) ⟨a / many, b, k, upd_same, Int.ediv_nonneg (by omega) (by omega), hb, hb2, hk, by omega⟩ (fun x o e n => ?_)
      rw [upd_ne n]
      exact e
    · show tNext _ _ _
      refine ⟨_, rfl, t, _, 2, .int k, rfl, rfl, S0, rfl, k, 1, rfl, rfl, ?_⟩
      refine ⟨_, rfl, t, _, 2, 2, rfl, rfl, ht, rfl, ?_⟩
      have S1 : SqL K (upd H t (.lst [.int a, .int b, .int (k + 1)])) t [.int a, .int b, .int (k + 1)] := SqL.of upd_same
      show tSeq _ _ _ _ (upd H t (.lst [.int a, .int b, .int (k + 1)]))
      refine ⟨_, rfl, t, _, 1, .int b, rfl, rfl, S1, rfl, _, rfl, t, _, 2, .int (k + 1), rfl, rfl, S1, rfl, 39373, k + 1, rfl, rfl, .inl ⟨by decide, by decide⟩, b, 39373 * (k + 1), rfl, rfl, _, 5, rfl, rfl, ⟨by decide, by decide, by omega⟩, _, 2147483647, rfl, rfl, (show (0 : Int) < 2147483647 by decide), ?_⟩
      dsimp only
      have o1 : 0 ≤ ((b + 39373 * (k + 1)) ^ (5 : Int).toNat) % 2147483647 := Int.emod_nonneg _ (by decide)
      have o2 : ((b + 39373 * (k + 1)) ^ (5 : Int).toNat) % 2147483647 < 2147483647 := Int.emod_lt_of_pos _ (by decide)
      generalize ((b + 39373 * (k + 1)) ^ (5 : Int).toNat) % 2147483647 = once at o1 o2
      refine ⟨_, rfl, _, rfl, t, _, 2, .int (k + 1), rfl, rfl, S1, rfl, once, k + 1, rfl, rfl, _, rfl, once, 40009, rfl, rfl, (show (0 : Int) < 40009 by decide), _, 7, rfl, rfl, _, rfl, t, _, 2, .int (k + 1), rfl, rfl, S1, rfl, _, k + 1, rfl, rfl, _, _, rfl, rfl, .inl ⟨by omega, by omega⟩, _, 2147483629, rfl, rfl, (show (0 : Int) < 2147483629 by decide), ?_⟩
      dsimp only
      generalize hz2 : ((once + (k + 1)) * (once % 40009 + 7 + (k + 1))) % 2147483629 = twice
      have t1 : 0 ≤ twice := by rw [← hz2]; exact Int.emod_nonneg _ (by decide)
      have t2 : twice < 2147483629 := by rw [← hz2]; exact Int.emod_lt_of_pos _ (by decide)
      refine ⟨_, rfl, t, _, 1, .int b, rfl, rfl, S1, rfl, b, 2147483647, rfl, rfl, wd (by decide) (by decide), _, rfl, twice, 40009, rfl, rfl, .inl ⟨by omega, by omega⟩, _, _, rfl, rfl, _, rfl, t, _, 2, .int (k + 1), rfl, rfl, S1, rfl, _, k + 1, rfl, rfl, _, 2305843009213693951, rfl, rfl, (show (0 : Int) < 2305843009213693951 by decide), ?_⟩
      dsimp only
      generalize hz3 : (b / 2147483647 + twice * 40009 + (k + 1)) % 2305843009213693951 = wide
      have w1 : 0 ≤ wide := by rw [← hz3]; exact Int.emod_nonneg _ (by decide)
      have w2 : wide < 2305843009213693951 := by rw [← hz3]; exact Int.emod_lt_of_pos _ (by decide)
      refine ⟨_, rfl, twice, 48271, rfl, rfl, .inl ⟨by omega, by omega⟩, _, rfl, wide, 39373, rfl, rfl, .inl ⟨by omega, by omega⟩, _, _, rfl, rfl, _, rfl, _, once, rfl, rfl, _, 2305843009213693921, rfl, rfl, (show (0 : Int) < 2305843009213693921 by decide), _, 64, rfl, rfl, wd (by decide) (by decide), _, rfl, _, many, rfl, rfl, hm, ?_⟩
      refine q _ _ (Int.emod_nonneg _ (by omega)) (Int.emod_lt_of_pos _ hm) ⟨a, b, k + 1, upd_same, ha, hb, hb2, by omega, by omega⟩ (fun x o e n => ?_)
      rw [upd_ne n]
      exact e
end
end HP
namespace HP
open PySem L2
section
variable {P : Program} {w : World} {K : PySem.W.Frag} {mg : Str → Option Value} {base : Heap} {tM tL : Tok}
/-! ### _law_tape -/
def spTape (K : PySem.W.Frag) : Sp := fun vs H Q _ => ∃ (a : Addr) (ns : List Int) (k : Int), vs = [.ref a, .int k] ∧ SqL K H a (ns.map V.int) ∧ 0 ≤ k ∧ k ≤ 1000 ∧
  ∀ (t : Addr) (H' : Hp), H t = none → TapeAt H' t 0 → Same H H' → Q (.ref t) H'
abbrev sLtape : Stmt := top 13
theorem scLtape : FnScope ["_law_script", "_law_k", "_law_cell"] ["_law_script", "_law_k"] (defScope sLtape) := ⟨rfl, rfl, rfl, by decide +kernel, rfl, by decide +kernel, by decide +kernel⟩
theorem map_int {ns : List Int} {i : Nat} {y : V} (h : (ns.map V.int)[i]? = some y) : ∃ z, ns[i]? = some z ∧ y = .int z := by
  rw [List.getElem?_map] at h
  cases e : ns[i]? with
  | none => rw [e] at h; cases h
  | some z => rw [e] at h; exact ⟨z, rfl, (Option.some.inj h).symm⟩
theorem at_int {ns : List Int} {k : Int} (h0 : 0 ≤ k) (h1 : k < ((ns.map V.int).length : Int)) : ∃ z, atI (ns.map V.int) k = some (V.int z) := by
  have hl : k.toNat < ns.length := by rw [List.length_map] at h1; omega
  refine ⟨ns[k.toNat], at_of (j := k.toNat) (by omega) ?_⟩
  rw [List.getElem?_map, List.getElem?_eq_getElem hl]
  rfl
theorem cm01 (x : Int) (b : Bool) : CMul x (if b = true then 1 else 0) := .inr (by cases b <;> decide)
theorem ok_tape {f : Addr} {fd : FuncData} (F : Fun K "_law_tape" "_law_tape" sLtape f fd) (T : Txt mg tM tL) : FnOk P w K mg base CX0 1 f fd ["_law_script", "_law_k"] (spTape K) := by
  refine F.ok scLtape (fun vs H Q E h => ?_) (fun cdv A outer s H vs Q E hr h => ?_)
  · obtain ⟨a, ns, k, rfl, _⟩ := h
    rfl
  · obtain ⟨a, ns, k, rfl, hS, h0, h1, q⟩ := h
    refine ⟨_, (pss_cons (ps_set (i := 2) scLtape.nd rfl (Or.inl rfl) (pe_ifExp (pt_cmp (pc_lt (pv 1) (pe_callB call_len_seq (by rfl) T.zlen (by decide +kernel) (pa_cons (pv 0) pa_nil)))) (pe_ix ix_list (pv 0) (pv 1) (fun _ _ => rfl)) pe_int))
    (pss_one (ps_ret (pe_lst (pa_cons (pe_op op_mul (pe_callB call_abs (by rfl) T.zabs (by decide +kernel) (pa_cons (pv 2) pa_nil)) (pe_callTy call_int1 (by rfl) T.zint (by decide +kernel) (pa_cons (pe_cmp (pc_ge (pe_callB call_abs (by rfl) T.zabs (by decide +kernel) (pa_cons (pv 2) pa_nil)) (pe_op op_pow pe_int pe_int))) pa_nil))) (pa_cons (pe_op op_add (pe_op op_add (pe_op op_mod (pv 2) pe_int) (pe_op op_mul pe_int (pv 1))) pe_int) (pa_cons pe_int pa_nil))))))), ?_⟩
    have fin : ∀ z : Int, ∀ p, H p = none → Q (.ref p) (upd H p (.lst [.int ((if z < 0 then -z else z) * (if decide ((10 : Int) ^ (18 : Int).toNat ≤ (if z < 0 then -z else z)) then 1 else 0)), .int (z % 2305843009213693951 + 39373 * k + 17), .int 0])) := by
      intro z p hp
      refine q p _ hp ⟨_, _, _, upd_same, ?_, ?_, ?_, Int.le_refl _, Int.le_refl _⟩ (same_new hp)
      · refine Int.mul_nonneg ?_ ?_ <;> split <;> omega
      · omega
      · omega
    refine ⟨_, rfl, _, rfl, a, _, rfl, .inl hS, k, _, rfl, rfl, _, rfl, ?_⟩
    refine iteD (fun c1 => ?_) (fun c1 => ?_)
    · obtain ⟨z, hz⟩ := at_int h0 c1
      refine ⟨_, rfl, _, rfl, a, _, k, .int z, rfl, rfl, hS, hz, ?_⟩
      refine ⟨_, rfl, z, rfl, _, rfl, z, rfl, 10, 18, rfl, rfl, ⟨by decide, by decide, by decide⟩, _, _, rfl, rfl, .inr ⟨_, rfl, _, _, rfl, rfl, cm01 _ _, ?_⟩⟩
      refine ⟨_, rfl, z, 2305843009213693951, rfl, rfl, (show (0 : Int) < 2305843009213693951 by decide), _, rfl, 39373, k, rfl, rfl, .inl ⟨by decide, by decide⟩, _, _, rfl, rfl, _, 17, rfl, rfl, (by show 3 ≤ sizeLine; decide), fun p hp => ?_⟩
      exact fin z p hp
    · refine ⟨_, rfl, 0, rfl, _, rfl, 0, rfl, 10, 18, rfl, rfl, ⟨by decide, by decide, by decide⟩, _, _, rfl, rfl, .inr ⟨_, rfl, _, _, rfl, rfl, cm01 _ _, ?_⟩⟩
      refine ⟨_, rfl, 0, 2305843009213693951, rfl, rfl, (show (0 : Int) < 2305843009213693951 by decide), _, rfl, 39373, k, rfl, rfl, .inl ⟨by decide, by decide⟩, _, _, rfl, rfl, _, 17, rfl, rfl, (by show 3 ≤ sizeLine; decide), fun p hp => ?_⟩
      exact fin 0 p hp
/-! ### over enumerate -/
theorem for_enum {K : PySem.W.Frag} {a : Addr} {xs : List V} {g : TG} {tb : TS} {D : Ends} {σ : L2.St} {H : Hp} (Pv : Nat → L2.St → Hp → Prop) (h0 : Pv 0 σ H) (hl : ∀ i σ H, i ≤ xs.length → Pv i σ H → SqL K H a xs)
    (hs : ∀ i x σ H T, xs[i]? = some x → Pv i σ H → H T = none → g (.ref T) σ (upd H T (.tup [.int (i : Nat), x])) fun σ2 H2 => tb { D with nx := Pv (i + 1), ct := Pv (i + 1), bk := D.nx } σ2 H2) (hd : ∀ σ H, Pv xs.length σ H → D.nx σ H) :
    ∃ W : Nat → Nat → L2.St → Hp → Prop, (∃ m, W 0 m σ H) ∧ ∀ i m σ H, W i m σ H →
      ((Ite K a).stop i H ∧ D.nx σ H) ∨ ((Ite K a).go i H ∧ ∃ N : L2.St → Hp → Prop, (∀ σ' H', N σ' H' → ∃ m', m' < m ∧ W (i + 1) m' σ' H') ∧ ∀ x H', (Ite K a).yld i H x H' → g x σ H' fun σ2 H2 => tb { D with nx := N, ct := N, bk := D.nx } σ2 H2) := by
  refine ⟨fun i m σ H => m = xs.length - i ∧ i ≤ xs.length ∧ Pv i σ H, ⟨xs.length, by simp, Nat.zero_le _, h0⟩, ?_⟩
  rintro i m σ H ⟨rfl, hi, p⟩
  have q := hl i σ H hi p
  by_cases hlt : i < xs.length
  · refine .inr ⟨⟨xs, xs[i], q, by simp [hlt]⟩, Pv (i + 1), fun σ' H' p' => ⟨xs.length - (i + 1), by omega, rfl, hlt, p'⟩, fun x H' y => ?_⟩
    obtain ⟨T, z, rfl, hT, rfl, y⟩ := y
    exact hs i z σ H T (y xs q) p hT
  · have e : i = xs.length := by omega
    subst e
    exact .inl ⟨⟨xs, q, Nat.le_refl _⟩, hd σ H p⟩
/-! ### _law_folded -/
theorem cut_ints (ns : List Int) (lo hi : Option Int) : ∃ ys : List Int, cutV (ns.map V.int) lo hi = ys.map V.int ∧ ys.length = min (HT.sIx ns.length ns.length hi - HT.sIx ns.length 0 lo) (ns.length - HT.sIx ns.length 0 lo) := by
  refine ⟨(ns.drop (HT.sIx ns.length 0 lo)).take (HT.sIx ns.length ns.length hi - HT.sIx ns.length 0 lo), ?_, ?_⟩
  · unfold cutV
    rw [List.length_map, List.map_take, List.map_drop]
  · rw [List.length_take, List.length_drop]
def spFolded (K : PySem.W.Frag) : Sp := fun vs H Q _ => ∃ (a : Addr) (ns : List Int) (m : Nat), vs = [.ref a, .int (m : Int)] ∧ SqL K H a (ns.map V.int) ∧ 0 < m ∧ m ≤ 100 ∧ ns.length ≤ 63 ∧
  ∀ (p : Addr) (cs : List Int) (H' : Hp), H p = none → cs.length = min m ns.length → H' p = some (.lst (cs.map V.int)) → Same H H' → Q (.ref p) H'
abbrev sLfolded : Stmt := top 15
theorem scLfolded : FnScope ["_law_script", "_law_many", "_law_cells", "_law_k", "_law_cell"] ["_law_script", "_law_many"] (defScope sLfolded) := ⟨rfl, rfl, rfl, by decide +kernel, rfl, by decide +kernel, by decide +kernel⟩
theorem sIx_pos (n d : Nat) (m : Nat) : HT.sIx n d (some (m : Int)) = min m n := HT.sIx_nat n d m
theorem ok_folded {f : Addr} {fd : FuncData} (F : Fun K "_law_folded" "_law_folded" sLfolded f fd) (T : Txt mg tM tL) : FnOk P w K mg base CX0 1 f fd ["_law_script", "_law_many"] (spFolded K) := by
  refine F.ok scLfolded (fun vs H Q E h => ?_) (fun cdv A outer s H vs Q E hr h => ?_)
  · obtain ⟨a, ns, m, rfl, _⟩ := h
    rfl
  · obtain ⟨a, ns, m, rfl, hS, h0, h1, hn, q⟩ := h
    refine ⟨_, (pss_cons (ps_set (i := 2) scLfolded.nd rfl (Or.inl rfl) (pe_callTy call_list_of (by rfl) T.zlist (by decide +kernel) (pa_cons (pe_slice sl_list (pv 0) po_none (po_some (pv 1))) pa_nil)))
    (pss_cons (ps_for PassesOwn.never rfl (pi_enum (by rfl) T.zenumerate (pa_cons (pe_slice sl_list (pv 0) (po_some (pv 1)) (po_some pe_int)) pa_nil)) (pg_tup rfl (pgs_cons (pg_name (i := 3) scLfolded.nd rfl (Or.inl rfl)) (pgs_cons (pg_name (i := 4) scLfolded.nd rfl (Or.inl rfl)) pgs_nil)))
    (pss_one (ps_asg (pe_op op_add (pe_ix ix_list (pv 2) (pe_op op_mod (pv 3) (pv 1)) (fun _ _ => rfl)) (pe_op op_mul (pv 4) (pe_op op_add (pv 3) pe_int))) (pg_sub (pv 2) (pe_op op_mod (pv 3) (pv 1)) set_list))))
    (pss_one (ps_ret (pv 2))))), ?_⟩
    obtain ⟨c0, e0, l0⟩ := cut_ints ns none (some (m : Int))
    obtain ⟨ys, ey, ly⟩ := cut_ints ns (some (m : Int)) (some 63)
    rw [sIx_pos, HT.sIx_none] at l0
    rw [sIx_pos, show HT.sIx ns.length ns.length (some 63) = min 63 ns.length from HT.sIx_nat ns.length ns.length 63] at ly
    -- _law_cells = list(_law_script[:_law_many])
    refine ⟨_, rfl, _, rfl, _, rfl, a, _, rfl, hS, fun p hp => ⟨p, _, rfl, .inl (SqL.of upd_same), fun l hl => ?_⟩⟩
    have npl : p ≠ l := fun e => by
      rw [e, upd_same] at hl
      cases hl
    have hl0 : H l = none := by
      rw [upd_ne npl.symm] at hl
      exact hl
    have s1 : Same H (upd (upd H p (.lst (cutV (ns.map V.int) none (some (m : Int))))) l (.lst (cutV (ns.map V.int) none (some (m : Int))))) := fun b o e => by
      rw [upd_ne (ne_of_none e hl0), upd_ne (ne_of_none e hp)]
      exact e
    -- for _law_k, _law_cell in enumerate(_law_script[_law_many:63])
    refine ⟨_, rfl, _, rfl, _, rfl, _, rfl, a, _, rfl, s1.seq hS, fun z hz => ⟨z, _, rfl, SqL.of upd_same, ?_⟩⟩
    have nlz : l ≠ z := fun e => by
      rw [← e, upd_same] at hz
      cases hz
    have hz0 : H z = none := s1.free hz
    refine for_enum (K := K) (a := z) (xs := ys.map V.int) (fun i σ H' => ∃ (cs : List Int) (u v : Option V), σ = [some (.ref a), some (.int (m : Int)), some (.ref l), u, v] ∧ H' l = some (.lst (cs.map V.int)) ∧ cs.length = c0.length ∧ H' z = some (.lst (ys.map V.int)) ∧ Same H H')
      ⟨c0, _, _, rfl, by rw [upd_ne nlz, upd_same, e0], rfl, by rw [upd_same, ey], fun b o e => by rw [upd_ne (ne_of_none e hz0)]; exact s1 b o e⟩ (fun i σ H' _ ⟨_, _, _, _, _, _, h, _⟩ => SqL.of h) ?_ ?_
    · rintro i x σ H' T hi ⟨cs, u, v, rfl, hcs, lcs, hys, s2⟩ hT
      obtain ⟨y, hy, rfl⟩ := map_int hi
      have hil : i < ys.length := (List.getElem?_eq_some_iff.mp hy).1
      have lm : cs.length = m := by omega
      have nTl : l ≠ T := ne_of_none hcs hT
      have nTz : z ≠ T := ne_of_none hys hT
      have hcs' : (upd H' T (.tup [.int (i : Nat), .int y])) l = some (.lst (cs.map V.int)) := by rw [upd_ne nTl]; exact hcs
      refine ⟨T, _, rfl, SqT.of upd_same, rfl, _, _, rfl, _, _, rfl, rfl, ?_⟩
      have im0 : 0 ≤ ((i : Nat) : Int) % (m : Int) := Int.emod_nonneg _ (by omega)
      have im1 : ((i : Nat) : Int) % (m : Int) < (m : Int) := Int.emod_lt_of_pos _ (by omega)
      obtain ⟨c, hc⟩ := at_int (ns := cs) (k := ((i : Nat) : Int) % (m : Int)) im0 (by rw [List.length_map]; omega)
      refine ⟨_, rfl, _, rfl, _, rfl, _, _, rfl, rfl, (show (0 : Int) < (m : Int) by omega), l, _, _, _, rfl, rfl, SqL.of hcs', hc, _, rfl, _, rfl, _, 2, rfl, rfl, y, _, rfl, rfl, .inr ⟨?_, ?_⟩, _, _, rfl, rfl, ?_⟩
      · omega
      · omega
      refine ⟨_, rfl, _, rfl, _, rfl, _, _, rfl, rfl, (show (0 : Int) < (m : Int) by omega), l, _, _, (((i : Nat) : Int) % (m : Int)).toNat, rfl, rfl, hcs', ?_, ?_⟩
      · unfold ixN
        rw [if_pos im0, if_pos (by rw [List.length_map]; omega)]
      refine ⟨cs.set (((i : Nat) : Int) % (m : Int)).toNat (c + y * (((i : Nat) : Int) + 2)), _, _, rfl, ?_, ?_, ?_, ?_⟩
      · rw [upd_same, List.map_set]
      · rw [List.length_set]
        exact lcs
      · rw [upd_ne nlz.symm, upd_ne nTz]
        exact hys
      · intro b o e
        rw [upd_ne (ne_of_none e hl0), upd_ne (ne_of_none (s2 _ _ e) hT)]
        exact s2 _ _ e
    · rintro σ H' ⟨cs, u, v, rfl, hcs, lcs, hys, s2⟩
      refine ⟨_, rfl, ?_⟩
      exact q l cs H' hl0 (by rw [lcs, l0]; omega) hcs s2
end
end HP
namespace HP
open PySem L2
section
variable {P : Program} {w : World} {K : PySem.W.Frag} {mg : Str → Option Value} {base : Heap} {tM tL : Tok}
theorem at3 {x y z r : Int} (h0 : 0 ≤ r) (h1 : r < 3) : ∃ b : Int, atI [V.int x, V.int y, V.int z] r = some (V.int b) ∧ (b = x ∨ b = y ∨ b = z) := by
  have : r = 0 ∨ r = 1 ∨ r = 2 := by omega
  rcases this with rfl | rfl | rfl
  · exact ⟨x, rfl, .inl rfl⟩
  · exact ⟨y, rfl, .inr (.inl rfl)⟩
  · exact ⟨z, rfl, .inr (.inr rfl)⟩
theorem at4 {x y z u r : Int} (h0 : 0 ≤ r) (h1 : r < 4) : ∃ b : Int, atI [V.int x, V.int y, V.int z, V.int u] r = some (V.int b) ∧ (b = x ∨ b = y ∨ b = z ∨ b = u) := by
  have : r = 0 ∨ r = 1 ∨ r = 2 ∨ r = 3 := by omega
  rcases this with rfl | rfl | rfl | rfl
  · exact ⟨x, rfl, .inl rfl⟩
  · exact ⟨y, rfl, .inr (.inl rfl)⟩
  · exact ⟨z, rfl, .inr (.inr (.inl rfl))⟩
  · exact ⟨u, rfl, .inr (.inr (.inr rfl))⟩
theorem TapeAt.ne {H : Hp} {t p : Addr} {c : Int} (h : TapeAt H t c) (hp : H p = none) : p ≠ t := by
  obtain ⟨zs, hz⟩ := h.some
  exact (ne_of_none hz hp).symm
theorem TapeAt.new {H : Hp} {t p : Addr} {c : Int} {o : HO} (h : TapeAt H t c) (hp : H p = none) : TapeAt (upd H p o) t c := h.same (same_new hp)
theorem SameBut.new {t p : Addr} {H H' : Hp} {o : HO} (s : SameBut t H H') (hp : H' p = none) : SameBut t H (upd H' p o) := s.trans (Same.but (same_new hp))
theorem SameBut.free {t p : Addr} {c : Int} {H H' : Hp} (s : SameBut t H H') (ht : TapeAt H' t c) (hp : H' p = none) : H p = none := by
  cases q : H p with
  | none => rfl
  | some o =>
    have n : p ≠ t := ht.ne hp
    rw [s p o q n] at hp
    cases hp
theorem SameBut.pairs {t : Addr} {c : Int} {H H' : Hp} {xs : List V} {L : List (Int × Int)} (s : SameBut t H H') (ht : TapeAt H t c) (h : PairsAt H xs L) : PairsAt H' xs L := h.move fun _ _ e => s.tup ht e
theorem Same.pairs {H H' : Hp} {xs : List V} {L : List (Int × Int)} (s : Same H H') (h : PairsAt H xs L) : PairsAt H' xs L := h.move fun _ _ e => s _ _ e
theorem pow6 : CPow 10 6 := ⟨by decide, by decide, by decide⟩
theorem pow12 : CPow 10 12 := ⟨by decide, by decide, by decide⟩
/-! ### _law_losses -/
def spLosses : Sp := fun vs H Q _ => ∃ (t : Addr) (c : Int), vs = [.ref t] ∧ TapeAt H t c ∧ c ≤ 90000 ∧
  ∀ (p : Addr) (xs : List V) (L : List (Int × Int)) (H' : Hp), H p = none → H' p = some (.lst xs) → PairsAt H' xs L → GoodL L → TapeAt H' t (c + 30) → SameBut t H H' → Q (.ref p) H'
abbrev sLlosses : Stmt := top 16
theorem scLlosses : FnScope ["_law_tape_here", "_law_found", "_law_turn", "_law_many"] ["_law_tape_here"] (defScope sLlosses) := ⟨rfl, rfl, rfl, by decide +kernel, rfl, by decide +kernel, by decide +kernel⟩
abbrev DDraw (P : Program) (w : World) (K : PySem.W.Frag) (mg : Str → Option Value) (base : Heap) : Prop := Df P w K mg base "_law_draw" 1 ["_law_tape_here", "_law_many"] spDraw
theorem ok_losses {f : Addr} {fd : FuncData} (F : Fun K "_law_losses" "_law_losses" sLlosses f fd) (T : Txt mg tM tL) (DLdraw : DDraw P w K mg base) : FnOk P w K mg base CX0 2 f fd ["_law_tape_here"] spLosses := by
  refine F.ok scLlosses (fun vs H Q E h => ?_) (fun cdv A outer s H vs Q E hr h => ?_)
  · obtain ⟨t, c, rfl, _⟩ := h
    rfl
  · obtain ⟨t, c, rfl, hT, hc, q⟩ := h
    refine ⟨_, (pss_cons (ps_set (i := 1) scLlosses.nd rfl (Or.inl rfl) (pe_lst pa_nil))
    (pss_cons (ps_for PassesOwn.never rfl (pi_range1 (by rfl) T.zrange (pa_cons (pe_op op_add pe_int (pe_fn DLdraw (hr.mono (by decide)) (pa_cons (pv 0) (pa_cons pe_int pa_nil)))) pa_nil)) (pg_name (i := 2) scLlosses.nd rfl (Or.inl rfl))
    (pss_cons (ps_set (i := 3) scLlosses.nd rfl (Or.inl rfl) (pe_op op_add pe_int (pe_fn DLdraw (hr.mono (by decide)) (pa_cons (pv 0) (pa_cons (pe_ix ix_list (pe_lst (pa_cons pe_int (pa_cons pe_int (pa_cons (pe_op op_pow pe_int pe_int) pa_nil)))) (pe_fn DLdraw (hr.mono (by decide)) (pa_cons (pv 0) (pa_cons pe_int pa_nil))) (fun _ _ => rfl)) pa_nil)))))
    (pss_one (ps_expr (pe_bm PySem.F.plainAttrs_list PySem.F.slot_list_append PySem.F.type_list_append mt_append (pv 1) (pa_cons (pe_tup (pa_cons (pv 3) (pa_cons (pe_fn DLdraw (hr.mono (by decide)) (pa_cons (pv 0) (pa_cons (pe_ix ix_list (pe_lst (pa_cons pe_int (pa_cons pe_int (pa_cons pe_int (pa_cons (pe_op op_pow pe_int pe_int) pa_nil))))) (pe_fn DLdraw (hr.mono (by decide)) (pa_cons (pv 0) (pa_cons pe_int pa_nil))) (fun _ _ => rfl)) pa_nil))) pa_nil))) pa_nil))))))
    (pss_one (ps_ret (pv 1))))), ?_⟩
    refine ⟨Nat.zero_le _, fun l hl => ?_⟩
    have nlt : l ≠ t := hT.ne hl
    refine ⟨_, rfl, t, c, 6, rfl, hT.new hl, by omega, by decide, by decide, fun r0 H1 a0 a1 T1 S1 => ?_⟩
    refine ⟨1, r0, rfl, rfl, 1 + r0, rfl, by omega, by omega, ?_⟩
    have SB1 : SameBut t H H1 := (Same.but (same_new hl)).trans S1
    have hl1 : H1 l = some (.lst []) := S1 _ _ upd_same nlt
    refine for_range (lo := 0) (n := (1 + r0).toNat) (fun i σ H' => ∃ (xs : List V) (L : List (Int × Int)) (u v : Option V), σ = [some (.ref t), some (.ref l), u, v] ∧ H' l = some (.lst xs) ∧ PairsAt H' xs L ∧ L.length = i ∧ (∀ p ∈ L, 1 ≤ p.1 ∧ p.1 ≤ 1000000 ∧ 0 ≤ p.2 ∧ p.2 ≤ 1000000) ∧ TapeAt H' t (c + 1 + 4 * (i : Int)) ∧ SameBut t H H')
      ⟨[], [], _, _, rfl, hl1, .nil, rfl, (fun p hp => by cases hp), T1.mono (by omega), SB1⟩ ?_ ?_
    · rintro i σ H2 hi ⟨xs, L, u, v, rfl, hx, hP, hL, hB, T2, SB2⟩
      -- _law_many
      refine ⟨_, rfl, 10, 6, rfl, rfl, pow6, (by show 3 ≤ sizeLine; decide), fun d hd => ?_⟩
      refine ⟨_, rfl, t, _, 3, rfl, T2.new hd, by omega, by decide, by decide, fun r1 H3 b0 b1 T3 S3 => ?_⟩
      have hd3 : H3 d = some (.lst [.int 3, .int 40, .int ((10 : Int) ^ (6 : Int).toNat)]) := S3 _ _ upd_same (T2.ne hd)
      obtain ⟨m1, hm1, em1⟩ := at3 (x := 3) (y := 40) (z := (10 : Int) ^ (6 : Int).toNat) b0 b1
      have e6 : (10 : Int) ^ (6 : Int).toNat = 1000000 := by decide
      rw [e6] at em1
      refine ⟨d, _, _, _, rfl, rfl, SqL.of hd3, hm1, t, _, m1, rfl, T3, by omega, by omega, by omega, fun r2 H4 c0 c1 T4 S4 => ?_⟩
      refine ⟨1, r2, rfl, rfl, ?_⟩
      have SB4 : SameBut t H2 H4 := ((Same.but (same_new hd)).trans S3).trans S4
      have hx4 : H4 l = some (.lst xs) := SB4 _ _ hx nlt
      -- _law_found.append(..)
      refine ⟨_, rfl, .inl ⟨rfl, _, SqL.of hx4⟩, _, rfl, _, rfl, 10, 6, rfl, rfl, pow6, (by show 4 ≤ sizeLine; decide), fun d2 hd2 => ?_⟩
      refine ⟨_, rfl, t, _, 4, rfl, T4.new hd2, by omega, by decide, by decide, fun r3 H5 e0 e1 T5 S5 => ?_⟩
      have hd5 : H5 d2 = some (.lst [.int 2, .int 9, .int 200, .int ((10 : Int) ^ (6 : Int).toNat)]) := S5 _ _ upd_same (T4.ne hd2)
      obtain ⟨m2, hm2, em2⟩ := at4 (x := 2) (y := 9) (z := 200) (u := (10 : Int) ^ (6 : Int).toNat) e0 e1
      rw [e6] at em2
      refine ⟨d2, _, _, _, rfl, rfl, SqL.of hd5, hm2, t, _, m2, rfl, T5, by omega, by omega, by omega, fun r4 H6 f0 f1 T6 S6 => ?_⟩
      have SB6 : SameBut t H2 H6 := (SB4.trans ((Same.but (same_new hd2)).trans S5)).trans S6
      refine ⟨(by show 2 ≤ sizeLine; decide), fun tp htp => ?_⟩
      have hx6 : H6 l = some (.lst xs) := SB6 _ _ hx nlt
      have nlp : l ≠ tp := ne_of_none hx6 htp
      have hx7 : (upd H6 tp (.tup [.int (1 + r2), .int r4])) l = some (.lst xs) := by rw [upd_ne nlp]; exact hx6
      refine ⟨l, xs, _, rfl, rfl, hx7, Nat.lt_of_le_of_lt (show xs.length ≤ 6 by rw [hP.len]; omega) (by decide), ?_⟩
      have P6 : PairsAt H6 xs L := SB6.pairs T2 hP
      refine ⟨xs ++ [.ref tp], L ++ [(1 + r2, r4)], _, _, rfl, upd_same, ?_, ?_, ?_, ?_, ?_⟩
      · refine PairsAt.snoc (P6.move fun a ys e => ?_) ?_
        · rw [upd_ne (ne_of e hx6 (by intro z; cases z)), upd_ne (ne_of_none e htp)]
          exact e
        · rw [upd_ne nlp.symm, upd_same]
      · rw [List.length_append, hL]
        rfl
      · intro p hp
        rcases List.mem_append.mp hp with h | h
        · exact hB p h
        · rw [List.mem_singleton] at h
          subst h
          exact ⟨by show 1 ≤ 1 + r2; omega, by show 1 + r2 ≤ 1000000; omega, f0, by show r4 ≤ 1000000; omega⟩
      · obtain ⟨a', b', k', g1, g2⟩ := T6
        refine ⟨a', b', k', ?_, g2.1, g2.2.1, g2.2.2.1, g2.2.2.2.1, by have := g2.2.2.2.2; omega⟩
        rw [upd_ne nlt.symm, upd_ne (ne_of_none g1 htp)]
        exact g1
      · intro b o e n
        have nbl : b ≠ l := ne_of_none e hl
        rw [upd_ne nbl, upd_ne (ne_of_none (SB6 _ _ (SB2 _ _ e n) n) htp)]
        exact SB6 _ _ (SB2 _ _ e n) n
    · rintro σ H2 ⟨xs, L, u, v, rfl, hx, hP, hL, hB, T2, SB2⟩
      refine ⟨_, rfl, ?_⟩
      refine q l xs L H2 hl hx hP ⟨fun e => ?_, ?_, hB⟩ (T2.mono (by omega)) SB2
      · rw [e] at hL
        simp at hL
        omega
      · omega
/-! ### _law_metal -/
structure RowAt (t : Addr) (H : Hp) (r : Addr) (full least air : Int) (L : List (Int × Int)) : Prop where
  ex : ∃ (ll : Addr) (xs : List V), H r = some (.tup [.int full, .int least, .ref ll, .int air]) ∧ H ll = some (.lst xs) ∧ ll ≠ t ∧ PairsAt H xs L
  good : GoodL L
  n1 : 0 ≤ least
  n2 : least ≤ full
  n3 : full ≤ 1000000
  n4 : 0 ≤ air
  n5 : air ≤ full
theorem RowAt.but {t r : Addr} {c : Int} {H H' : Hp} {full least air : Int} {L : List (Int × Int)} (R : RowAt t H r full least air L) (s : SameBut t H H') (ht : TapeAt H t c) : RowAt t H' r full least air L := by
  obtain ⟨⟨ll, xs, h1, h2, h3, h4⟩, g, n1, n2, n3, n4, n5⟩ := R
  exact ⟨⟨ll, xs, s.tup ht h1, s _ _ h2 h3, h3, s.pairs ht h4⟩, g, n1, n2, n3, n4, n5⟩
def spMetal : Sp := fun vs H Q _ => ∃ (t : Addr) (c : Int), vs = [.ref t] ∧ TapeAt H t c ∧ c ≤ 80000 ∧
  ∀ (r : Addr) (full least air : Int) (L : List (Int × Int)) (H' : Hp), RowAt t H' r full least air L → TapeAt H' t (c + 40) → SameBut t H H' → Q (.ref r) H'
abbrev sLmetal : Stmt := top 17
theorem scLmetal : FnScope ["_law_tape_here", "_law_full", "_law_least", "_law_low"] ["_law_tape_here"] (defScope sLmetal) := ⟨rfl, rfl, rfl, by decide +kernel, rfl, by decide +kernel, by decide +kernel⟩
theorem ok_metal {f : Addr} {fd : FuncData} (F : Fun K "_law_metal" "_law_metal" sLmetal f fd) (T : Txt mg tM tL) (DLdraw : DDraw P w K mg base) (DLlosses : Df P w K mg base "_law_losses" 2 ["_law_tape_here"] spLosses) : FnOk P w K mg base CX0 3 f fd ["_law_tape_here"] spMetal := by
  refine F.ok scLmetal (fun vs H Q E h => ?_) (fun cdv A outer s H vs Q E hr h => ?_)
  · obtain ⟨t, c, rfl, _⟩ := h
    rfl
  · obtain ⟨t, c, rfl, hT, hc, q⟩ := h
    refine ⟨_, (pss_cons (ps_set (i := 1) scLmetal.nd rfl (Or.inl rfl) (pe_fn DLdraw (hr.mono (by decide)) (pa_cons (pv 0) (pa_cons (pe_ix ix_list (pe_lst (pa_cons pe_int (pa_cons pe_int (pa_cons (pe_op op_add (pe_op op_pow pe_int pe_int) pe_int) pa_nil)))) (pe_fn DLdraw (hr.mono (by decide)) (pa_cons (pv 0) (pa_cons pe_int pa_nil))) (fun _ _ => rfl)) pa_nil))))
    (pss_cons (ps_par (i := 2) (j := 3) (by rfl) scLmetal.nd rfl rfl (by decide) rfl rfl (pa_cons (pe_fn DLdraw (hr.mono (by decide)) (pa_cons (pv 0) (pa_cons (pe_op op_add (pv 1) pe_int) pa_nil))) (pa_cons (pe_fn DLdraw (hr.mono (by decide)) (pa_cons (pv 0) (pa_cons pe_int pa_nil))) pa_nil)) (by rfl))
    (pss_one (ps_ret (pe_tup (pa_cons (pv 1) (pa_cons (pv 2) (pa_cons (pe_fn DLlosses (hr.mono (by decide)) (pa_cons (pv 0) pa_nil)) (pa_cons (pe_ix ix_list (pe_lst (pa_cons pe_int (pa_cons (pe_fn DLdraw (hr.mono (by decide)) (pa_cons (pv 0) (pa_cons (pe_op op_add (pv 1) pe_int) pa_nil))) (pa_cons (pe_callB (call_min2 rfl) (by rfl) T.zmin (by decide +kernel) (pa_cons (pv 1) (pa_cons (pv 2) pa_nil))) pa_nil)))) (pv 3) (fun _ _ => rfl)) pa_nil))))))))), ?_⟩
    have e6 : (10 : Int) ^ (6 : Int).toNat + 1 = 1000001 := by decide
    refine ⟨_, rfl, 10, 6, rfl, rfl, pow6, _, 1, rfl, rfl, (by show 3 ≤ sizeLine; decide), fun d hd => ?_⟩
    refine ⟨_, rfl, t, _, 3, rfl, hT.new hd, by omega, by decide, by decide, fun r1 H1 b0 b1 T1 S1 => ?_⟩
    have hd1 : H1 d = some (.lst [.int 10, .int 1000, .int ((10 : Int) ^ (6 : Int).toNat + 1)]) := S1 _ _ upd_same (hT.ne hd)
    obtain ⟨m1, hm1, em1⟩ := at3 (x := 10) (y := 1000) (z := (10 : Int) ^ (6 : Int).toNat + 1) b0 b1
    rw [e6] at em1
    refine ⟨d, _, _, _, rfl, rfl, SqL.of hd1, hm1, t, _, m1, rfl, T1, by omega, by omega, by omega, fun full H2 c0 c1 T2 S2 => ?_⟩
    refine ⟨_, rfl, _, rfl, full, 1, rfl, rfl, t, _, full + 1, rfl, T2, by omega, by omega, by omega, fun least H3 d0 d1 T3 S3 => ?_⟩
    refine ⟨_, rfl, t, _, 3, rfl, T3, by omega, by decide, by decide, fun low H4 e0 e1 T4 S4 => ?_⟩
    refine ⟨_, _, rfl, ?_⟩
    -- return (..)
    refine ⟨_, rfl, _, rfl, _, rfl, t, _, rfl, T4, by omega, fun ll xs L H5 hll hx5 P5 G5 T5 S5 => ?_⟩
    refine ⟨_, rfl, _, rfl, full, 1, rfl, rfl, t, _, full + 1, rfl, T5, by omega, by omega, by omega, fun r5 H6 f0 f1 T6 S6 => ?_⟩
    refine ⟨_, rfl, _, rfl, full, least, rfl, (by show 3 ≤ sizeLine; decide), fun d2 hd2 => ?_⟩
    obtain ⟨air, hair, eair⟩ := at3 (x := 0) (y := r5) (z := if least < full then least else full) e0 e1
    refine ⟨_, rfl, d2, _, _, _, rfl, rfl, SqL.of upd_same, hair, (by show 4 ≤ sizeLine; decide), fun r hr' => ?_⟩
    have nll : ll ≠ t := T4.ne hll
    have hx6 : H6 ll = some (.lst xs) := S6 _ _ hx5 nll
    have hx7 : (upd H6 d2 (.lst [.int 0, .int r5, .int (if least < full then least else full)])) ll = some (.lst xs) := by rw [upd_ne (ne_of_none hx6 hd2)]; exact hx6
    have P7 := (S6.pairs T5 P5)
    refine q r full least air L _ ⟨⟨ll, xs, upd_same, ?_, nll, ?_⟩, G5, d0, by omega, ?_, ?_, ?_⟩ ?_ ?_
    · rw [upd_ne (ne_of_none hx7 hr')]
      exact hx7
    · exact Same.pairs (same_new hr') (Same.pairs (same_new hd2) P7)
    · rcases em1 with h | h | h <;> omega
    · rcases eair with h | h | h
      · omega
      · omega
      · rw [h]; split <;> omega
    · rcases eair with h | h | h
      · omega
      · omega
      · rw [h]; split <;> omega
    · exact ((T6.new hd2).new hr').mono (by omega)
    · refine SameBut.new (SameBut.new ?_ hd2) hr'
      exact ((((((Same.but (same_new hd)).trans S1).trans S2).trans S3).trans S4).trans S5).trans S6
end
end HP
namespace HP
open PySem L2
section
variable {P : Program} {w : World} {K : PySem.W.Frag} {mg : Str → Option Value} {base : Heap} {tM tL : Tok}
theorem FunD_ok0 {x qual : Str} {st : Stmt} {dvs : List V} {f : Addr} {fd : FuncData} {N ps : List Str} {k : Nat} {sp : Sp} (F : FunD K x qual (defArgs st) (defBody st) (defScope st) dvs [] f fd) (S : FnScope N ps (defScope st)) (len : ∀ vs H Q E, sp vs H Q E → vs.length = ps.length)
    (hbody : ∀ (cdv : Value) (A : Around) (outer : List Env) (s : Shared) (H : Hp) (vs : List V) (Q : VK) (E : XK), Room k (A.deeper (PyProof.Rows.envOfC qual (defScope st) s.heap.objs.size f cdv)) → sp vs H Q E →
      ∃ t, PSs (cxOf CX0 P w K mg base N qual (defScope st) f cdv A outer s H E).nox (defBody st) t ∧ t { nx := fun _ H' => Q .non H', rt := Q } (start N vs) H) : FnOk P w K mg base CX0 (k + 1) f fd ps sp :=
  F.ok S len fun cdv A outer s H vs Q E hr h => let ⟨t, a, b⟩ := hbody cdv A outer s H vs Q E hr h; ⟨t, a.nox, b⟩
/-! ### is_number, of a number -/
def spIsNumber : Sp := fun vs H Q _ => ∃ (i lo hi : Int), vs = [.int i, .int lo, .int hi] ∧ lo ≤ i ∧ i ≤ hi ∧ Q (.bl true) H
abbrev sis_number : Stmt := top 2
theorem scis_number : FnScope ["thing", "least", "most"] ["thing", "least", "most"] (defScope sis_number) := ⟨rfl, rfl, rfl, by decide +kernel, rfl, by decide +kernel, by decide +kernel⟩
theorem kit1 : kitB "int" "int" = some true := by decide +kernel
theorem kit2 : kitB "int" "bool" = some false := by decide +kernel
theorem kit3 : kitB "tuple" "tuple" = some true := by decide +kernel
theorem kit4 : kitB "list" "list" = some true := by decide +kernel
theorem ok_is_number {f : Addr} {fd : FuncData} {dvs : List V} (F : FunD K "is_number" "is_number" (defArgs sis_number) (defBody sis_number) (defScope sis_number) dvs [] f fd) (T : Txt mg tM tL) : FnOk P w K mg base CX0 1 f fd ["thing", "least", "most"] spIsNumber := by
  refine FunD_ok0 F scis_number (fun vs H Q E h => ?_) (fun cdv A outer s H vs Q E hr h => ?_)
  · obtain ⟨i, lo, hi, rfl, _⟩ := h
    rfl
  · obtain ⟨i, lo, hi, rfl, h1, h2, q⟩ := h
    refine ⟨_, (pss_cons (ps_if (PW.pt (pw_or (pt_not (pt_val (pe_callB call_isi (by rfl) T.zisinstance (by decide +kernel) (pa_cons (pv 0) (pa_cons (pe_bltn (v := .ty "int") (u := .type "int") (by rfl) T.zint (by decide +kernel) rfl) pa_nil))))) (pw_or1 (pt_val (pe_callB call_isi (by rfl) T.zisinstance (by decide +kernel) (pa_cons (pv 0) (pa_cons (pe_bltn (v := .ty "bool") (u := .type "bool") (by rfl) T.zbool (by decide +kernel) rfl) pa_nil))))))) (pss_one (ps_ret pe_bl)) pss_nil)
      (pss_one (ps_ret (pe_and (pe_cmp (pc_le (pv 1) (pv 0)) rfl) (pe_one (pe_or (pe_cmp (pc_isN (pv 2)) rfl) (pe_one (pe_cmp (pc_le (pv 0) (pv 2)) rfl)))))))), ?_⟩
    refine ⟨_, rfl, _, _, _, _, true, rfl, .ty "int", .base (.int i), kit_ty kit1, true, rfl, iteF ?_⟩
    refine ⟨_, rfl, _, _, _, _, false, rfl, .ty "bool", .base (.int i), kit_ty kit2, false, rfl, iteF ?_⟩
    refine ⟨_, rfl, _, rfl, lo, i, rfl, rfl, _, rfl, iteD (fun _ => ?_) (fun c => absurd h1 c)⟩
    refine ⟨_, rfl, _, rfl, iteD (fun c => absurd c (by simp)) (fun _ => ?_)⟩
    refine ⟨_, rfl, _, rfl, i, hi, rfl, rfl, ?_⟩
    show Q (.bl (decide (i ≤ hi))) H
    rw [decide_eq_true h2]
    exact q
abbrev DIsNumber (P : Program) (w : World) (K : PySem.W.Frag) (mg : Str → Option Value) (base : Heap) : Prop := Df P w K mg base "is_number" 1 ["thing", "least", "most"] spIsNumber
/-! ### is_row, of a list -/
def spIsRow : Sp := fun vs H Q _ => ∃ (p : Addr) (xs : List V) (lo hi : Int), vs = [.ref p, .int lo, .int hi] ∧ H p = some (.lst xs) ∧ lo ≤ (xs.length : Int) ∧ (xs.length : Int) ≤ hi ∧ ∀ H', Same H H' → Q (.bl true) H'
abbrev sis_row : Stmt := top 3
theorem scis_row : FnScope ["thing", "least", "most"] ["thing", "least", "most"] (defScope sis_row) := ⟨rfl, rfl, rfl, by decide +kernel, rfl, by decide +kernel, by decide +kernel⟩
theorem ok_is_row {f : Addr} {fd : FuncData} (F : Fun K "is_row" "is_row" sis_row f fd) (T : Txt mg tM tL) : FnOk P w K mg base CX0 1 f fd ["thing", "least", "most"] spIsRow := by
  refine F.ok scis_row (fun vs H Q E h => ?_) (fun cdv A outer s H vs Q E hr h => ?_)
  · obtain ⟨p, xs, lo, hi, rfl, _⟩ := h
    rfl
  · obtain ⟨p, xs, lo, hi, rfl, hp, h1, h2, q⟩ := h
    refine ⟨_, (pss_one (ps_ret (pe_and (pe_callB call_isiT (by rfl) T.zisinstance (by decide +kernel) (pa_cons (pv 0) (pa_cons (pe_tup (pa_cons (pe_bltn (v := .ty "list") (u := .type "list") (by rfl) T.zlist (by decide +kernel) rfl) (pa_cons (pe_bltn (v := .ty "tuple") (u := .type "tuple") (by rfl) T.ztuple (by decide +kernel) rfl) pa_nil))) pa_nil))) (pe_one (pe_chain op_le op_le (pv 1) (pe_callB call_len_seq (by rfl) T.zlen (by decide +kernel) (pa_cons (pv 0) pa_nil)) (pv 2)))))), ?_⟩
    refine ⟨_, rfl, (by show 2 ≤ sizeLine; decide), fun d hd => ?_⟩
    have hp1 : (upd H d (.tup [.ty "list", .ty "tuple"])) p = some (.lst xs) := by rw [upd_ne (ne_of_none hp hd)]; exact hp
    refine ⟨_, d, _, _, _, true, rfl, upd_same, .cons (.ty "list") (.cons (.ty "tuple") .nil), .base (.lst hp1), kitAny_cons (b := true) (kit_ty kit4) (fun z => by cases z) (fun _ => rfl), true, rfl, iteT ?_⟩
    refine ⟨_, rfl, _, rfl, p, _, rfl, .inl (SqL.of hp1), lo, _, rfl, rfl, _, rfl, iteD (fun _ => ?_) (fun c => absurd h1 c)⟩
    refine ⟨_, rfl, _, hi, rfl, rfl, ?_⟩
    show Q (.bl (decide ((xs.length : Int) ≤ hi))) _
    rw [decide_eq_true h2]
    exact q _ (same_new hd)
/-! ### is_loss, of a pair -/
def spIsLoss : Sp := fun vs H Q _ => ∃ (p : Addr) (m l : Int), vs = [.ref p] ∧ H p = some (.tup [.int m, .int l]) ∧ 1 ≤ m ∧ m ≤ 1000000 ∧ 0 ≤ l ∧ l ≤ 1000000 ∧ Q (.bl true) H
abbrev sis_loss : Stmt := top 9
theorem scis_loss : FnScope ["thing"] ["thing"] (defScope sis_loss) := ⟨rfl, rfl, rfl, by decide +kernel, rfl, by decide +kernel, by decide +kernel⟩
theorem ok_is_loss {f : Addr} {fd : FuncData} (F : Fun K "is_loss" "is_loss" sis_loss f fd) (T : Txt mg tM tL) (Dis_number : DIsNumber P w K mg base) : FnOk P w K mg base CX0 2 f fd ["thing"] spIsLoss := by
  refine F.ok scis_loss (fun vs H Q E h => ?_) (fun cdv A outer s H vs Q E hr h => ?_)
  · obtain ⟨p, m, l, rfl, _⟩ := h
    rfl
  · obtain ⟨p, m, l, rfl, hp, h1, h2, h3, h4, q⟩ := h
    refine ⟨_, (pss_cons (ps_if (PW.pt (pw_or (pt_not (pt_val (pe_callB call_isi (by rfl) T.zisinstance (by decide +kernel) (pa_cons (pv 0) (pa_cons (pe_bltn (v := .ty "tuple") (u := .type "tuple") (by rfl) T.ztuple (by decide +kernel) rfl) pa_nil))))) (pw_or1 (pt_cmp (pc_neI (pe_callB call_len_seq (by rfl) T.zlen (by decide +kernel) (pa_cons (pv 0) pa_nil)) pe_int))))) (pss_one (ps_ret pe_bl)) pss_nil)
    (pss_one (ps_ret (pe_and (pe_fn Dis_number (hr.mono (by decide)) (pa_cons (pe_ix ix_tup (pv 0) pe_int (fun _ _ => rfl)) (pa_cons pe_int (pa_cons (pe_glob (v := .int 1000000) rfl T.gMOST ⟨_, rfl⟩) pa_nil)))) (pe_one (pe_fn Dis_number (hr.mono (by decide)) (pa_cons (pe_ix ix_tup (pv 0) pe_int (fun _ _ => rfl)) (pa_cons pe_int (pa_cons (pe_glob (v := .int 1000000) rfl T.gMOST ⟨_, rfl⟩) pa_nil))))))))), ?_⟩
    refine ⟨_, rfl, _, _, _, _, true, rfl, .ty "tuple", .base (.tup hp), kit_ty kit3, true, rfl, iteF ?_⟩
    refine ⟨_, rfl, p, _, rfl, .inr (SqT.of hp), _, _, rfl, rfl, false, rfl, iteF ?_⟩
    refine ⟨_, rfl, p, _, 0, .int m, rfl, rfl, SqT.of hp, rfl, m, 1, 1000000, rfl, h1, h2, true, rfl, iteT ?_⟩
    exact ⟨_, rfl, p, _, 1, .int l, rfl, rfl, SqT.of hp, rfl, l, 0, 1000000, rfl, h3, h4, q⟩
/-! ### are_losses, of a list of pairs -/
def spAreLosses : Sp := fun vs H Q _ => ∃ (p : Addr) (xs : List V) (L : List (Int × Int)), vs = [.ref p] ∧ H p = some (.lst xs) ∧ PairsAt H xs L ∧ GoodL L ∧ ∀ H', Same H H' → Q (.bl true) H'
abbrev sare_losses : Stmt := top 10
theorem scare_losses : FnScope ["thing", "pair"] ["thing"] (defScope sare_losses) := ⟨rfl, rfl, rfl, by decide +kernel, rfl, by decide +kernel, by decide +kernel⟩
theorem rep_snoc {α : Type} (i : Nat) (x : α) : List.replicate i x ++ [x] = List.replicate (i + 1) x := by
  rw [List.replicate_succ']
theorem all_rep (n : Nat) : (List.replicate n true).all id = true := by
  induction n with
  | zero => rfl
  | succ k ih => rw [List.replicate_succ, List.all_cons, ih]; rfl
theorem good_at {L : List (Int × Int)} (G : GoodL L) {i : Nat} {m l : Int} (h : L[i]? = some (m, l)) : 1 ≤ m ∧ m ≤ 1000000 ∧ 0 ≤ l ∧ l ≤ 1000000 := G.2.2 _ (List.mem_of_getElem? h)
theorem ok_are_losses {f : Addr} {fd : FuncData} (F : Fun K "are_losses" "are_losses" sare_losses f fd) (T : Txt mg tM tL) (Dis_row : Df P w K mg base "is_row" 1 ["thing", "least", "most"] spIsRow) (Dis_loss : Df P w K mg base "is_loss" 2 ["thing"] spIsLoss) :
    FnOk P w K mg base CX0 3 f fd ["thing"] spAreLosses := by
  refine F.ok scare_losses (fun vs H Q E h => ?_) (fun cdv A outer s H vs Q E hr h => ?_)
  · obtain ⟨p, xs, L, rfl, _⟩ := h
    rfl
  · obtain ⟨p, xs, L, rfl, hp, hP, G, q⟩ := h
    refine ⟨_, (pss_one (ps_ret (pe_and (pe_fn Dis_row (hr.mono (by decide)) (pa_cons (pv 0) (pa_cons pe_int (pa_cons (pe_glob (v := .int 6) rfl T.gMOST_LOSSES ⟨_, rfl⟩) pa_nil)))) (pe_one (pe_callB (cr_all rfl) (by rfl) T.zall (by decide +kernel) (pa_cons (pe_lc (own := [("pair", 1)]) (g := gName 1) (tt := tYes) (by rfl) scare_losses.nd (pi_list (pv 0)) (blkOk_by (own := [("pair", 1)]) (N := ["thing", "pair"]) (sc := defScope sare_losses) (by decide +kernel)) (fun _ _ _ _ _ => (pg_name (i := 1) scare_losses.nd rfl (Or.inl rfl))) (fun _ _ _ _ _ => pts_nil) (fun _ _ _ _ _ => (pe_fn Dis_loss (hr.mono (by decide)) (pa_cons (pv 1) pa_nil)))) pa_nil)))))), ?_⟩
    have hl := hP.len
    have g2 := G.2.1
    have g1 : 0 < L.length := List.length_pos_iff.mpr G.1
    refine ⟨_, rfl, p, xs, 1, 6, rfl, hp, by omega, by omega, fun H1 s1 => ⟨true, rfl, iteT ?_⟩⟩
    refine ⟨_, rfl, p, rfl, ⟨_, SqL.of (s1 _ _ hp)⟩, fun D hD => ?_⟩
    refine lc_list (K := K) (a := p) (xs := xs) (fun i H' => H' D = some (.lst ((List.replicate i true).map V.bl)) ∧ Same H H')
      ⟨upd_same, fun b o e => (same_new hD) b o (s1 b o e)⟩ (fun i H' _ ⟨_, h⟩ => SqL.of (h _ _ hp)) ?_ ?_
    · rintro i x H' hi ⟨hd, s2⟩
      obtain ⟨t, m, l, rfl, ht, hL⟩ := hP.get hi
      have hil : i < xs.length := (List.getElem?_eq_some_iff.mp hi).1
      obtain ⟨k1, k2, k3, k4⟩ := good_at G hL
      refine ⟨rfl, ?_⟩
      refine ⟨_, rfl, t, m, l, rfl, s2 _ _ ht, k1, k2, k3, k4, _, hd, ?_, ?_, ?_⟩
      · rw [List.length_map, List.length_replicate]
        exact Nat.lt_of_lt_of_le (show i < 6 by omega) (by decide)
      · rw [upd_same, ← rep_snoc, List.map_append]
        rfl
      · intro b o e
        rw [upd_ne (ne_of_none e (s1.free hD))]
        exact s2 _ _ e
    · rintro H' ⟨hd, s2⟩
      refine ⟨D, List.replicate xs.length true, rfl, SqL.of hd, ?_⟩
      rw [all_rep]
      exact q _ s2
/-! ### Metal.__init__ -/
def mf (full least : Int) (tt : Addr) (air : Int) : List (Str × V) := [("full", .int full), ("least", .int least), ("losses", .ref tt), ("air", .int air)]
theorem ne1 : ¬ (("full" : Str) = "least") := by decide +kernel
theorem ne2 : ¬ (("full" : Str) = "losses") := by decide +kernel
theorem ne3 : ¬ (("full" : Str) = "air") := by decide +kernel
theorem ne4 : ¬ (("least" : Str) = "losses") := by decide +kernel
theorem ne5 : ¬ (("least" : Str) = "air") := by decide +kernel
theorem ne6 : ¬ (("losses" : Str) = "air") := by decide +kernel
theorem mf_eq (full least : Int) (tt : Addr) (air : Int) : putF "air" (.int air) (putF "losses" (.ref tt) (putF "least" (.int least) (putF "full" (.int full) []))) = mf full least tt air := by
  simp only [putF, if_neg ne1, if_neg ne2, if_neg ne3, if_neg ne4, if_neg ne5, if_neg ne6]
  rfl
theorem mf_full (full least : Int) (tt : Addr) (air : Int) : (mf full least tt air).lookup ("full" : Str) = some (.int full) := by rw [← mf_eq]; simp only [lookup_putF, if_neg ne1, if_neg ne2, if_neg ne3, if_pos]
theorem mf_losses (full least : Int) (tt : Addr) (air : Int) : (mf full least tt air).lookup ("losses" : Str) = some (.ref tt) := by rw [← mf_eq]; simp only [lookup_putF, if_neg ne6, if_pos]
theorem mf_air (full least : Int) (tt : Addr) (air : Int) : (mf full least tt air).lookup ("air" : Str) = some (.int air) := by rw [← mf_eq]; simp only [lookup_putF, if_pos]
theorem mf_heat (full least : Int) (tt : Addr) (air : Int) : (mf full least tt air).lookup ("heat" : Str) = none := by
  rw [← mf_eq]
  simp only [lookup_putF, if_neg (show ¬ (("heat" : Str) = "air") by decide +kernel), if_neg (show ¬ (("heat" : Str) = "losses") by decide +kernel), if_neg (show ¬ (("heat" : Str) = "least") by decide +kernel), if_neg (show ¬ (("heat" : Str) = "full") by decide +kernel)]
  rfl
structure MetalTxt (K : PySem.W.Frag) (C : Addr) : Prop where
  cl : Cls K C
  n1 : NoAttr K C "full"
  n2 : NoAttr K C "least"
  n3 : NoAttr K C "losses"
  n4 : NoAttr K C "air"
def spInit (C : Addr) : Sp := fun vs H Q _ => ∃ (x dx ll : Addr) (xs : List V) (L : List (Int × Int)) (full least air : Int), vs = [.ref x, .int full, .int least, .ref ll, .int air] ∧ H x = some (.ins C dx []) ∧ H ll = some (.lst xs) ∧ PairsAt H xs L ∧ GoodL L ∧
  0 ≤ least ∧ least ≤ full ∧ full ≤ 1000000 ∧ 0 ≤ air ∧ air ≤ full ∧
  ∀ (tt : Addr) (ys : List V) (H' : Hp), H' x = some (.ins C dx (mf full least tt air)) → H' tt = some (.tup ys) → PairsAt H' ys L → (∀ b o, H b = some o → b ≠ x → H' b = some o) → Q .non H'
abbrev sMetal_init : Stmt := inClass (top 11) 0
theorem scMetal_init : FnScope ["self", "full", "least", "losses", "air", "many", "loss"] ["self", "full", "least", "losses", "air"] (defScope sMetal_init) := ⟨rfl, rfl, rfl, by decide +kernel, rfl, by decide +kernel, by decide +kernel⟩
theorem ok_init {f C : Addr} {fd : FuncData} {dvs : List V} (F : FunD K "__init__" "Metal.__init__" (defArgs sMetal_init) (defBody sMetal_init) (defScope sMetal_init) dvs [] f fd) (T : Txt mg tM tL) (MT : MetalTxt K C) (Dis_number : DIsNumber P w K mg base)
    (Dare_losses : Df P w K mg base "are_losses" 3 ["thing"] spAreLosses) : FnOk P w K mg base CX0 4 f fd ["self", "full", "least", "losses", "air"] (spInit C) := by
  refine FunD_ok0 F scMetal_init (fun vs H Q E h => ?_) (fun cdv A outer s H vs Q E hr h => ?_)
  · obtain ⟨x, dx, ll, xs, L, full, least, air, rfl, _⟩ := h
    rfl
  · obtain ⟨x, dx, ll, xs, L, full, least, air, rfl, hx, hll, hP, G, n1, n2, n3, n4, n5, q⟩ := h
    refine ⟨_, (pss_cons (ps_if (pt_not (pt_val (pe_fn Dis_number (hr.mono (by decide)) (pa_cons (pv 1) (pa_cons pe_int (pa_cons (pe_glob (v := .int 1000000) rfl T.gMOST ⟨_, rfl⟩) pa_nil)))))) (pss_one ps_never) pss_nil)
    (pss_cons (ps_if (pt_not (pt_val (pe_fn Dis_number (hr.mono (by decide)) (pa_cons (pv 2) (pa_cons pe_int (pa_cons (pv 1) pa_nil)))))) (pss_one ps_never) pss_nil)
    (pss_cons (ps_if (pt_not (pt_val (pe_fn Dis_number (hr.mono (by decide)) (pa_cons (pv 4) (pa_cons pe_int (pa_cons (pv 1) pa_nil)))))) (pss_one ps_never) pss_nil)
    (pss_cons (ps_if (pt_not (pt_val (pe_fn Dare_losses (hr.mono (by decide)) (pa_cons (pv 3) pa_nil)))) (pss_one ps_never) pss_nil)
    (pss_cons (ps_fld (pv 0) (pv 1) rfl)
    (pss_cons (ps_fld (pv 0) (pv 2) rfl)
    (pss_cons (ps_fld (pv 0) (pe_callTy call_tuple_of (by rfl) T.ztuple (by decide +kernel) (pa_cons (pe_lc (own := [("many", 5), ("loss", 6)]) (g := gTup K 2 (gCons (gName 5) (gCons (gName 6) gNil))) (tt := tYes) (by rfl) scMetal_init.nd (pi_list (pv 3)) (blkOk_by (own := [("many", 5), ("loss", 6)]) (N := ["self", "full", "least", "losses", "air", "many", "loss"]) (sc := defScope sMetal_init) (by decide +kernel)) (fun _ _ _ _ _ => (pg_tup rfl (pgs_cons (pg_name (i := 5) scMetal_init.nd rfl (Or.inl rfl)) (pgs_cons (pg_name (i := 6) scMetal_init.nd rfl (Or.inl rfl)) pgs_nil)))) (fun _ _ _ _ _ => pts_nil) (fun _ _ _ _ _ => (pe_tup (pa_cons (pv 5) (pa_cons (pv 6) pa_nil))))) pa_nil)) rfl)
    (pss_one (ps_fld (pv 0) (pv 4) rfl))))))))), ?_⟩
    refine ⟨_, rfl, full, 0, 1000000, rfl, by omega, n3, true, rfl, iteF ?_⟩
    refine ⟨_, rfl, _, rfl, least, 0, full, rfl, n1, n2, true, rfl, iteF ?_⟩
    refine ⟨_, rfl, _, rfl, air, 0, full, rfl, n4, n5, true, rfl, iteF ?_⟩
    refine ⟨_, rfl, ll, xs, L, rfl, hll, hP, G, fun H1 s1 => ⟨true, rfl, iteF ?_⟩⟩
    have hx1 : H1 x = some (.ins C dx []) := s1 _ _ hx
    refine ⟨_, rfl, _, rfl, x, C, dx, _, rfl, hx1, MT.cl, MT.n1, (by show 0 < 1000; decide), ?_⟩
    refine ⟨_, rfl, _, rfl, x, C, dx, _, rfl, upd_same, MT.cl, MT.n2, (by show 1 < 1000; decide), ?_⟩
    rw [upd_upd]
    have nxl : ll ≠ x := ne_of hll hx (by intro z; cases z)
    generalize hH2 : upd H1 x (.ins C dx (putF "least" (.int least) (putF "full" (.int full) []))) = H2
    have hx2 : H2 x = some (.ins C dx (putF "least" (.int least) (putF "full" (.int full) []))) := by rw [← hH2]; exact upd_same
    have s2 : ∀ b o, H b = some o → b ≠ x → H2 b = some o := fun b o e n => by rw [← hH2, upd_ne n]; exact s1 _ _ e
    have P2 : PairsAt H2 xs L := hP.move fun a ys e => s2 _ _ e (ne_of e hx (by intro z; cases z))
    have hll2 : H2 ll = some (.lst xs) := s2 _ _ hll nxl
    refine ⟨_, rfl, ll, rfl, ⟨_, SqL.of hll2⟩, fun D hD => ?_⟩
    refine lc_list (K := K) (a := ll) (xs := xs) (fun i H' => ∃ ys, H' D = some (.lst ys) ∧ PairsAt H' ys (L.take i) ∧ Same H2 H')
      ⟨[], upd_same, (by rw [List.take_zero]; exact .nil), same_new hD⟩ (fun i H' _ ⟨_, _, _, h⟩ => SqL.of (h _ _ hll2)) ?_ ?_
    · rintro i y H' hi ⟨ys, hys, hPy, s3⟩
      obtain ⟨t, m, l, rfl, ht, hL⟩ := P2.get hi
      refine ⟨t, _, rfl, SqT.of (s3 _ _ ht), rfl, _, _, rfl, _, _, rfl, rfl, ?_⟩
      refine ⟨rfl, ?_⟩
      refine ⟨_, rfl, _, rfl, (by show 2 ≤ sizeLine; decide), fun p hp => ?_⟩
      have nDp : D ≠ p := ne_of_none hys hp
      refine ⟨ys, (by rw [upd_ne nDp]; exact hys), ?_, ys ++ [.ref p], upd_same, ?_, ?_⟩
      · have e1 := hPy.len
        rw [List.length_take] at e1
        exact Nat.lt_of_le_of_lt (show ys.length ≤ 6 by have := G.2.1; omega) (by decide)
      · have et : L.take (i + 1) = L.take i ++ [(m, l)] := by
          rw [List.take_add_one, hL]
          rfl
        rw [et]
        refine PairsAt.snoc (hPy.move fun a zs e => ?_) ?_
        · rw [upd_ne (ne_of e hys (by intro z; cases z)), upd_ne (ne_of_none e hp)]
          exact e
        · rw [upd_ne nDp.symm, upd_same]
      · intro b o e
        rw [upd_ne (ne_of_none e hD), upd_ne (ne_of_none (s3 _ _ e) hp)]
        exact s3 _ _ e
    · rintro H' ⟨ys, hys, hPy, s3⟩
      rw [hP.len, List.take_length] at hPy
      refine ⟨D, ys, rfl, .inl ⟨SqL.of hys, fun tt htt => ?_⟩⟩
      have hx3 : H' x = some (.ins C dx (putF "least" (.int least) (putF "full" (.int full) []))) := s3 _ _ hx2
      have nxt : x ≠ tt := ne_of_none hx3 htt
      refine ⟨_, rfl, x, C, dx, _, rfl, (by rw [upd_ne nxt]; exact hx3), MT.cl, MT.n3, (by simp only [putF, if_neg ne1]; show 2 < 1000; decide), ?_⟩
      refine ⟨_, rfl, _, rfl, x, C, dx, _, rfl, upd_same, MT.cl, MT.n4, (by simp only [putF, if_neg ne1, if_neg ne2, if_neg ne4]; show 3 < 1000; decide), ?_⟩
      rw [upd_upd, mf_eq]
      refine q tt ys _ upd_same (by rw [upd_ne nxt.symm, upd_same]) ?_ ?_
      · refine hPy.move fun a zs e => ?_
        rw [upd_ne (ne_of e hx3 (by intro z; cases z)), upd_ne (ne_of_none e htt)]
        exact e
      · intro b o e n
        rw [upd_ne n, upd_ne (ne_of_none (s3 _ _ (s2 _ _ e n)) htt)]
        exact s3 _ _ (s2 _ _ e n)
end
end HP
namespace HP
open PySem L2
section
variable {P : Program} {w : World} {K : PySem.W.Frag} {mg : Str → Option Value} {base : Heap} {tM tL : Tok}
theorem PairsAt.unsnoc {H : Hp} : ∀ {L : List (Int × Int)} {ys : List V} {q : Int × Int}, PairsAt H ys (L ++ [q]) → ∃ zs t, ys = zs ++ [.ref t] ∧ PairsAt H zs L ∧ H t = some (.tup [.int q.1, .int q.2])
  | [], ys, q, h => by
    obtain ⟨m, l⟩ := q
    cases h with
    | @cons t _ _ xs _ h1 r =>
      cases r
      exact ⟨[], t, rfl, .nil, h1⟩
  | p :: L, ys, q, h => by
    obtain ⟨m, l⟩ := p
    cases h with
    | @cons t _ _ xs _ h1 r =>
      obtain ⟨zs, u, e, r1, r2⟩ := PairsAt.unsnoc (L := L) r
      exact ⟨.ref t :: zs, u, by rw [e]; rfl, .cons h1 r1, r2⟩
theorem cut_last (zs : List V) (v : V) : cutV (zs ++ [v]) none (some (-1)) = zs := by
  unfold cutV
  rw [HT.sIx_none]
  have e : HT.sIx (zs ++ [v]).length (zs ++ [v]).length (some (-1)) = zs.length := by
    show (if (-1 : Int) < 0 then ((-1 : Int) + ((zs ++ [v]).length : Int)).toNat else min (-1 : Int).toNat (zs ++ [v]).length) = zs.length
    rw [if_pos (by decide), List.length_append, List.length_singleton]
    omega
  rw [e]
  simp
theorem cut_last_ne (zs : List V) (v : V) : ¬ (HT.sIx (zs ++ [v]).length 0 none = 0 ∧ HT.sIx (zs ++ [v]).length (zs ++ [v]).length (some (-1)) = (zs ++ [v]).length) := by
  rintro ⟨_, h⟩
  have e : HT.sIx (zs ++ [v]).length (zs ++ [v]).length (some (-1)) = zs.length := by
    show (if (-1 : Int) < 0 then ((-1 : Int) + ((zs ++ [v]).length : Int)).toNat else min (-1 : Int).toNat (zs ++ [v]).length) = zs.length
    rw [if_pos (by decide), List.length_append, List.length_singleton]
    omega
  rw [e, List.length_append, List.length_singleton] at h
  omega
theorem GoodL.split {L : List (Int × Int)} (G : GoodL L) : ∃ L0 q, L = L0 ++ [q] := by
  rcases List.eq_nil_or_concat L with h | ⟨L0, q, h⟩
  · exact absurd h G.1
  · exact ⟨L0, q, by rw [h, List.concat_eq_append]⟩
structure MetalAt (C : Addr) (H : Hp) (p : Addr) (full least air : Int) (L : List (Int × Int)) : Prop where
  ex : ∃ (dx tt : Addr) (ys : List V), H p = some (.ins C dx (mf full least tt air)) ∧ H tt = some (.tup ys) ∧ PairsAt H ys L
theorem MetalAt.same {C p : Addr} {H H' : Hp} {full least air : Int} {L : List (Int × Int)} (M : MetalAt C H p full least air L) (s : Same H H') : MetalAt C H' p full least air L := by
  obtain ⟨dx, tt, ys, h1, h2, h3⟩ := M.ex
  exact ⟨dx, tt, ys, s _ _ h1, s _ _ h2, Same.pairs s h3⟩
theorem MetalAt.but {C p t : Addr} {c : Int} {H H' : Hp} {full least air : Int} {L : List (Int × Int)} (M : MetalAt C H p full least air L) (s : SameBut t H H') (ht : TapeAt H t c) : MetalAt C H' p full least air L := by
  obtain ⟨dx, tt, ys, h1, h2, h3⟩ := M.ex
  exact ⟨dx, tt, ys, s.ins ht h1, s.tup ht h2, s.pairs ht h3⟩
def spHeat (C : Addr) : Sp := fun vs H Q _ => ∃ (p : Addr) (b full least air : Int) (L : List (Int × Int)), vs = [.ref p, .int b] ∧ MetalAt C H p full least air L ∧ GoodL L ∧ 0 ≤ b ∧ b ≤ 10000000000000 ∧
  ∀ H', Same H H' → Q (.int (HM.mx air (full - HM.lostOf L b))) H'
abbrev sMetal_heat : Stmt := inClass (top 11) 4
theorem scMetal_heat : FnScope ["self", "beats", "left", "lost", "many", "loss", "spent"] ["self", "beats"] (defScope sMetal_heat) := ⟨rfl, rfl, rfl, by decide +kernel, rfl, by decide +kernel, by decide +kernel⟩
theorem take_more {α : Type} {l : List α} {i : Nat} {x : α} (h : l[i]? = some x) : l.take (i + 1) = l.take i ++ [x] := by
  rw [List.take_add_one, h]
  rfl
theorem fold_more {L : List (Int × Int)} {i : Nat} {p : Int × Int} {s : Int × Int} (h : L[i]? = some p) : (L.take (i + 1)).foldl HM.step s = HM.step ((L.take i).foldl HM.step s) p := by
  rw [take_more h, List.foldl_append]
  rfl
theorem ok_heat {f C : Addr} {fd : FuncData} {dvs : List V} (F : FunD K "heat" "Metal.heat" (defArgs sMetal_heat) (defBody sMetal_heat) (defScope sMetal_heat) dvs [] f fd) (T : Txt mg tM tL) (MT : MetalTxt K C) : FnOk P w K mg base CX0 1 f fd ["self", "beats"] (spHeat C) := by
  refine FunD_ok0 F scMetal_heat (fun vs H Q E h => ?_) (fun cdv A outer s H vs Q E hr h => ?_)
  · obtain ⟨p, b, full, least, air, L, rfl, _⟩ := h
    rfl
  · obtain ⟨p, b, full, least, air, L, rfl, M, G, hb0, hb1, q⟩ := h
    obtain ⟨L0, lq, rfl⟩ := G.split
    obtain ⟨dx, tt, ys, hp, htt, hP⟩ := M.ex
    obtain ⟨zs, u, rfl, hZ, hu⟩ := hP.unsnoc
    refine ⟨_, (pss_cons (ps_set (i := 2) scMetal_heat.nd rfl (Or.inl rfl) (pv 1))
    (pss_cons (ps_set (i := 3) scMetal_heat.nd rfl (Or.inl rfl) pe_int)
    (pss_cons (ps_for PassesOwn.never rfl (pi_tup (pe_slice sl_tup (pe_fld (pv 0) rfl) po_none (po_some (pe_un un_neg pe_int)))) (pg_tup rfl (pgs_cons (pg_name (i := 4) scMetal_heat.nd rfl (Or.inl rfl)) (pgs_cons (pg_name (i := 5) scMetal_heat.nd rfl (Or.inl rfl)) pgs_nil)))
    (pss_cons (ps_set (i := 6) scMetal_heat.nd rfl (Or.inl rfl) (pe_callB (call_min2 rfl) (by rfl) T.zmin (by decide +kernel) (pa_cons (pv 2) (pa_cons (pv 4) pa_nil))))
    (pss_cons (ps_aug (i := 3) scMetal_heat.nd rfl (Or.inl rfl) (pe_op op_mul (pv 6) (pv 5)) ip_add)
    (pss_one (ps_aug (i := 2) scMetal_heat.nd rfl (Or.inl rfl) (pv 6) ip_sub)))))
    (pss_cons (ps_aug (i := 3) scMetal_heat.nd rfl (Or.inl rfl) (pe_op op_mul (pv 2) (pe_ix ix_tup (pe_ix ix_tup (pe_fld (pv 0) rfl) (pe_un un_neg pe_int) (fun _ _ => rfl)) pe_int (fun _ _ => rfl))) ip_add)
    (pss_one (ps_ret (pe_callB (call_max2 rfl) (by rfl) T.zmax (by decide +kernel) (pa_cons (pe_fld (pv 0) rfl) (pa_cons (pe_op op_sub (pe_fld (pv 0) rfl) (pv 3)) pa_nil))))))))), ?_⟩
    refine ⟨_, rfl, ?_⟩
    refine ⟨_, rfl, p, C, dx, _, _, rfl, hp, MT.cl, MT.n3, mf_losses _ _ _ _, 1, rfl, _, rfl, tt, _, rfl, SqT.of htt, cut_last_ne _ _, fun sl hsl => ⟨sl, rfl, ⟨_, SqT.of upd_same⟩, ?_⟩⟩
    have e1 : cutV (zs ++ [V.ref u]) none (some (-1)) = zs := cut_last _ _
    refine for_tup (K := K) (a := sl) (xs := zs) (fun i σ H' => ∃ (left lost : Int) (v4 v5 v6 : Option V), σ = [some (.ref p), some (.int b), some (.int left), some (.int lost), v4, v5, v6] ∧ (left, lost) = (L0.take i).foldl HM.step (b, 0) ∧ 0 ≤ left ∧ left ≤ b ∧ H' sl = some (.tup zs) ∧ Same H H')
      ⟨b, 0, _, _, _, rfl, by rw [List.take_zero]; rfl, hb0, Int.le_refl _, (by rw [upd_same, e1]), same_new hsl⟩ (fun i σ H' _ ⟨_, _, _, _, _, _, _, _, _, h, _⟩ => SqT.of h) ?_ ?_
    · rintro i y σ H' hi ⟨left, lost, v4, v5, v6, rfl, hf, l0, l1, hs1, s1⟩
      obtain ⟨t, m, l, rfl, ht, hL⟩ := hZ.get hi
      obtain ⟨k1, k2, k3, k4⟩ := G.2.2 (m, l) (List.mem_append_left _ (List.mem_of_getElem? hL))
      refine ⟨t, _, rfl, SqT.of (s1 _ _ ht), rfl, _, _, rfl, _, _, rfl, rfl, ?_⟩
      refine ⟨_, rfl, _, rfl, left, m, rfl, ?_⟩
      have w0 : 0 ≤ (if m < left then m else left) := by split <;> omega
      have w1 : (if m < left then m else left) ≤ left := by split <;> omega
      refine ⟨_, rfl, _, rfl, _, rfl, _, l, rfl, rfl, .inl ⟨by omega, by omega⟩, lost, _, rfl, rfl, ?_⟩
      refine ⟨_, rfl, _, rfl, left, _, rfl, rfl, ?_⟩
      refine ⟨left - (if m < left then m else left), lost + (if m < left then m else left) * l, _, _, _, rfl, ?_, by omega, by omega, hs1, s1⟩
      rw [fold_more hL, ← hf]
      rfl
    · rintro σ H' ⟨left, lost, v4, v5, v6, rfl, hf, l0, l1, hs1, s1⟩
      rw [hZ.len, List.take_length] at hf
      refine ⟨_, rfl, _, rfl, _, rfl, p, C, dx, _, _, rfl, s1 _ _ hp, MT.cl, MT.n3, mf_losses _ _ _ _, 1, rfl, tt, _, _, _, rfl, rfl, SqT.of (s1 _ _ htt), atI_last _ _, u, _, 1, .int lq.2, rfl, rfl, SqT.of (s1 _ _ hu), rfl, left, lq.2, rfl, rfl, .inl ⟨by omega, by omega⟩, lost, _, rfl, rfl, ?_⟩
      refine ⟨_, rfl, p, C, dx, _, _, rfl, s1 _ _ hp, MT.cl, MT.n4, mf_air _ _ _ _, _, rfl, p, C, dx, _, _, rfl, s1 _ _ hp, MT.cl, MT.n1, mf_full _ _ _ _, _, rfl, full, _, rfl, rfl, air, _, rfl, ?_⟩
      have hz := HM.fold_lost L0 lq b 0
      rw [← hf] at hz
      have hz2 : lost + left * lq.2 = HM.lostOf (L0 ++ [lq]) b := by
        have : lost + left * lq.2 = 0 + HM.lostOf (L0 ++ [lq]) b := hz
        omega
      show Q (.int (if full - (lost + left * lq.2) > air then full - (lost + left * lq.2) else air)) H'
      rw [hz2]
      exact q _ s1
/-! ### metal.heat(b), metal.heat(beats=b), metal.heat() -/
structure DHeat (P : Program) (w : World) (K : PySem.W.Frag) (mg : Str → Option Value) (base : Heap) (C : Addr) : Prop where
  ex : ∃ (f : Addr) (fd : FuncData) (ds : List Value), FnOk P w K mg base CX0 1 f fd ["self", "beats"] (spHeat C) ∧ Cls K C ∧ Meth K C "heat" f ∧ Binds K fd ["self", "beats"] [] ∧ Vals [.int 0] ds ∧ Binds K fd ["self", "beats"] ds ∧
    KBn K fd ["self", "beats"] 1 ["beats"] (fun us ws => us ++ ws) (fun vs zs => vs ++ zs)
theorem pe_heat1 {X : Cx} {C : Addr} {apos pos : Pos} {o e : Expr} {es : List Expr} {ta : TE} {t : TA} {pl : Sem Bool} (Z : DHeat X.prog X.w X.K X.mg X.base C) (hr : Room 1 X.A) (he : PE X o ta) (ha : PA X (e :: es) t)
    (hst : starEach (e :: es) X.env = (false, eval e X.env) :: starEach es X.env := by rfl) (hpl : (backTo pos (starEach es X.env)).any (·.1) = false := by rfl)
    (ht : eval (.Call (.Attribute o "heat" apos) (e :: es) [] pos) X.env = (do
      let ov ← eval o X.env
      standAt apos.atName
      let (f, first) ← holding [ov] (getMethod ov "heat" pl)
      callWith pos f first (backTo pos (starEach (e :: es) X.env)) (backToKw pos (keywordEach [] X.env))) := by rfl) :
    PE X (.Call (.Attribute o "heat" apos) (e :: es) [] pos) (tMeth C "heat" (spHeat C) [] E0 ta t) := by
  obtain ⟨f, fd, ds, F, c, m, b1, v, b2, b3⟩ := Z.ex
  exact pe_meth he c m F hr b1 .nil pass0 ha hst hpl ht
theorem pe_heat0 {X : Cx} {C : Addr} {apos pos : Pos} {o : Expr} {ta : TE} {pl : Sem Bool} (Z : DHeat X.prog X.w X.K X.mg X.base C) (hr : Room 1 X.A) (he : PE X o ta)
    (ht : eval (.Call (.Attribute o "heat" apos) [] [] pos) X.env = (do
      let ov ← eval o X.env
      standAt apos.atName
      let (f, first) ← holding [ov] (getMethod ov "heat" pl)
      callWith pos f first (backTo pos (starEach [] X.env)) (backToKw pos (keywordEach [] X.env))) := by rfl) :
    PE X (.Call (.Attribute o "heat" apos) [] [] pos) (tMeth C "heat" (spHeat C) [.int 0] E0 ta tNil) := by
  obtain ⟨f, fd, ds, F, c, m, b1, v, b2, b3⟩ := Z.ex
  exact pe_meth0 he c m F hr b2 v pass0 ht
theorem pe_heatK {X : Cx} {C : Addr} {apos pos : Pos} {o : Expr} {kws : List Keyword} {ta : TE} {tk : TA} {pl : Sem Bool} (Z : DHeat X.prog X.w X.K X.mg X.base C) (hr : Room 1 X.A) (he : PE X o ta) (hkw : PK X kws tk)
    (hall : (backToKw pos (keywordEach kws X.env)).all (·.1.isSome) = true := by rfl) (hks : (backToKw pos (keywordEach kws X.env)).filterMap (·.1) = ([("beats" : Str)] : List Str) := by rfl)
    (hpl : ((backTo pos (starEach [] X.env)).any (·.1) || (backToKw pos (keywordEach kws X.env)).any (·.1.isNone)) = false := by rfl)
    (ht : eval (.Call (.Attribute o "heat" apos) [] kws pos) X.env = (do
      let ov ← eval o X.env
      standAt apos.atName
      let (f, first) ← holding [ov] (getMethod ov "heat" pl)
      callWith pos f first (backTo pos (starEach [] X.env)) (backToKw pos (keywordEach kws X.env))) := by rfl) :
    PE X (.Call (.Attribute o "heat" apos) [] kws pos) (tMethK C "heat" 1 (spHeat C) (fun vs zs => vs ++ zs) E0 ta tk) := by
  obtain ⟨f, fd, ds, F, c, m, b1, v, b2, b3⟩ := Z.ex
  exact pe_methK0 (ks := ["beats"]) he c m F hr b3 pass0 hkw hall hks hpl ht
/-! ### _law_told_right -/
def spTold (C : Addr) : Sp := fun vs H Q _ => ∃ (p : Addr) (b full least air due : Int) (L : List (Int × Int)), vs = [.ref p, .int b, .int due] ∧ MetalAt C H p full least air L ∧ GoodL L ∧ 0 ≤ b ∧ b ≤ 10000000000000 ∧
  due = HM.mx air (full - HM.lostOf L b) ∧ ∀ H', Same H H' → Q (.bl true) H'
abbrev sLtold_right : Stmt := top 21
theorem scLtold_right : FnScope ["_law_metal_here", "_law_a_beats", "_law_due", "_law_found", "_law_one"] ["_law_metal_here", "_law_a_beats", "_law_due"] (defScope sLtold_right) := ⟨rfl, rfl, rfl, by decide +kernel, rfl, by decide +kernel, by decide +kernel⟩
theorem rep_get {α : Type} {n i : Nat} {x y : α} (h : (List.replicate n x)[i]? = some y) : y = x := (List.mem_replicate.mp (List.mem_of_getElem? h)).2
theorem any_rep (n : Nat) : (List.replicate n false).any id = false := by
  induction n with
  | zero => rfl
  | succ k ih => rw [List.replicate_succ, List.any_cons, ih]; rfl
theorem ok_told {f C : Addr} {fd : FuncData} (F : Fun K "_law_told_right" "_law_told_right" sLtold_right f fd) (T : Txt mg tM tL) (Z : DHeat P w K mg base C) : FnOk P w K mg base CX0 2 f fd ["_law_metal_here", "_law_a_beats", "_law_due"] (spTold C) := by
  refine F.ok scLtold_right (fun vs H Q E h => ?_) (fun cdv A outer s H vs Q E hr h => ?_)
  · obtain ⟨p, b, full, least, air, due, L, rfl, _⟩ := h
    rfl
  · obtain ⟨p, b, full, least, air, due, L, rfl, M, G, hb0, hb1, hdue, q⟩ := h
    obtain ⟨dx, tt, ys, hp, htt, hP⟩ := M.ex
    refine ⟨_, (pss_cons (ps_set (i := 3) scLtold_right.nd rfl (Or.inl rfl) (pe_op op_cat (pe_lst (pa_cons (pe_heat1 (C := C) Z hr (pv 0) (pa_cons (pv 1) pa_nil)) (pa_cons (pe_heatK (C := C) Z hr (pv 0) (pk_cons (pv 1) pk_nil)) pa_nil))) (pe_op op_rep (pe_lst (pa_cons (pe_heat0 (C := C) Z hr (pv 0)) pa_nil)) (pe_callTy call_int1 (by rfl) T.zint (by decide +kernel) (pa_cons (pe_cmp (pc_eqI (pv 1) pe_int)) pa_nil)))))
    (pss_cons (ps_if (pt_val (pe_callB (cr_any rfl) (by rfl) T.zany (by decide +kernel) (pa_cons (pe_lc (own := [("_law_one", 4)]) (g := gName 4) (tt := tYes) (te := tOrV (tCB (rIsi K) (tCons (tVar 4) (tCons (tC (.ty "bool")) tNil))) (tNotV (tCB (rIsi K) (tCons (tVar 4) (tCons (tC (.ty "int")) tNil))))) (by rfl) scLtold_right.nd (pi_list (pv 3)) (blkOk_by (own := [("_law_one", 4)]) (N := ["_law_metal_here", "_law_a_beats", "_law_due", "_law_found", "_law_one"]) (sc := defScope sLtold_right) (by decide +kernel)) (fun _ _ _ _ _ => (pg_name (i := 4) scLtold_right.nd rfl (Or.inl rfl))) (fun _ _ _ _ _ => pts_nil) (fun _ _ _ _ _ => (pe_or (pe_callB call_isi (by rfl) T.zisinstance (by decide +kernel) (pa_cons (pv 4) (pa_cons (pe_bltn (v := .ty "bool") (u := .type "bool") (by rfl) T.zbool (by decide +kernel) rfl) pa_nil))) (pe_one (pe_not (pe_callB call_isi (by rfl) T.zisinstance (by decide +kernel) (pa_cons (pv 4) (pa_cons (pe_bltn (v := .ty "int") (u := .type "int") (by rfl) T.zint (by decide +kernel) rfl) pa_nil)))))))) pa_nil))) (pss_one (ps_ret pe_bl)) pss_nil)
    (pss_one (ps_ret (pe_callB (cr_all rfl) (by rfl) T.zall (by decide +kernel) (pa_cons (pe_lc (own := [("_law_one", 4)]) (g := gName 4) (tt := tYes) (by rfl) scLtold_right.nd (pi_list (pv 3)) (blkOk_by (own := [("_law_one", 4)]) (N := ["_law_metal_here", "_law_a_beats", "_law_due", "_law_found", "_law_one"]) (sc := defScope sLtold_right) (by decide +kernel)) (fun _ _ _ _ _ => (pg_name (i := 4) scLtold_right.nd rfl (Or.inl rfl))) (fun _ _ _ _ _ => pts_nil) (fun _ _ _ _ _ => (pe_cmp (pc_eqI (pv 4) (pv 2))))) pa_nil)))))), ?_⟩
    refine ⟨_, rfl, p, dx, _, rfl, hp, mf_heat _ _ _ _, _, rfl, p, b, full, least, air, L, rfl, M, G, hb0, hb1, fun H1 s1 => ?_⟩
    refine ⟨_, rfl, p, dx, _, rfl, s1 _ _ hp, mf_heat _ _ _ _, _, rfl, rfl, p, b, full, least, air, L, rfl, M.same s1, G, hb0, hb1, fun H2 s2 => ?_⟩
    rw [← hdue]
    refine ⟨(by show 2 ≤ sizeLine; decide), fun d1 hd1 => ?_⟩
    have s3 : Same H (upd H2 d1 (.lst [.int due, .int due])) := (s1.trans s2).trans (same_new hd1)
    refine ⟨_, rfl, p, dx, _, rfl, s3 _ _ hp, mf_heat _ _ _ _, p, 0, full, least, air, L, rfl, M.same s3, G, Int.le_refl _, by decide, fun H4 s4 => ?_⟩
    refine ⟨(by show 1 ≤ sizeLine; decide), fun d2 hd2 => ?_⟩
    refine ⟨_, rfl, b, 0, rfl, rfl, .inr ⟨_, rfl, d2, _, _, rfl, rfl, upd_same, ?_, ?_, ?_, fun d3 hd3 => ?_⟩⟩
    · by_cases c : b = 0 <;> simp [c]
    · by_cases c : b = 0 <;> simp [c]
    · show 1 * (if decide (b = 0) = true then (1 : Int) else 0).toNat ≤ sizeLine
      by_cases c : b = 0
      · rw [show decide (b = 0) = true from decide_eq_true c]; exact (by decide : 1 ≤ sizeLine)
      · rw [show decide (b = 0) = false from decide_eq_false c]; exact (by decide : 0 ≤ sizeLine)
    dsimp only
    have hd1' : H4 d1 = some (.lst [.int due, .int due]) := s4 _ _ upd_same
    have n12 : d1 ≠ d2 := ne_of_none hd1' hd2
    have hx1 : (upd H4 d2 (.lst [.int (HM.mx air (full - HM.lostOf L 0))])) d1 = some (.lst [.int due, .int due]) := by rw [upd_ne n12]; exact hd1'
    have n13 : d1 ≠ d3 := ne_of_none hx1 hd3
    -- what stands at d3
    obtain ⟨k, hk1, hk2⟩ : ∃ k : Nat, k ≤ 1 ∧ (List.replicate (if decide (b = 0) = true then (1 : Int) else 0).toNat [V.int (HM.mx air (full - HM.lostOf L 0))]).flatten = List.replicate k (V.int due) := by
      by_cases c : b = 0
      · refine ⟨1, Nat.le_refl _, ?_⟩
        rw [show decide (b = 0) = true from decide_eq_true c, hdue, c]
        rfl
      · refine ⟨0, Nat.zero_le _, ?_⟩
        rw [show decide (b = 0) = false from decide_eq_false c]
        rfl
    rw [hk2]
    refine ⟨d1, d3, _, _, rfl, rfl, (by rw [upd_ne n13]; exact hx1), upd_same, ?_, fun d4 hd4 => ?_⟩
    · rw [List.length_replicate]
      exact Nat.le_trans (show 2 + k ≤ 3 by omega) (by decide)
    have er : [V.int due, V.int due] ++ List.replicate k (V.int due) = List.replicate (k + 2) (V.int due) := by
      rw [show k + 2 = 2 + k by omega, ← List.replicate_append_replicate]
      rfl
    rw [er]
    generalize hH5 : upd (upd (upd H4 d2 (.lst [.int (HM.mx air (full - HM.lostOf L 0))])) d3 (.lst (List.replicate k (V.int due)))) d4 (.lst (List.replicate (k + 2) (V.int due))) = H5
    have h5 : H5 d4 = some (.lst (List.replicate (k + 2) (V.int due))) := by rw [← hH5]; exact upd_same
    have s5 : Same H H5 := by
      rw [← hH5]
      exact (((s3.trans s4).trans (same_new hd2)).trans (same_new hd3)).trans (same_new hd4)
    -- any([..])
    refine ⟨_, rfl, d4, rfl, ⟨_, SqL.of h5⟩, fun D hD => ?_⟩
    refine lc_list (K := K) (a := d4) (xs := List.replicate (k + 2) (V.int due)) (fun i H' => H' D = some (.lst ((List.replicate i false).map V.bl)) ∧ Same H5 H')
      ⟨upd_same, same_new hD⟩ (fun i H' _ ⟨_, h⟩ => SqL.of (h _ _ h5)) ?_ ?_
    · rintro i x H' hi ⟨hd, s6⟩
      have hil : i < k + 2 := by
        have := (List.getElem?_eq_some_iff.mp hi).1
        rw [List.length_replicate] at this
        exact this
      obtain rfl : x = V.int due := rep_get hi
      refine ⟨rfl, ?_⟩
      refine ⟨_, rfl, _, _, _, _, false, rfl, .ty "bool", .base (.int due), kit_ty kit2, false, rfl, iteF ?_⟩
      refine ⟨_, rfl, _, _, _, _, true, rfl, .ty "int", .base (.int due), kit_ty kit1, true, rfl, _, hd, ?_, ?_, ?_⟩
      · rw [List.length_map, List.length_replicate]
        exact Nat.lt_of_lt_of_le (show i < 3 by omega) (by decide)
      · rw [upd_same, ← rep_snoc, List.map_append]
        rfl
      · intro a o e
        rw [upd_ne (ne_of_none e hD)]
        exact s6 _ _ e
    · rintro H' ⟨hd, s6⟩
      refine ⟨D, _, rfl, SqL.of hd, _, rfl, ?_⟩
      rw [any_rep]
      refine iteF ?_
      -- all([..])
      have h6 : H' d4 = some (.lst (List.replicate (k + 2) (V.int due))) := s6 _ _ h5
      refine ⟨_, rfl, d4, rfl, ⟨_, SqL.of h6⟩, fun D2 hD2 => ?_⟩
      refine lc_list (K := K) (a := d4) (xs := List.replicate (k + 2) (V.int due)) (fun i H'' => H'' D2 = some (.lst ((List.replicate i true).map V.bl)) ∧ Same H' H'')
        ⟨upd_same, same_new hD2⟩ (fun i H'' _ ⟨_, h⟩ => SqL.of (h _ _ h6)) ?_ ?_
      · rintro i x H'' hi ⟨hd', s7⟩
        have hil : i < k + 2 := by
          have := (List.getElem?_eq_some_iff.mp hi).1
          rw [List.length_replicate] at this
          exact this
        obtain rfl : x = V.int due := rep_get hi
        refine ⟨rfl, ?_⟩
        refine ⟨_, rfl, _, rfl, due, due, rfl, rfl, _, hd', ?_, ?_, ?_⟩
        · rw [List.length_map, List.length_replicate]
          exact Nat.lt_of_lt_of_le (show i < 3 by omega) (by decide)
        · rw [upd_same, ← rep_snoc, List.map_append]
          show some (HO.lst (_ ++ [V.bl (decide (due = due))])) = _
          rw [decide_eq_true (rfl : due = due)]
          rfl
        · intro a o e
          rw [upd_ne (ne_of_none e hD2)]
          exact s7 _ _ e
      · rintro H'' ⟨hd', s7⟩
        refine ⟨D2, _, rfl, SqL.of hd', ?_⟩
        rw [all_rep]
        exact q _ ((s5.trans s6).trans s7)
end
end HP
namespace HP
open PySem L2
section
variable {P : Program} {w : World} {K : PySem.W.Frag} {mg : Str → Option Value} {base : Heap} {tM tL : Tok}
theorem flat_one {α : Type} (n : Nat) (x : α) : (List.replicate n [x]).flatten = List.replicate n x := List.flatten_replicate_singleton
/-! ### _law_by_beats -/
def spByBeats : Sp := fun vs H Q _ => ∃ (t r : Addr) (full least air : Int) (L : List (Int × Int)), vs = [.ref r, .int 60] ∧ RowAt t H r full least air L ∧
  ∀ (p : Addr) (ns : List Int) (H' : Hp), H p = none → ns.length = 61 → (∀ (j : Nat) (z : Int), ns[j]? = some z → z = HM.mx air (full - HM.lostOf L (j : Int))) → H' p = some (.lst (ns.map V.int)) → Same H H' → Q (.ref p) H'
abbrev sLby_beats : Stmt := top 18
theorem scLby_beats : FnScope ["_law_row", "_law_many", "_law_full", "_law_least", "_law_losses_here", "_law_air", "_law_each", "_law_found", "_law_heat", "_law_number", "_law_loss"] ["_law_row", "_law_many"] (defScope sLby_beats) := ⟨rfl, rfl, rfl, by decide +kernel, rfl, by decide +kernel, by decide +kernel⟩
theorem fill_more {L : List (Int × Int)} {i : Nat} {p : Int × Int} {m : Nat} {s : List Int} (h : L[i]? = some p) : (L.take (i + 1)).foldl (HM.fill m) s = HM.fill m ((L.take i).foldl (HM.fill m) s) p := by
  rw [take_more h, List.foldl_append]
  rfl
theorem fill_len {m : Nat} : ∀ (L : List (Int × Int)) (s : List Int), s.length ≤ m → (L.foldl (HM.fill m) s).length ≤ m
  | [], s, h => h
  | p :: L, s, h => by
    rw [List.foldl_cons]
    refine fill_len L _ ?_
    show (s ++ List.replicate (min p.1.toNat (m - s.length)) p.2).length ≤ m
    rw [List.length_append, List.length_replicate]
    omega
theorem ok_by_beats {f : Addr} {fd : FuncData} (F : Fun K "_law_by_beats" "_law_by_beats" sLby_beats f fd) (T : Txt mg tM tL) : FnOk P w K mg base CX0 1 f fd ["_law_row", "_law_many"] spByBeats := by
  refine F.ok scLby_beats (fun vs H Q E h => ?_) (fun cdv A outer s H vs Q E hr h => ?_)
  · obtain ⟨t, r, full, least, air, L, rfl, _⟩ := h
    rfl
  · obtain ⟨t, r, full, least, air, L, rfl, R, q⟩ := h
    obtain ⟨⟨ll, xs, hrow, hll, _, hP⟩, G, n1, n2, n3, n4, n5⟩ := R
    obtain ⟨L0, lq, rfl⟩ := G.split
    obtain ⟨zs, u, rfl, hZ, hu⟩ := hP.unsnoc
    refine ⟨_, (pss_cons (ps_asg (pv 0) (pg_tup rfl (pgs_cons (pg_name (i := 2) scLby_beats.nd rfl (Or.inl rfl)) (pgs_cons (pg_name (i := 3) scLby_beats.nd rfl (Or.inl rfl)) (pgs_cons (pg_name (i := 4) scLby_beats.nd rfl (Or.inl rfl)) (pgs_cons (pg_name (i := 5) scLby_beats.nd rfl (Or.inl rfl)) pgs_nil))))))
    (pss_cons (ps_par3 (i := 6) (j := 7) (l := 8) (by rfl) scLby_beats.nd rfl rfl rfl (by decide) (by decide) (by decide) rfl rfl rfl (pa_cons (pe_lst pa_nil) (pa_cons (pe_lst (pa_cons (pv 2) pa_nil)) (pa_cons (pv 2) pa_nil))) (by rfl))
    (pss_cons (ps_for PassesOwn.never rfl (pi_list (pv 4)) (pg_tup rfl (pgs_cons (pg_name (i := 9) scLby_beats.nd rfl (Or.inl rfl)) (pgs_cons (pg_name (i := 10) scLby_beats.nd rfl (Or.inl rfl)) pgs_nil)))
    (pss_one (ps_expr (pe_bm PySem.F.plainAttrs_list PySem.F.slot_list_extend PySem.F.type_list_extend mt_extend (pv 6) (pa_cons (pe_op op_rep (pe_lst (pa_cons (pv 10) pa_nil)) (pe_callB (call_min2 rfl) (by rfl) T.zmin (by decide +kernel) (pa_cons (pv 9) (pa_cons (pe_callB (call_max2 rfl) (by rfl) T.zmax (by decide +kernel) (pa_cons pe_int (pa_cons (pe_op op_sub (pv 1) (pe_callB call_len_seq (by rfl) T.zlen (by decide +kernel) (pa_cons (pv 6) pa_nil))) pa_nil))) pa_nil)))) pa_nil)))))
    (pss_cons (ps_expr (pe_bm PySem.F.plainAttrs_list PySem.F.slot_list_extend PySem.F.type_list_extend mt_extend (pv 6) (pa_cons (pe_op op_rep (pe_lst (pa_cons (pe_ix ix_tup (pe_ix ix_list (pv 4) (pe_un un_neg pe_int) (fun _ _ => rfl)) pe_int (fun _ _ => rfl)) pa_nil)) (pe_op op_sub (pv 1) (pe_callB call_len_seq (by rfl) T.zlen (by decide +kernel) (pa_cons (pv 6) pa_nil)))) pa_nil)))
    (pss_cons (ps_for PassesOwn.never rfl (pi_list (pv 6)) (pg_name (i := 10) scLby_beats.nd rfl (Or.inl rfl))
    (pss_cons (ps_set (i := 8) scLby_beats.nd rfl (Or.inl rfl) (pe_callB (call_max2 rfl) (by rfl) T.zmax (by decide +kernel) (pa_cons (pv 5) (pa_cons (pe_op op_sub (pv 8) (pv 10)) pa_nil))))
    (pss_one (ps_expr (pe_bm PySem.F.plainAttrs_list PySem.F.slot_list_append PySem.F.type_list_append mt_append (pv 7) (pa_cons (pv 8) pa_nil))))))
    (pss_one (ps_ret (pv 7)))))))), ?_⟩
    -- _law_full, _law_least, _law_losses_here, _law_air = _law_row
    refine ⟨_, rfl, r, _, rfl, SqT.of hrow, rfl, _, _, rfl, _, _, rfl, _, _, rfl, _, _, rfl, rfl, ?_⟩
    refine ⟨(by show 0 ≤ sizeLine; decide), fun ea hea => ?_⟩
    refine ⟨_, rfl, (by show 1 ≤ sizeLine; decide), fun fo hfo => ?_⟩
    refine ⟨_, rfl, _, _, _, rfl, ?_⟩
    have nef : ea ≠ fo := fun e => by rw [← e, upd_same] at hfo; cases hfo
    have hfo0 : H fo = none := by rw [upd_ne nef.symm] at hfo; exact hfo
    have s1 : Same H (upd (upd H ea (.lst [])) fo (.lst [.int full])) := (same_new hea).trans (same_new hfo)
    have nle : ll ≠ ea := ne_of_none hll hea
    have nlf : ll ≠ fo := ne_of_none hll hfo0
    -- the loop that fills
    refine ⟨_, rfl, ll, rfl, ⟨_, SqL.of (s1 _ _ hll)⟩, ?_⟩
    refine for_list (K := K) (a := ll) (xs := zs ++ [.ref u]) (fun i σ H' => ∃ v9 v10 : Option V, σ = [some (.ref r), some (.int 60), some (.int full), some (.int least), some (.ref ll), some (.int air), some (.ref ea), some (.ref fo), some (.int full), v9, v10] ∧
        H' ea = some (.lst ((((L0 ++ [lq]).take i).foldl (HM.fill 60) []).map V.int)) ∧ H' fo = some (.lst [.int full]) ∧ Same H H')
      ⟨_, _, rfl, (by rw [upd_ne nef, upd_same]; rfl), upd_same, s1⟩ (fun i σ H' _ ⟨_, _, _, _, _, h⟩ => SqL.of (h _ _ hll)) ?_ ?_
    · rintro i y σ H' hi ⟨v9, v10, rfl, he, hf, s2⟩
      obtain ⟨tp, m, l, rfl, htp, hL⟩ := hP.get hi
      obtain ⟨k1, k2, k3, k4⟩ := good_at G hL
      refine ⟨tp, _, rfl, SqT.of (s2 _ _ htp), rfl, _, _, rfl, _, _, rfl, rfl, ?_⟩
      rw [fill_more hL]
      generalize hacc : ((L0 ++ [lq]).take i).foldl (HM.fill 60) [] = acc at he ⊢
      have hal : acc.length ≤ 60 := by rw [← hacc]; exact fill_len _ _ (Nat.zero_le _)
      refine ⟨_, rfl, .inl ⟨rfl, _, SqL.of he⟩, _, rfl, (by show 1 ≤ sizeLine; decide), fun d hd => ?_⟩
      have he1 : (upd H' d (.lst [.int l])) ea = some (.lst (acc.map V.int)) := by rw [upd_ne (ne_of_none he hd)]; exact he
      refine ⟨_, rfl, _, rfl, _, rfl, ea, _, rfl, .inl (SqL.of he1), _, _, rfl, rfl, 0, _, rfl, m, _, rfl, d, _, _, rfl, rfl, upd_same, ?_, ?_, ?_, fun x hx => ?_⟩
      all_goals try dsimp only
      all_goals rw [List.length_map]
      · split <;> (try split) <;> omega
      · split <;> (try split) <;> omega
      · have : (if (if (60 : Int) - (acc.length : Int) > 0 then (60 : Int) - (acc.length : Int) else 0) < m then (if (60 : Int) - (acc.length : Int) > 0 then (60 : Int) - (acc.length : Int) else 0) else m).toNat ≤ 60 := by split <;> (try split) <;> omega
        show 1 * _ ≤ sizeLine
        rw [Nat.one_mul]
        exact Nat.le_trans this (by decide)
      have ek : (if (if (60 : Int) - (acc.length : Int) > 0 then (60 : Int) - (acc.length : Int) else 0) < m then (if (60 : Int) - (acc.length : Int) > 0 then (60 : Int) - (acc.length : Int) else 0) else m).toNat = min m.toNat (60 - acc.length) := by split <;> (try split) <;> omega
      rw [ek, flat_one]
      have hdx : d ≠ x := fun e => by rw [← e, upd_same] at hx; cases hx
      have he2 : ∀ o, (upd (upd H' d (.lst [.int l])) x o) ea = some (.lst (acc.map V.int)) := fun o => by rw [upd_ne (ne_of_none he1 hx)]; exact he1
      refine ⟨ea, x, _, _, rfl, rfl, he2 _, upd_same, ?_, ?_⟩
      · rw [List.length_map, List.length_replicate]
        exact Nat.le_trans (show acc.length + min m.toNat (60 - acc.length) ≤ 60 by omega) (by decide)
      have hfx : H' fo = some (.lst [.int full]) := hf
      refine ⟨_, _, rfl, ?_, ?_, ?_⟩
      · rw [upd_same]
        show some (HO.lst (acc.map V.int ++ List.replicate (min m.toNat (60 - acc.length)) (V.int l))) = some (HO.lst ((acc ++ List.replicate (min m.toNat (60 - acc.length)) l).map V.int))
        rw [List.map_append, List.map_replicate]
      · have z1 : (upd H' d (.lst [.int l])) fo = some (.lst [.int full]) := by rw [upd_ne (ne_of_none hf hd)]; exact hf
        rw [upd_ne nef.symm, upd_ne (ne_of_none z1 hx)]
        exact z1
      · intro b o e
        have z1 : (upd H' d (.lst [.int l])) b = some o := by rw [upd_ne (ne_of_none (s2 _ _ e) hd)]; exact s2 _ _ e
        rw [upd_ne (ne_of_none e hea), upd_ne (ne_of_none z1 hx)]
        exact z1
    · rintro σ H' ⟨v9, v10, rfl, he, hf, s2⟩
      rw [hP.len, List.take_length] at he
      -- each.extend([losses[-1][1]] * (many - len(each)))
      generalize hacc : (L0 ++ [lq]).foldl (HM.fill 60) [] = acc at he
      have hal : acc.length ≤ 60 := by rw [← hacc]; exact fill_len _ _ (Nat.zero_le _)
      have hE : acc ++ List.replicate (60 - acc.length) lq.2 = HM.eachOf (L0 ++ [lq]) 60 := by
        have := HM.fill_each L0 lq 60 [] (Nat.zero_le _)
        rw [hacc] at this
        exact this
      refine ⟨_, rfl, .inl ⟨rfl, _, SqL.of he⟩, _, rfl, 1, rfl, ll, _, _, _, rfl, rfl, SqL.of (s2 _ _ hll), atI_last _ _, u, _, 1, .int lq.2, rfl, rfl, SqT.of (s2 _ _ hu), rfl, (by show 1 ≤ sizeLine; decide), fun d hd => ?_⟩
      have he1 : (upd H' d (.lst [.int lq.2])) ea = some (.lst (acc.map V.int)) := by rw [upd_ne (ne_of_none he hd)]; exact he
      refine ⟨_, rfl, _, rfl, ea, _, rfl, .inl (SqL.of he1), _, _, rfl, rfl, d, _, _, rfl, rfl, upd_same, ?_, ?_, ?_, fun x hx => ?_⟩
      all_goals try dsimp only
      all_goals rw [List.length_map]
      · omega
      · omega
      · show 1 * _ ≤ sizeLine
        rw [Nat.one_mul]
        exact Nat.le_trans (show ((60 : Int) - (acc.length : Int)).toNat ≤ 60 by omega) (by decide)
      rw [show ((60 : Int) - (acc.length : Int)).toNat = 60 - acc.length by omega, flat_one]
      have he2 : ∀ o, (upd (upd H' d (.lst [.int lq.2])) x o) ea = some (.lst (acc.map V.int)) := fun o => by rw [upd_ne (ne_of_none he1 hx)]; exact he1
      refine ⟨ea, x, _, _, rfl, rfl, he2 _, upd_same, ?_, ?_⟩
      · rw [List.length_map, List.length_replicate]
        exact Nat.le_trans (show acc.length + (60 - acc.length) ≤ 60 by omega) (by decide)
      have e60 : acc.map V.int ++ List.replicate (60 - acc.length) (V.int lq.2) = (HM.eachOf (L0 ++ [lq]) 60).map V.int := by
        rw [← hE, List.map_append, List.map_replicate]
      rw [e60]
      generalize hH3 : upd (upd (upd H' d (.lst [.int lq.2])) x (.lst (List.replicate (60 - acc.length) (V.int lq.2)))) ea (.lst ((HM.eachOf (L0 ++ [lq]) 60).map V.int)) = H3
      have he3 : H3 ea = some (.lst ((HM.eachOf (L0 ++ [lq]) 60).map V.int)) := by rw [← hH3]; exact upd_same
      have hf3 : H3 fo = some (.lst [.int full]) := by
        have z1 : (upd H' d (.lst [.int lq.2])) fo = some (.lst [.int full]) := by rw [upd_ne (ne_of_none hf hd)]; exact hf
        rw [← hH3, upd_ne nef.symm, upd_ne (ne_of_none z1 hx)]
        exact z1
      have s3 : Same H H3 := by
        intro b o e
        have z1 : (upd H' d (.lst [.int lq.2])) b = some o := by rw [upd_ne (ne_of_none (s2 _ _ e) hd)]; exact s2 _ _ e
        rw [← hH3, upd_ne (ne_of_none e hea), upd_ne (ne_of_none z1 hx)]
        exact z1
      have hlen : (HM.eachOf (L0 ++ [lq]) 60).length = 60 := HM.each_len _ _ G.1
      have hnn := HM.each_nonneg (L0 ++ [lq]) 60 (fun p hp => (G.2.2 p hp).2.2.1)
      have hsum := fun j hj => HM.each_sum (L0 ++ [lq]) 60 j G.1 (fun p hp => (G.2.2 p hp).1) hj
      generalize HM.eachOf (L0 ++ [lq]) 60 = ES at he3 hlen hnn hsum
      -- for loss in each
      refine ⟨_, rfl, ea, rfl, ⟨_, SqL.of he3⟩, ?_⟩
      refine for_list (K := K) (a := ea) (xs := ES.map V.int) (fun i σ H'' => ∃ (ns : List Int) (h : Int) (w9 w10 : Option V), σ = [some (.ref r), some (.int 60), some (.int full), some (.int least), some (.ref ll), some (.int air), some (.ref ea), some (.ref fo), some (.int h), w9, w10] ∧ h = HM.mx air (full - (ES.take i).sum) ∧
          H'' ea = some (.lst (ES.map V.int)) ∧ H'' fo = some (.lst (ns.map V.int)) ∧ ns.length = i + 1 ∧ (∀ (j : Nat) (z : Int), ns[j]? = some z → z = HM.mx air (full - (ES.take j).sum)) ∧ Same H H'')
        ⟨[full], full, _, _, rfl, ?_, he3, hf3, rfl, ?_, s3⟩ (fun i σ H'' _ ⟨_, _, _, _, _, _, h, _⟩ => SqL.of h) ?_ ?_
      · rw [List.take_zero]
        exact HM.mx_start air full n5
      · intro j z hz
        cases j with
        | zero =>
          have : full = z := Option.some.inj hz
          rw [← this, List.take_zero]
          exact HM.mx_start air full n5
        | succ k => simp at hz
      · rintro i y σ H'' hi ⟨ns, h, w9, w10, rfl, hh, he4, hf4, hl4, hz4, s4⟩
        obtain ⟨e, hEi, rfl⟩ := map_int hi
        have hil : i < ES.length := (List.getElem?_eq_some_iff.mp hEi).1
        have hes : (ES.take (i + 1)).sum = (ES.take i).sum + e := sum_take hEi
        refine ⟨_, rfl, _, rfl, _, rfl, h, e, rfl, rfl, air, _, rfl, ?_⟩
        refine ⟨_, rfl, .inl ⟨rfl, _, SqL.of hf4⟩, _, rfl, fo, _, _, rfl, rfl, hf4, ?_, ?_⟩
        · rw [List.length_map, hl4]
          exact Nat.lt_of_le_of_lt (show i + 1 ≤ 60 by omega) (by decide)
        have em : HM.mx air (h - e) = HM.mx air (full - (ES.take (i + 1)).sum) := by
          rw [hes, hh]
          exact HM.mx_step air full _ e (hnn e (List.mem_of_getElem? hEi))
        refine ⟨ns ++ [HM.mx air (h - e)], HM.mx air (h - e), _, _, rfl, em, ?_, ?_, ?_, ?_, ?_⟩
        · rw [upd_ne nef]
          exact he4
        · rw [upd_same, List.map_append]
          rfl
        · rw [List.length_append, hl4]
          rfl
        · intro j z hz
          by_cases c : j < ns.length
          · rw [List.getElem?_append_left c] at hz
            exact hz4 j z hz
          · rw [List.getElem?_append_right (by omega)] at hz
            have hj : j - ns.length = 0 := by
              have := (List.getElem?_eq_some_iff.mp hz).1
              rw [List.length_singleton] at this
              omega
            rw [hj] at hz
            have : HM.mx air (h - e) = z := Option.some.inj hz
            rw [← this, em, show j = i + 1 by omega]
        · intro b o e'
          rw [upd_ne (ne_of_none e' hfo0)]
          exact s4 _ _ e'
      · rintro σ H'' ⟨ns, h, w9, w10, rfl, hh, he4, hf4, hl4, hz4, s4⟩
        rw [List.length_map, hlen] at hl4
        refine ⟨_, rfl, ?_⟩
        refine q fo ns H'' hfo0 hl4 (fun j z hz => ?_) hf4 s4
        have hj : j < ns.length := (List.getElem?_eq_some_iff.mp hz).1
        rw [hz4 j z hz, hsum j (by omega)]
/-! ### _law_by_pairs -/
def spByPairs : Sp := fun vs H Q _ => ∃ (t r : Addr) (b full least air : Int) (L : List (Int × Int)), vs = [.ref r, .int b] ∧ RowAt t H r full least air L ∧ 0 ≤ b ∧ b ≤ 10000000000000 ∧
  ∀ H', Same H H' → Q (.int (HM.mx air (full - HM.lostOf L b))) H'
abbrev sLby_pairs : Stmt := top 19
theorem scLby_pairs : FnScope ["_law_row", "_law_a_beats", "_law_full", "_law_least", "_law_losses_here", "_law_air", "_law_heat", "_law_left", "_law_at", "_law_number", "_law_loss", "_law_here"] ["_law_row", "_law_a_beats"] (defScope sLby_pairs) := ⟨rfl, rfl, rfl, by decide +kernel, rfl, by decide +kernel, by decide +kernel⟩
theorem ok_by_pairs {f : Addr} {fd : FuncData} (F : Fun K "_law_by_pairs" "_law_by_pairs" sLby_pairs f fd) (T : Txt mg tM tL) : FnOk P w K mg base CX0 1 f fd ["_law_row", "_law_a_beats"] spByPairs := by
  refine F.ok scLby_pairs (fun vs H Q E h => ?_) (fun cdv A outer s H vs Q E hr h => ?_)
  · obtain ⟨t, r, b, full, least, air, L, rfl, _⟩ := h
    rfl
  · obtain ⟨t, r, b, full, least, air, L, rfl, R, hb0, hb1, q⟩ := h
    obtain ⟨⟨ll, xs, hrow, hll, _, hP⟩, G, n1, n2, n3, n4, n5⟩ := R
    obtain ⟨L0, lq, rfl⟩ := G.split
    refine ⟨_, (pss_cons (ps_asg (pv 0) (pg_tup rfl (pgs_cons (pg_name (i := 2) scLby_pairs.nd rfl (Or.inl rfl)) (pgs_cons (pg_name (i := 3) scLby_pairs.nd rfl (Or.inl rfl)) (pgs_cons (pg_name (i := 4) scLby_pairs.nd rfl (Or.inl rfl)) (pgs_cons (pg_name (i := 5) scLby_pairs.nd rfl (Or.inl rfl)) pgs_nil))))))
    (pss_cons (ps_par (i := 6) (j := 7) (by rfl) scLby_pairs.nd rfl rfl (by decide) rfl rfl (pa_cons (pv 2) (pa_cons (pv 1) pa_nil)) (by rfl))
    (pss_cons (ps_for PassesOwn.never rfl (pi_enum (by rfl) T.zenumerate (pa_cons (pv 4) pa_nil)) (pg_tup rfl (pgs_cons (pg_name (i := 8) scLby_pairs.nd rfl (Or.inl rfl)) (pgs_cons (pg_tup rfl (pgs_cons (pg_name (i := 9) scLby_pairs.nd rfl (Or.inl rfl)) (pgs_cons (pg_name (i := 10) scLby_pairs.nd rfl (Or.inl rfl)) pgs_nil))) pgs_nil)))
    (pss_cons (ps_set (i := 11) scLby_pairs.nd rfl (Or.inl rfl) (pe_ifExp (pt_cmp (pc_eqI (pv 8) (pe_op op_sub (pe_callB call_len_seq (by rfl) T.zlen (by decide +kernel) (pa_cons (pv 4) pa_nil)) pe_int))) (pv 7) (pe_callB (call_min2 rfl) (by rfl) T.zmin (by decide +kernel) (pa_cons (pv 7) (pa_cons (pv 9) pa_nil)))))
    (pss_one (ps_par (i := 6) (j := 7) (by rfl) scLby_pairs.nd rfl rfl (by decide) rfl rfl (pa_cons (pe_op op_sub (pv 6) (pe_op op_mul (pv 11) (pv 10))) (pa_cons (pe_op op_sub (pv 7) (pv 11)) pa_nil)) (by rfl)))))
    (pss_one (ps_ret (pe_callB (call_max2 rfl) (by rfl) T.zmax (by decide +kernel) (pa_cons (pv 5) (pa_cons (pv 6) pa_nil)))))))), ?_⟩
    refine ⟨_, rfl, r, _, rfl, SqT.of hrow, rfl, _, _, rfl, _, _, rfl, _, _, rfl, _, _, rfl, rfl, ?_⟩
    refine ⟨_, rfl, _, rfl, _, _, rfl, ?_⟩
    refine ⟨_, rfl, ll, _, rfl, SqL.of hll, ?_⟩
    have hlen : xs.length = L0.length + 1 := by
      rw [hP.len, List.length_append]
      rfl
    refine for_enum (K := K) (a := ll) (xs := xs) (fun i σ H' => ∃ (heat left : Int) (v8 v9 v10 v11 : Option V), σ = [some (.ref r), some (.int b), some (.int full), some (.int least), some (.ref ll), some (.int air), some (.int heat), some (.int left), v8, v9, v10, v11] ∧
        (i ≤ L0.length → left = ((L0.take i).foldl HM.step (b, 0)).1 ∧ heat = full - ((L0.take i).foldl HM.step (b, 0)).2) ∧ (i = L0.length + 1 → heat = full - HM.lostOf (L0 ++ [lq]) b) ∧ 0 ≤ left ∧ left ≤ b ∧ Same H H')
      ⟨full, b, _, _, _, _, rfl, fun _ => ⟨rfl, by show full = full - 0; omega⟩, fun z => by omega, hb0, Int.le_refl _, Same.refl H⟩ (fun i σ H' _ ⟨_, _, _, _, _, _, _, _, _, _, _, h⟩ => SqL.of (h _ _ hll)) ?_ ?_
    · rintro i y σ H' T' hi ⟨heat, left, v8, v9, v10, v11, rfl, hA, hB, l0, l1, s1⟩ hT'
      obtain ⟨tp, m, l, rfl, htp, hL⟩ := hP.get hi
      obtain ⟨k1, k2, k3, k4⟩ := good_at G hL
      have hil : i < xs.length := (List.getElem?_eq_some_iff.mp hi).1
      have s2 : Same H (upd H' T' (.tup [.int (i : Nat), .ref tp])) := s1.trans (same_new hT')
      refine ⟨T', _, rfl, SqT.of upd_same, rfl, _, _, rfl, _, _, rfl, tp, _, rfl, SqT.of (s2 _ _ htp), rfl, _, _, rfl, _, _, rfl, rfl, rfl, ?_⟩
      refine ⟨_, rfl, _, rfl, ll, _, rfl, .inl (SqL.of (s2 _ _ hll)), _, 1, rfl, rfl, _, _, rfl, rfl, _, rfl, ?_⟩
      refine iteD (fun c => ?_) (fun c => ?_)
      · -- the last pair
        have ei : i = L0.length := by omega
        have hq : lq = (m, l) := by
          rw [ei, List.getElem?_append_right (Nat.le_refl _), Nat.sub_self] at hL
          exact Option.some.inj hL
        obtain ⟨a1, a2⟩ := hA (by omega)
        refine ⟨_, rfl, ?_⟩
        refine ⟨_, rfl, _, rfl, _, rfl, left, l, rfl, rfl, .inl ⟨by omega, by omega⟩, heat, _, rfl, rfl, ?_⟩
        refine ⟨_, rfl, _, rfl, left, left, rfl, rfl, _, _, rfl, ?_⟩
        refine ⟨heat - left * l, left - left, _, _, _, _, rfl, fun z => by omega, fun _ => ?_, by omega, by omega, s2⟩
        have hz := HM.fold_lost L0 lq b 0
        rw [ei, List.take_length] at a1 a2
        rw [← a1, hq] at hz
        rw [hq]
        have hz' : (L0.foldl HM.step (b, 0)).2 + left * l = 0 + HM.lostOf (L0 ++ [(m, l)]) b := hz
        omega
      · -- a pair ahead of it
        have hi2 : i < L0.length := by omega
        have hL0 : L0[i]? = some (m, l) := by
          rw [List.getElem?_append_left hi2] at hL
          exact hL
        obtain ⟨a1, a2⟩ := hA (by omega)
        refine ⟨_, rfl, _, rfl, left, m, rfl, ?_⟩
        have w0 : 0 ≤ (if m < left then m else left) := by split <;> omega
        have w1 : (if m < left then m else left) ≤ left := by split <;> omega
        refine ⟨_, rfl, _, rfl, _, rfl, _, l, rfl, rfl, .inl ⟨by omega, by omega⟩, heat, _, rfl, rfl, ?_⟩
        refine ⟨_, rfl, _, rfl, left, _, rfl, rfl, _, _, rfl, ?_⟩
        refine ⟨heat - (if m < left then m else left) * l, left - (if m < left then m else left), _, _, _, _, rfl, fun z => ?_, fun z => by omega, by omega, by omega, s2⟩
        rw [fold_more hL0]
        generalize hfd : (L0.take i).foldl HM.step (b, 0) = fs at a1 a2
        obtain ⟨fl, fls⟩ := fs
        show left - (if m < left then m else left) = fl - (if m < fl then m else fl) ∧ heat - (if m < left then m else left) * l = full - (fls + (if m < fl then m else fl) * l)
        have a1' : left = fl := a1
        have a2' : heat = full - fls := a2
        rw [a1', a2']
        exact ⟨rfl, by omega⟩
    · rintro σ H' ⟨heat, left, v8, v9, v10, v11, rfl, hA, hB, l0, l1, s1⟩
      refine ⟨_, rfl, _, rfl, air, heat, rfl, ?_⟩
      show Q (.int (if heat > air then heat else air)) H'
      rw [hB hlen]
      exact q _ s1
/-! ### _law_some_beats -/
def spSome : Sp := fun vs H Q _ => ∃ (t r : Addr) (c full least air : Int) (L : List (Int × Int)), vs = [.ref t, .ref r] ∧ TapeAt H t c ∧ c ≤ 90000 ∧ RowAt t H r full least air L ∧
  ∀ (p : Addr) (ns : List Int) (H' : Hp), H p = none → (∀ z ∈ ns, 0 ≤ z ∧ z ≤ 10000000000000) → H' p = some (.lst (ns.map V.int)) → TapeAt H' t (c + 3) → SameBut t H H' → Q (.ref p) H'
abbrev sLsome_beats : Stmt := top 20
theorem scLsome_beats : FnScope ["_law_tape_here", "_law_row", "_law_found", "_law_end", "_law_number", "_law_loss"] ["_law_tape_here", "_law_row"] (defScope sLsome_beats) := ⟨rfl, rfl, rfl, by decide +kernel, rfl, by decide +kernel, by decide +kernel⟩
theorem ok_some {f : Addr} {fd : FuncData} (F : Fun K "_law_some_beats" "_law_some_beats" sLsome_beats f fd) (T : Txt mg tM tL) (DLdraw : DDraw P w K mg base) : FnOk P w K mg base CX0 2 f fd ["_law_tape_here", "_law_row"] spSome := by
  refine F.ok scLsome_beats (fun vs H Q E h => ?_) (fun cdv A outer s H vs Q E hr h => ?_)
  · obtain ⟨t, r, c, full, least, air, L, rfl, _⟩ := h
    rfl
  · obtain ⟨t, r, c, full, least, air, L, rfl, hT, hc, R, q⟩ := h
    refine ⟨_, (pss_cons (ps_par (i := 2) (j := 3) (by rfl) scLsome_beats.nd rfl rfl (by decide) rfl rfl (pa_cons (pe_lst (pa_cons pe_int (pa_cons (pe_op op_pow pe_int pe_int) (pa_cons (pe_fn DLdraw (hr.mono (by decide)) (pa_cons (pv 0) (pa_cons (pe_op op_pow pe_int pe_int) pa_nil))) (pa_cons (pe_fn DLdraw (hr.mono (by decide)) (pa_cons (pv 0) (pa_cons pe_int pa_nil))) (pa_cons (pe_fn DLdraw (hr.mono (by decide)) (pa_cons (pv 0) (pa_cons (pe_op op_pow pe_int pe_int) pa_nil))) pa_nil)))))) (pa_cons pe_int pa_nil)) (by rfl))
    (pss_cons (ps_for PassesOwn.never rfl (pi_list (pe_ix ix_tup (pv 1) pe_int (fun _ _ => rfl))) (pg_tup rfl (pgs_cons (pg_name (i := 4) scLsome_beats.nd rfl (Or.inl rfl)) (pgs_cons (pg_name (i := 5) scLsome_beats.nd rfl (Or.inl rfl)) pgs_nil)))
    (pss_cons (ps_set (i := 3) scLsome_beats.nd rfl (Or.inl rfl) (pe_op op_add (pv 3) (pv 4)))
    (pss_one (ps_expr (pe_bm PySem.F.plainAttrs_list PySem.F.slot_list_extend PySem.F.type_list_extend mt_extend (pv 2) (pa_cons (pe_lst (pa_cons (pe_op op_sub (pv 3) pe_int) (pa_cons (pv 3) (pa_cons (pe_op op_add (pv 3) pe_int) pa_nil)))) pa_nil))))))
    (pss_one (ps_ret (pv 2))))), ?_⟩
    have e12 : (10 : Int) ^ (12 : Int).toNat = 1000000000000 := by decide
    have e6 : (10 : Int) ^ (6 : Int).toNat = 1000000 := by decide
    refine ⟨10, 12, rfl, rfl, pow12, ?_⟩
    refine ⟨_, rfl, 10, 12, rfl, rfl, pow12, t, c, _, rfl, hT, by omega, (by rw [e12]; decide), (by rw [e12]; decide), fun d1 H1 a0 a1 T1 S1 => ?_⟩
    refine ⟨_, rfl, t, _, 1000, rfl, T1, by omega, by decide, by decide, fun d2 H2 b0 b1 T2 S2 => ?_⟩
    refine ⟨_, rfl, 10, 6, rfl, rfl, pow6, t, _, _, rfl, T2, by omega, (by rw [e6]; decide), (by rw [e6]; decide), fun d3 H3 c0 c1 T3 S3 => ?_⟩
    refine ⟨(by show 5 ≤ sizeLine; decide), fun fo hfo => ⟨_, _, rfl, ?_⟩⟩
    have SB : SameBut t H H3 := (S1.trans S2).trans S3
    have hfo0 : H fo = none := SB.free T3 hfo
    have nft : fo ≠ t := T3.ne hfo
    obtain ⟨⟨ll, xs, hrow, hll, nlt, hP⟩, G, m1, m2, m3, m4, m5⟩ := (R.but SB hT)
    rw [e12] at a1
    rw [e6] at c1
    have s1 : Same H3 (upd H3 fo (.lst [.int 0, .int ((10 : Int) ^ (12 : Int).toNat), .int d1, .int d2, .int d3])) := same_new hfo
    refine ⟨_, rfl, r, _, 2, .ref ll, rfl, rfl, SqT.of (s1 _ _ hrow), rfl, ll, rfl, ⟨_, SqL.of (s1 _ _ hll)⟩, ?_⟩
    have nlf : ll ≠ fo := ne_of_none hll hfo
    refine for_list (K := K) (a := ll) (xs := xs) (fun i σ H' => ∃ (ns : List Int) (e : Int) (v4 v5 : Option V), σ = [some (.ref t), some (.ref r), some (.ref fo), some (.int e), v4, v5] ∧ H' fo = some (.lst (ns.map V.int)) ∧ ns.length = 5 + 3 * i ∧ (∀ z ∈ ns, 0 ≤ z ∧ z ≤ 10000000000000) ∧ 0 ≤ e ∧ e ≤ 1000000 * (i : Int) ∧ Same H3 H')
      ⟨[0, (10 : Int) ^ (12 : Int).toNat, d1, d2, d3], 0, _, _, rfl, upd_same, rfl, ?_, Int.le_refl _, by omega, s1⟩ (fun i σ H' _ ⟨_, _, _, _, _, _, _, _, _, _, h⟩ => SqL.of (h _ _ hll)) ?_ ?_
    · intro z hz
      simp only [List.mem_cons, List.not_mem_nil, or_false] at hz
      rw [e12] at hz
      rcases hz with h | h | h | h | h <;> omega
    · rintro i y σ H' hi ⟨ns, e, v4, v5, rfl, hf, hl, hB, z0, z1, s2⟩
      obtain ⟨tp, m, l, rfl, htp, hL⟩ := hP.get hi
      obtain ⟨k1, k2, k3, k4⟩ := good_at G hL
      have hil : i < xs.length := (List.getElem?_eq_some_iff.mp hi).1
      have h6 : xs.length ≤ 6 := by rw [hP.len]; exact G.2.1
      refine ⟨tp, _, rfl, SqT.of (s2 _ _ htp), rfl, _, _, rfl, _, _, rfl, rfl, ?_⟩
      refine ⟨_, rfl, _, rfl, e, m, rfl, rfl, ?_⟩
      refine ⟨_, rfl, .inl ⟨rfl, _, SqL.of hf⟩, _, rfl, e + m, 1, rfl, rfl, _, rfl, _, rfl, e + m, 1, rfl, rfl, (by show 3 ≤ sizeLine; decide), fun d hd => ?_⟩
      have hf1 : ∀ o, (upd H' d o) fo = some (.lst (ns.map V.int)) := fun o => by rw [upd_ne (ne_of_none hf hd)]; exact hf
      refine ⟨fo, d, _, _, rfl, rfl, hf1 _, upd_same, ?_, ?_⟩
      · rw [List.length_map, hl]
        exact Nat.le_trans (show 5 + 3 * i + 3 ≤ 30 by omega) (by decide)
      refine ⟨ns ++ [e + m - 1, e + m, e + m + 1], e + m, _, _, rfl, ?_, ?_, ?_, by omega, by omega, ?_⟩
      · rw [upd_same, List.map_append]
        rfl
      · rw [List.length_append, hl]
        show 5 + 3 * i + 3 = _
        omega
      · intro z hz
        rcases List.mem_append.mp hz with h | h
        · exact hB z h
        · simp only [List.mem_cons, List.not_mem_nil, or_false] at h
          rcases h with h | h | h <;> omega
      · intro b o e'
        rw [upd_ne (ne_of_none e' hfo), upd_ne (ne_of_none (s2 _ _ e') hd)]
        exact s2 _ _ e'
    · rintro σ H' ⟨ns, e, v4, v5, rfl, hf, hl, hB, z0, z1, s2⟩
      refine ⟨_, rfl, ?_⟩
      exact q fo ns H' hfo0 hB hf ((T3.same s2).mono (by omega)) (SB.trans (Same.but s2))
end
end HP
namespace HP
open PySem L2
section
variable {P : Program} {w : World} {K : PySem.W.Frag} {mg : Str → Option Value} {base : Heap} {tM tL : Tok}
theorem dp_ints {H : Hp} : ∀ ns : List Int, DpAll K H (ns.map V.int) (ns.map PyData.int)
  | [] => .nil
  | n :: ns => .cons (.int n) (dp_ints ns)
structure Rw where
  r : Addr
  full : Int
  least : Int
  air : Int
  L : List (Int × Int)
/-- what stands between two turns: the cells, the tape, the rows, the metals -/
structure Stand (C t pc : Addr) (cs : List Int) (lr : Addr) (xs : List V) (D : Addr) (ms : List V) (R : Nat → Rw) (H : Hp) (c : Int) : Prop where
  hpc : H pc = some (.lst (cs.map V.int))
  npc : pc ≠ t
  tape : TapeAt H t c
  hlr : H lr = some (.lst xs)
  nlr : lr ≠ t
  hD : H D = some (.lst ms)
  nD : D ≠ t
  rows : ∀ j : Nat, j < 2 → xs[j]? = some (.ref (R j).r) ∧ RowAt t H (R j).r (R j).full (R j).least (R j).air (R j).L
  metals : ∀ j : Nat, j < 2 → ∃ p, ms[j]? = some (.ref p) ∧ MetalAt C H p (R j).full (R j).least (R j).air (R j).L
theorem Stand.but {C t pc : Addr} {cs : List Int} {lr : Addr} {xs : List V} {D : Addr} {ms : List V} {R : Nat → Rw} {H H' : Hp} {c c' : Int} (S : Stand C t pc cs lr xs D ms R H c) (s : SameBut t H H') (T : TapeAt H' t c') : Stand C t pc cs lr xs D ms R H' c' :=
  ⟨s _ _ S.hpc S.npc, S.npc, T, s _ _ S.hlr S.nlr, S.nlr, s _ _ S.hD S.nD, S.nD, fun j hj => ⟨(S.rows j hj).1, (S.rows j hj).2.but s S.tape⟩, fun j hj => let ⟨p, a, b⟩ := S.metals j hj; ⟨p, a, b.but s S.tape⟩⟩
theorem Stand.same {C t pc : Addr} {cs : List Int} {lr : Addr} {xs : List V} {D : Addr} {ms : List V} {R : Nat → Rw} {H H' : Hp} {c : Int} (S : Stand C t pc cs lr xs D ms R H c) (s : Same H H') : Stand C t pc cs lr xs D ms R H' c := S.but (Same.but s) (S.tape.same s)
structure DMk (P : Program) (w : World) (K : PySem.W.Frag) (mg : Str → Option Value) (base : Heap) (C : Addr) : Prop where
  ex : ∃ (f : Addr) (fd : FuncData), Mk K C f ∧ FnOk P w K mg base CX0 4 f fd ["self", "full", "least", "losses", "air"] (spInit C) ∧ mg "Metal" = some (.ref C) ∧ Binds K fd ["self", "full", "least", "losses", "air"] []
theorem pe_metal {X : Cx} {C : Addr} {p pos : Pos} {e : Expr} {es : List Expr} {t : TA} (M : DMk X.prog X.w X.K X.mg X.base C) (hr : Room 5 X.A) (ha : PA X (e :: es) t) (hg : Gl X "Metal" := by rfl)
    (he : starEach (e :: es) X.env = (false, eval e X.env) :: starEach es X.env := by rfl) (hpl : (backTo pos (starEach es X.env)).any (·.1) = false := by rfl) :
    PE X (.Call (.Name "Metal" p) (e :: es) [] pos) (tMake C (spInit C) [] E0 t) := by
  obtain ⟨f, fd, mk, F, hm, b⟩ := M.ex
  exact pe_make mk F hr hg hm b .nil pass0 ha (by decide) he hpl
def spLaw (K : PySem.W.Frag) : Sp := fun vs H Q _ => ∃ (a : Addr) (ns : List Int), vs = [.ref a] ∧ SqL K H a (ns.map V.int) ∧ ns.length ≤ 63 ∧ ∀ H', Q (.bl true) H'
abbrev slaw : Stmt := top 22
theorem sclaw : FnScope ["_law_script", "_law_cells", "_law_k", "_law_tape_here", "_law_rows", "_law_metals", "_law_turn", "_law_row", "_law_metal_here", "_law_a_beats", "_law_due"] ["_law_script"] (defScope slaw) := ⟨rfl, rfl, rfl, by decide +kernel, rfl, by decide +kernel, by decide +kernel⟩
theorem ok_law {f C : Addr} {fd : FuncData} (F : Fun K "law" "law" slaw f fd) (T : Txt mg tM tL) (DLfolded : Df P w K mg base "_law_folded" 1 ["_law_script", "_law_many"] (spFolded K)) (DLtape : Df P w K mg base "_law_tape" 1 ["_law_script", "_law_k"] (spTape K))
    (DLmetal : Df P w K mg base "_law_metal" 3 ["_law_tape_here"] spMetal) (DM : DMk P w K mg base C) (DLby_beats : Df P w K mg base "_law_by_beats" 1 ["_law_row", "_law_many"] spByBeats)
    (DLtold_right : Df P w K mg base "_law_told_right" 2 ["_law_metal_here", "_law_a_beats", "_law_due"] (spTold C)) (DLsome_beats : Df P w K mg base "_law_some_beats" 2 ["_law_tape_here", "_law_row"] spSome)
    (DLby_pairs : Df P w K mg base "_law_by_pairs" 1 ["_law_row", "_law_a_beats"] spByPairs) : FnOk P w K mg base CX0 6 f fd ["_law_script"] (spLaw K) := by
  refine F.ok sclaw (fun vs H Q E h => ?_) (fun cdv A outer s H vs Q E hr h => ?_)
  · obtain ⟨a, ns, rfl, _⟩ := h
    rfl
  · obtain ⟨a, ns, rfl, hS, hn, q⟩ := h
    refine ⟨_, (C8.pss_cut (ps_set (i := 1) sclaw.nd rfl (Or.inl rfl) (pe_ifExp (pt_cmpR (op_neD hr.units) (pv 0) (pe_lst pa_nil) (nomark _)) (pe_fn DLfolded (hr.mono (by decide)) (pa_cons (pv 0) (pa_cons pe_int pa_nil))) (pe_lst (pa_cons pe_int pa_nil))))
    (pss_cons (ps_for PassesOwn.never rfl (pi_range1 (by rfl) T.zrange (pa_cons (pe_callB call_len_seq (by rfl) T.zlen (by decide +kernel) (pa_cons (pv 1) pa_nil)) pa_nil)) (pg_name (i := 2) sclaw.nd rfl (Or.inl rfl))
    (pss_cons (ps_set (i := 3) sclaw.nd rfl (Or.inl rfl) (pe_fn DLtape (hr.mono (by decide)) (pa_cons (pv 1) (pa_cons (pv 2) pa_nil))))
    (pss_cons (ps_set (i := 4) sclaw.nd rfl (Or.inl rfl) (pe_lst (pa_cons (pe_fn DLmetal (hr.mono (by decide)) (pa_cons (pv 3) pa_nil)) (pa_cons (pe_fn DLmetal (hr.mono (by decide)) (pa_cons (pv 3) pa_nil)) pa_nil))))
    (pss_cons (ps_setLc (i := 5) (own := [("_law_row", 7)]) (g := gName 7) (tt := tYes) (te := tMake C (spInit C) [] E0 (tCons (tOp (rIxT K) (tVar 7) (tC (.int 0))) (tCons (tOp (rIxT K) (tVar 7) (tC (.int 1))) (tCons (tCB (fun xs H Q => ∃ p ys, xs = [.ref p] ∧ (SqL K H p ys ∨ SqT K H p ys) ∧ ∀ l, H l = none → Q (.ref l) (upd H l (.lst ys))) (tCons (tOp (rIxT K) (tVar 7) (tC (.int 2))) tNil)) (tCons (tOp (rIxT K) (tVar 7) (tC (.int 3))) tNil))))) (by rfl) sclaw.nd rfl rfl (sw_true rfl rfl rfl (by decide +kernel)) (pi_list (pv 4)) (blkOk_by (own := [("_law_row", 7)]) (N := ["_law_script", "_law_cells", "_law_k", "_law_tape_here", "_law_rows", "_law_metals", "_law_turn", "_law_row", "_law_metal_here", "_law_a_beats", "_law_due"]) (sc := defScope slaw) (by decide +kernel)) (fun _ _ _ _ _ => (pg_name (i := 7) sclaw.nd rfl (Or.inl rfl))) (fun _ _ _ _ _ => pts_nil) (fun _ _ _ _ _ => (pe_metal (C := C) DM (hr.mono (by decide)) (pa_cons (pe_ix ix_tup (pv 7) pe_int (fun _ _ => rfl)) (pa_cons (pe_ix ix_tup (pv 7) pe_int (fun _ _ => rfl)) (pa_cons (pe_callTy call_list_of (by rfl) T.zlist (by decide +kernel) (pa_cons (pe_ix ix_tup (pv 7) pe_int (fun _ _ => rfl)) pa_nil)) (pa_cons (pe_ix ix_tup (pv 7) pe_int (fun _ _ => rfl)) pa_nil)))))))
    (pss_one (ps_for PassesOwn.never rfl (pi_range1 (by rfl) T.zrange (pa_cons pe_int pa_nil)) (pg_name (i := 6) sclaw.nd rfl (Or.inl rfl))
    (pss_cons (ps_par (i := 7) (j := 8) (by rfl) sclaw.nd rfl rfl (by decide) rfl rfl (pa_cons (pe_ix ix_list (pv 4) (pe_op op_mod (pv 6) pe_int) (fun _ _ => rfl)) (pa_cons (pe_ix ix_list (pv 5) (pe_op op_mod (pv 6) pe_int) (fun _ _ => rfl)) pa_nil)) (by rfl))
    (pss_cons (ps_for PassesOwn.never rfl (pi_enum (by rfl) T.zenumerate (pa_cons (pe_fn DLby_beats (hr.mono (by decide)) (pa_cons (pv 7) (pa_cons pe_int pa_nil))) pa_nil)) (pg_tup rfl (pgs_cons (pg_name (i := 9) sclaw.nd rfl (Or.inl rfl)) (pgs_cons (pg_name (i := 10) sclaw.nd rfl (Or.inl rfl)) pgs_nil)))
    (pss_one (ps_if (pt_not (pt_val (pe_fn DLtold_right (hr.mono (by decide)) (pa_cons (pv 8) (pa_cons (pv 9) (pa_cons (pv 10) pa_nil)))))) (pss_one (ps_ret pe_bl)) pss_nil)))
    (pss_one (ps_for PassesOwn.never rfl (pi_list (pe_fn DLsome_beats (hr.mono (by decide)) (pa_cons (pv 3) (pa_cons (pv 7) pa_nil)))) (pg_name (i := 9) sclaw.nd rfl (Or.inl rfl))
    (pss_one (ps_if (pt_not (pt_val (pe_fn DLtold_right (hr.mono (by decide)) (pa_cons (pv 8) (pa_cons (pv 9) (pa_cons (pe_fn DLby_pairs (hr.mono (by decide)) (pa_cons (pv 7) (pa_cons (pv 9) pa_nil))) pa_nil)))))) (pss_one (ps_ret pe_bl)) pss_nil))))))))))))
    (pss_one (ps_ret pe_bl)))), ?_⟩
    -- _law_cells
    refine ⟨fun σ H1 => ∃ (pc : Addr) (cs : List Int), σ = [some (.ref a), some (.ref pc), none, none, none, none, none, none, none, none, none] ∧ H1 pc = some (.lst (cs.map V.int)) ∧ cs.length ≤ 5, ?_, ?_⟩
    · refine ⟨_, rfl, (by show 0 ≤ sizeLine; decide), fun d hd => ?_⟩
      have hS' : SqL K (upd H d (.lst [])) a (ns.map V.int) := Same.seq (same_new hd) hS
      refine ⟨_, _, .lst hS' (dp_ints ns), .lst (SqL.of upd_same) .nil, PySem.W.ke_shaped_ints ns, PySem.W.ke_shaped_ints [], _, rfl, ?_⟩
      refine ite2 (fun _ => ?_) (fun _ => ?_)
      · refine ⟨_, rfl, a, ns, 5, rfl, hS', by decide, by decide, hn, fun p cs H1 hp hl hc s1 => ?_⟩
        exact ⟨p, cs, rfl, hc, by omega⟩
      · refine ⟨(by show 1 ≤ sizeLine; decide), fun p hp => ?_⟩
        exact ⟨p, [0], rfl, upd_same, by decide⟩
    · rintro σ H1 ⟨pc, cs, rfl, hpc, hcs⟩
      refine ⟨_, rfl, pc, _, rfl, .inl (SqL.of hpc), _, rfl, ?_, ?_, ?_⟩
      · rw [List.length_map]; omega
      · rw [List.length_map]; omega
      refine for_range (lo := 0) (n := ((cs.map V.int).length : Int).toNat) (fun i σ H' => ∃ (v2 v3 v4 v5 v6 v7 v8 v9 v10 : Option V), σ = [some (.ref a), some (.ref pc), v2, v3, v4, v5, v6, v7, v8, v9, v10] ∧ H' pc = some (.lst (cs.map V.int)))
        ⟨_, _, _, _, _, _, _, _, _, rfl, hpc⟩ ?_ ?_
      · rintro i σ H2 hi ⟨v2, v3, v4, v5, v6, v7, v8, v9, v10, rfl, hpc2⟩
        rw [List.length_map] at hi
        -- the tape
        refine ⟨_, rfl, _, rfl, pc, cs, _, rfl, SqL.of hpc2, by omega, by omega, fun t H3 ht T3 s3 => ?_⟩
        have hpc3 := s3 _ _ hpc2
        have npc : pc ≠ t := ne_of_none hpc2 ht
        -- the rows
        refine ⟨_, rfl, t, 0, rfl, T3, by decide, fun r1 f1 l1 a1 L1 H4 R1 T4 S4 => ?_⟩
        refine ⟨_, rfl, t, _, rfl, T4, by decide, fun r2 f2 l2 a2 L2 H5 R2 T5 S5 => ?_⟩
        refine ⟨(by show 2 ≤ sizeLine; decide), fun lr hlr => ?_⟩
        have nlr : lr ≠ t := T5.ne hlr
        have hpc5 : H5 pc = some (.lst (cs.map V.int)) := S5 _ _ (S4 _ _ hpc3 npc) npc
        have R1' : RowAt t H5 r1 f1 l1 a1 L1 := R1.but S5 T4
        generalize hH6 : upd H5 lr (.lst [.ref r1, .ref r2]) = H6
        have s6 : Same H5 H6 := by rw [← hH6]; exact same_new hlr
        have hlr6 : H6 lr = some (.lst [.ref r1, .ref r2]) := by rw [← hH6]; exact upd_same
        have T6 : TapeAt H6 t 80 := (T5.same s6).mono (by omega)
        let R : Nat → Rw := fun j => if j = 0 then ⟨r1, f1, l1, a1, L1⟩ else ⟨r2, f2, l2, a2, L2⟩
        have hrows : ∀ j : Nat, j < 2 → ([V.ref r1, V.ref r2] : List V)[j]? = some (.ref (R j).r) ∧ RowAt t H6 (R j).r (R j).full (R j).least (R j).air (R j).L := by
          intro j hj
          have : j = 0 ∨ j = 1 := by omega
          rcases this with rfl | rfl
          · exact ⟨rfl, R1'.but (Same.but s6) T5⟩
          · exact ⟨rfl, R2.but (Same.but s6) T5⟩
        clear_value R
        -- the metals
        refine ⟨_, rfl, lr, rfl, ⟨_, SqL.of hlr6⟩, fun D hD => ?_⟩
        have nD : D ≠ t := T6.ne hD
        refine lc_list (K := K) (a := lr) (xs := [V.ref r1, V.ref r2]) (fun i H' => ∃ ms, H' D = some (.lst ms) ∧ ms.length = i ∧ (∀ j : Nat, j < i → ∃ p, ms[j]? = some (.ref p) ∧ MetalAt C H' p (R j).full (R j).least (R j).air (R j).L) ∧ Same H6 H')
          ⟨[], upd_same, rfl, fun j hj => by omega, same_new hD⟩ (fun i H' _ ⟨_, _, _, _, h⟩ => SqL.of (h _ _ hlr6)) ?_ ?_
        · rintro j x H' hj ⟨ms, hms, lms, hM, s7⟩
          have hj2 : j < 2 := (List.getElem?_eq_some_iff.mp hj).1
          obtain ⟨ej, RJ⟩ := hrows j hj2
          obtain rfl : V.ref (R j).r = x := Option.some.inj (ej.symm.trans hj)
          obtain ⟨⟨ll, zs, g1, g2, g3, g4⟩, G, n1, n2, n3, n4, n5⟩ := RJ
          have g1' := s7 _ _ g1
          refine ⟨rfl, ?_⟩
          refine ⟨_, rfl, _, _, 0, _, rfl, rfl, SqT.of g1', rfl, _, rfl, _, _, 1, _, rfl, rfl, SqT.of g1', rfl, _, rfl, _, _, 2, _, rfl, rfl, SqT.of g1', rfl, ll, zs, rfl, .inl (SqL.of (s7 _ _ g2)), fun l3 hl3 => ?_⟩
          have g1'' : ∀ o, (upd H' l3 o) (R j).r = some (.tup [.int (R j).full, .int (R j).least, .ref ll, .int (R j).air]) := fun o => by rw [upd_ne (ne_of_none g1' hl3)]; exact g1'
          refine ⟨_, rfl, _, _, 3, _, rfl, rfl, SqT.of (g1'' _), rfl, fun x dx hx hdx ne => ?_⟩
          have s8 : Same H' (upd (upd (upd H' l3 (.lst zs)) dx (.own x)) x (.ins C dx [])) := (same_new hl3).trans fun b o e => by
            rw [upd_ne (ne_of_none e hx), upd_ne (ne_of_none e hdx)]
            exact e
          have nxl : l3 ≠ x := ne_of_none (upd_same (o := .lst zs)) hx
          have ndl : l3 ≠ dx := ne_of_none (upd_same (o := .lst zs)) hdx
          refine ⟨x, dx, l3, zs, (R j).L, _, _, _, rfl, upd_same, ?_, Same.pairs (s7.trans s8) g4, G, n1, n2, n3, n4, n5, fun tt ys H9 k1 k2 k3 k4 => ⟨rfl, ?_⟩⟩
          · rw [upd_ne nxl, upd_ne ndl, upd_same]
          have hx0 : H' x = none := (same_new hl3).free hx
          have s9 : Same H' H9 := fun b o e => k4 b o (s8 b o e) (ne_of_none e hx0)
          have hms9 := s9 _ _ hms
          refine ⟨ms, hms9, ?_, ms ++ [.ref x], upd_same, ?_, ?_, ?_⟩
          · exact Nat.lt_of_le_of_lt (show ms.length ≤ 2 by omega) (by decide)
          · rw [List.length_append, lms]
            rfl
          · have s10 : ∀ o, (∀ b zs, H9 b = some (.tup zs) → (upd H9 D o) b = some (.tup zs)) := fun o b zs' e => by
              rw [upd_ne (ne_of e hms9 (by intro z; cases z))]
              exact e
            have s11 : ∀ o, (∀ b C dx fs, H9 b = some (.ins C dx fs) → (upd H9 D o) b = some (.ins C dx fs)) := fun o b C dx fs e => by
              rw [upd_ne (ne_of e hms9 (by intro z; cases z))]
              exact e
            intro j' hj'
            by_cases c : j' < j
            · obtain ⟨p, hp1, hp2⟩ := hM j' c
              obtain ⟨dx', tt', ys', z1, z2, z3⟩ := (hp2.same s9).ex
              exact ⟨p, (by rw [List.getElem?_append_left (by omega)]; exact hp1), ⟨dx', tt', ys', s11 _ _ _ _ _ z1, s10 _ _ _ z2, z3.move fun b zs' e => s10 _ _ _ e⟩⟩
            · obtain rfl : j' = j := by omega
              exact ⟨x, (by rw [List.getElem?_append_right (by omega), lms, Nat.sub_self]; rfl), ⟨dx, tt, ys, s11 _ _ _ _ _ k1, s10 _ _ _ k2, k3.move fun b zs' e => s10 _ _ _ e⟩⟩
          · intro b o e
            rw [upd_ne (ne_of_none e hD)]
            exact s9 _ _ (s7 _ _ e)
        · rintro H' ⟨ms, hms, lms, hM, s7⟩
          have ST : Stand C t pc cs lr [V.ref r1, V.ref r2] D ms R H' 80 :=
            ⟨s7 _ _ (s6 _ _ hpc5), npc, T6.same s7, s7 _ _ hlr6, nlr, hms, nD, fun j hj => ⟨(hrows j hj).1, (hrows j hj).2.but (Same.but s7) T6⟩, hM⟩
          -- for _law_turn in range(4)
          refine ⟨4, rfl, by decide, by decide, ?_⟩
          refine for_range (lo := 0) (n := (4 : Int).toNat) (fun j σ H'' => ∃ (v2 v6 v7 v8 v9 v10 : Option V), σ = [some (.ref a), some (.ref pc), v2, some (.ref t), some (.ref lr), some (.ref D), v6, v7, v8, v9, v10] ∧ Stand C t pc cs lr [V.ref r1, V.ref r2] D ms R H'' (80 + 3 * (j : Int)))
            ⟨_, _, _, _, _, _, rfl, ST.but (Same.but (Same.refl _)) (ST.tape.mono (by omega))⟩ ?_ ?_
          · rintro j σ H7 hj ⟨v2, v6, v7, v8, v9, v10, rfl, S7⟩
            have hj4 : j < 4 := hj
            have ki : ∃ k : Nat, k < 2 ∧ (0 + (j : Int)) % 2 = (k : Int) := ⟨((0 + (j : Int)) % 2).toNat, by omega, by omega⟩
            obtain ⟨k, hk, ek⟩ := ki
            obtain ⟨er, RK⟩ := S7.rows k hk
            obtain ⟨pm, em, MK⟩ := S7.metals k hk
            have G := RK.good
            refine ⟨_, rfl, _, rfl, _, 2, rfl, rfl, (show (0 : Int) < 2 by decide), lr, _, _, _, rfl, rfl, SqL.of S7.hlr, at_of ek er, _, rfl, _, rfl, _, 2, rfl, rfl, (show (0 : Int) < 2 by decide), D, _, _, _, rfl, rfl, SqL.of S7.hD, at_of ek em, _, _, rfl, ?_⟩
            -- beat by beat
            refine ⟨_, rfl, t, _, _, _, _, _, rfl, RK, fun p zs H8 hp hlen hz hzs s8 => ?_⟩
            refine ⟨p, _, rfl, SqL.of hzs, ?_⟩
            have S8 := S7.same s8
            have M8 := MK.same s8
            refine for_enum (K := K) (a := p) (xs := zs.map V.int) (fun i' σ H'' => ∃ (w9 w10 : Option V), σ = [some (.ref a), some (.ref pc), v2, some (.ref t), some (.ref lr), some (.ref D), some (.int (0 + (j : Int))), some (.ref (R k).r), some (.ref pm), w9, w10] ∧ Same H8 H'')
              ⟨_, _, rfl, Same.refl _⟩ (fun i' σ H'' _ ⟨_, _, _, h⟩ => SqL.of (h _ _ hzs)) ?_ ?_
            · rintro i' x σ H9 T' hi' ⟨w9, w10, rfl, s9⟩ hT'
              obtain ⟨z, hz', rfl⟩ := map_int hi'
              have hil : i' < zs.length := (List.getElem?_eq_some_iff.mp hz').1
              refine ⟨T', _, rfl, SqT.of upd_same, rfl, _, _, rfl, _, _, rfl, rfl, ?_⟩
              have s10 : Same H8 (upd H9 T' (.tup [.int (i' : Nat), .int z])) := s9.trans (same_new hT')
              refine ⟨_, rfl, _, rfl, _, rfl, pm, _, _, _, _, z, _, rfl, M8.same s10, G, by omega, by omega, hz i' z hz', fun H11 s11 => ⟨true, rfl, iteF ?_⟩⟩
              exact ⟨_, _, rfl, s10.trans s11⟩
            · rintro σ H9 ⟨w9, w10, rfl, s9⟩
              have S9 := S8.same s9
              have M9 := M8.same s9
              obtain ⟨_, RK9⟩ := S9.rows k hk
              -- some beats
              refine ⟨_, rfl, _, rfl, t, _, _, _, _, _, _, rfl, S9.tape, by omega, RK9, fun p2 bs H10 hp2 hB hbs T10 S10 => ?_⟩
              have SS := S9.but S10 T10
              have M10 := M9.but S10 S9.tape
              have RK10 := RK9.but S10 S9.tape
              refine ⟨p2, rfl, ⟨_, SqL.of hbs⟩, ?_⟩
              refine for_list (K := K) (a := p2) (xs := bs.map V.int) (fun i' σ H'' => ∃ (w9 w10 : Option V), σ = [some (.ref a), some (.ref pc), v2, some (.ref t), some (.ref lr), some (.ref D), some (.int (0 + (j : Int))), some (.ref (R k).r), some (.ref pm), w9, w10] ∧ Same H10 H'')
                ⟨_, _, rfl, Same.refl _⟩ (fun i' σ H'' _ ⟨_, _, _, h⟩ => SqL.of (h _ _ hbs)) ?_ ?_
              · rintro i' x σ H11 hi' ⟨w9', w10', rfl, s11⟩
                obtain ⟨z, hz', rfl⟩ := map_int hi'
                obtain ⟨b0, b1⟩ := hB z (List.mem_of_getElem? hz')
                refine ⟨_, rfl, _, rfl, _, rfl, _, rfl, t, _, z, _, _, _, _, rfl, RK10.but (Same.but s11) T10, b0, b1, fun H12 s12 => ?_⟩
                refine ⟨pm, z, _, _, _, _, _, rfl, (M10.same s11).same s12, G, b0, b1, rfl, fun H13 s13 => ⟨true, rfl, iteF ?_⟩⟩
                exact ⟨_, _, rfl, (s11.trans s12).trans s13⟩
              · rintro σ H11 ⟨w9', w10', rfl, s11⟩
                refine ⟨_, _, _, _, _, _, rfl, SS.but (Same.but s11) ((SS.tape.same s11).mono (by omega))⟩
          · rintro σ H7 ⟨v2, v6, v7, v8, v9, v10, rfl, S7⟩
            exact ⟨_, _, _, _, _, _, _, _, _, rfl, S7.hpc⟩
      · rintro σ H2 ⟨v2, v3, v4, v5, v6, v7, v8, v9, v10, rfl, hpc2⟩
        exact q H2
end
end HP
namespace HP
open PySem L2
theorem all_mk {l : PySem.W.OpenLaw} {w : World} {K : PySem.W.Frag} {h : Heap} {mg : Str → Option Value} {fa : Addr} {C : Addr} {f_isn T_isn : Addr} {oc_isn kV_isn dc_isn pm_isn cd_isn ct_isn ot_isn : Value} {od_isn an_isn dt_isn : Option Addr} {sl_isn st_isn : Array (Option Value)} {n_isn : Nat} {f_isr : Addr} {oc_isr kV_isr dc_isr pm_isr cd_isr ct_isr : Value} {od_isr an_isr : Option Addr} {sl_isr : Array (Option Value)} {f_isl : Addr} {oc_isl kV_isl dc_isl pm_isl cd_isl ct_isl : Value} {od_isl an_isl : Option Addr} {sl_isl : Array (Option Value)} {f_arl : Addr} {oc_arl kV_arl dc_arl pm_arl cd_arl ct_arl : Value} {od_arl an_arl : Option Addr} {sl_arl : Array (Option Value)} {f_tape : Addr} {oc_tape kV_tape dc_tape pm_tape cd_tape ct_tape : Value} {od_tape an_tape : Option Addr} {sl_tape : Array (Option Value)} {f_draw : Addr} {oc_draw kV_draw dc_draw pm_draw cd_draw ct_draw : Value} {od_draw an_draw : Option Addr} {sl_draw : Array (Option Value)} {f_fold : Addr} {oc_fold kV_fold dc_fold pm_fold cd_fold ct_fold : Value} {od_fold an_fold : Option Addr} {sl_fold : Array (Option Value)} {f_los : Addr} {oc_los kV_los dc_los pm_los cd_los ct_los : Value} {od_los an_los : Option Addr} {sl_los : Array (Option Value)} {f_met : Addr} {oc_met kV_met dc_met pm_met cd_met ct_met : Value} {od_met an_met : Option Addr} {sl_met : Array (Option Value)} {f_bb : Addr} {oc_bb kV_bb dc_bb pm_bb cd_bb ct_bb : Value} {od_bb an_bb : Option Addr} {sl_bb : Array (Option Value)} {f_bp : Addr} {oc_bp kV_bp dc_bp pm_bp cd_bp ct_bp : Value} {od_bp an_bp : Option Addr} {sl_bp : Array (Option Value)} {f_sb : Addr} {oc_sb kV_sb dc_sb pm_sb cd_sb ct_sb : Value} {od_sb an_sb : Option Addr} {sl_sb : Array (Option Value)} {f_tr : Addr} {oc_tr kV_tr dc_tr pm_tr cd_tr ct_tr : Value} {od_tr an_tr : Option Addr} {sl_tr : Array (Option Value)} {f_law : Addr} {oc_law kV_law dc_law pm_law cd_law ct_law : Value} {od_law an_law : Option Addr} {sl_law : Array (Option Value)} {f_init T_init : Addr} {oc_init kV_init dc_init pm_init cd_init ct_init ot_init : Value} {od_init an_init dt_init : Option Addr} {sl_init st_init : Array (Option Value)} {n_init : Nat} {tk_init0 : Tok} {f_heat T_heat : Addr} {oc_heat kV_heat dc_heat pm_heat cd_heat ct_heat ot_heat : Value} {od_heat an_heat dt_heat : Option Addr} {sl_heat st_heat : Array (Option Value)} {n_heat : Nat} {tk_heat0 : Tok} {tM : Tok} {tL : Tok} (X : K.In h) (G : h.Ns mainGlobals mg) (hfa : mg "law" = some (.ref fa))
    (g_C : PySem.W.nsIn K mainGlobals "Metal" = some (some (.ref C)))
    (pg_C : PySem.W.plainGet K C Str.empty = true)
    (hd_C : PySem.W.hasDictIn K C = true)
    (po_C : PySem.W.plainOver K C = true)
    (sa_C : PySem.W.findIn K (.ref C) "__setattr__" = some (some (.builtin "object.__setattr__")))
    (mk_C : PySem.W.makesIn K C = true)
    (kc_C : PySem.W.keepIn K (.ref C) = true)
    (at_C_full : PySem.W.findIn K (.ref C) "full" = some none)
    (at_C_least : PySem.W.findIn K (.ref C) "least" = some none)
    (at_C_losses : PySem.W.findIn K (.ref C) "losses" = some none)
    (at_C_air : PySem.W.findIn K (.ref C) "air" = some none)
    (a_isn : PySem.W.nsIn K mainGlobals "is_number" = some (some (.ref f_isn)))
    (l_isn : K.lookup f_isn = some ⟨oc_isn, od_isn, .func (PySem.W.fnOf "is_number" "is_number" (defArgs sis_number) (defBody sis_number) (defScope sis_number) (.ref T_isn) kV_isn dc_isn pm_isn an_isn cd_isn ct_isn), sl_isn⟩)
    (c_isn : PySem.W.codeIn K cd_isn "is_number" = true)
    (k_isn : PySem.W.keepIn K (.ref f_isn) = true)
    (d_isn : K.lookup T_isn = some ⟨ot_isn, dt_isn, .seq #[.none] n_isn, st_isn⟩)
    (a_isr : PySem.W.nsIn K mainGlobals "is_row" = some (some (.ref f_isr)))
    (l_isr : K.lookup f_isr = some ⟨oc_isr, od_isr, .func (PySem.W.fnOf "is_row" "is_row" (defArgs sis_row) (defBody sis_row) (defScope sis_row) .none kV_isr dc_isr pm_isr an_isr cd_isr ct_isr), sl_isr⟩)
    (c_isr : PySem.W.codeIn K cd_isr "is_row" = true)
    (k_isr : PySem.W.keepIn K (.ref f_isr) = true)
    (a_isl : PySem.W.nsIn K mainGlobals "is_loss" = some (some (.ref f_isl)))
    (l_isl : K.lookup f_isl = some ⟨oc_isl, od_isl, .func (PySem.W.fnOf "is_loss" "is_loss" (defArgs sis_loss) (defBody sis_loss) (defScope sis_loss) .none kV_isl dc_isl pm_isl an_isl cd_isl ct_isl), sl_isl⟩)
    (c_isl : PySem.W.codeIn K cd_isl "is_loss" = true)
    (k_isl : PySem.W.keepIn K (.ref f_isl) = true)
    (a_arl : PySem.W.nsIn K mainGlobals "are_losses" = some (some (.ref f_arl)))
    (l_arl : K.lookup f_arl = some ⟨oc_arl, od_arl, .func (PySem.W.fnOf "are_losses" "are_losses" (defArgs sare_losses) (defBody sare_losses) (defScope sare_losses) .none kV_arl dc_arl pm_arl an_arl cd_arl ct_arl), sl_arl⟩)
    (c_arl : PySem.W.codeIn K cd_arl "are_losses" = true)
    (k_arl : PySem.W.keepIn K (.ref f_arl) = true)
    (a_tape : PySem.W.nsIn K mainGlobals "_law_tape" = some (some (.ref f_tape)))
    (l_tape : K.lookup f_tape = some ⟨oc_tape, od_tape, .func (PySem.W.fnOf "_law_tape" "_law_tape" (defArgs sLtape) (defBody sLtape) (defScope sLtape) .none kV_tape dc_tape pm_tape an_tape cd_tape ct_tape), sl_tape⟩)
    (c_tape : PySem.W.codeIn K cd_tape "_law_tape" = true)
    (k_tape : PySem.W.keepIn K (.ref f_tape) = true)
    (a_draw : PySem.W.nsIn K mainGlobals "_law_draw" = some (some (.ref f_draw)))
    (l_draw : K.lookup f_draw = some ⟨oc_draw, od_draw, .func (PySem.W.fnOf "_law_draw" "_law_draw" (defArgs sLdraw) (defBody sLdraw) (defScope sLdraw) .none kV_draw dc_draw pm_draw an_draw cd_draw ct_draw), sl_draw⟩)
    (c_draw : PySem.W.codeIn K cd_draw "_law_draw" = true)
    (k_draw : PySem.W.keepIn K (.ref f_draw) = true)
    (a_fold : PySem.W.nsIn K mainGlobals "_law_folded" = some (some (.ref f_fold)))
    (l_fold : K.lookup f_fold = some ⟨oc_fold, od_fold, .func (PySem.W.fnOf "_law_folded" "_law_folded" (defArgs sLfolded) (defBody sLfolded) (defScope sLfolded) .none kV_fold dc_fold pm_fold an_fold cd_fold ct_fold), sl_fold⟩)
    (c_fold : PySem.W.codeIn K cd_fold "_law_folded" = true)
    (k_fold : PySem.W.keepIn K (.ref f_fold) = true)
    (a_los : PySem.W.nsIn K mainGlobals "_law_losses" = some (some (.ref f_los)))
    (l_los : K.lookup f_los = some ⟨oc_los, od_los, .func (PySem.W.fnOf "_law_losses" "_law_losses" (defArgs sLlosses) (defBody sLlosses) (defScope sLlosses) .none kV_los dc_los pm_los an_los cd_los ct_los), sl_los⟩)
    (c_los : PySem.W.codeIn K cd_los "_law_losses" = true)
    (k_los : PySem.W.keepIn K (.ref f_los) = true)
    (a_met : PySem.W.nsIn K mainGlobals "_law_metal" = some (some (.ref f_met)))
    (l_met : K.lookup f_met = some ⟨oc_met, od_met, .func (PySem.W.fnOf "_law_metal" "_law_metal" (defArgs sLmetal) (defBody sLmetal) (defScope sLmetal) .none kV_met dc_met pm_met an_met cd_met ct_met), sl_met⟩)
    (c_met : PySem.W.codeIn K cd_met "_law_metal" = true)
    (k_met : PySem.W.keepIn K (.ref f_met) = true)
    (a_bb : PySem.W.nsIn K mainGlobals "_law_by_beats" = some (some (.ref f_bb)))
    (l_bb : K.lookup f_bb = some ⟨oc_bb, od_bb, .func (PySem.W.fnOf "_law_by_beats" "_law_by_beats" (defArgs sLby_beats) (defBody sLby_beats) (defScope sLby_beats) .none kV_bb dc_bb pm_bb an_bb cd_bb ct_bb), sl_bb⟩)
    (c_bb : PySem.W.codeIn K cd_bb "_law_by_beats" = true)
    (k_bb : PySem.W.keepIn K (.ref f_bb) = true)
    (a_bp : PySem.W.nsIn K mainGlobals "_law_by_pairs" = some (some (.ref f_bp)))
    (l_bp : K.lookup f_bp = some ⟨oc_bp, od_bp, .func (PySem.W.fnOf "_law_by_pairs" "_law_by_pairs" (defArgs sLby_pairs) (defBody sLby_pairs) (defScope sLby_pairs) .none kV_bp dc_bp pm_bp an_bp cd_bp ct_bp), sl_bp⟩)
    (c_bp : PySem.W.codeIn K cd_bp "_law_by_pairs" = true)
    (k_bp : PySem.W.keepIn K (.ref f_bp) = true)
    (a_sb : PySem.W.nsIn K mainGlobals "_law_some_beats" = some (some (.ref f_sb)))
    (l_sb : K.lookup f_sb = some ⟨oc_sb, od_sb, .func (PySem.W.fnOf "_law_some_beats" "_law_some_beats" (defArgs sLsome_beats) (defBody sLsome_beats) (defScope sLsome_beats) .none kV_sb dc_sb pm_sb an_sb cd_sb ct_sb), sl_sb⟩)
    (c_sb : PySem.W.codeIn K cd_sb "_law_some_beats" = true)
    (k_sb : PySem.W.keepIn K (.ref f_sb) = true)
    (a_tr : PySem.W.nsIn K mainGlobals "_law_told_right" = some (some (.ref f_tr)))
    (l_tr : K.lookup f_tr = some ⟨oc_tr, od_tr, .func (PySem.W.fnOf "_law_told_right" "_law_told_right" (defArgs sLtold_right) (defBody sLtold_right) (defScope sLtold_right) .none kV_tr dc_tr pm_tr an_tr cd_tr ct_tr), sl_tr⟩)
    (c_tr : PySem.W.codeIn K cd_tr "_law_told_right" = true)
    (k_tr : PySem.W.keepIn K (.ref f_tr) = true)
    (a_law : PySem.W.nsIn K mainGlobals "law" = some (some (.ref f_law)))
    (l_law : K.lookup f_law = some ⟨oc_law, od_law, .func (PySem.W.fnOf "law" "law" (defArgs slaw) (defBody slaw) (defScope slaw) .none kV_law dc_law pm_law an_law cd_law ct_law), sl_law⟩)
    (c_law : PySem.W.codeIn K cd_law "law" = true)
    (k_law : PySem.W.keepIn K (.ref f_law) = true)
    (a_init : PySem.W.findIn K (.ref C) "__init__" = some (some (.ref f_init)))
    (i_init : PySem.W.isFn K (.ref f_init) = true)
    (l_init : K.lookup f_init = some ⟨oc_init, od_init, .func (PySem.W.fnOf "__init__" "Metal.__init__" (defArgs sMetal_init) (defBody sMetal_init) (defScope sMetal_init) (.ref T_init) kV_init dc_init pm_init an_init cd_init ct_init), sl_init⟩)
    (c_init : PySem.W.codeIn K cd_init "Metal.__init__" = true)
    (k_init : PySem.W.keepIn K (.ref f_init) = true)
    (d_init : K.lookup T_init = some ⟨ot_init, dt_init, .seq #[.int 0 tk_init0] n_init, st_init⟩)
    (a_heat : PySem.W.findIn K (.ref C) "heat" = some (some (.ref f_heat)))
    (i_heat : PySem.W.isFn K (.ref f_heat) = true)
    (l_heat : K.lookup f_heat = some ⟨oc_heat, od_heat, .func (PySem.W.fnOf "heat" "Metal.heat" (defArgs sMetal_heat) (defBody sMetal_heat) (defScope sMetal_heat) (.ref T_heat) kV_heat dc_heat pm_heat an_heat cd_heat ct_heat), sl_heat⟩)
    (c_heat : PySem.W.codeIn K cd_heat "Metal.heat" = true)
    (k_heat : PySem.W.keepIn K (.ref f_heat) = true)
    (d_heat : K.lookup T_heat = some ⟨ot_heat, dt_heat, .seq #[.int 0 tk_heat0] n_heat, st_heat⟩)
    (z_len : PySem.W.nsIn K mainGlobals "len" = some none)
    (z_range : PySem.W.nsIn K mainGlobals "range" = some none)
    (z_enumerate : PySem.W.nsIn K mainGlobals "enumerate" = some none)
    (z_abs : PySem.W.nsIn K mainGlobals "abs" = some none)
    (z_min : PySem.W.nsIn K mainGlobals "min" = some none)
    (z_max : PySem.W.nsIn K mainGlobals "max" = some none)
    (z_any : PySem.W.nsIn K mainGlobals "any" = some none)
    (z_all : PySem.W.nsIn K mainGlobals "all" = some none)
    (z_isinstance : PySem.W.nsIn K mainGlobals "isinstance" = some none)
    (z_int : PySem.W.nsIn K mainGlobals "int" = some none)
    (z_bool : PySem.W.nsIn K mainGlobals "bool" = some none)
    (z_list : PySem.W.nsIn K mainGlobals "list" = some none)
    (z_tuple : PySem.W.nsIn K mainGlobals "tuple" = some none)
    (g_MOST : PySem.W.nsIn K mainGlobals "MOST" = some (some (.int 1000000 tM)))
    (g_MOST_LOSSES : PySem.W.nsIn K mainGlobals "MOST_LOSSES" = some (some (.int 6 tL))) :
    ∃ fd : FuncData, (∀ (s : Shared) (v : Value), BindsTo s fd ⟨[v], []⟩ [("_law_script", v)]) ∧ ∀ base : Heap, K.In base → base.Ns mainGlobals mg → FnOk l.prog w K mg base CX0 6 fa fd ["_law_script"] (spLaw K) := by
  have e := hfa.symm.trans (PySem.W.mg_of X G a_law)
  cases e
  have T : Txt mg tM tL := ⟨PySem.W.mg_none_of X G z_len, PySem.W.mg_none_of X G z_range, PySem.W.mg_none_of X G z_enumerate, PySem.W.mg_none_of X G z_abs, PySem.W.mg_none_of X G z_min, PySem.W.mg_none_of X G z_max, PySem.W.mg_none_of X G z_any, PySem.W.mg_none_of X G z_all, PySem.W.mg_none_of X G z_isinstance, PySem.W.mg_none_of X G z_int, PySem.W.mg_none_of X G z_bool, PySem.W.mg_none_of X G z_list, PySem.W.mg_none_of X G z_tuple, PySem.W.mg_of X G g_MOST, PySem.W.mg_of X G g_MOST_LOSSES⟩
  have MT : MetalTxt K C := ⟨⟨pg_C, hd_C, po_C, sa_C⟩, at_C_full, at_C_least, at_C_losses, at_C_air⟩
  have F_isn : FunD K "is_number" "is_number" (defArgs sis_number) (defBody sis_number) (defScope sis_number) [.non] [] f_isn _ := ⟨⟨_, _, _, _, _, _, _, _, _, _, rfl, l_isn, c_isn, .inr ⟨by simp, T_isn, _, [.none], _, rfl, d_isn, rfl, .cons rfl .nil⟩, .inl rfl⟩, k_isn⟩
  have F_isr := fun_mk (st := sis_row) l_isr c_isr k_isr
  have F_isl := fun_mk (st := sis_loss) l_isl c_isl k_isl
  have F_arl := fun_mk (st := sare_losses) l_arl c_arl k_arl
  have F_tape := fun_mk (st := sLtape) l_tape c_tape k_tape
  have F_draw := fun_mk (st := sLdraw) l_draw c_draw k_draw
  have F_fold := fun_mk (st := sLfolded) l_fold c_fold k_fold
  have F_los := fun_mk (st := sLlosses) l_los c_los k_los
  have F_met := fun_mk (st := sLmetal) l_met c_met k_met
  have F_bb := fun_mk (st := sLby_beats) l_bb c_bb k_bb
  have F_bp := fun_mk (st := sLby_pairs) l_bp c_bp k_bp
  have F_sb := fun_mk (st := sLsome_beats) l_sb c_sb k_sb
  have F_tr := fun_mk (st := sLtold_right) l_tr c_tr k_tr
  obtain ⟨ds_isn, vd_isn, b_isn⟩ := F_isn.binds1 (ps := ["thing", "least", "most"]) 3 1 (by simp) rfl fun T kV doc pm an cdv ct us its h1 h2 => match us, h1, its, h2 with | [_, _, _], _, [_], _ => ⟨_, rfl, rfl⟩
  cases vd_isn
  have b_isr := F_isr.binds (ps := ["thing", "least", "most"]) fun _ _ _ _ _ _ us hl => match us, hl with | [_, _, _], _ => rfl
  have b_isl := F_isl.binds (ps := ["thing"]) fun _ _ _ _ _ _ us hl => match us, hl with | [_], _ => rfl
  have b_arl := F_arl.binds (ps := ["thing"]) fun _ _ _ _ _ _ us hl => match us, hl with | [_], _ => rfl
  have b_tape := F_tape.binds (ps := ["_law_script", "_law_k"]) fun _ _ _ _ _ _ us hl => match us, hl with | [_, _], _ => rfl
  have b_draw := F_draw.binds (ps := ["_law_tape_here", "_law_many"]) fun _ _ _ _ _ _ us hl => match us, hl with | [_, _], _ => rfl
  have b_fold := F_fold.binds (ps := ["_law_script", "_law_many"]) fun _ _ _ _ _ _ us hl => match us, hl with | [_, _], _ => rfl
  have b_los := F_los.binds (ps := ["_law_tape_here"]) fun _ _ _ _ _ _ us hl => match us, hl with | [_], _ => rfl
  have b_met := F_met.binds (ps := ["_law_tape_here"]) fun _ _ _ _ _ _ us hl => match us, hl with | [_], _ => rfl
  have b_bb := F_bb.binds (ps := ["_law_row", "_law_many"]) fun _ _ _ _ _ _ us hl => match us, hl with | [_, _], _ => rfl
  have b_bp := F_bp.binds (ps := ["_law_row", "_law_a_beats"]) fun _ _ _ _ _ _ us hl => match us, hl with | [_, _], _ => rfl
  have b_sb := F_sb.binds (ps := ["_law_tape_here", "_law_row"]) fun _ _ _ _ _ _ us hl => match us, hl with | [_, _], _ => rfl
  have b_tr := F_tr.binds (ps := ["_law_metal_here", "_law_a_beats", "_law_due"]) fun _ _ _ _ _ _ us hl => match us, hl with | [_, _, _], _ => rfl
  have F_init : FunD K "__init__" "Metal.__init__" (defArgs sMetal_init) (defBody sMetal_init) (defScope sMetal_init) [.int 0] [] f_init _ := ⟨⟨_, _, _, _, _, _, _, _, _, _, rfl, l_init, c_init, .inr ⟨by simp, T_init, _, [.int 0 tk_init0], _, rfl, d_init, rfl, .cons ⟨_, rfl⟩ .nil⟩, .inl rfl⟩, k_init⟩
  have F_heat : FunD K "heat" "Metal.heat" (defArgs sMetal_heat) (defBody sMetal_heat) (defScope sMetal_heat) [.int 0] [] f_heat _ := ⟨⟨_, _, _, _, _, _, _, _, _, _, rfl, l_heat, c_heat, .inr ⟨by simp, T_heat, _, [.int 0 tk_heat0], _, rfl, d_heat, rfl, .cons ⟨_, rfl⟩ .nil⟩, .inl rfl⟩, k_heat⟩
  obtain ⟨ds1, vd1, b_init⟩ := F_init.binds1 (ps := ["self", "full", "least", "losses", "air"]) 5 1 (by simp) rfl fun T kV doc pm an cdv ct us its h1 h2 => match us, h1, its, h2 with | [_, _, _, _, _], _, [_], _ => ⟨_, rfl, rfl⟩
  cases vd1
  obtain ⟨ds2, vd2, b_heat⟩ := F_heat.binds1 (ps := ["self", "beats"]) 2 1 (by simp) rfl fun T kV doc pm an cdv ct us its h1 h2 => match us, h1, its, h2 with | [_, _], _, [_], _ => ⟨_, rfl, rfl⟩
  cases vd2
  obtain ⟨ds3, vd3, b_heat0⟩ := F_heat.binds1 (ps := ["self", "beats"]) 1 0 (by simp) rfl fun T kV doc pm an cdv ct us its h1 h2 => match us, h1, its, h2 with | [_], _, [_], _ => ⟨_, rfl, rfl⟩
  obtain ⟨its, kb_heat⟩ := F_heat.kbindsD (ps := ["self", "beats"]) 1 ["beats"] (fun us _ ws => us ++ ws) (by simp) (fun r1 _ r2 => r1.append r2) fun T kV doc pm an cdv ct us its ws h1 h2 h3 => match us, h1, its, h2, ws, h3 with | [_], _, [_], _, [_], _ => ⟨_, rfl, rfl⟩
  refine ⟨PySem.W.fnOf "law" "law" (defArgs slaw) (defBody slaw) (defScope slaw) .none kV_law dc_law pm_law an_law cd_law ct_law, fun s v => .of_eq rfl, fun base _ _ => ?_⟩
  have Disn : DIsNumber l.prog w K mg base := ⟨⟨_, _, ok_is_number F_isn T, PySem.W.mg_of X G a_isn, k_isn, b_isn⟩⟩
  have Disr : Df l.prog w K mg base "is_row" 1 ["thing", "least", "most"] spIsRow := ⟨⟨_, _, ok_is_row F_isr T, PySem.W.mg_of X G a_isr, k_isr, b_isr⟩⟩
  have Disl : Df l.prog w K mg base "is_loss" 2 ["thing"] spIsLoss := ⟨⟨_, _, ok_is_loss F_isl T Disn, PySem.W.mg_of X G a_isl, k_isl, b_isl⟩⟩
  have Darl : Df l.prog w K mg base "are_losses" 3 ["thing"] spAreLosses := ⟨⟨_, _, ok_are_losses F_arl T Disr Disl, PySem.W.mg_of X G a_arl, k_arl, b_arl⟩⟩
  have Ddraw : DDraw l.prog w K mg base := ⟨⟨_, _, ok_draw F_draw, PySem.W.mg_of X G a_draw, k_draw, b_draw⟩⟩
  have Dtape : Df l.prog w K mg base "_law_tape" 1 ["_law_script", "_law_k"] (spTape K) := ⟨⟨_, _, ok_tape F_tape T, PySem.W.mg_of X G a_tape, k_tape, b_tape⟩⟩
  have Dfold : Df l.prog w K mg base "_law_folded" 1 ["_law_script", "_law_many"] (spFolded K) := ⟨⟨_, _, ok_folded F_fold T, PySem.W.mg_of X G a_fold, k_fold, b_fold⟩⟩
  have Dlos : Df l.prog w K mg base "_law_losses" 2 ["_law_tape_here"] spLosses := ⟨⟨_, _, ok_losses F_los T Ddraw, PySem.W.mg_of X G a_los, k_los, b_los⟩⟩
  have Dmet : Df l.prog w K mg base "_law_metal" 3 ["_law_tape_here"] spMetal := ⟨⟨_, _, ok_metal F_met T Ddraw Dlos, PySem.W.mg_of X G a_met, k_met, b_met⟩⟩
  have Dbb : Df l.prog w K mg base "_law_by_beats" 1 ["_law_row", "_law_many"] spByBeats := ⟨⟨_, _, ok_by_beats F_bb T, PySem.W.mg_of X G a_bb, k_bb, b_bb⟩⟩
  have Dbp : Df l.prog w K mg base "_law_by_pairs" 1 ["_law_row", "_law_a_beats"] spByPairs := ⟨⟨_, _, ok_by_pairs F_bp T, PySem.W.mg_of X G a_bp, k_bp, b_bp⟩⟩
  have Dsb : Df l.prog w K mg base "_law_some_beats" 2 ["_law_tape_here", "_law_row"] spSome := ⟨⟨_, _, ok_some F_sb T Ddraw, PySem.W.mg_of X G a_sb, k_sb, b_sb⟩⟩
  have DH : DHeat l.prog w K mg base C := ⟨⟨f_heat, _, ds3, ok_heat F_heat T MT, MT.cl, ⟨a_heat, i_heat, k_heat⟩, b_heat, vd3, b_heat0, kb_heat⟩⟩
  have Dtr : Df l.prog w K mg base "_law_told_right" 2 ["_law_metal_here", "_law_a_beats", "_law_due"] (spTold C) := ⟨⟨_, _, ok_told F_tr T DH, PySem.W.mg_of X G a_tr, k_tr, b_tr⟩⟩
  have DM : DMk l.prog w K mg base C := ⟨⟨f_init, _, ⟨mk_C, a_init, i_init, kc_C⟩, ok_init F_init T MT Disn Darl, PySem.W.mg_of X G g_C, b_init⟩⟩
  exact ok_law (fun_mk (st := slaw) l_law c_law k_law) T Dfold Dtape Dmet DM Dbb Dtr Dsb Dbp
theorem walk {l : PySem.W.OpenLaw} {q : Program} {loose : List Str} {XP : (Str → Option Value) → Heap → Prop} {YP : World → Heap → Prop} {d : DefRec} {K : Params → PySem.W.Frag} (hn : l.most = some 63) (hdf : d.params.defaults = [])
    (hY : ∀ (w : World) (h : Heap), YP w h → (K w.params).In h)
    (F : ∀ (w : World) (mg : Str → Option Value) (fa : Addr) (h : Heap), (K w.params).In h → h.Ns mainGlobals mg → mg d.name = some (.ref fa) →
      ∃ fd : FuncData, (∀ (s : Shared) (u : Value), BindsTo s fd ⟨[u], []⟩ [("_law_script", u)]) ∧ ∀ base : Heap, (K w.params).In base → base.Ns mainGlobals mg → FnOk l.prog w (K w.params) mg base CX0 6 fa fd ["_law_script"] (spLaw (K w.params))) :
    PySem.W.WalkO q loose XP YP l.row.toRowW d [] (fun f vs => PySem.call f vs) :=
  L2.walk_of (n := 63) (k := 6) (x := "_law_script") (CX := fun _ => CX0) (sp := fun w => spLaw (K w.params)) hn (by decide) hdf ⟨rfl, by decide, by decide⟩ hY F (fun _ _ a ns hl _ hS => ⟨a, ns, rfl, hS, hl, fun _ => rfl⟩) fun _ _ _ _ _ z => z
end HP
open PySem PySem.W PyProof.Rows in
set_option maxRecDepth 100000 in
set_option maxHeartbeats 0 in
theorem PySem.Challenge.cw_hotpass_k02_heats_beat_by_beat_holds : PySem.Challenge.rw_hotpass_k02_heats_beat_by_beat.Holds := by
  w_on; o_law; k_head; (case hw => w_witness2)
  k_fill
  refine HP.walk (l := PySem.Challenge.rw_hotpass_k02_heats_beat_by_beat) rfl rfl (fun w h Y => PySem.W.kIn_of Y) ?F
  case F =>
    intro w mg fa h KX G hmg
    refine' HP.all_mk KX G hmg ?g_C ?pg_C ?hd_C ?po_C ?sa_C ?mk_C ?kc_C ?at_C_full ?at_C_least ?at_C_losses ?at_C_air ?a_isn ?l_isn ?c_isn ?k_isn ?d_isn ?a_isr ?l_isr ?c_isr ?k_isr ?a_isl ?l_isl ?c_isl ?k_isl ?a_arl ?l_arl ?c_arl ?k_arl ?a_tape ?l_tape ?c_tape ?k_tape ?a_draw ?l_draw ?c_draw ?k_draw ?a_fold ?l_fold ?c_fold ?k_fold ?a_los ?l_los ?c_los ?k_los ?a_met ?l_met ?c_met ?k_met ?a_bb ?l_bb ?c_bb ?k_bb ?a_bp ?l_bp ?c_bp ?k_bp ?a_sb ?l_sb ?c_sb ?k_sb ?a_tr ?l_tr ?c_tr ?k_tr ?a_law ?l_law ?c_law ?k_law ?a_init ?i_init ?l_init ?c_init ?k_init ?d_init ?a_heat ?i_heat ?l_heat ?c_heat ?k_heat ?d_heat ?z_len ?z_range ?z_enumerate ?z_abs ?z_min ?z_max ?z_any ?z_all ?z_isinstance ?z_int ?z_bool ?z_list ?z_tuple ?g_MOST ?g_MOST_LOSSES
    (case g_C => k_is)
    (case pg_C => k_is)
    (case hd_C => k_is)
    (case po_C => k_is)
    (case sa_C => k_is)
    (case mk_C => k_is)
    (case kc_C => k_is)
    (case at_C_full => k_is)
    (case at_C_least => k_is)
    (case at_C_losses => k_is)
    (case at_C_air => k_is)
    (case a_isn => k_is)
    (case l_isn => k_is)
    (case c_isn => k_is)
    (case k_isn => k_is)
    (case d_isn => k_is)
    (case a_isr => k_is)
    (case l_isr => k_is)
    (case c_isr => k_is)
    (case k_isr => k_is)
    (case a_isl => k_is)
    (case l_isl => k_is)
    (case c_isl => k_is)
    (case k_isl => k_is)
    (case a_arl => k_is)
    (case l_arl => k_is)
    (case c_arl => k_is)
    (case k_arl => k_is)
    (case a_tape => k_is)
    (case l_tape => k_is)
    (case c_tape => k_is)
    (case k_tape => k_is)
    (case a_draw => k_is)
    (case l_draw => k_is)
    (case c_draw => k_is)
    (case k_draw => k_is)
    (case a_fold => k_is)
    (case l_fold => k_is)
    (case c_fold => k_is)
    (case k_fold => k_is)
    (case a_los => k_is)
    (case l_los => k_is)
    (case c_los => k_is)
    (case k_los => k_is)
    (case a_met => k_is)
    (case l_met => k_is)
    (case c_met => k_is)
    (case k_met => k_is)
    (case a_bb => k_is)
    (case l_bb => k_is)
    (case c_bb => k_is)
    (case k_bb => k_is)
    (case a_bp => k_is)
    (case l_bp => k_is)
    (case c_bp => k_is)
    (case k_bp => k_is)
    (case a_sb => k_is)
    (case l_sb => k_is)
    (case c_sb => k_is)
    (case k_sb => k_is)
    (case a_tr => k_is)
    (case l_tr => k_is)
    (case c_tr => k_is)
    (case k_tr => k_is)
    (case a_law => k_is)
    (case l_law => k_is)
    (case c_law => k_is)
    (case k_law => k_is)
    (case a_init => k_is)
    (case i_init => k_is)
    (case l_init => k_is)
    (case c_init => k_is)
    (case k_init => k_is)
    (case d_init => k_is)
    (case a_heat => k_is)
    (case i_heat => k_is)
    (case l_heat => k_is)
    (case c_heat => k_is)
    (case k_heat => k_is)
    (case d_heat => k_is)
    (case z_len => k_is)
    (case z_range => k_is)
    (case z_enumerate => k_is)
    (case z_abs => k_is)
    (case z_min => k_is)
    (case z_max => k_is)
    (case z_any => k_is)
    (case z_all => k_is)
    (case z_isinstance => k_is)
    (case z_int => k_is)
    (case z_bool => k_is)
    (case z_list => k_is)
    (case z_tuple => k_is)
    (case g_MOST => k_is)
    (case g_MOST_LOSSES => k_is)

