import PyProof.Rows.All
import Wide.All
import OpenK.AllK
import Wide.FinOn
import HandS.Base
import HandS.Call
import HandS.List
import HandS.Comp
import HandS.Ends
import HandS.Iter
import HandS.Text
import HandS.Words
import HandS.WordsList
import HandS.IsInst
import HandS.Wide
import HandS.Defaults
import HandS.MakeKw
import HandS.Style
import HandS.Codes
import KE.KEqSeq
import HandS.Dict
import HandS.Zip
import HandS.NoneIn
import HandS.TupAny
import KE.KTupSum
import KE.KRevSl
import HandS.More
import HandS.Small
import KE.GoesMore
import KE.SortData
import HandS.Conv
import HandS.SortInts
import HandS.TupSets
import KE.KDictZip
import KE.DatumOrd
import KE.DataMinMax
import HandS.Remove
import HandS.Style
import HandS.SetFor
import HandS.Strs
import PyProof.Rows.SetFrom
import HandS.Exc
import HandS.ExcInit
import HandS.CallSlots
import HandS.ExcField
import KE.KExcIs
import HandS.WordsExc
import HandS.MakeKw
import HandS.DictComp
import PySem.Challenge.RW_hotpass_k61_what_follows
set_option Elab.async false
set_option linter.all false
set_option maxRecDepth 100000
set_option maxHeartbeats 4000000
noncomputable section
namespace DL
open PySem L2
/-! ### things as trees, a store of what may be changed -/
inductive D where
  | non | bl (b : Bool) | int (i : Int) | str (z : Str) | ty (n : String)
  | tup (ds : List D) | lst (ds : List D) | rol (ds : List D)
  | ins (C : Addr) (ns : List Str) (ds : List D)
  | dic (ks : List Str) (ds : List D)
  | exc (C : Addr) (ns : List Str) (ds : List D)
  | loc (n : Nat)
inductive Ob where
  | lst (ds : List D)
  | ins (C : Addr) (fs : List (Str × D))
  | dct (gs : List (Key × D))
abbrev Sg := List Ob
abbrev Dl := List (Option D)
/-! bounds, each by a name: nothing reckons with them but by these rows -/
@[irreducible] def Fits (n : Nat) : Prop := n < 1000000
theorem fits_iff (n : Nat) : Fits n ↔ n < 1000000 := by unfold Fits; exact Iff.rfl
theorem Fits.lt {n : Nat} (h : Fits n) : n < sizeLine := Nat.lt_of_lt_of_le ((fits_iff n).mp h) (by decide)
theorem Fits.le {n : Nat} (h : Fits n) : n ≤ sizeLine := Nat.le_of_lt h.lt
instance (n : Nat) : Decidable (Fits n) := Classical.propDecidable _
@[irreducible] def R62 (j : Int) : Prop := -4611686018427387904 ≤ j ∧ j < 4611686018427387904
theorem r62_iff (j : Int) : R62 j ↔ -4611686018427387904 ≤ j ∧ j < 4611686018427387904 := by unfold R62; exact Iff.rfl
instance (j : Int) : Decidable (R62 j) := Classical.propDecidable _
@[irreducible] def R63 (j : Int) : Prop := -9223372036854775808 ≤ j ∧ j < 9223372036854775808
theorem r63_iff (j : Int) : R63 j ↔ -9223372036854775808 ≤ j ∧ j < 9223372036854775808 := by unfold R63; exact Iff.rfl
instance (j : Int) : Decidable (R63 j) := Classical.propDecidable _
@[irreducible] def MulB (i j : Int) : Prop := (-18446744073709551616 < i ∧ i < 18446744073709551616) ∨ (-18446744073709551616 < j ∧ j < 18446744073709551616)
theorem mulB_iff (i j : Int) : MulB i j ↔ (-18446744073709551616 < i ∧ i < 18446744073709551616) ∨ (-18446744073709551616 < j ∧ j < 18446744073709551616) := by unfold MulB; exact Iff.rfl
instance (i j : Int) : Decidable (MulB i j) := Classical.propDecidable _
@[irreducible] def DivB (j : Int) : Prop := 0 < j ∧ j < 1000000000000000000000000000000
theorem divB_iff (j : Int) : DivB j ↔ 0 < j ∧ j < 1000000000000000000000000000000 := by unfold DivB; exact Iff.rfl
instance (j : Int) : Decidable (DivB j) := Classical.propDecidable _
@[irreducible] def PowB (i j : Int) : Prop := (0 ≤ j ∧ j ≤ 1000000) ∧ -18446744073709551616 < i ∧ i < 18446744073709551616
theorem powB_iff (i j : Int) : PowB i j ↔ (0 ≤ j ∧ j ≤ 1000000) ∧ -18446744073709551616 < i ∧ i < 18446744073709551616 := by unfold PowB; exact Iff.rfl
instance (i j : Int) : Decidable (PowB i j) := Classical.propDecidable _
/-- the places' addresses; those of lists in the making, which nothing names -/
structure Ro where
  pl : List Addr
  bn : List Addr
def Ro.out (ρ : Ro) (a : Addr) : Prop := a ∉ ρ.pl ∧ a ∉ ρ.bn
def Ro.push (ρ : Ro) (p : Addr) : Ro := ⟨ρ.pl ++ [p], ρ.bn⟩
def Ro.ban (ρ : Ro) (p : Addr) : Ro := ⟨ρ.pl, p :: ρ.bn⟩
/-- a list that is only read -/
def RL (K : PySem.W.Frag) (H : Hp) (ρ : Ro) (a : Addr) (vs : List V) : Prop :=
  (Rd H a (.lst vs) ∧ ρ.out a) ∨ ∃ (o : Obj) (its : Array Value) (n : Nat), K.lookup a = some o ∧ o.cls = .type "list" ∧ o.dict = none ∧ o.data = .seq its n ∧ its.size ≤ sizeLine ∧ Vals vs its.toList
theorem RL.sq {K : PySem.W.Frag} {H : Hp} {ρ : Ro} {a : Addr} {vs : List V} (h : RL K H ρ a vs) : SqL K H a vs := h.elim (fun z => .inl z.1) .inr
/-- an exception that is kept: its class, its own dict -/
def ExK (C dd a : Addr) : HO := .ext fun h => ∃ (oe : Obj) (vs : Array Value), h.get? a = some oe ∧ oe.cls = .ref C ∧ oe.dict = some dd ∧ oe.data = .fields vs
mutual
inductive RV (K : PySem.W.Frag) (H : Hp) (ρ : Ro) : V → D → Prop
  | non : RV K H ρ .non .non
  | bl {b : Bool} : RV K H ρ (.bl b) (.bl b)
  | int {i : Int} : RV K H ρ (.int i) (.int i)
  | str {z : Str} : RV K H ρ (.str z) (.str z)
  | ty {n : String} : RV K H ρ (.ty n) (.ty n)
  | tup {a : Addr} {vs : List V} {ds : List D} (h : H a = some (.tup vs)) (n : ρ.out a) (r : RVs K H ρ vs ds) : RV K H ρ (.ref a) (.tup ds)
  | lst {a : Addr} {vs : List V} {ds : List D} (h : H a = some (.lst vs)) (n : ρ.out a) (r : RVs K H ρ vs ds) : RV K H ρ (.ref a) (.lst ds)
  | rol {a : Addr} {vs : List V} {ds : List D} (h : RL K H ρ a vs) (r : RVs K H ρ vs ds) : RV K H ρ (.ref a) (.rol ds)
  | ins {a C dx : Addr} {fs : List (Str × V)} {ds : List D} (h : H a = some (.ins C dx fs)) (n : ρ.out a) (r : RVs K H ρ (fs.map (·.2)) ds) : RV K H ρ (.ref a) (.ins C (fs.map (·.1)) ds)
  | dic {a : Addr} {kvs : List (Key × V)} {ks : List Str} {ds : List D} (h : H a = some (.dK kvs)) (n : ρ.out a) (e : kvs.map (·.1) = ks.map Sum.inr) (r : RVs K H ρ (kvs.map (·.2)) ds) : RV K H ρ (.ref a) (.dic ks ds)
  | exc {a C dd : Addr} {fs : List (Str × V)} {ds : List D} (h : H a = some (ExK C dd a)) (hd : H dd = some (.xd fs)) (n : ρ.out a) (nd : ρ.out dd) (r : RVs K H ρ (fs.map (·.2)) ds) : RV K H ρ (.ref a) (.exc C (fs.map (·.1)) ds)
  | loc {a : Addr} {n : Nat} (h : ρ.pl[n]? = some a) : RV K H ρ (.ref a) (.loc n)
inductive RVs (K : PySem.W.Frag) (H : Hp) (ρ : Ro) : List V → List D → Prop
  | nil : RVs K H ρ [] []
  | cons {v : V} {d : D} {vs : List V} {ds : List D} (h : RV K H ρ v d) (r : RVs K H ρ vs ds) : RVs K H ρ (v :: vs) (d :: ds)
end
structure Step (ρ ρ' : Ro) (H H' : Hp) : Prop where
  ext : ∃ nw, ρ'.pl = ρ.pl ++ nw ∧ ∀ a ∈ nw, H a = none
  bn : ρ'.bn = ρ.bn
  keep : ∀ a o, H a = some o → a ∉ ρ.pl → H' a = some o
  dom : ∀ a, H' a = none → H a = none
theorem Step.refl (ρ : Ro) (H : Hp) : Step ρ ρ H H := ⟨⟨[], by simp, by simp⟩, rfl, fun _ _ h _ => h, fun _ h => h⟩
section
variable {K : PySem.W.Frag} {ρ ρ' ρ1 ρ2 : Ro} {H H' H1 H2 : Hp} {S S' : Sg} {σ : St} {δ : Dl}
theorem Step.ninP (s : Step ρ ρ' H H') {a : Addr} {o : HO} (h : H a = some o) (n : a ∉ ρ.pl) : a ∉ ρ'.pl := by
  obtain ⟨nw, e, f⟩ := s.ext
  intro m
  rw [e] at m
  rcases List.mem_append.mp m with m | m
  · exact n m
  · rw [f a m] at h; cases h
theorem Step.nin (s : Step ρ ρ' H H') {a : Addr} {o : HO} (h : H a = some o) (n : ρ.out a) : ρ'.out a := ⟨s.ninP h n.1, by rw [s.bn]; exact n.2⟩
theorem Step.trans (s : Step ρ ρ1 H H1) (t : Step ρ1 ρ2 H1 H2) : Step ρ ρ2 H H2 := by
  refine ⟨?_, t.bn.trans s.bn, fun a o h n => t.keep a o (s.keep a o h n) (s.ninP h n), fun a h => s.dom a (t.dom a h)⟩
  obtain ⟨n1, e1, f1⟩ := s.ext
  obtain ⟨n2, e2, f2⟩ := t.ext
  refine ⟨n1 ++ n2, by rw [e2, e1, List.append_assoc], fun a m => ?_⟩
  rcases List.mem_append.mp m with m | m
  · exact f1 a m
  · exact s.dom a (f2 a m)
theorem Step.at (s : Step ρ ρ' H H') {n : Nat} {a : Addr} (h : ρ.pl[n]? = some a) : ρ'.pl[n]? = some a := by
  obtain ⟨nw, e, _⟩ := s.ext
  rw [e, List.getElem?_append_left (List.getElem?_eq_some_iff.mp h).1]
  exact h
theorem RL.mono (s : Step ρ ρ' H H') {a : Addr} {vs : List V} (h : RL K H ρ a vs) : RL K H' ρ' a vs := by
  rcases h with ⟨h, n⟩ | h
  · refine .inl ?_
    rcases h with h | ⟨o, h⟩
    · exact ⟨.inl (s.keep _ _ h n.1), s.nin h n⟩
    · exact ⟨.inr ⟨o, s.keep _ _ h n.1⟩, s.nin h n⟩
  · exact .inr h
mutual
theorem RV.mono (s : Step ρ ρ' H H') : ∀ {v : V} {d : D}, RV K H ρ v d → RV K H' ρ' v d
  | _, _, .non => .non
  | _, _, .bl => .bl
  | _, _, .int => .int
  | _, _, .str => .str
  | _, _, .ty => .ty
  | _, _, .tup h n r => .tup (s.keep _ _ h n.1) (s.nin h n) (RVs.mono s r)
  | _, _, .lst h n r => .lst (s.keep _ _ h n.1) (s.nin h n) (RVs.mono s r)
  | _, _, .rol h r => .rol (h.mono s) (RVs.mono s r)
  | _, _, .ins h n r => .ins (s.keep _ _ h n.1) (s.nin h n) (RVs.mono s r)
  | _, _, .dic h n e r => .dic (s.keep _ _ h n.1) (s.nin h n) e (RVs.mono s r)
  | _, _, .exc h hd n nd r => .exc (s.keep _ _ h n.1) (s.keep _ _ hd nd.1) (s.nin h n) (s.nin hd nd) (RVs.mono s r)
  | _, _, .loc h => .loc (s.at h)
theorem RVs.mono (s : Step ρ ρ' H H') : ∀ {vs : List V} {ds : List D}, RVs K H ρ vs ds → RVs K H' ρ' vs ds
  | _, _, .nil => .nil
  | _, _, .cons h r => .cons (RV.mono s h) (RVs.mono s r)
end
theorem RVs.len : ∀ {vs : List V} {ds : List D}, RVs K H ρ vs ds → vs.length = ds.length
  | _, _, .nil => rfl
  | _, _, .cons _ r => by rw [List.length_cons, List.length_cons, RVs.len r]
theorem RVs.get : ∀ {vs : List V} {ds : List D} {i : Nat} {d : D}, RVs K H ρ vs ds → ds[i]? = some d → ∃ v, vs[i]? = some v ∧ RV K H ρ v d
  | _, _, _, _, .nil, h => by simp at h
  | _, _, 0, _, .cons h r, e => by
    have e' := Option.some.inj e
    exact ⟨_, rfl, e' ▸ h⟩
  | _, _, i + 1, _, .cons h r, e => RVs.get (i := i) r e
theorem RVs.getV : ∀ {vs : List V} {ds : List D} {i : Nat} {v : V}, RVs K H ρ vs ds → vs[i]? = some v → ∃ d, ds[i]? = some d ∧ RV K H ρ v d
  | _, _, _, _, .nil, h => by simp at h
  | _, _, 0, _, .cons h r, e => by
    have e' := Option.some.inj e
    exact ⟨_, rfl, e' ▸ h⟩
  | _, _, i + 1, _, .cons h r, e => RVs.getV (i := i) r e
theorem RVs.append : ∀ {vs ws : List V} {ds es : List D}, RVs K H ρ vs ds → RVs K H ρ ws es → RVs K H ρ (vs ++ ws) (ds ++ es)
  | _, _, _, _, .nil, r => r
  | _, _, _, _, .cons h r, q => .cons h (RVs.append r q)
theorem RVs.take : ∀ {vs : List V} {ds : List D} (n : Nat), RVs K H ρ vs ds → RVs K H ρ (vs.take n) (ds.take n)
  | _, _, 0, _ => .nil
  | _, _, _ + 1, .nil => .nil
  | _, _, n + 1, .cons h r => .cons h (RVs.take n r)
theorem RVs.drop : ∀ {vs : List V} {ds : List D} (n : Nat), RVs K H ρ vs ds → RVs K H ρ (vs.drop n) (ds.drop n)
  | _, _, 0, r => r
  | _, _, _ + 1, .nil => .nil
  | _, _, n + 1, .cons _ r => RVs.drop n r
theorem RVs.set : ∀ {vs : List V} {ds : List D} {v : V} {d : D} (i : Nat), RVs K H ρ vs ds → RV K H ρ v d → RVs K H ρ (vs.set i v) (ds.set i d)
  | _, _, _, _, _, .nil, _ => .nil
  | _, _, _, _, 0, .cons _ r, q => .cons q r
  | _, _, _, _, i + 1, .cons h r, q => .cons h (RVs.set i r q)
theorem RVs.rev {vs : List V} {ds : List D} (h : RVs K H ρ vs ds) : RVs K H ρ vs.reverse ds.reverse := by
  induction vs generalizing ds with
  | nil => cases h; exact .nil
  | cons v vs ih =>
    cases h with
    | cons h r =>
      rw [List.reverse_cons, List.reverse_cons]
      exact (ih r).append (.cons h .nil)
/-- what a place of the store holds -/
def OR (K : PySem.W.Frag) (H : Hp) (ρ : Ro) (a : Addr) : Ob → Prop
  | .lst ds => ∃ vs, H a = some (.lst vs) ∧ RVs K H ρ vs ds
  | .ins C gs => ∃ dx fs, H a = some (.ins C dx fs) ∧ fs.map (·.1) = gs.map (·.1) ∧ RVs K H ρ (fs.map (·.2)) (gs.map (·.2))
  | .dct gs => ∃ fs, H a = some (.dK fs) ∧ fs.map (·.1) = gs.map (·.1) ∧ RVs K H ρ (fs.map (·.2)) (gs.map (·.2))
structure SR (K : PySem.W.Frag) (H : Hp) (ρ : Ro) (S : Sg) : Prop where
  len : ρ.pl.length = S.length
  nd : ρ.pl.Nodup
  bn : ∀ a ∈ ρ.bn, H a ≠ none
  dj : ∀ a ∈ ρ.pl, a ∉ ρ.bn
  ob : ∀ (n : Nat) (a : Addr) (o : Ob), ρ.pl[n]? = some a → S[n]? = some o → OR K H ρ a o
theorem OR.some {a : Addr} {o : Ob} (h : OR K H ρ a o) : ∃ u, H a = some u := by
  cases o with
  | lst ds => obtain ⟨vs, e, _⟩ := h; exact ⟨_, e⟩
  | ins C gs => obtain ⟨dx, fs, e, _⟩ := h; exact ⟨_, e⟩
  | dct gs => obtain ⟨fs, e, _⟩ := h; exact ⟨_, e⟩
theorem SR.has (s : SR K H ρ S) {a : Addr} (m : a ∈ ρ.pl) : ∃ u, H a = some u := by
  obtain ⟨n, hn, e⟩ := List.mem_iff_getElem.mp m
  have hn' : n < S.length := by rw [← s.len]; exact hn
  exact (s.ob n a S[n] (by rw [List.getElem?_eq_getElem hn, e]) (List.getElem?_eq_getElem hn')).some
theorem SR.freshP (s : SR K H ρ S) {p : Addr} (h : H p = none) : p ∉ ρ.pl := fun m => by
  obtain ⟨u, e⟩ := s.has m
  rw [e] at h; cases h
theorem SR.fresh (s : SR K H ρ S) {p : Addr} (h : H p = none) : ρ.out p := ⟨s.freshP h, fun m => s.bn p m h⟩
theorem SR.nil : SR K H ⟨[], []⟩ [] := ⟨rfl, List.nodup_nil, fun a h => by simp at h, fun a h => by simp at h, fun n a o h => by simp at h⟩
/-- a new thing outside of the store -/
theorem Step.new (s : SR K H ρ S) {p : Addr} {o : HO} (h : H p = none) : Step ρ ρ H (upd H p o) :=
  ⟨⟨[], by simp, by simp⟩, rfl, fun a u e _ => by rw [upd_ne (ne_of_none e h)]; exact e, fun a e => by
    by_cases q : a = p
    · subst q; exact h
    · rw [upd_ne q] at e; exact e⟩
theorem OR.mono (st : Step ρ ρ' H H') {a : Addr} {o : Ob} (k : H' a = H a) (h : OR K H ρ a o) : OR K H' ρ' a o := by
  cases o with
  | lst ds => obtain ⟨vs, e, r⟩ := h; exact ⟨vs, k.trans e, r.mono st⟩
  | ins C gs => obtain ⟨dx, fs, e, n, r⟩ := h; exact ⟨dx, fs, k.trans e, n, r.mono st⟩
  | dct gs => obtain ⟨fs, e, n, r⟩ := h; exact ⟨fs, k.trans e, n, r.mono st⟩
theorem SR.new (s : SR K H ρ S) {p : Addr} {o : HO} (h : H p = none) : SR K (upd H p o) ρ S := by
  refine ⟨s.len, s.nd, fun a m e => s.bn a m ((Step.new (o := o) s h).dom a e), s.dj, fun n a u e1 e2 => (s.ob n a u e1 e2).mono (Step.new s h) ?_⟩
  obtain ⟨w, e⟩ := (s.ob n a u e1 e2).some
  exact upd_ne (ne_of_none e h)
/-- a new place -/
theorem Step.push (s : SR K H ρ S) {p : Addr} {o : HO} (h : H p = none) : Step ρ (ρ.push p) H (upd H p o) :=
  ⟨⟨[p], rfl, fun a m => by rw [List.mem_singleton.mp m]; exact h⟩, rfl, (Step.new s h).keep, (Step.new s h).dom⟩
theorem SR.push (s : SR K H ρ S) {p : Addr} {o : HO} {u : Ob} (h : H p = none) (hu : OR K (upd H p o) (ρ.push p) p u) : SR K (upd H p o) (ρ.push p) (S ++ [u]) := by
  refine ⟨by show (ρ.pl ++ [p]).length = _; rw [List.length_append, List.length_append, s.len]; rfl, ?_, fun a m e => s.bn a m ((Step.new (o := o) s h).dom a e), fun a m => (List.mem_append.mp m).elim (s.dj a) (fun z => by rw [List.mem_singleton.mp z]; exact (s.fresh h).2), fun n a w e1 e2 => ?_⟩
  · show (ρ.pl ++ [p]).Nodup
    rw [List.nodup_append]
    refine ⟨s.nd, by simp, fun a ha b hb e => ?_⟩
    rw [List.mem_singleton] at hb
    subst hb; subst e
    exact s.freshP h ha
  · have e1 : (ρ.pl ++ [p])[n]? = some a := e1
    by_cases hn : n < ρ.pl.length
    · rw [List.getElem?_append_left hn] at e1
      rw [List.getElem?_append_left (by rw [← s.len]; exact hn)] at e2
      have z := s.ob n a w e1 e2
      obtain ⟨x, ex⟩ := z.some
      exact z.mono (Step.push s h) (upd_ne (ne_of_none ex h))
    · have hl : n = ρ.pl.length := by
        have := (List.getElem?_eq_some_iff.mp e1).1
        rw [List.length_append] at this
        simp at this
        omega
      subst hl
      rw [List.getElem?_append_right (Nat.le_refl _), Nat.sub_self] at e1
      rw [s.len, List.getElem?_append_right (Nat.le_refl _), Nat.sub_self] at e2
      have e1' : p = a := Option.some.inj e1
      have e2' : u = w := Option.some.inj e2
      subst e1'; subst e2'
      exact hu
/-- a place is written -/
theorem Step.write {n : Nat} {a : Addr} {o u : HO} (e : ρ.pl[n]? = some a) (h : H a = some u) : Step ρ ρ H (upd H a o) :=
  ⟨⟨[], by simp, by simp⟩, rfl, fun b w q nb => by
    have n : b ≠ a := fun z => nb (by rw [z]; exact List.mem_of_getElem? e)
    rw [upd_ne n]; exact q, fun b q => by
    by_cases z : b = a
    · subst z; rw [upd_same] at q; cases q
    · rw [upd_ne z] at q; exact q⟩
theorem SR.write (s : SR K H ρ S) {n : Nat} {a : Addr} {o : HO} {u : Ob} (e : ρ.pl[n]? = some a) (hs : ∃ w, H a = some w) (hu : OR K (upd H a o) ρ a u) : SR K (upd H a o) ρ (S.set n u) := by
  obtain ⟨w, hw⟩ := hs
  refine ⟨by rw [List.length_set]; exact s.len, s.nd, fun c m z => s.bn c m ((Step.write (o := o) e hw).dom c z), s.dj, fun m b x e1 e2 => ?_⟩
  by_cases hm : n = m
  · subst hm
    have hn : n < S.length := by rw [← s.len]; exact (List.getElem?_eq_some_iff.mp e).1
    rw [List.getElem?_set_self hn] at e2
    have e2' := Option.some.inj e2
    subst e2'
    rw [e] at e1
    have e1' := Option.some.inj e1
    subst e1'
    exact hu
  · rw [List.getElem?_set_ne hm] at e2
    have nb : b ≠ a := fun z => by
      subst z
      have h1 := List.getElem?_eq_some_iff.mp e
      have h2 := List.getElem?_eq_some_iff.mp e1
      obtain ⟨l1, g1⟩ := h1
      obtain ⟨l2, g2⟩ := h2
      rcases Nat.lt_or_gt_of_ne hm with l | l
      · exact (List.pairwise_iff_getElem.mp s.nd n m l1 l2 l) (g1.trans g2.symm)
      · exact (List.pairwise_iff_getElem.mp s.nd m n l2 l1 l) (g2.trans g1.symm)
    exact (s.ob m b x e1 e2).mono (Step.write e hw) (upd_ne nb)
/-- slots; what is not known of one is none -/
inductive RS (K : PySem.W.Frag) (H : Hp) (ρ : Ro) : St → Dl → Prop
  | nil : RS K H ρ [] []
  | no {x : Option V} {σ : St} {δ : Dl} (r : RS K H ρ σ δ) : RS K H ρ (x :: σ) (none :: δ)
  | yes {v : V} {d : D} {σ : St} {δ : Dl} (h : RV K H ρ v d) (r : RS K H ρ σ δ) : RS K H ρ (some v :: σ) (some d :: δ)
theorem RS.mono (s : Step ρ ρ' H H') : ∀ {σ : St} {δ : Dl}, RS K H ρ σ δ → RS K H' ρ' σ δ
  | _, _, .nil => .nil
  | _, _, .no r => .no (RS.mono s r)
  | _, _, .yes h r => .yes (h.mono s) (RS.mono s r)
theorem RS.get : ∀ {σ : St} {δ : Dl} {i : Nat} {d : D}, RS K H ρ σ δ → δ[i]? = some (some d) → ∃ v, σ[i]? = some (some v) ∧ RV K H ρ v d
  | _, _, _, _, .nil, h => by simp at h
  | _, _, 0, _, .no _, h => by simp at h
  | _, _, 0, _, .yes h _, e => by
    have e' := Option.some.inj (Option.some.inj e)
    exact ⟨_, rfl, e' ▸ h⟩
  | _, _, i + 1, _, .no r, e => RS.get (i := i) r e
  | _, _, i + 1, _, .yes _ r, e => RS.get (i := i) r e
theorem RS.set : ∀ {σ : St} {δ : Dl} {v : V} {d : D} (i : Nat), RS K H ρ σ δ → RV K H ρ v d → RS K H ρ (σ.set i (some v)) (δ.set i (some d))
  | _, _, _, _, _, .nil, _ => .nil
  | _, _, _, _, 0, .no r, q => .yes q r
  | _, _, _, _, 0, .yes _ r, q => .yes q r
  | _, _, _, _, i + 1, .no r, q => .no (RS.set i r q)
  | _, _, _, _, i + 1, .yes h r, q => .yes h (RS.set i r q)
theorem RS.del : ∀ {σ : St} {δ : Dl} (i : Nat) (x : Option V), RS K H ρ σ δ → RS K H ρ (σ.set i x) (δ.set i none)
  | _, _, _, _, .nil => .nil
  | _, _, 0, _, .no r => .no r
  | _, _, 0, _, .yes _ r => .no r
  | _, _, i + 1, x, .no r => .no (RS.del i x r)
  | _, _, i + 1, x, .yes h r => .yes h (RS.del i x r)
theorem RS.start {vs : List V} {ds : List D} (h : RVs K H ρ vs ds) (N : List Str) (n : Nat) (hn : N.length = n) : RS K H ρ (start N vs) (ds.map some ++ List.replicate (n - ds.length) none) := by
  subst hn
  unfold L2.start
  rw [h.len]
  generalize N.length - ds.length = m
  have z : ∀ m : Nat, RS K H ρ (List.replicate m none) (List.replicate m none) := fun m => by
    induction m with
    | zero => exact .nil
    | succ k ih => exact .no ih
  induction vs generalizing ds with
  | nil => cases h; exact z m
  | cons v vs ih => cases h with | cons h r => exact .yes h (ih r)
def wipeD (δ : Dl) : List Nat → Dl
  | [] => δ
  | v :: vs => (wipeD δ vs).set v none
theorem RS.wipe (h : RS K H ρ σ δ) : ∀ vs : List Nat, RS K H ρ (L2.wipe σ vs) (wipeD δ vs)
  | [] => h
  | v :: vs => RS.del v none (RS.wipe h vs)
end
theorem bnd {α β : Type} {o : Option α} {f : α → Option β} {r : β} (h : o.bind f = some r) : ∃ a, o = some a ∧ f a = some r := by
  cases o with
  | none => cases h
  | some a => exact ⟨a, rfl, h⟩
/-! ### what a piece of text does to slots and store -/
abbrev FE := Dl → Sg → Option (D × Sg)
abbrev FT := Dl → Sg → Option (Bool × Sg)
abbrev FA := Dl → Sg → Option (List D × Sg)
abbrev FO := Dl → Sg → Option (Option Int × Sg)
inductive Fl where
  | nx | rt (d : D) | bk | ct
abbrev FS := Dl → Sg → Option (Fl × Dl × Sg)
section
variable (K : PySem.W.Frag)
def tD (f : FE) : TE := fun σ H Q => ∃ ρ δ S d S', SR K H ρ S ∧ RS K H ρ σ δ ∧ f δ S = some (d, S') ∧ ∀ v H' ρ', Step ρ ρ' H H' → SR K H' ρ' S' → RV K H' ρ' v d → Q v H'
def tDT (f : FT) : TT := fun σ H Q => ∃ ρ δ S b S', SR K H ρ S ∧ RS K H ρ σ δ ∧ f δ S = some (b, S') ∧ ∀ H' ρ', Step ρ ρ' H H' → SR K H' ρ' S' → Q b H'
def tDA (f : FA) : TA := fun σ H Q => ∃ ρ δ S ds S', SR K H ρ S ∧ RS K H ρ σ δ ∧ f δ S = some (ds, S') ∧ ∀ vs H' ρ', Step ρ ρ' H H' → SR K H' ρ' S' → RVs K H' ρ' vs ds → Q vs H'
def tDO (f : FO) : TO := fun σ H Q => ∃ ρ δ S i S', SR K H ρ S ∧ RS K H ρ σ δ ∧ f δ S = some (i, S') ∧ ∀ H' ρ', Step ρ ρ' H H' → SR K H' ρ' S' → Q i H'
/-- what must follow of a flow -/
def EndsD (D : Ends) (ρ : Ro) (H : Hp) (δ' : Dl) (S' : Sg) : Fl → Prop
  | .nx => ∀ σ' H' ρ', Step ρ ρ' H H' → SR K H' ρ' S' → RS K H' ρ' σ' δ' → D.nx σ' H'
  | .rt d => ∀ v H' ρ', Step ρ ρ' H H' → SR K H' ρ' S' → RV K H' ρ' v d → D.rt v H'
  | .bk => ∀ σ' H' ρ', Step ρ ρ' H H' → SR K H' ρ' S' → RS K H' ρ' σ' δ' → D.bk σ' H'
  | .ct => ∀ σ' H' ρ', Step ρ ρ' H H' → SR K H' ρ' S' → RS K H' ρ' σ' δ' → D.ct σ' H'
def tDS (f : FS) : TS := fun D σ H => ∃ ρ δ S r δ' S', SR K H ρ S ∧ RS K H ρ σ δ ∧ f δ S = some (r, δ', S') ∧ EndsD K D ρ H δ' S' r
end
def JE (X : Cx) (e : Expr) (f : FE) : Prop := PE X e (tD X.K f)
def JT (X : Cx) (e : Expr) (f : FT) : Prop := PT X e (tDT X.K f)
def JW (X : Cx) (e : Expr) (f : FT) : Prop := PW X e (tDT X.K f)
def JA (X : Cx) (es : List Expr) (f : FA) : Prop := PA X es (tDA X.K f)
def JO (X : Cx) (e : Option Expr) (f : FO) : Prop := PO X e (tDO X.K f)
def JS (X : Cx) (s : Stmt) (f : FS) : Prop := PS X s (tDS X.K f)
def JSs (X : Cx) (ss : List Stmt) (f : FS) : Prop := PSs X ss (tDS X.K f)
theorem PE.imp {X : Cx} {e : Expr} {t t' : TE} (h : PE X e t) (i : ∀ σ H Q, t' σ H Q → t σ H Q) : PE X e t' := ⟨fun pins s σ H Q I q => h.run pins s σ H Q I (i σ H Q q)⟩
theorem PT.imp {X : Cx} {e : Expr} {t t' : TT} (h : PT X e t) (i : ∀ σ H Q, t' σ H Q → t σ H Q) : PT X e t' := ⟨fun pins s σ H Q I q => h.run pins s σ H Q I (i σ H Q q)⟩
theorem PA.imp {X : Cx} {e : List Expr} {t t' : TA} (h : PA X e t) (i : ∀ σ H Q, t' σ H Q → t σ H Q) : PA X e t' := by
  exact ⟨fun pos pins s σ H Q I q => h.run pos pins s σ H Q I (i σ H Q q)⟩
theorem PS.imp {X : Cx} {e : Stmt} {t t' : TS} (h : PS X e t) (i : ∀ D σ H, t' D σ H → t D σ H) : PS X e t' := ⟨fun pins s σ H D I q => h.run pins s σ H D I (i D σ H q)⟩
theorem PSs.imp {X : Cx} {e : List Stmt} {t t' : TS} (h : PSs X e t) (i : ∀ D σ H, t' D σ H → t D σ H) : PSs X e t' := ⟨fun pins s σ H D I q => h.run pins s σ H D I (i D σ H q)⟩
end DL
end
noncomputable section
namespace DL
open PySem L2
section
variable {K : PySem.W.Frag}
/-! ### names, constants -/
def varD (i : Nat) : FE := fun δ S => (δ[i]?).bind fun o => o.bind fun d => some (d, S)
def cD (d : D) : FE := fun _ S => some (d, S)
theorem le_var {i : Nat} : ∀ σ H Q, tD K (varD i) σ H Q → tVar i σ H Q := by
  rintro σ H Q ⟨ρ, δ, S, d, S', hS, hσ, e, q⟩
  obtain ⟨o, e1, e⟩ := bnd e
  obtain ⟨d', e2, e⟩ := bnd e
  cases e
  subst e2
  obtain ⟨v, hv, r⟩ := hσ.get e1
  exact ⟨v, hv, q v H ρ (Step.refl _ _) hS r⟩
theorem le_c {v : V} {d : D} (r : ∀ H ρ, RV K H ρ v d) : ∀ σ H Q, tD K (cD d) σ H Q → tC v σ H Q := by
  rintro σ H Q ⟨ρ, δ, S, d, S', hS, hσ, e, q⟩
  cases e
  exact q v H ρ (Step.refl _ _) hS (r H ρ)
/-! ### two values -/
abbrev O2 := D → D → Sg → Option (D × Sg)
def op2D (o : O2) (fa fb : FE) : FE := fun δ S => (fa δ S).bind fun p => (fb δ p.2).bind fun q => o p.1 q.1 q.2
def OpD (K : PySem.W.Frag) (r : R2) (o : O2) : Prop := ∀ x y H Q ρ S d e z S', SR K H ρ S → RV K H ρ x d → RV K H ρ y e → o d e S = some (z, S') →
  (∀ v H' ρ', Step ρ ρ' H H' → SR K H' ρ' S' → RV K H' ρ' v z → Q v H') → r x y H Q
theorem le_op {r : R2} {o : O2} {fa fb : FE} (h : OpD K r o) : ∀ σ H Q, tD K (op2D o fa fb) σ H Q → tOp r (tD K fa) (tD K fb) σ H Q := by
  rintro σ H Q ⟨ρ, δ, S, d, S', hS, hσ, e, q⟩
  obtain ⟨⟨x, S1⟩, e1, e⟩ := bnd e
  obtain ⟨⟨y, S2⟩, e2, e⟩ := bnd e
  refine ⟨ρ, δ, S, x, S1, hS, hσ, e1, fun v H1 ρ1 s1 hS1 rv => ⟨ρ1, δ, S1, y, S2, hS1, hσ.mono s1, e2, fun w H2 ρ2 s2 hS2 rw' => ?_⟩⟩
  exact h _ _ _ _ _ _ _ _ _ _ hS2 (rv.mono s2) rw' e fun z H3 ρ3 s3 hS3 rz => q z H3 ρ3 ((s1.trans s2).trans s3) hS3 rz
theorem OpD.or {r1 r2 : R2} {o1 o2 : O2} (h1 : OpD K r1 o1) (h2 : OpD K r2 o2) : OpD K (fun x y H Q => r1 x y H Q ∨ r2 x y H Q) (fun d e S => (o1 d e S).or (o2 d e S)) := by
  intro x y H Q ρ S d e z S' hS rx ry eq q
  cases h : o1 d e S with
  | some p =>
    dsimp only at eq
    rw [h] at eq
    exact .inl (h1 x y H Q ρ S d e z S' hS rx ry (h.trans eq) q)
  | none =>
    dsimp only at eq
    rw [h] at eq
    exact .inr (h2 x y H Q ρ S d e z S' hS rx ry eq q)
theorem OpR_or {X : Cx} {f : Value → Value → Sem Value} {r1 r2 : R2} (h1 : OpR X f r1) (h2 : OpR X f r2) : OpR X f (fun x y H Q => r1 x y H Q ∨ r2 x y H Q) := by
  intro pins s σ H x y u v Q I rx ry h
  rcases h with h | h
  · exact h1 pins s σ H x y u v Q I rx ry h
  · exact h2 pins s σ H x y u v Q I rx ry h
/-- of two numbers -/
def intO (C : Int → Int → Prop) [∀ i j, Decidable (C i j)] (g : Int → Int → D) : O2 := fun d e S => match d, e with
  | .int i, .int j => if C i j then some (g i j, S) else none
  | _, _ => none
def int0 (g : Int → Int → D) : O2 := fun d e S => match d, e with
  | .int i, .int j => some (g i j, S)
  | _, _ => none
inductive Plain : V → D → Prop
  | non : Plain .non .non
  | bl {b : Bool} : Plain (.bl b) (.bl b)
  | int {i : Int} : Plain (.int i) (.int i)
  | str {z : Str} : Plain (.str z) (.str z)
  | ty {n : String} : Plain (.ty n) (.ty n)
theorem Plain.rv {v : V} {d : D} (h : Plain v d) {H : Hp} {ρ : Ro} : RV K H ρ v d := by
  cases h <;> constructor
theorem opD_int {C C' : Int → Int → Prop} [∀ i j, Decidable (C i j)] {g : Int → Int → V} {g' : Int → Int → D} (hC : ∀ i j, C i j → C' i j) (hg : ∀ i j, Plain (g i j) (g' i j)) : OpD K (rI C' g) (intO C g') := by
  intro x y H Q ρ S d e z S' hS rx ry eq q
  unfold intO at eq
  split at eq
  · cases rx; cases ry
    split at eq
    · cases eq
      exact ⟨_, _, rfl, rfl, hC _ _ ‹_›, q _ H ρ (Step.refl _ _) hS (hg _ _).rv⟩
    · cases eq
  · cases eq
theorem opD_int0 {g : Int → Int → V} {g' : Int → Int → D} (hg : ∀ i j, Plain (g i j) (g' i j)) : OpD K (rI0 g) (int0 g') := by
  intro x y H Q ρ S d e z S' hS rx ry eq q
  unfold int0 at eq
  split at eq
  · cases rx; cases ry
    cases eq
    exact ⟨_, _, rfl, rfl, q _ H ρ (Step.refl _ _) hS (hg _ _).rv⟩
  · cases eq
/-! ### one value -/
abbrev O1 := D → Sg → Option (D × Sg)
def op1D (o : O1) (fa : FE) : FE := fun δ S => (fa δ S).bind fun p => o p.1 p.2
def UnD (K : PySem.W.Frag) (r : V → Hp → VK → Prop) (o : O1) : Prop := ∀ x H Q ρ S d z S', SR K H ρ S → RV K H ρ x d → o d S = some (z, S') →
  (∀ v H' ρ', Step ρ ρ' H H' → SR K H' ρ' S' → RV K H' ρ' v z → Q v H') → r x H Q
theorem le_un {r : V → Hp → VK → Prop} {o : O1} {fa : FE} (h : UnD K r o) : ∀ σ H Q, tD K (op1D o fa) σ H Q → tUn r (tD K fa) σ H Q := by
  rintro σ H Q ⟨ρ, δ, S, d, S', hS, hσ, e, q⟩
  obtain ⟨⟨x, S1⟩, e1, e⟩ := bnd e
  refine ⟨ρ, δ, S, x, S1, hS, hσ, e1, fun v H1 ρ1 s1 hS1 rv => ?_⟩
  exact h _ _ _ _ _ _ _ _ hS1 rv e fun z H3 ρ3 s3 hS3 rz => q z H3 ρ3 (s1.trans s3) hS3 rz
def negO : O1 := fun d S => match d with
  | .int i => some (.int (-i), S)
  | _ => none
theorem unD_neg : UnD K (rU fun i => .int (-i)) negO := by
  intro x H Q ρ S d z S' hS rx eq q
  unfold negO at eq
  split at eq
  · cases rx
    cases eq
    exact ⟨_, rfl, q _ H ρ (Step.refl _ _) hS .int⟩
  · cases eq
/-! ### comparisons of numbers; is None -/
def cmpO (p : Int → Int → Bool) : O2 := int0 fun i j => .bl (p i j)
theorem le_cmp {p : Int → Int → Bool} {fa fb : FE} : ∀ σ H Q, tD K (op2D (cmpO p) fa fb) σ H Q → tCmp p (tD K fa) (tD K fb) σ H Q := fun σ H Q h =>
  le_op (r := rI0 fun i j => .bl (p i j)) (opD_int0 fun _ _ => .bl) σ H Q h
def isNoneB : D → Bool
  | .non => true
  | _ => false
def isNO (neg : Bool) : O1 := fun d S => some (.bl (if neg then !isNoneB d else isNoneB d), S)
theorem isNone_rv {H : Hp} {ρ : Ro} {v : V} {d : D} (r : RV K H ρ v d) : decide (v = .non) = isNoneB d := by
  cases r <;> first | rfl | (rw [decide_eq_false (by intro h; cases h)]; rfl)
theorem le_isN {fa : FE} : ∀ σ H Q, tD K (op1D (isNO false) fa) σ H Q → tIsN (tD K fa) σ H Q := by
  rintro σ H Q ⟨ρ, δ, S, d, S', hS, hσ, e, q⟩
  obtain ⟨⟨x, S1⟩, e1, e⟩ := bnd e
  cases e
  refine ⟨ρ, δ, S, x, S1, hS, hσ, e1, fun v H1 ρ1 s1 hS1 rv => ?_⟩
  show Q (.bl (decide (v = .non))) H1
  rw [isNone_rv rv]
  exact q _ H1 ρ1 s1 hS1 .bl
theorem le_notN {fa : FE} : ∀ σ H Q, tD K (op1D (isNO true) fa) σ H Q → tNotN (tD K fa) σ H Q := by
  rintro σ H Q ⟨ρ, δ, S, d, S', hS, hσ, e, q⟩
  obtain ⟨⟨x, S1⟩, e1, e⟩ := bnd e
  cases e
  refine ⟨ρ, δ, S, x, S1, hS, hσ, e1, fun v H1 ρ1 s1 hS1 rv => ?_⟩
  show Q (.bl (!decide (v = .non))) H1
  rw [isNone_rv rv]
  exact q _ H1 ρ1 s1 hS1 .bl
/-! ### tests -/
def isB : D → Option Bool
  | .bl b => some b
  | _ => none
theorem isB_some {d : D} {b : Bool} (h : isB d = some b) : d = .bl b := by
  unfold isB at h
  split at h
  · cases h; rfl
  · cases h
def tvD (f : FE) : FT := fun δ S => (f δ S).bind fun p => (isB p.1).bind fun b => some (b, p.2)
theorem le_B {f : FE} : ∀ σ H Q, tDT K (tvD f) σ H Q → tB (tD K f) σ H Q := by
  rintro σ H Q ⟨ρ, δ, S, b, S', hS, hσ, e, q⟩
  obtain ⟨⟨x, S1⟩, e1, e⟩ := bnd e
  obtain ⟨b', e2, e⟩ := bnd e
  cases e
  refine ⟨ρ, δ, S, x, S1, hS, hσ, e1, fun v H1 ρ1 s1 hS1 rv => ?_⟩
  have e2' := isB_some e2
  dsimp only at e2'
  subst e2'
  cases rv
  exact ⟨_, rfl, q H1 ρ1 s1 hS1⟩
theorem le_test {f : FE} : ∀ σ H Q, tDT K (tvD f) σ H Q → tTest (tD K f) σ H Q := le_B
def notD (f : FT) : FT := fun δ S => (f δ S).bind fun p => some (!p.1, p.2)
theorem le_not {f : FT} : ∀ σ H Q, tDT K (notD f) σ H Q → tNot (tDT K f) σ H Q := by
  rintro σ H Q ⟨ρ, δ, S, b, S', hS, hσ, e, q⟩
  obtain ⟨⟨x, S1⟩, e1, e⟩ := bnd e
  cases e
  exact ⟨ρ, δ, S, x, S1, hS, hσ, e1, q⟩
def andD (f g : FT) : FT := fun δ S => (f δ S).bind fun p => if p.1 = true then g δ p.2 else some (false, p.2)
def orD (f g : FT) : FT := fun δ S => (f δ S).bind fun p => if p.1 = true then some (true, p.2) else g δ p.2
theorem le_and {f g : FT} : ∀ σ H Q, tDT K (andD f g) σ H Q → tAnd (tDT K f) (tDT K g) σ H Q := by
  rintro σ H Q ⟨ρ, δ, S, b, S', hS, hσ, e, q⟩
  obtain ⟨⟨x, S1⟩, e1, e⟩ := bnd e
  refine ⟨ρ, δ, S, x, S1, hS, hσ, e1, fun H1 ρ1 s1 hS1 => ?_⟩
  cases x with
  | true => exact ⟨ρ1, δ, S1, b, S', hS1, hσ.mono s1, e, fun H2 ρ2 s2 hS2 => q H2 ρ2 (s1.trans s2) hS2⟩
  | false => cases e; exact q H1 ρ1 s1 hS1
theorem le_or {f g : FT} : ∀ σ H Q, tDT K (orD f g) σ H Q → tOr (tDT K f) (tDT K g) σ H Q := by
  rintro σ H Q ⟨ρ, δ, S, b, S', hS, hσ, e, q⟩
  obtain ⟨⟨x, S1⟩, e1, e⟩ := bnd e
  refine ⟨ρ, δ, S, x, S1, hS, hσ, e1, fun H1 ρ1 s1 hS1 => ?_⟩
  cases x with
  | false => exact ⟨ρ1, δ, S1, b, S', hS1, hσ.mono s1, e, fun H2 ρ2 s2 hS2 => q H2 ρ2 (s1.trans s2) hS2⟩
  | true => cases e; exact q H1 ρ1 s1 hS1
def andV (f g : FE) : FE := fun δ S => (f δ S).bind fun p => (isB p.1).bind fun b => if b = true then g δ p.2 else some (.bl false, p.2)
def orV (f g : FE) : FE := fun δ S => (f δ S).bind fun p => (isB p.1).bind fun b => if b = true then some (.bl true, p.2) else g δ p.2
def notV (f : FE) : FE := fun δ S => (f δ S).bind fun p => (isB p.1).bind fun b => some (.bl (!b), p.2)
theorem le_andV {f g : FE} : ∀ σ H Q, tD K (andV f g) σ H Q → tAndV (tD K f) (tD K g) σ H Q := by
  rintro σ H Q ⟨ρ, δ, S, d, S', hS, hσ, e, q⟩
  obtain ⟨⟨x, S1⟩, e1, e⟩ := bnd e
  obtain ⟨b, e2, e⟩ := bnd e
  have e2' := isB_some e2
  dsimp only at e2'
  subst e2'
  refine ⟨ρ, δ, S, _, S1, hS, hσ, e1, fun v H1 ρ1 s1 hS1 rv => ?_⟩
  cases rv
  refine ⟨b, rfl, ?_⟩
  cases b with
  | true => exact ⟨ρ1, δ, S1, d, S', hS1, hσ.mono s1, e, fun v H2 ρ2 s2 hS2 rv => q v H2 ρ2 (s1.trans s2) hS2 rv⟩
  | false => cases e; exact q _ H1 ρ1 s1 hS1 .bl
theorem le_orV {f g : FE} : ∀ σ H Q, tD K (orV f g) σ H Q → tOrV (tD K f) (tD K g) σ H Q := by
  rintro σ H Q ⟨ρ, δ, S, d, S', hS, hσ, e, q⟩
  obtain ⟨⟨x, S1⟩, e1, e⟩ := bnd e
  obtain ⟨b, e2, e⟩ := bnd e
  have e2' := isB_some e2
  dsimp only at e2'
  subst e2'
  refine ⟨ρ, δ, S, _, S1, hS, hσ, e1, fun v H1 ρ1 s1 hS1 rv => ?_⟩
  cases rv
  refine ⟨b, rfl, ?_⟩
  cases b with
  | false => exact ⟨ρ1, δ, S1, d, S', hS1, hσ.mono s1, e, fun v H2 ρ2 s2 hS2 rv => q v H2 ρ2 (s1.trans s2) hS2 rv⟩
  | true => cases e; exact q _ H1 ρ1 s1 hS1 .bl
theorem le_notV {f : FE} : ∀ σ H Q, tD K (notV f) σ H Q → tNotV (tD K f) σ H Q := by
  rintro σ H Q ⟨ρ, δ, S, d, S', hS, hσ, e, q⟩
  obtain ⟨⟨x, S1⟩, e1, e⟩ := bnd e
  obtain ⟨b, e2, e⟩ := bnd e
  have e2' := isB_some e2
  dsimp only at e2'
  subst e2'
  cases e
  refine ⟨ρ, δ, S, _, S1, hS, hσ, e1, fun v H1 ρ1 s1 hS1 rv => ?_⟩
  cases rv
  exact ⟨b, rfl, q _ H1 ρ1 s1 hS1 .bl⟩
def iteV (c : FT) (f g : FE) : FE := fun δ S => (c δ S).bind fun p => if p.1 = true then f δ p.2 else g δ p.2
theorem le_ite {c : FT} {f g : FE} : ∀ σ H Q, tD K (iteV c f g) σ H Q → tIf (tDT K c) (tD K f) (tD K g) σ H Q := by
  rintro σ H Q ⟨ρ, δ, S, d, S', hS, hσ, e, q⟩
  obtain ⟨⟨x, S1⟩, e1, e⟩ := bnd e
  refine ⟨ρ, δ, S, x, S1, hS, hσ, e1, fun H1 ρ1 s1 hS1 => ?_⟩
  cases x with
  | true => exact ⟨ρ1, δ, S1, d, S', hS1, hσ.mono s1, e, fun v H2 ρ2 s2 hS2 rv => q v H2 ρ2 (s1.trans s2) hS2 rv⟩
  | false => exact ⟨ρ1, δ, S1, d, S', hS1, hσ.mono s1, e, fun v H2 ρ2 s2 hS2 rv => q v H2 ρ2 (s1.trans s2) hS2 rv⟩
def chainD (o o' : O2) (fa fb fc : FE) : FE := fun δ S => (fa δ S).bind fun p => (fb δ p.2).bind fun q => (o p.1 q.1 q.2).bind fun z => (isB z.1).bind fun b =>
  if b = true then (fc δ z.2).bind fun w => o' q.1 w.1 w.2 else some (.bl false, z.2)
theorem le_chain {r r' : R2} {o o' : O2} {fa fb fc : FE} (h : OpD K r o) (h' : OpD K r' o') : ∀ σ H Q, tD K (chainD o o' fa fb fc) σ H Q → tChain r r' (tD K fa) (tD K fb) (tD K fc) σ H Q := by
  rintro σ H Q ⟨ρ, δ, S, d, S', hS, hσ, e, q⟩
  obtain ⟨⟨x, S1⟩, e1, e⟩ := bnd e
  obtain ⟨⟨y, S2⟩, e2, e⟩ := bnd e
  obtain ⟨⟨z, S3⟩, e3, e⟩ := bnd e
  obtain ⟨b, e4, e⟩ := bnd e
  have e4' := isB_some e4
  dsimp only at e4'
  subst e4'
  refine ⟨ρ, δ, S, x, S1, hS, hσ, e1, fun v H1 ρ1 s1 hS1 rv => ⟨ρ1, δ, S1, y, S2, hS1, hσ.mono s1, e2, fun w H2 ρ2 s2 hS2 rw' => ?_⟩⟩
  refine h _ _ _ _ _ _ _ _ _ _ hS2 (rv.mono s2) rw' e3 fun z H3 ρ3 s3 hS3 rz => ?_
  cases rz
  refine ⟨b, rfl, ?_⟩
  have s13 := (s1.trans s2).trans s3
  cases b with
  | false => cases e; exact q _ H3 ρ3 s13 hS3 .bl
  | true =>
    obtain ⟨⟨w, S4⟩, e5, e⟩ := bnd (o := fc δ S3) e
    refine ⟨ρ3, δ, S3, w, S4, hS3, hσ.mono s13, e5, fun wv H4 ρ4 s4 hS4 rw4 => ?_⟩
    exact h' _ _ _ _ _ _ _ _ _ _ hS4 (rw'.mono (s3.trans s4)) rw4 e fun u H5 ρ5 s5 hS5 ru => q u H5 ρ5 ((s13.trans s4).trans s5) hS5 ru
/-! ### arguments, displays -/
def nilA : FA := fun _ S => some ([], S)
def consA (f : FE) (g : FA) : FA := fun δ S => (f δ S).bind fun p => (g δ p.2).bind fun q => some (p.1 :: q.1, q.2)
theorem le_nilA : ∀ σ H Q, tDA K nilA σ H Q → tNil σ H Q := by
  rintro σ H Q ⟨ρ, δ, S, ds, S', hS, hσ, e, q⟩
  cases e
  exact q [] H ρ (Step.refl _ _) hS .nil
theorem le_consA {f : FE} {g : FA} : ∀ σ H Q, tDA K (consA f g) σ H Q → tCons (tD K f) (tDA K g) σ H Q := by
  rintro σ H Q ⟨ρ, δ, S, ds, S', hS, hσ, e, q⟩
  obtain ⟨⟨x, S1⟩, e1, e⟩ := bnd e
  obtain ⟨⟨y, S2⟩, e2, e⟩ := bnd e
  cases e
  refine ⟨ρ, δ, S, x, S1, hS, hσ, e1, fun v H1 ρ1 s1 hS1 rv => ⟨ρ1, δ, S1, y, S2, hS1, hσ.mono s1, e2, fun w H2 ρ2 s2 hS2 rw' => ?_⟩⟩
  exact q _ H2 ρ2 (s1.trans s2) hS2 (.cons (rv.mono s2) rw')
def tupD (f : FA) : FE := fun δ S => (f δ S).bind fun p => if Fits (p.1.length) then some (.tup p.1, p.2) else none
def lstD (f : FA) : FE := fun δ S => (f δ S).bind fun p => if Fits (p.1.length) then some (.lst p.1, p.2) else none
/-- a list that will be changed: a new place -/
def newD (f : FA) : FE := fun δ S => (f δ S).bind fun p => if Fits (p.1.length) then some (.loc p.2.length, p.2 ++ [.lst p.1]) else none
theorem rv_tup {ρ : Ro} {H : Hp} {S : Sg} {p : Addr} {vs : List V} {ds : List D} (hS : SR K H ρ S) (h : H p = none) (r : RVs K H ρ vs ds) : RV K (upd H p (.tup vs)) ρ (.ref p) (.tup ds) :=
  .tup upd_same (hS.fresh h) (r.mono (Step.new hS h))
theorem rv_lst {ρ : Ro} {H : Hp} {S : Sg} {p : Addr} {vs : List V} {ds : List D} (hS : SR K H ρ S) (h : H p = none) (r : RVs K H ρ vs ds) : RV K (upd H p (.lst vs)) ρ (.ref p) (.lst ds) :=
  .lst upd_same (hS.fresh h) (r.mono (Step.new hS h))
theorem rv_new {ρ : Ro} {H : Hp} {S : Sg} {p : Addr} {vs : List V} {ds : List D} (hS : SR K H ρ S) (h : H p = none) (r : RVs K H ρ vs ds) :
    SR K (upd H p (.lst vs)) (ρ.push p) (S ++ [.lst ds]) ∧ RV K (upd H p (.lst vs)) (ρ.push p) (.ref p) (.loc S.length) := by
  refine ⟨hS.push h ⟨vs, upd_same, r.mono (Step.push hS h)⟩, .loc ?_⟩
  show (ρ.pl ++ [p])[S.length]? = some p
  rw [← hS.len, List.getElem?_append_right (Nat.le_refl _), Nat.sub_self]
  rfl
theorem le_tup {f : FA} : ∀ σ H Q, tD K (tupD f) σ H Q → tTup (tDA K f) σ H Q := by
  rintro σ H Q ⟨ρ, δ, S, d, S', hS, hσ, e, q⟩
  obtain ⟨⟨x, S1⟩, e1, e⟩ := bnd e
  dsimp only at e
  split at e
  · cases e
    refine ⟨ρ, δ, S, x, _, hS, hσ, e1, fun vs H1 ρ1 s1 hS1 r => ⟨?_, fun p hp => ?_⟩⟩
    · rw [r.len]; exact Fits.le ‹_›
    · exact q _ _ ρ1 (s1.trans (Step.new hS1 hp)) (hS1.new hp) (rv_tup hS1 hp r)
  · cases e
theorem le_lst {f : FA} : ∀ σ H Q, tD K (lstD f) σ H Q → tLst (tDA K f) σ H Q := by
  rintro σ H Q ⟨ρ, δ, S, d, S', hS, hσ, e, q⟩
  obtain ⟨⟨x, S1⟩, e1, e⟩ := bnd e
  dsimp only at e
  split at e
  · cases e
    refine ⟨ρ, δ, S, x, _, hS, hσ, e1, fun vs H1 ρ1 s1 hS1 r => ⟨?_, fun p hp => ?_⟩⟩
    · rw [r.len]; exact Fits.le ‹_›
    · exact q _ _ ρ1 (s1.trans (Step.new hS1 hp)) (hS1.new hp) (rv_lst hS1 hp r)
  · cases e
theorem le_new {f : FA} : ∀ σ H Q, tD K (newD f) σ H Q → tLst (tDA K f) σ H Q := by
  rintro σ H Q ⟨ρ, δ, S, d, S', hS, hσ, e, q⟩
  obtain ⟨⟨x, S1⟩, e1, e⟩ := bnd e
  dsimp only at e
  split at e
  · cases e
    refine ⟨ρ, δ, S, x, _, hS, hσ, e1, fun vs H1 ρ1 s1 hS1 r => ⟨?_, fun p hp => ?_⟩⟩
    · rw [r.len]; exact Fits.le ‹_›
    · obtain ⟨a, b⟩ := rv_new hS1 hp r
      exact q _ _ _ (s1.trans (Step.push hS1 hp)) a b
  · cases e
/-! ### items of lists and tuples -/
/-- the items of a list -/
def lsOf (S : Sg) : D → Option (List D)
  | .lst ds => some ds
  | .rol ds => some ds
  | .loc n => match S[n]? with
    | some (.lst ds) => some ds
    | _ => none
  | _ => none
def tpOf : D → Option (List D)
  | .tup ds => some ds
  | _ => none
def sqOf (S : Sg) (d : D) : Option (List D) := (lsOf S d).or (tpOf d)
theorem lsOf_sq {ρ : Ro} {H : Hp} {S : Sg} {v : V} {d : D} {ds : List D} (hS : SR K H ρ S) (r : RV K H ρ v d) (h : lsOf S d = some ds) : ∃ a vs, v = .ref a ∧ SqL K H a vs ∧ RVs K H ρ vs ds := by
  unfold lsOf at h
  split at h
  · cases h
    cases r with | lst h n r => exact ⟨_, _, rfl, SqL.of h, r⟩
  · cases h
    cases r with | rol h r => exact ⟨_, _, rfl, h.sq, r⟩
  · rename_i n
    cases r with
    | loc hn =>
      split at h
      · rename_i ds' e
        cases h
        obtain ⟨vs, h1, h2⟩ := hS.ob _ _ _ hn e
        exact ⟨_, vs, rfl, SqL.of h1, h2⟩
      · cases h
  · cases h
/-- a list that may be joined, repeated -/
def plOf (S : Sg) : D → Option (List D)
  | .lst ds => some ds
  | .loc n => match S[n]? with
    | some (.lst ds) => some ds
    | _ => none
  | _ => none
theorem plOf_sq {ρ : Ro} {H : Hp} {S : Sg} {v : V} {d : D} {ds : List D} (hS : SR K H ρ S) (r : RV K H ρ v d) (h : plOf S d = some ds) : ∃ a vs, v = .ref a ∧ H a = some (.lst vs) ∧ RVs K H ρ vs ds := by
  unfold plOf at h
  split at h
  · cases h
    cases r with | lst h n r => exact ⟨_, _, rfl, h, r⟩
  · rename_i n
    cases r with
    | loc hn =>
      split at h
      · rename_i ds' e
        cases h
        obtain ⟨vs, h1, h2⟩ := hS.ob _ _ _ hn e
        exact ⟨_, vs, rfl, h1, h2⟩
      · cases h
  · cases h
theorem tpOf_sq {ρ : Ro} {H : Hp} {v : V} {d : D} {ds : List D} (r : RV K H ρ v d) (h : tpOf d = some ds) : ∃ a vs, v = .ref a ∧ SqT K H a vs ∧ RVs K H ρ vs ds := by
  unfold tpOf at h
  split at h
  · cases h
    cases r with | tup h n r => exact ⟨_, _, rfl, SqT.of h, r⟩
  · cases h
theorem sqOf_sq {ρ : Ro} {H : Hp} {S : Sg} {v : V} {d : D} {ds : List D} (hS : SR K H ρ S) (r : RV K H ρ v d) (h : sqOf S d = some ds) : ∃ a vs, v = .ref a ∧ (SqL K H a vs ∨ SqT K H a vs) ∧ RVs K H ρ vs ds := by
  unfold sqOf at h
  cases e : lsOf S d with
  | some es =>
    rw [e] at h
    cases h
    obtain ⟨a, vs, h1, h2, h3⟩ := lsOf_sq hS r e
    exact ⟨a, vs, h1, .inl h2, h3⟩
  | none =>
    rw [e] at h
    obtain ⟨a, vs, h1, h2, h3⟩ := tpOf_sq r h
    exact ⟨a, vs, h1, .inr h2, h3⟩
theorem atI_rv {ρ : Ro} {H : Hp} {vs : List V} {ds : List D} {i : Int} {d : D} (r : RVs K H ρ vs ds) (h : atI ds i = some d) : ∃ v, atI vs i = some v ∧ RV K H ρ v d := by
  unfold atI at h ⊢
  rw [r.len]
  obtain ⟨j, e, h⟩ := bnd h
  rw [e]
  obtain ⟨v, hv, rv⟩ := r.get h
  exact ⟨v, hv, rv⟩
def ixO : O2 := fun d e S => match e with
  | .int i => match sqOf S d with
    | some ds => (atI ds i).bind fun x => some (x, S)
    | none => match d with
      | .str z => if Fits (z.length) then (atI z.cps.toList i).bind fun c => some (.str ⟨#[c]⟩, S) else none
      | _ => none
  | _ => none
theorem opD_ix : OpD K (rIx K) ixO := by
  intro x y H Q ρ S d e z S' hS rx ry eq q
  unfold ixO at eq
  split at eq
  · rename_i i
    cases ry
    split at eq
    · rename_i ds hds
      obtain ⟨w, ew, eq⟩ := bnd eq
      cases eq
      obtain ⟨a, vs, rfl, hsq, r⟩ := sqOf_sq hS rx hds
      obtain ⟨v, hv, rv⟩ := atI_rv r ew
      rcases hsq with hq | hq
      · exact .inl ⟨a, vs, i, v, rfl, rfl, hq, hv, q v H ρ (Step.refl _ _) hS rv⟩
      · exact .inr (.inl ⟨a, vs, i, v, rfl, rfl, hq, hv, q v H ρ (Step.refl _ _) hS rv⟩)
    · split at eq
      · rename_i z'
        cases rx
        split at eq
        · obtain ⟨c, ec, eq⟩ := bnd eq
          cases eq
          exact .inr (.inr ⟨_, i, c, rfl, rfl, Fits.le ‹_›, ec, q _ H ρ (Step.refl _ _) hS .str⟩)
        · cases eq
      · cases eq
  · cases eq
/-! ### slices -/
def noO : FO := fun _ S => some (none, S)
def isI : D → Option Int
  | .int i => some i
  | _ => none
theorem isI_some {d : D} {i : Int} (h : isI d = some i) : d = .int i := by
  unfold isI at h
  split at h
  · cases h; rfl
  · cases h
def someO (f : FE) : FO := fun δ S => (f δ S).bind fun p => (isI p.1).bind fun i => some (some i, p.2)
theorem le_noO : ∀ σ H Q, tDO K noO σ H Q → tNoPart σ H Q := by
  rintro σ H Q ⟨ρ, δ, S, d, S', hS, hσ, e, q⟩
  cases e
  exact q H ρ (Step.refl _ _) hS
theorem le_someO {f : FE} : ∀ σ H Q, tDO K (someO f) σ H Q → tPart (tD K f) σ H Q := by
  rintro σ H Q ⟨ρ, δ, S, d, S', hS, hσ, e, q⟩
  obtain ⟨⟨x, S1⟩, e1, e⟩ := bnd e
  obtain ⟨i, e2, e⟩ := bnd e
  have e2' := isI_some e2
  dsimp only at e2'
  subst e2'
  cases e
  refine ⟨ρ, δ, S, _, S1, hS, hσ, e1, fun v H1 ρ1 s1 hS1 rv => ?_⟩
  cases rv
  exact ⟨_, rfl, q H1 ρ1 s1 hS1⟩
def cutD (xs : List D) (lo hi : Option Int) : List D := (xs.drop (HT.sIx xs.length 0 lo)).take (HT.sIx xs.length xs.length hi - HT.sIx xs.length 0 lo)
theorem cut_rv {ρ : Ro} {H : Hp} {vs : List V} {ds : List D} (r : RVs K H ρ vs ds) (lo hi : Option Int) : RVs K H ρ (cutV vs lo hi) (cutD ds lo hi) := by
  unfold cutV cutD
  rw [r.len]
  exact (r.drop _).take _
abbrev O3 := D → Option Int → Option Int → Sg → Option (D × Sg)
def slD (o : O3) (f : FE) (g h : FO) : FE := fun δ S => (f δ S).bind fun p => (g δ p.2).bind fun q => (h δ q.2).bind fun r => o p.1 q.1 r.1 r.2
def SlD (K : PySem.W.Frag) (r : V → Option Int → Option Int → Hp → VK → Prop) (o : O3) : Prop := ∀ x lo hi H Q ρ S d z S', SR K H ρ S → RV K H ρ x d → o d lo hi S = some (z, S') →
  (∀ v H' ρ', Step ρ ρ' H H' → SR K H' ρ' S' → RV K H' ρ' v z → Q v H') → r x lo hi H Q
theorem le_sl {r : V → Option Int → Option Int → Hp → VK → Prop} {o : O3} {f : FE} {g h : FO} (ho : SlD K r o) : ∀ σ H Q, tD K (slD o f g h) σ H Q → tSl r (tD K f) (tDO K g) (tDO K h) σ H Q := by
  rintro σ H Q ⟨ρ, δ, S, d, S', hS, hσ, e, q⟩
  obtain ⟨⟨x, S1⟩, e1, e⟩ := bnd e
  obtain ⟨⟨y, S2⟩, e2, e⟩ := bnd e
  obtain ⟨⟨w, S3⟩, e3, e⟩ := bnd e
  refine ⟨ρ, δ, S, x, S1, hS, hσ, e1, fun v H1 ρ1 s1 hS1 rv => ⟨ρ1, δ, S1, y, S2, hS1, hσ.mono s1, e2, fun H2 ρ2 s2 hS2 => ⟨ρ2, δ, S2, w, S3, hS2, hσ.mono (s1.trans s2), e3, fun H3 ρ3 s3 hS3 => ?_⟩⟩⟩
  exact ho _ _ _ _ _ _ _ _ _ _ hS3 (rv.mono (s2.trans s3)) e fun z H4 ρ4 s4 hS4 rz => q z H4 ρ4 (((s1.trans s2).trans s3).trans s4) hS4 rz
/-- of a list, kept for good -/
def slLO : O3 := fun d lo hi S => (lsOf S d).bind fun ds => some (.lst (cutD ds lo hi), S)
theorem slD_L : SlD K (rSlL K) slLO := by
  intro x lo hi H Q ρ S d z S' hS rx eq q
  obtain ⟨ds, e, eq⟩ := bnd eq
  cases eq
  obtain ⟨a, vs, rfl, h2, r⟩ := lsOf_sq hS rx e
  exact ⟨a, vs, rfl, h2, fun p hp => q _ _ ρ (Step.new hS hp) (hS.new hp) (rv_lst hS hp (cut_rv r lo hi))⟩
/-- of a list, to be changed -/
def slNO : O3 := fun d lo hi S => (lsOf S d).bind fun ds => some (.loc S.length, S ++ [.lst (cutD ds lo hi)])
theorem slD_N : SlD K (rSlL K) slNO := by
  intro x lo hi H Q ρ S d z S' hS rx eq q
  obtain ⟨ds, e, eq⟩ := bnd eq
  cases eq
  obtain ⟨a, vs, rfl, h2, r⟩ := lsOf_sq hS rx e
  refine ⟨a, vs, rfl, h2, fun p hp => ?_⟩
  obtain ⟨c1, c2⟩ := rv_new hS hp (cut_rv r lo hi)
  exact q _ _ _ (Step.push hS hp) c1 c2
def slTO : O3 := fun d lo hi S => (tpOf d).bind fun ds => if HT.sIx ds.length 0 lo = 0 ∧ HT.sIx ds.length ds.length hi = ds.length then none else some (.tup (cutD ds lo hi), S)
theorem slD_T : SlD K (rSlT K) slTO := by
  intro x lo hi H Q ρ S d z S' hS rx eq q
  obtain ⟨ds, e, eq⟩ := bnd eq
  split at eq
  · cases eq
  · cases eq
    obtain ⟨a, vs, rfl, h2, r⟩ := tpOf_sq rx e
    rename_i hn
    refine ⟨a, vs, rfl, h2, by rw [r.len]; exact hn, fun p hp => q _ _ ρ (Step.new hS hp) (hS.new hp) (rv_tup hS hp (cut_rv r lo hi))⟩
/-! ### calls of Python's own -/
abbrev OC := List D → Sg → Option (D × Sg)
def CbD (K : PySem.W.Frag) (r : List V → Hp → VK → Prop) (o : OC) : Prop := ∀ xs H Q ρ S ds z S', SR K H ρ S → RVs K H ρ xs ds → o ds S = some (z, S') →
  (∀ v H' ρ', Step ρ ρ' H H' → SR K H' ρ' S' → RV K H' ρ' v z → Q v H') → r xs H Q
def cbD (o : OC) (f : FA) : FE := fun δ S => (f δ S).bind fun p => o p.1 p.2
theorem le_cb {r : List V → Hp → VK → Prop} {o : OC} {f : FA} (h : CbD K r o) : ∀ σ H Q, tD K (cbD o f) σ H Q → tCB r (tDA K f) σ H Q := by
  rintro σ H Q ⟨ρ, δ, S, d, S', hS, hσ, e, q⟩
  obtain ⟨⟨x, S1⟩, e1, e⟩ := bnd e
  refine ⟨ρ, δ, S, x, S1, hS, hσ, e1, fun vs H1 ρ1 s1 hS1 rv => ?_⟩
  exact h _ _ _ _ _ _ _ _ hS1 rv e fun z H3 ρ3 s3 hS3 rz => q z H3 ρ3 (s1.trans s3) hS3 rz
/-- a def of the text, by what it does: d the value, the store behind -/
abbrev Fn := List D → Sg → Option (D × Sg)
def spD (K : PySem.W.Frag) (n : Nat) (F : Fn) : Sp := fun vs H Q _ => ∃ ρ S ds d S', vs.length = n ∧ SR K H ρ S ∧ RVs K H ρ vs ds ∧ F ds S = some (d, S') ∧ ∀ v H' ρ', Step ρ ρ' H H' → SR K H' ρ' S' → RV K H' ρ' v d → Q v H'
/-- dvs: the defaults -/
def fnD (F : Fn) (dds : List D) (f : FA) : FE := fun δ S => (f δ S).bind fun p => F (p.1 ++ dds) p.2
theorem le_fn {n : Nat} {F : Fn} {dvs : List V} {dds : List D} {E : XK} {f : FA} (hd : ∀ H ρ, RVs K H ρ dvs dds) (hn : ∀ δ S ds S', f δ S = some (ds, S') → (ds ++ dds).length = n) : ∀ σ H Q, tD K (fnD F dds f) σ H Q → tCall (spD K n F) dvs E (tDA K f) σ H Q := by
  rintro σ H Q ⟨ρ, δ, S, d, S', hS, hσ, e, q⟩
  obtain ⟨⟨x, S1⟩, e1, e⟩ := bnd e
  refine ⟨ρ, δ, S, x, S1, hS, hσ, e1, fun vs H1 ρ1 s1 hS1 rv => ?_⟩
  have r2 := rv.append (hd H1 ρ1)
  exact ⟨ρ1, S1, _, d, S', by rw [r2.len]; exact hn _ _ _ _ e1, hS1, r2, e, fun v H2 ρ2 s2 hS2 rv => q v H2 ρ2 (s1.trans s2) hS2 rv⟩
end
end DL
end
noncomputable section
namespace DL
open PySem L2
section
variable {K : PySem.W.Frag}
/-! ### targets -/
abbrev FG := D → Dl → Sg → Option (Dl × Sg)
abbrev FGs := List D → Dl → Sg → Option (Dl × Sg)
def LG (K : PySem.W.Frag) (g : TG) (o : FG) : Prop := ∀ v σ H Q ρ δ S d δ' S', SR K H ρ S → RS K H ρ σ δ → RV K H ρ v d → o d δ S = some (δ', S') →
  (∀ σ' H' ρ', Step ρ ρ' H H' → SR K H' ρ' S' → RS K H' ρ' σ' δ' → Q σ' H') → g v σ H Q
def LGs (K : PySem.W.Frag) (g : TGs) (o : FGs) : Prop := ∀ vs σ H Q ρ δ S ds δ' S', SR K H ρ S → RS K H ρ σ δ → RVs K H ρ vs ds → o ds δ S = some (δ', S') →
  (∀ σ' H' ρ', Step ρ ρ' H H' → SR K H' ρ' S' → RS K H' ρ' σ' δ' → Q σ' H') → g vs σ H Q
def nmG (i : Nat) : FG := fun d δ S => some (δ.set i (some d), S)
theorem lg_nm {i : Nat} : LG K (gName i) (nmG i) := by
  intro v σ H Q ρ δ S d δ' S' hS hσ r e q
  cases e
  exact q _ H ρ (Step.refl _ _) hS (hσ.set i r)
def nilG : FGs := fun ds δ S => match ds with
  | [] => some (δ, S)
  | _ => none
def consG (t : FG) (u : FGs) : FGs := fun ds δ S => match ds with
  | d :: r => (t d δ S).bind fun p => u r p.1 p.2
  | _ => none
theorem lg_nil : LGs K gNil nilG := by
  intro vs σ H Q ρ δ S ds δ' S' hS hσ r e q
  cases r with
  | nil => cases e; exact ⟨rfl, q _ H ρ (Step.refl _ _) hS hσ⟩
  | cons _ _ => cases e
theorem lg_cons {g : TG} {gs : TGs} {t : FG} {u : FGs} (h : LG K g t) (hs : LGs K gs u) : LGs K (gCons g gs) (consG t u) := by
  intro vs σ H Q ρ δ S ds δ' S' hS hσ r e q
  cases r with
  | nil => cases e
  | cons r1 r2 =>
    obtain ⟨⟨δ1, S1⟩, e1, e⟩ := bnd e
    refine ⟨_, _, rfl, h _ _ _ _ _ _ _ _ _ _ hS hσ r1 e1 fun σ1 H1 ρ1 s1 hS1 hσ1 => ?_⟩
    exact hs _ _ _ _ _ _ _ _ _ _ hS1 hσ1 (r2.mono s1) e fun σ2 H2 ρ2 s2 hS2 hσ2 => q σ2 H2 ρ2 (s1.trans s2) hS2 hσ2
def tupG (n : Nat) (u : FGs) : FG := fun d δ S => (tpOf d).bind fun ds => if ds.length = n then u ds δ S else none
theorem lg_tup {n : Nat} {gs : TGs} {u : FGs} (h : LGs K gs u) : LG K (gTup K n gs) (tupG n u) := by
  intro v σ H Q ρ δ S d δ' S' hS hσ r e q
  obtain ⟨ds, e1, e⟩ := bnd e
  obtain ⟨a, vs, rfl, hq, rs⟩ := tpOf_sq r e1
  split at e
  · exact ⟨a, vs, rfl, hq, by rw [rs.len]; assumption, h _ _ _ _ _ _ _ _ _ _ hS hσ rs e q⟩
  · cases e
abbrev OSt := D → D → D → Sg → Option Sg
def StD (K : PySem.W.Frag) (t : TSet) (o : OSt) : Prop := ∀ x y v H Q ρ S d e z S', SR K H ρ S → RV K H ρ x d → RV K H ρ y e → RV K H ρ v z → o d e z S = some S' → (∀ H', Step ρ ρ H H' → SR K H' ρ S' → Q H') → t x y v H Q
def subG (o : OSt) (fo fi : FE) : FG := fun d δ S => (fo δ S).bind fun p => (fi δ p.2).bind fun q => (o p.1 q.1 d q.2).bind fun S' => some (δ, S')
theorem lg_sub {t : TSet} {o : OSt} {fo fi : FE} (h : StD K t o) : LG K (gSub (tD K fo) (tD K fi) t) (subG o fo fi) := by
  intro v σ H Q ρ δ S d δ' S' hS hσ r e q
  obtain ⟨⟨x, S1⟩, e1, e⟩ := bnd e
  obtain ⟨⟨y, S2⟩, e2, e⟩ := bnd e
  obtain ⟨S3, e3, e⟩ := bnd e
  cases e
  refine ⟨ρ, δ, S, x, S1, hS, hσ, e1, fun v1 H1 ρ1 s1 hS1 rv => ⟨ρ1, δ, S1, y, S2, hS1, hσ.mono s1, e2, fun w H2 ρ2 s2 hS2 rw' => ?_⟩⟩
  refine h _ _ _ _ _ _ _ _ _ _ _ hS2 (rv.mono s2) rw' (r.mono (s1.trans s2)) e3 fun H3 s3 hS3 => ?_
  exact q σ H3 ρ2 ((s1.trans s2).trans s3) hS3 (hσ.mono ((s1.trans s2).trans s3))
def setLO : OSt := fun d e z S => match d, e with
  | .loc n, .int k => match S[n]? with
    | some (.lst ds) => (ixN ds.length k).bind fun j => some (S.set n (.lst (ds.set j z)))
    | _ => none
  | _, _ => none
theorem stD_L : StD K rSetL setLO := by
  intro x y v H Q ρ S d e z S' hS rx ry rv eq q
  unfold setLO at eq
  split at eq
  · rename_i n k
    cases ry
    cases rx with
    | loc hn =>
      split at eq
      · rename_i ds hds
        obtain ⟨j, ej, eq⟩ := bnd eq
        cases eq
        obtain ⟨vs, h1, h2⟩ := hS.ob _ _ _ hn hds
        refine ⟨_, vs, k, j, rfl, rfl, h1, by rw [h2.len]; exact ej, ?_⟩
        have st : Step ρ ρ H (upd H _ (.lst (vs.set j v))) := Step.write hn h1
        exact q _ st (hS.write hn ⟨_, h1⟩ ⟨_, upd_same, (h2.set j rv).mono st⟩)
      · cases eq
  · cases eq
/-! ### statements -/
def nextS : FS := fun δ S => some (.nx, δ, S)
def seqS (f g : FS) : FS := fun δ S => (f δ S).bind fun r => match r.1 with
  | .nx => g r.2.1 r.2.2
  | _ => some r
theorem ls_next : ∀ D σ H, tDS K nextS D σ H → tNext D σ H := by
  rintro D σ H ⟨ρ, δ, S, r, δ', S', hS, hσ, e, q⟩
  cases e
  exact q σ H ρ (Step.refl _ _) hS hσ
theorem EndsD.step {D : Ends} {ρ ρ1 : Ro} {H H1 : Hp} {δ' : Dl} {S' : Sg} {r : Fl} (s : Step ρ ρ1 H H1) (h : EndsD K D ρ H δ' S' r) : EndsD K D ρ1 H1 δ' S' r := by
  cases r with
  | nx => exact fun σ' H' ρ' s' => h σ' H' ρ' (s.trans s')
  | rt d => exact fun v H' ρ' s' => h v H' ρ' (s.trans s')
  | bk => exact fun σ' H' ρ' s' => h σ' H' ρ' (s.trans s')
  | ct => exact fun σ' H' ρ' s' => h σ' H' ρ' (s.trans s')
theorem ls_seq {f g : FS} : ∀ D σ H, tDS K (seqS f g) D σ H → tSeq (tDS K f) (tDS K g) D σ H := by
  rintro D σ H ⟨ρ, δ, S, r, δ', S', hS, hσ, e, q⟩
  obtain ⟨⟨r1, δ1, S1⟩, e1, e⟩ := bnd e
  refine ⟨ρ, δ, S, r1, δ1, S1, hS, hσ, e1, ?_⟩
  cases r1 with
  | nx => exact fun σ1 H1 ρ1 s1 hS1 hσ1 => ⟨ρ1, δ1, S1, r, δ', S', hS1, hσ1, e, q.step s1⟩
  | rt d => cases e; exact q
  | bk => cases e; exact q
  | ct => cases e; exact q
def ifS (c : FT) (f g : FS) : FS := fun δ S => (c δ S).bind fun p => if p.1 = true then f δ p.2 else g δ p.2
theorem ls_if {c : FT} {f g : FS} : ∀ D σ H, tDS K (ifS c f g) D σ H → tIfS (tDT K c) (tDS K f) (tDS K g) D σ H := by
  rintro D σ H ⟨ρ, δ, S, r, δ', S', hS, hσ, e, q⟩
  obtain ⟨⟨x, S1⟩, e1, e⟩ := bnd e
  refine ⟨ρ, δ, S, x, S1, hS, hσ, e1, fun H1 ρ1 s1 hS1 => ?_⟩
  cases x with
  | true => exact ⟨ρ1, δ, S1, r, δ', S', hS1, hσ.mono s1, e, q.step s1⟩
  | false => exact ⟨ρ1, δ, S1, r, δ', S', hS1, hσ.mono s1, e, q.step s1⟩
def retS (f : FE) : FS := fun δ S => (f δ S).bind fun p => some (.rt p.1, δ, p.2)
theorem ls_ret {f : FE} : ∀ D σ H, tDS K (retS f) D σ H → tRet (tD K f) D σ H := by
  rintro D σ H ⟨ρ, δ, S, r, δ', S', hS, hσ, e, q⟩
  obtain ⟨⟨x, S1⟩, e1, e⟩ := bnd e
  cases e
  exact ⟨ρ, δ, S, x, S1, hS, hσ, e1, q⟩
def retNS : FS := fun δ S => some (.rt .non, δ, S)
theorem ls_retN : ∀ D σ H, tDS K retNS D σ H → tRetN D σ H := by
  rintro D σ H ⟨ρ, δ, S, r, δ', S', hS, hσ, e, q⟩
  cases e
  exact q _ H ρ (Step.refl _ _) hS .non
def breakS : FS := fun δ S => some (.bk, δ, S)
def contS : FS := fun δ S => some (.ct, δ, S)
theorem ls_break : ∀ D σ H, tDS K breakS D σ H → tBreak D σ H := by
  rintro D σ H ⟨ρ, δ, S, r, δ', S', hS, hσ, e, q⟩
  cases e
  exact q σ H ρ (Step.refl _ _) hS hσ
theorem ls_cont : ∀ D σ H, tDS K contS D σ H → tCont D σ H := by
  rintro D σ H ⟨ρ, δ, S, r, δ', S', hS, hσ, e, q⟩
  cases e
  exact q σ H ρ (Step.refl _ _) hS hσ
def dropS (f : FE) : FS := fun δ S => (f δ S).bind fun p => some (.nx, δ, p.2)
theorem ls_drop {f : FE} : ∀ D σ H, tDS K (dropS f) D σ H → tDrop (tD K f) D σ H := by
  rintro D σ H ⟨ρ, δ, S, r, δ', S', hS, hσ, e, q⟩
  obtain ⟨⟨x, S1⟩, e1, e⟩ := bnd e
  cases e
  exact ⟨ρ, δ, S, x, S1, hS, hσ, e1, fun v H1 ρ1 s1 hS1 _ => q σ H1 ρ1 s1 hS1 (hσ.mono s1)⟩
/-- a way that is never gone -/
def neverS : FS := fun _ _ => none
theorem ls_never : ∀ D σ H, tDS K neverS D σ H → tNever D σ H := by
  rintro D σ H ⟨ρ, δ, S, r, δ', S', hS, hσ, e, q⟩
  cases e
def asgS (f : FE) (g : FG) : FS := fun δ S => (f δ S).bind fun p => (g p.1 δ p.2).bind fun q => some (.nx, q.1, q.2)
theorem ls_asg {f : FE} {g : TG} {o : FG} (h : LG K g o) : ∀ D σ H, tDS K (asgS f o) D σ H → tAsg (tD K f) g D σ H := by
  rintro D σ H ⟨ρ, δ, S, r, δ', S', hS, hσ, e, q⟩
  obtain ⟨⟨x, S1⟩, e1, e⟩ := bnd e
  obtain ⟨⟨δ1, S2⟩, e2, e⟩ := bnd e
  cases e
  refine ⟨ρ, δ, S, x, S1, hS, hσ, e1, fun v H1 ρ1 s1 hS1 rv => ?_⟩
  exact h _ _ _ _ _ _ _ _ _ _ hS1 (hσ.mono s1) rv e2 fun σ2 H2 ρ2 s2 hS2 hσ2 => q σ2 H2 ρ2 (s1.trans s2) hS2 hσ2
def setS (i : Nat) (f : FE) : FS := fun δ S => (f δ S).bind fun p => some (.nx, δ.set i (some p.1), p.2)
theorem ls_set {i : Nat} {f : FE} : ∀ D σ H, tDS K (setS i f) D σ H → tAsg (tD K f) (gName i) D σ H := by
  rintro D σ H ⟨ρ, δ, S, r, δ', S', hS, hσ, e, q⟩
  obtain ⟨⟨x, S1⟩, e1, e⟩ := bnd e
  cases e
  exact ⟨ρ, δ, S, x, S1, hS, hσ, e1, fun v H1 ρ1 s1 hS1 rv => q _ H1 ρ1 s1 hS1 ((hσ.mono s1).set i rv)⟩
def parS (i j : Nat) (f : FA) : FS := fun δ S => (f δ S).bind fun p => match p.1 with
  | [x, y] => some (.nx, (δ.set i (some x)).set j (some y), p.2)
  | _ => none
theorem ls_par {i j : Nat} {f : FA} : ∀ D σ H, tDS K (parS i j f) D σ H → tPar i j (tDA K f) D σ H := by
  rintro D σ H ⟨ρ, δ, S, r, δ', S', hS, hσ, e, q⟩
  obtain ⟨⟨x, S1⟩, e1, e⟩ := bnd e
  dsimp only at e
  split at e
  · rename_i x1 y1
    cases e
    refine ⟨ρ, δ, S, _, _, hS, hσ, e1, fun vs H1 ρ1 s1 hS1 rv => ?_⟩
    cases rv with | cons r1 rv => cases rv with | cons r2 rv => cases rv with | nil =>
      exact ⟨_, _, rfl, q _ H1 ρ1 s1 hS1 (((hσ.mono s1).set i r1).set j r2)⟩
  · cases e
theorem varD_some {i : Nat} {δ : Dl} {S S' : Sg} {d : D} (h : varD i δ S = some (d, S')) : δ[i]? = some (some d) ∧ S' = S := by
  obtain ⟨o, e1, e⟩ := bnd h
  obtain ⟨d', e2, e⟩ := bnd e
  cases e
  exact ⟨by rw [e1, e2], rfl⟩
def augS (i : Nat) (f : FE) (o : O2) : FS := fun δ S => (varD i δ S).bind fun x => (f δ x.2).bind fun p => (o x.1 p.1 p.2).bind fun z => some (.nx, δ.set i (some z.1), z.2)
theorem ls_aug {i : Nat} {f : FE} {t : TIp} {o : O2} (h : OpD K t o) : ∀ D σ H, tDS K (augS i f o) D σ H → tAug i (tD K f) t D σ H := by
  rintro Dn σ H ⟨ρ, δ, S, r, δ', S', hS, hσ, e, q⟩
  obtain ⟨⟨d, S0⟩, e1, e0⟩ := bnd e
  obtain ⟨e7, rfl⟩ := varD_some e1
  obtain ⟨⟨y, S1⟩, e3, e5⟩ := bnd e0
  obtain ⟨⟨z, S2⟩, e4, e6⟩ := bnd e5
  cases e6
  obtain ⟨v, hv, rv⟩ := hσ.get e7
  refine ⟨v, hv, ρ, δ, _, y, S1, hS, hσ, e3, fun w H1 ρ1 s1 hS1 rw' => ?_⟩
  exact h _ _ _ _ _ _ _ _ _ _ hS1 (rv.mono s1) rw' e4 fun u H2 ρ2 s2 hS2 ru => q _ H2 ρ2 (s1.trans s2) hS2 ((hσ.mono (s1.trans s2)).set i ru)
theorem opD_ip {g : Int → Int → Int} : OpD K (ipI g) (int0 fun i j => .int (g i j)) := opD_int0 (g := fun i j => .int (g i j)) fun _ _ => .int
/-! ### attributes -/
def fsOf (S : Sg) (C : Addr) : D → Option (List (Str × D))
  | .ins C' ns ds => if C' = C then some (ns.zip ds) else none
  | .loc n => match S[n]? with
    | some (.ins C' gs) => if C' = C then some gs else none
    | _ => none
  | _ => none
theorem look_rv {ρ : Ro} {H : Hp} {f : Str} {d : D} : ∀ {fs : List (Str × V)} {gs : List (Str × D)}, fs.map (·.1) = gs.map (·.1) → RVs K H ρ (fs.map (·.2)) (gs.map (·.2)) → gs.lookup f = some d → ∃ v, fs.lookup f = some v ∧ RV K H ρ v d
  | [], [], _, _, h => by simp at h
  | [], _ :: _, e, _, _ => by simp at e
  | _ :: _, [], e, _, _ => by simp at e
  | (n, v) :: fs, (m, x) :: gs, e, r, h => by
    simp only [List.map_cons, List.cons.injEq] at e
    obtain ⟨e1, e2⟩ := e
    have e1' : n = m := e1
    subst e1'
    cases r with
    | cons r1 r2 =>
      rw [List.lookup_cons] at h ⊢
      cases hb : f == n with
      | true =>
        rw [hb] at h
        cases h
        exact ⟨v, rfl, r1⟩
      | false =>
        rw [hb] at h
        exact look_rv e2 r2 h
theorem look_none {f : Str} : ∀ {fs : List (Str × V)} {gs : List (Str × D)}, fs.map (·.1) = gs.map (·.1) → gs.lookup f = none → fs.lookup f = none
  | [], _, _, _ => rfl
  | _ :: _, [], e, _ => by simp at e
  | (n, v) :: fs, (m, x) :: gs, e, h => by
    simp only [List.map_cons, List.cons.injEq] at e
    obtain ⟨e1, e2⟩ := e
    have e1' : n = m := e1
    subst e1'
    rw [List.lookup_cons] at h ⊢
    cases hb : f == n with
    | true => rw [hb] at h; cases h
    | false => rw [hb] at h; exact look_none e2 h
theorem zip_map {α β : Type} : ∀ {ns : List α} {ds : List β}, ns.length = ds.length → (ns.zip ds).map (·.1) = ns ∧ (ns.zip ds).map (·.2) = ds
  | [], [], _ => ⟨rfl, rfl⟩
  | [], _ :: _, h => by simp at h
  | _ :: _, [], h => by simp at h
  | n :: ns, d :: ds, h => by
    obtain ⟨a, b⟩ := zip_map (ns := ns) (ds := ds) (by simpa using h)
    simp only [List.zip_cons_cons, List.map_cons, a, b, and_self]
theorem fsOf_sq {ρ : Ro} {H : Hp} {S : Sg} {C : Addr} {v : V} {d : D} {gs : List (Str × D)} (hS : SR K H ρ S) (r : RV K H ρ v d) (h : fsOf S C d = some gs) :
    ∃ a dx fs, v = .ref a ∧ H a = some (.ins C dx fs) ∧ fs.map (·.1) = gs.map (·.1) ∧ RVs K H ρ (fs.map (·.2)) (gs.map (·.2)) := by
  unfold fsOf at h
  split at h
  · split at h
    · cases h
      cases r with
      | ins h n r =>
        rename_i hc _ _ fs
        subst hc
        obtain ⟨z1, z2⟩ := zip_map (ns := fs.map (·.1)) (ds := ‹List D›) (by rw [List.length_map, ← r.len, List.length_map])
        exact ⟨_, _, _, rfl, h, z1.symm, by rw [z2]; exact r⟩
    · cases h
  · cases r with
    | loc hn =>
      split at h
      · rename_i hg
        split at h
        · cases h
          rename_i hc
          subst hc
          obtain ⟨dx, fs, h1, h2, h3⟩ := hS.ob _ _ _ hn hg
          exact ⟨_, dx, fs, rfl, h1, h2, h3⟩
        · cases h
      · cases h
  · cases h
def fldD (C : Addr) (f : Str) (fa : FE) : FE := fun δ S => (fa δ S).bind fun p => (fsOf p.2 C p.1).bind fun gs => (gs.lookup f).bind fun d => some (d, p.2)
theorem le_fld {C : Addr} {f : Str} {fa : FE} (c : Cls K C) (n : NoAttr K C f) : ∀ σ H Q, tD K (fldD C f fa) σ H Q → tFld K (tD K fa) f σ H Q := by
  rintro σ H Q ⟨ρ, δ, S, d, S', hS, hσ, e, q⟩
  obtain ⟨⟨x, S1⟩, e1, e⟩ := bnd e
  obtain ⟨gs, e2, e⟩ := bnd e
  obtain ⟨y, e3, e⟩ := bnd e
  cases e
  refine ⟨ρ, δ, S, x, S1, hS, hσ, e1, fun v H1 ρ1 s1 hS1 rv => ?_⟩
  obtain ⟨a, dx, fs, rfl, h1, h2, h3⟩ := fsOf_sq hS1 rv e2
  obtain ⟨w, hw, rw'⟩ := look_rv h2 h3 e3
  exact ⟨a, C, dx, fs, w, rfl, h1, c, n, hw, q w H1 ρ1 s1 hS1 rw'⟩
def putD (f : Str) (v : D) : List (Str × D) → List (Str × D)
  | [] => [(f, v)]
  | (g, x) :: r => if g = f then (g, v) :: r else (g, x) :: putD f v r
theorem put_rv {ρ : Ro} {H : Hp} {f : Str} {v : V} {d : D} (r : RV K H ρ v d) : ∀ {fs : List (Str × V)} {gs : List (Str × D)}, fs.map (·.1) = gs.map (·.1) → RVs K H ρ (fs.map (·.2)) (gs.map (·.2)) →
    (putF f v fs).map (·.1) = (putD f d gs).map (·.1) ∧ RVs K H ρ ((putF f v fs).map (·.2)) ((putD f d gs).map (·.2))
  | [], [], _, _ => ⟨rfl, .cons r .nil⟩
  | [], _ :: _, e, _ => by simp at e
  | _ :: _, [], e, _ => by simp at e
  | (n, w) :: fs, (m, x) :: gs, e, q => by
    simp only [List.map_cons, List.cons.injEq] at e
    obtain ⟨e1, e2⟩ := e
    have e1' : n = m := e1
    subst e1'
    cases q with
    | cons q1 q2 =>
      unfold putF putD
      by_cases h : n = f
      · rw [if_pos h, if_pos h]
        exact ⟨by simp only [List.map_cons, e2], .cons r q2⟩
      · rw [if_neg h, if_neg h]
        obtain ⟨i1, i2⟩ := put_rv r e2 q2
        exact ⟨by simp only [List.map_cons, i1], .cons q1 i2⟩
def fldS (C : Addr) (f : Str) (fa fv : FE) : FS := fun δ S => (fv δ S).bind fun y => (fa δ y.2).bind fun p => match p.1 with
  | .loc n => match p.2[n]? with
    | some (.ins C' gs) => if C' = C ∧ gs.length < 1000 then some (.nx, δ, p.2.set n (.ins C (putD f y.1 gs))) else none
    | _ => none
  | _ => none
theorem ls_fld {C : Addr} {f : Str} {fa fv : FE} (c : Cls K C) (n : NoAttr K C f) : ∀ D σ H, tDS K (fldS C f fa fv) D σ H → sFld K (tD K fa) (tD K fv) f D σ H := by
  rintro D σ H ⟨ρ, δ, S, r, δ', S', hS, hσ, e, q⟩
  obtain ⟨⟨y, S1⟩, e1, e⟩ := bnd e
  obtain ⟨⟨x, S2⟩, e2, e⟩ := bnd e
  dsimp only at e
  split at e
  · split at e
    · rename_i C' gs hg
      split at e
      · rename_i hc
        obtain ⟨rfl, hl⟩ := hc
        cases e
        refine ⟨ρ, δ, S, y, S1, hS, hσ, e1, fun v H1 ρ1 s1 hS1 rv => ⟨ρ1, δ, S1, _, S2, hS1, hσ.mono s1, e2, fun w H2 ρ2 s2 hS2 rw' => ?_⟩⟩
        cases rw' with
        | loc hn =>
          obtain ⟨dx, fs, h1, h2, h3⟩ := hS2.ob _ _ _ hn hg
          have hfl : fs.length < 1000 := by
            have := congrArg List.length h2
            rw [List.length_map, List.length_map] at this
            omega
          refine ⟨_, _, dx, fs, rfl, h1, c, n, hfl, ?_⟩
          have st : Step ρ2 ρ2 H2 (upd H2 _ (.ins C' dx (putF f v fs))) := Step.write hn h1
          obtain ⟨p1, p2⟩ := put_rv (f := f) (rv.mono s2) h2 h3
          exact q σ _ ρ2 ((s1.trans s2).trans st) (hS2.write hn ⟨_, h1⟩ ⟨dx, _, upd_same, p1, p2.mono st⟩) (hσ.mono ((s1.trans s2).trans st))
      · cases e
    · cases e
  · cases e
end
end DL
end
noncomputable section
namespace DL
open PySem L2
/-! ### what is walked -/
/-- a list or a tuple -/
def iSq (K : PySem.W.Frag) (tl : TE) : TI := fun σ H R => tl σ H fun x H1 => ∃ a, x = .ref a ∧ (((∃ xs, SqL K H1 a xs) ∧ R (Itl K a) H1) ∨ ((∃ xs, SqT K H1 a xs) ∧ R (Itt K a) H1))
theorem pi_sq {X : Cx} {tg l : Expr} {tl : TE} (hl : PE X l tl) : PI X tg l (iSq X.K tl) := by
  refine ⟨fun pins s σ H R I h => ?_⟩
  refine thn (hl.run pins s σ H _ I h) fun v s1 ⟨x, H1, I1, r1, q1⟩ => ?_
  obtain ⟨a, e, q1⟩ := q1
  subst e
  cases r1
  rcases q1 with ⟨⟨xs, hq⟩, q⟩ | ⟨⟨xs, hq⟩, q⟩
  · obtain ⟨its, rv, p, hz⟩ := I1.list hq
    refine wpAny_pyIter_list p.isList ?_
    refine ⟨s1.heap.objs.size, [s1.heap.objs.size], _, _, H1, rfl, I1.kept (t' := s1.toks) fun b o e => Heap.get?_push_of_some _ e, turn_list a _, ⟨_, Heap.get?_push_size _ rfl, rfl, rfl⟩, fun b hb => ?_, q⟩
    have e : b = s1.heap.objs.size := by simpa using hb
    subst e
    exact I1.fpOk (Nat.le_refl _) (I1.hok.fresh (Nat.le_refl _))
  · obtain ⟨its, rv, p, hz⟩ := I1.tuple hq
    refine wpAny_pyIter_tuple (show s1.heap.IsTuple a its.toArray from p) ?_
    refine ⟨s1.heap.objs.size, [s1.heap.objs.size], _, _, H1, rfl, I1.kept (t' := s1.toks) fun b o e => Heap.get?_push_of_some _ e, turn_tuple a _, ⟨_, Heap.get?_push_size _ rfl, rfl, rfl⟩, fun b hb => ?_, q⟩
    have e : b = s1.heap.objs.size := by simpa using hb
    subst e
    exact I1.fpOk (Nat.le_refl _) (I1.hok.fresh (Nat.le_refl _))
abbrev Ik := List D → Sg → Option (List D)
section
variable {K : PySem.W.Frag}
structure Walk (K : PySem.W.Frag) (J : It) (k : Ik) (ds items : List D) (vs : List V) : Prop where
  go : ∀ i H ρ S, RVs K H ρ vs ds → SR K H ρ S → k ds S = some items → i < items.length → J.go i H
  yld : ∀ i H ρ S x H', RVs K H ρ vs ds → SR K H ρ S → k ds S = some items → J.yld i H x H' → i < items.length → Step ρ ρ H H' ∧ SR K H' ρ S ∧ ∃ d, items[i]? = some d ∧ RV K H' ρ x d
  stop : ∀ i H ρ S, RVs K H ρ vs ds → SR K H ρ S → k ds S = some items → items.length ≤ i → J.stop i H
def LI (K : PySem.W.Frag) (wi : TI) (k : Ik) (f : FA) : Prop := ∀ σ H R ρ δ S ds items S', SR K H ρ S → RS K H ρ σ δ → f δ S = some (ds, S') → k ds S' = some items →
  (∀ J H' ρ' vs, Step ρ ρ' H H' → SR K H' ρ' S' → RVs K H' ρ' vs ds → Walk K J k ds items vs → R J H') → wi σ H R
def sqK : Ik := fun ds S => match ds with
  | [d] => sqOf S d
  | _ => none
def oneA (f : FE) : FA := consA f nilA
theorem oneA_some {f : FE} {δ : Dl} {S S' : Sg} {ds : List D} (h : oneA f δ S = some (ds, S')) : ∃ d, ds = [d] ∧ f δ S = some (d, S') := by
  obtain ⟨⟨x, S1⟩, e1, e⟩ := bnd h
  obtain ⟨⟨y, S2⟩, e2, e3⟩ := bnd e
  cases e2
  cases e3
  exact ⟨x, rfl, e1⟩
theorem sqOf_cases {S : Sg} {d : D} {items : List D} (h : sqOf S d = some items) : (d = .tup items) ∨ (∀ S2 js, sqOf S2 d = some js → lsOf S2 d = some js) := by
  cases d with
  | tup ds => left; cases h; rfl
  | lst ds => right; intro S2 js h; exact h
  | rol ds => right; intro S2 js h; exact h
  | loc n =>
    right; intro S2 js h
    unfold sqOf at h
    cases e : lsOf S2 (.loc n) with
    | some es => rw [e] at h; exact h
    | none => rw [e] at h; cases h
  | _ => cases h
theorem li_sq {f : FE} : LI K (iSq K (tD K f)) sqK (oneA f) := by
  intro σ H R ρ δ S ds items S' hS hσ e ek q
  obtain ⟨d, rfl, e1⟩ := oneA_some e
  refine ⟨ρ, δ, S, d, S', hS, hσ, e1, fun v H1 ρ1 s1 hS1 rv => ?_⟩
  have ek' : sqOf S' d = some items := ek
  rcases sqOf_cases ek' with rfl | hl
  · obtain ⟨a, vs, rfl, hq, rs⟩ := tpOf_sq rv rfl
    refine ⟨a, rfl, .inr ⟨⟨vs, hq⟩, q _ H1 ρ1 [.ref a] s1 hS1 (.cons rv .nil) ⟨?_, ?_, ?_⟩⟩⟩
    · intro i H2 ρ2 S2 rvs hS2 k2 hi
      cases rvs with | cons rv2 rn2 => ?_
      obtain ⟨a', vs', e', hq', rs'⟩ := tpOf_sq rv2 rfl
      cases e'
      obtain ⟨v, hv, _⟩ := rs'.get (List.getElem?_eq_getElem hi)
      exact ⟨vs', v, hq', hv⟩
    · intro i H2 ρ2 S2 x H3 rvs hS2 k2 y hi
      cases rvs with | cons rv2 rn2 => ?_
      obtain ⟨rfl, y⟩ := y
      obtain ⟨a', vs', e', hq', rs'⟩ := tpOf_sq rv2 rfl
      cases e'
      obtain ⟨d, hd, rd⟩ := rs'.getV (y vs' hq')
      exact ⟨Step.refl _ _, hS2, d, hd, rd⟩
    · intro i H2 ρ2 S2 rvs hS2 k2 hi
      cases rvs with | cons rv2 rn2 => ?_
      obtain ⟨a', vs', e', hq', rs'⟩ := tpOf_sq rv2 rfl
      cases e'
      exact ⟨vs', hq', by rw [rs'.len]; exact hi⟩
  · obtain ⟨a, vs, rfl, hq, rs⟩ := lsOf_sq hS1 rv (hl _ _ ek')
    refine ⟨a, rfl, .inl ⟨⟨vs, hq⟩, q _ H1 ρ1 [.ref a] s1 hS1 (.cons rv .nil) ⟨?_, ?_, ?_⟩⟩⟩
    · intro i H2 ρ2 S2 rvs hS2 k2 hi
      cases rvs with | cons rv2 rn2 => ?_
      obtain ⟨a', vs', e', hq', rs'⟩ := lsOf_sq hS2 rv2 (hl _ _ k2)
      cases e'
      obtain ⟨v, hv, _⟩ := rs'.get (List.getElem?_eq_getElem hi)
      exact ⟨vs', v, hq', hv⟩
    · intro i H2 ρ2 S2 x H3 rvs hS2 k2 y hi
      cases rvs with | cons rv2 rn2 => ?_
      obtain ⟨rfl, y⟩ := y
      obtain ⟨a', vs', e', hq', rs'⟩ := lsOf_sq hS2 rv2 (hl _ _ k2)
      cases e'
      obtain ⟨d, hd, rd⟩ := rs'.getV (y vs' hq')
      exact ⟨Step.refl _ _, hS2, d, hd, rd⟩
    · intro i H2 ρ2 S2 rvs hS2 k2 hi
      cases rvs with | cons rv2 rn2 => ?_
      obtain ⟨a', vs', e', hq', rs'⟩ := lsOf_sq hS2 rv2 (hl _ _ k2)
      cases e'
      exact ⟨vs', hq', by rw [rs'.len]; exact hi⟩
/-- enumerate of a list -/
def enumL (ds : List D) : List D := List.zipWith (fun (i : Nat) d => .tup [.int (i : Int), d]) (List.range ds.length) ds
theorem enumL_get {ds : List D} {i : Nat} {d : D} (h : ds[i]? = some d) : (enumL ds)[i]? = some (.tup [.int (i : Int), d]) := by
  unfold enumL
  have hi := (List.getElem?_eq_some_iff.mp h).1
  rw [List.getElem?_zipWith, h, List.getElem?_range hi]
theorem enumL_len (ds : List D) : (enumL ds).length = ds.length := by
  unfold enumL
  rw [List.length_zipWith, List.length_range, Nat.min_self]
def enK : Ik := fun ds S => match ds with
  | [d] => (lsOf S d).bind fun xs => some (enumL xs)
  | _ => none
theorem enumL_inj {xs ys : List D} (h : enumL xs = enumL ys) : xs = ys := by
  have hl : xs.length = ys.length := by rw [← enumL_len, h, enumL_len]
  refine List.ext_getElem? fun i => ?_
  by_cases hi : i < xs.length
  · have h1 := enumL_get (List.getElem?_eq_getElem hi)
    have h2 := enumL_get (List.getElem?_eq_getElem (show i < ys.length by omega))
    rw [h, h2] at h1
    have h3 := Option.some.inj h1
    simp only [D.tup.injEq, List.cons.injEq, and_true, true_and] at h3
    rw [List.getElem?_eq_getElem hi, List.getElem?_eq_getElem (show i < ys.length by omega), h3]
  · rw [List.getElem?_eq_none (by omega), List.getElem?_eq_none (by omega)]
theorem li_en {f : FA} : LI K (iEnum K (tDA K f)) enK f := by
  intro σ H R ρ δ S ds items S' hS hσ e ek q
  refine ⟨ρ, δ, S, ds, S', hS, hσ, e, fun vs H1 ρ1 s1 hS1 rvs => ?_⟩
  unfold enK at ek
  split at ek
  · rename_i d
    obtain ⟨xs, e2, ek⟩ := bnd ek
    cases ek
    cases rvs with | cons rv rn => cases rn with | nil =>
      obtain ⟨a, vs, rfl, hq, rs⟩ := lsOf_sq hS1 rv e2
      have again : ∀ S2, enK [d] S2 = some (enumL xs) → lsOf S2 d = some xs := fun S2 h => by
        obtain ⟨ys, e3, e4⟩ := bnd (o := lsOf S2 d) h
        rw [e3, enumL_inj (Option.some.inj e4)]
      refine ⟨a, vs, rfl, hq, q _ H1 ρ1 [.ref a] s1 hS1 (.cons rv .nil) ⟨?_, ?_, ?_⟩⟩
      · intro i H2 ρ2 S2 rvs hS2 k2 hi
        cases rvs with | cons rv2 rn2 => ?_
        obtain ⟨a', vs', e', hq', rs'⟩ := lsOf_sq hS2 rv2 (again _ k2)
        cases e'
        rw [enumL_len] at hi
        obtain ⟨v, hv, _⟩ := rs'.get (List.getElem?_eq_getElem hi)
        exact ⟨vs', v, hq', hv⟩
      · intro i H2 ρ2 S2 x H3 rvs hS2 k2 y hi
        cases rvs with | cons rv2 rn2 => ?_
        obtain ⟨T, z, rfl, hT, rfl, y⟩ := y
        obtain ⟨a', vs', e', hq', rs'⟩ := lsOf_sq hS2 rv2 (again _ k2)
        cases e'
        obtain ⟨d2, hd, rd⟩ := rs'.getV (y vs' hq')
        exact ⟨Step.new hS2 hT, hS2.new hT, _, enumL_get hd, rv_tup hS2 hT (.cons .int (.cons rd .nil))⟩
      · intro i H2 ρ2 S2 rvs hS2 k2 hi
        cases rvs with | cons rv2 rn2 => ?_
        obtain ⟨a', vs', e', hq', rs'⟩ := lsOf_sq hS2 rv2 (again _ k2)
        cases e'
        rw [enumL_len] at hi
        exact ⟨vs', hq', by rw [rs'.len]; exact hi⟩
  · cases ek
/-- zip of two lists, or of two tuples -/
def zipL (xs ys : List D) : List D := xs.zipWith (fun x y => .tup [x, y]) ys
def zpK : Ik := fun ds S => match ds with
  | [d, e] => ((lsOf S d).bind fun xs => (lsOf S e).bind fun ys => some (zipL xs ys)).or ((tpOf d).bind fun xs => (tpOf e).bind fun ys => some (zipL xs ys))
  | _ => none
/-- numbers from lo on -/
def rngL (lo : Int) (n : Nat) : List D := (List.range n).map fun (i : Nat) => .int (lo + (i : Int))
theorem rngL_get {lo : Int} {n i : Nat} (h : i < n) : (rngL lo n)[i]? = some (.int (lo + (i : Int))) := by
  unfold rngL
  rw [List.getElem?_map, List.getElem?_range h]
  rfl
theorem rngL_len (lo : Int) (n : Nat) : (rngL lo n).length = n := by
  unfold rngL
  rw [List.length_map, List.length_range]
def r1K : Ik := fun ds _ => match ds with
  | [.int j] => if R62 j then some (rngL 0 j.toNat) else none
  | _ => none
def r2K : Ik := fun ds _ => match ds with
  | [.int i, .int j] => if R62 i ∧ R62 j then some (rngL i (j - i).toNat) else none
  | _ => none
theorem walk_rng {k : Ik} {ds : List D} {lo : Int} {n : Nat} {vs : List V} : Walk K (Itr lo n) k ds (rngL lo n) vs := by
  refine ⟨fun i H ρ S _ _ _ hi => ?_, fun i H ρ S x H' _ hS _ y hi => ?_, fun i H ρ S _ _ _ hi => ?_⟩
  · rw [rngL_len] at hi; exact hi
  · obtain ⟨rfl, rfl⟩ := y
    rw [rngL_len] at hi
    exact ⟨Step.refl _ _, hS, _, rngL_get hi, .int⟩
  · rw [rngL_len] at hi; exact hi
theorem li_r1 {f : FA} : LI K (iRng1 (tDA K f)) r1K f := by
  intro σ H R ρ δ S ds items S' hS hσ e ek q
  refine ⟨ρ, δ, S, ds, S', hS, hσ, e, fun vs H1 ρ1 s1 hS1 rvs => ?_⟩
  unfold r1K at ek
  split at ek
  · split at ek
    · rename_i hb
      cases ek
      cases rvs with | cons rv rn => cases rn with | nil => cases rv with | int =>
        exact ⟨_, rfl, ((r62_iff _).mp hb).1, ((r62_iff _).mp hb).2, q _ H1 ρ1 [.int _] s1 hS1 (.cons .int .nil) walk_rng⟩
    · cases ek
  · cases ek
theorem li_r2 {f : FA} : LI K (iRng2 (tDA K f)) r2K f := by
  intro σ H R ρ δ S ds items S' hS hσ e ek q
  refine ⟨ρ, δ, S, ds, S', hS, hσ, e, fun vs H1 ρ1 s1 hS1 rvs => ?_⟩
  unfold r2K at ek
  split at ek
  · split at ek
    · rename_i hb
      cases ek
      cases rvs with | cons rv rn => cases rn with | cons rw' rn => cases rn with | nil => cases rv with | int => cases rw' with | int =>
        exact ⟨_, _, rfl, ⟨((r62_iff _).mp hb.1).1, ((r62_iff _).mp hb.1).2, ((r62_iff _).mp hb.2).1, ((r62_iff _).mp hb.2).2⟩, q _ H1 ρ1 [.int _, .int _] s1 hS1 (.cons .int (.cons .int .nil)) walk_rng⟩
    · cases ek
  · cases ek
/-! ### for -/
open Classical in
def forGo (k : Ik) (ds items : List D) (g : FG) (body : FS) : List D → Dl → Sg → Option (Fl × Dl × Sg)
  | [], δ, S => if k ds S = some items then some (.nx, δ, S) else none
  | d :: r, δ, S => if k ds S = some items then (g d δ S).bind fun p => (body p.1 p.2).bind fun w => match w.1 with
      | .nx => forGo k ds items g body r w.2.1 w.2.2
      | .ct => forGo k ds items g body r w.2.1 w.2.2
      | .bk => some (.nx, w.2.1, w.2.2)
      | .rt v => some (.rt v, w.2.1, w.2.2)
    else none
def forS (k : Ik) (f : FA) (g : FG) (body : FS) : FS := fun δ S => (f δ S).bind fun p => (k p.1 p.2).bind fun items => forGo k p.1 items g body items δ p.2
theorem ls_for {wi : TI} {k : Ik} {f : FA} {g : TG} {o : FG} {body : FS} (hi : LI K wi k f) (hg : LG K g o) : ∀ D σ H, tDS K (forS k f o body) D σ H → tFor wi g (tDS K body) D σ H := by
  rintro Dn σ H ⟨ρ, δ, S, r, δ', S', hS, hσ, e, q⟩
  obtain ⟨⟨ds, S1⟩, e1, e⟩ := bnd e
  obtain ⟨items, e2, e⟩ := bnd e
  dsimp only at e2 e
  refine hi _ _ _ _ _ _ _ _ _ hS hσ e1 e2 fun J H1 ρ1 vs0 s1 hS1 rvs0 wk => ?_
  refine ⟨fun i m σ H => ∃ ρ2 δ2 S2, m = items.length - i ∧ i ≤ items.length ∧ Step ρ1 ρ2 H1 H ∧ SR K H ρ2 S2 ∧ RS K H ρ2 σ δ2 ∧ forGo k ds items o body (items.drop i) δ2 S2 = some (r, δ', S'),
    ⟨items.length, ρ1, δ, S1, rfl, Nat.zero_le _, Step.refl _ _, hS1, hσ.mono s1, e⟩, ?_⟩
  rintro i m σ2 H2 ⟨ρ2, δ2, S2, rfl, hil, s2, hS2, hσ2, e3⟩
  by_cases hlt : i < items.length
  · rw [List.drop_eq_getElem_cons hlt] at e3
    unfold forGo at e3
    split at e3
    · rename_i hk
      obtain ⟨⟨δ3, S3⟩, e4, e5⟩ := bnd e3
      obtain ⟨⟨w, δ4, S4⟩, e6, e7⟩ := bnd e5
      dsimp only at e6 e7
      refine .inr ⟨wk.go i H2 ρ2 S2 (rvs0.mono s2) hS2 hk hlt, fun σ' H' => ∃ ρ3 δ3 S3, Step ρ1 ρ3 H1 H' ∧ SR K H' ρ3 S3 ∧ RS K H' ρ3 σ' δ3 ∧ forGo k ds items o body (items.drop (i + 1)) δ3 S3 = some (r, δ', S'), ?_, fun x H3 y => ?_⟩
      · rintro σ' H' ⟨ρ3, δ3, S3, a1, a2, a3, a4⟩
        exact ⟨items.length - (i + 1), by omega, ρ3, δ3, S3, rfl, hlt, a1, a2, a3, a4⟩
      · obtain ⟨st, hS3, d, hd, rd⟩ := wk.yld i H2 ρ2 S2 x H3 (rvs0.mono s2) hS2 hk y hlt
        have ed : items[i] = d := by rw [List.getElem?_eq_getElem hlt] at hd; exact Option.some.inj hd
        rw [ed] at e4
        refine hg _ _ _ _ _ _ _ _ _ _ hS3 (hσ2.mono st) rd e4 fun σ4 H4 ρ4 s4 hS4 hσ4 => ?_
        refine ⟨ρ4, δ3, S3, w, δ4, S4, hS4, hσ4, e6, ?_⟩
        have s14 := (s2.trans st).trans s4
        cases w with
        | nx => exact fun σ5 H5 ρ5 s5 hS5 hσ5 => ⟨ρ5, δ4, S4, s14.trans s5, hS5, hσ5, e7⟩
        | ct => exact fun σ5 H5 ρ5 s5 hS5 hσ5 => ⟨ρ5, δ4, S4, s14.trans s5, hS5, hσ5, e7⟩
        | bk =>
          cases e7
          exact fun σ5 H5 ρ5 s5 hS5 hσ5 => q σ5 H5 ρ5 ((s1.trans s14).trans s5) hS5 hσ5
        | rt v =>
          cases e7
          exact fun v H5 ρ5 s5 hS5 rv => q v H5 ρ5 ((s1.trans s14).trans s5) hS5 rv
    · cases e3
  · have ei : i = items.length := by omega
    subst ei
    rw [List.drop_length] at e3
    unfold forGo at e3
    split at e3
    · cases e3
      rename_i hk
      exact .inl ⟨wk.stop _ H2 ρ2 _ (rvs0.mono s2) hS2 hk (Nat.le_refl _), q σ2 H2 ρ2 (s1.trans s2) hS2 hσ2⟩
    · cases e3
/-! ### while -/
def whileGo (c : FT) (b : FS) : Nat → Dl → Sg → Option (Fl × Dl × Sg)
  | 0, _, _ => none
  | n + 1, δ, S => (c δ S).bind fun p => if p.1 = true then (b δ p.2).bind fun w => match w.1 with
      | .nx => whileGo c b n w.2.1 w.2.2
      | .ct => whileGo c b n w.2.1 w.2.2
      | .bk => some (.nx, w.2.1, w.2.2)
      | .rt v => some (.rt v, w.2.1, w.2.2)
    else some (.nx, δ, p.2)
def FUEL : Nat := 10 ^ 60
def whileS (c : FT) (b : FS) : FS := fun δ S => whileGo c b FUEL δ S
theorem ls_while {c : FT} {b : FS} : ∀ D σ H, tDS K (whileS c b) D σ H → tWhile (tDT K c) (tDS K b) D σ H := by
  rintro Dn σ H ⟨ρ, δ, S, r, δ', S', hS, hσ, e, q⟩
  refine ⟨fun m σ H1 => ∃ ρ1 δ1 S1, Step ρ ρ1 H H1 ∧ SR K H1 ρ1 S1 ∧ RS K H1 ρ1 σ δ1 ∧ whileGo c b m δ1 S1 = some (r, δ', S'), ⟨FUEL, ρ, δ, S, Step.refl _ _, hS, hσ, e⟩, ?_⟩
  rintro m σ1 H1 ⟨ρ1, δ1, S1, s1, hS1, hσ1, e1⟩
  cases m with
  | zero => cases e1
  | succ n =>
    unfold whileGo at e1
    obtain ⟨⟨x, S2⟩, e2, e3⟩ := bnd e1
    refine ⟨ρ1, δ1, S1, x, S2, hS1, hσ1, e2, fun H2 ρ2 s2 hS2 => ?_⟩
    cases x with
    | false =>
      cases e3
      exact q _ H2 ρ2 (s1.trans s2) hS2 (hσ1.mono s2)
    | true =>
      obtain ⟨⟨w, δ3, S3⟩, e4, e5⟩ := bnd (o := b δ1 S2) e3
      refine ⟨fun σ' H' => ∃ ρ3 δ3 S3, Step ρ ρ3 H H' ∧ SR K H' ρ3 S3 ∧ RS K H' ρ3 σ' δ3 ∧ whileGo c b n δ3 S3 = some (r, δ', S'), fun σ' H' z => ⟨n, Nat.lt_succ_self n, z⟩, ?_⟩
      refine ⟨ρ2, δ1, S2, w, δ3, S3, hS2, hσ1.mono s2, e4, ?_⟩
      dsimp only at e5
      cases w with
      | nx => exact fun σ5 H5 ρ5 s5 hS5 hσ5 => ⟨ρ5, δ3, S3, (s1.trans s2).trans s5, hS5, hσ5, e5⟩
      | ct => exact fun σ5 H5 ρ5 s5 hS5 hσ5 => ⟨ρ5, δ3, S3, (s1.trans s2).trans s5, hS5, hσ5, e5⟩
      | bk =>
        cases e5
        exact fun σ5 H5 ρ5 s5 hS5 hσ5 => q σ5 H5 ρ5 ((s1.trans s2).trans s5) hS5 hσ5
      | rt v =>
        cases e5
        exact fun v H5 ρ5 s5 hS5 rv => q v H5 ρ5 ((s1.trans s2).trans s5) hS5 rv
end
end DL
end
noncomputable section
namespace DL
open PySem L2
section
variable {K : PySem.W.Frag}
/-! ### zip -/
theorem zipL_get {xs ys : List D} {i : Nat} {x y : D} (h : xs[i]? = some x) (h2 : ys[i]? = some y) : (zipL xs ys)[i]? = some (.tup [x, y]) := by
  unfold zipL
  rw [List.getElem?_zipWith, h, h2]
theorem zipL_len (xs ys : List D) : (zipL xs ys).length = min xs.length ys.length := by
  unfold zipL
  rw [List.length_zipWith]
/-- both lists as they stand; the items are fixed by what is zipped, so the pairs ahead of the shorter one's end -/
def zpK2 : Ik := fun ds S => match ds with
  | [d, e] => ((lsOf S d).bind fun xs => (lsOf S e).bind fun ys => if xs.length = ys.length then some (zipL xs ys) else none).or ((tpOf d).bind fun xs => (tpOf e).bind fun ys => if xs.length = ys.length then some (zipL xs ys) else none)
  | _ => none
theorem zipL_inj {xs ys as bs : List D} (h1 : xs.length = ys.length) (h2 : as.length = bs.length) (h : zipL xs ys = zipL as bs) : xs = as ∧ ys = bs := by
  induction xs generalizing ys as bs with
  | nil =>
    cases ys with
    | cons _ _ => simp at h1
    | nil =>
      cases as with
      | nil => cases bs with
        | nil => exact ⟨rfl, rfl⟩
        | cons _ _ => simp at h2
      | cons a as => cases bs with
        | nil => simp at h2
        | cons b bs => simp [zipL] at h
  | cons x xs ih =>
    cases ys with
    | nil => simp at h1
    | cons y ys =>
      cases as with
      | nil => simp [zipL] at h
      | cons a as => cases bs with
        | nil => simp at h2
        | cons b bs =>
          simp only [zipL, List.zipWith_cons_cons, List.cons.injEq, D.tup.injEq, and_true] at h
          obtain ⟨⟨rfl, rfl⟩, h⟩ := h
          obtain ⟨e1, e2⟩ := ih (by simpa using h1) (by simpa using h2) h
          rw [e1, e2]
          exact ⟨rfl, rfl⟩
theorem zpK2_cases {d e : D} {S : Sg} {items : List D} (h : zpK2 [d, e] S = some items) :
    (∃ xs ys, d = .tup xs ∧ e = .tup ys ∧ xs.length = ys.length ∧ items = zipL xs ys) ∨ (∃ xs ys, lsOf S d = some xs ∧ lsOf S e = some ys ∧ xs.length = ys.length ∧ items = zipL xs ys) := by
  unfold zpK2 at h
  dsimp only at h
  cases e1 : ((lsOf S d).bind fun xs => (lsOf S e).bind fun ys => if xs.length = ys.length then some (zipL xs ys) else none) with
  | some js =>
    rw [e1] at h
    cases h
    obtain ⟨xs, a1, e1⟩ := bnd e1
    obtain ⟨ys, a2, e1⟩ := bnd e1
    split at e1
    · cases e1
      exact .inr ⟨xs, ys, a1, a2, ‹_›, rfl⟩
    · cases e1
  | none =>
    rw [e1] at h
    obtain ⟨xs, a1, e1⟩ := bnd (o := tpOf d) h
    obtain ⟨ys, a2, e1⟩ := bnd e1
    split at e1
    · cases e1
      cases d <;> cases a1
      cases e <;> cases a2
      exact .inl ⟨xs, ys, rfl, rfl, ‹_›, rfl⟩
    · cases e1
theorem li_zp {f : FA} : LI K (RZ.iZipA K (tDA K f)) zpK2 f := by
  intro σ H R ρ δ S ds items S' hS hσ e ek q
  refine ⟨ρ, δ, S, ds, S', hS, hσ, e, fun vs H1 ρ1 s1 hS1 rvs => ?_⟩
  cases rvs with
  | nil => cases ek
  | cons rv rn => cases rn with
    | nil => cases ek
    | cons rw' rn => cases rn with
      | cons _ _ => cases ek
      | nil =>
        rcases zpK2_cases ek with ⟨xs, ys, rfl, rfl, hl, rfl⟩ | ⟨xs, ys, l1, l2, hl, rfl⟩
        · obtain ⟨a, vs, rfl, hq, rs⟩ := tpOf_sq rv rfl
          obtain ⟨b, ws, rfl, hq2, rs2⟩ := tpOf_sq rw' rfl
          refine ⟨a, b, vs, ws, rfl, .inr ⟨hq, hq2, q _ H1 ρ1 [.ref a, .ref b] s1 hS1 (.cons rv (.cons rw' .nil)) ⟨?_, ?_, ?_⟩⟩⟩
          · intro i H2 ρ2 S2 rvs hS2 k2 hi
            cases rvs with | cons rv2 rn2 => ?_
            cases rn2 with | cons rw2 rn2 => ?_
            obtain ⟨a', vs', e', hq', rs'⟩ := tpOf_sq rv2 rfl
            cases e'
            obtain ⟨b', ws', e'', hq'', rs''⟩ := tpOf_sq rw2 rfl
            cases e''
            rw [zipL_len, hl, Nat.min_self] at hi
            obtain ⟨v, hv, _⟩ := rs'.get (List.getElem?_eq_getElem (show i < xs.length by omega))
            obtain ⟨w, hw, _⟩ := rs''.get (List.getElem?_eq_getElem hi)
            exact ⟨vs', ws', v, w, hq', hq'', hv, hw⟩
          · intro i H2 ρ2 S2 x H3 rvs hS2 k2 y hi
            cases rvs with | cons rv2 rn2 => ?_
            cases rn2 with | cons rw2 rn2 => ?_
            obtain ⟨T, x1, y1, rfl, hT, rfl, z1, z2⟩ := y
            obtain ⟨a', vs', e', hq', rs'⟩ := tpOf_sq rv2 rfl
            cases e'
            obtain ⟨b', ws', e'', hq'', rs''⟩ := tpOf_sq rw2 rfl
            cases e''
            obtain ⟨d2, hd, rd⟩ := rs'.getV (z1 vs' hq')
            obtain ⟨d3, hd3, rd3⟩ := rs''.getV (z2 ws' hq'')
            exact ⟨Step.new hS2 hT, hS2.new hT, _, zipL_get hd hd3, rv_tup hS2 hT (.cons rd (.cons rd3 .nil))⟩
          · intro i H2 ρ2 S2 rvs hS2 k2 hi
            cases rvs with | cons rv2 rn2 => ?_
            cases rn2 with | cons rw2 rn2 => ?_
            obtain ⟨a', vs', e', hq', rs'⟩ := tpOf_sq rv2 rfl
            cases e'
            obtain ⟨b', ws', e'', hq'', rs''⟩ := tpOf_sq rw2 rfl
            cases e''
            rw [zipL_len, hl, Nat.min_self] at hi
            exact ⟨vs', ws', hq', hq'', .inr (by rw [rs''.len]; exact hi)⟩
        · obtain ⟨a, vs, rfl, hq, rs⟩ := lsOf_sq hS1 rv l1
          obtain ⟨b, ws, rfl, hq2, rs2⟩ := lsOf_sq hS1 rw' l2
          rename_i dA dB
          have again : ∀ S2, zpK2 [dA, dB] S2 = some (zipL xs ys) → lsOf S2 dA = some xs ∧ lsOf S2 dB = some ys := fun S2 h => by
            rcases zpK2_cases h with ⟨as, bs, e3, e4, hl', e'⟩ | ⟨as, bs, m1, m2, hl', e'⟩
            · subst e3
              cases l1
            · obtain ⟨rfl, rfl⟩ := zipL_inj hl hl' e'
              exact ⟨m1, m2⟩
          refine ⟨a, b, vs, ws, rfl, .inl ⟨hq, hq2, q _ H1 ρ1 [.ref a, .ref b] s1 hS1 (.cons rv (.cons rw' .nil)) ⟨?_, ?_, ?_⟩⟩⟩
          · intro i H2 ρ2 S2 rvs hS2 k2 hi
            cases rvs with | cons rv2 rn2 => ?_
            cases rn2 with | cons rw2 rn2 => ?_
            obtain ⟨a', vs', e', hq', rs'⟩ := lsOf_sq hS2 rv2 (again _ k2).1
            cases e'
            obtain ⟨b', ws', e'', hq'', rs''⟩ := lsOf_sq hS2 rw2 (again _ k2).2
            cases e''
            rw [zipL_len, hl, Nat.min_self] at hi
            obtain ⟨v, hv, _⟩ := rs'.get (List.getElem?_eq_getElem (show i < xs.length by omega))
            obtain ⟨w, hw, _⟩ := rs''.get (List.getElem?_eq_getElem hi)
            exact ⟨vs', ws', v, w, hq', hq'', hv, hw⟩
          · intro i H2 ρ2 S2 x H3 rvs hS2 k2 y hi
            cases rvs with | cons rv2 rn2 => ?_
            cases rn2 with | cons rw2 rn2 => ?_
            obtain ⟨T, x1, y1, rfl, hT, rfl, z1, z2⟩ := y
            obtain ⟨a', vs', e', hq', rs'⟩ := lsOf_sq hS2 rv2 (again _ k2).1
            cases e'
            obtain ⟨b', ws', e'', hq'', rs''⟩ := lsOf_sq hS2 rw2 (again _ k2).2
            cases e''
            obtain ⟨d2, hd, rd⟩ := rs'.getV (z1 vs' hq')
            obtain ⟨d3, hd3, rd3⟩ := rs''.getV (z2 ws' hq'')
            exact ⟨Step.new hS2 hT, hS2.new hT, _, zipL_get hd hd3, rv_tup hS2 hT (.cons rd (.cons rd3 .nil))⟩
          · intro i H2 ρ2 S2 rvs hS2 k2 hi
            cases rvs with | cons rv2 rn2 => ?_
            cases rn2 with | cons rw2 rn2 => ?_
            obtain ⟨a', vs', e', hq', rs'⟩ := lsOf_sq hS2 rv2 (again _ k2).1
            cases e'
            obtain ⟨b', ws', e'', hq'', rs''⟩ := lsOf_sq hS2 rw2 (again _ k2).2
            cases e''
            rw [zipL_len, hl, Nat.min_self] at hi
            exact ⟨vs', ws', hq', hq'', .inr (by rw [rs''.len]; exact hi)⟩
/-! ### signs of a text -/
def sgnL (z : Str) : List D := z.cps.toList.map fun c => .str ⟨#[c]⟩
def stK : Ik := fun ds _ => match ds with
  | [.str z] => some (sgnL z)
  | _ => none
theorem li_st {f : FE} : LI K (iStr (tD K f)) stK (oneA f) := by
  intro σ H R ρ δ S ds items S' hS hσ e ek q
  obtain ⟨d, rfl, e1⟩ := oneA_some e
  refine ⟨ρ, δ, S, d, S', hS, hσ, e1, fun v H1 ρ1 s1 hS1 rv => ?_⟩
  unfold stK at ek
  split at ek
  · rename_i z he
    have he' : d = .str z := by simpa using he
    subst he'
    cases ek
    cases rv
    have hl : (sgnL z).length = z.cps.size := by unfold sgnL; rw [List.length_map, Array.length_toList]
    refine ⟨z, rfl, q _ H1 ρ1 [.str z] s1 hS1 (.cons .str .nil) ⟨?_, ?_, ?_⟩⟩
    · intro i H2 ρ2 S2 s2 hS2 k2 hi
      rw [hl] at hi; exact hi
    · intro i H2 ρ2 S2 x H3 s2 hS2 k2 y hi
      obtain ⟨rfl, c, hc, rfl⟩ := y
      refine ⟨Step.refl _ _, hS2, .str ⟨#[c]⟩, ?_, .str⟩
      unfold sgnL
      rw [List.getElem?_map, Array.getElem?_toList, hc]
      rfl
    · intro i H2 ρ2 S2 s2 hS2 k2 hi
      rw [hl] at hi; exact hi
  · cases ek
/-! ### a list, item by item -/
def GW (g : TG) (vs : List Nat) : Prop := ∀ v σ H Q, g v σ H (fun σ' H' => wipe σ' vs = wipe σ vs → Q σ' H') → g v σ H Q
def GWs (g : TGs) (vs : List Nat) : Prop := ∀ v σ H Q, g v σ H (fun σ' H' => wipe σ' vs = wipe σ vs → Q σ' H') → g v σ H Q
theorem wipe_set {σ : St} {i : Nat} {x : Option V} : ∀ {vs : List Nat}, i ∈ vs → wipe (σ.set i x) vs = wipe σ vs
  | [], h => by simp at h
  | v :: vs, h => by
    unfold wipe
    by_cases hv : i ∈ vs
    · rw [wipe_set hv]
    · have e : i = v := by simpa [hv] using h
      subst e
      clear h
      have z : ∀ (ws : List Nat), i ∉ ws → wipe (σ.set i x) ws = (wipe σ ws).set i x := fun ws => by
        induction ws with
        | nil => intro _; rfl
        | cons w ws ih =>
          intro hw
          unfold wipe
          rw [ih (by simp at hw; exact hw.2), List.set_comm _ _ (by simp at hw; exact hw.1)]
      rw [z vs hv, List.set_set]
theorem wipe_wipe (σ : St) (vs : List Nat) : wipe (wipe σ vs) vs = wipe σ vs := by
  have z : ∀ ws : List Nat, (∀ w ∈ ws, w ∈ vs) → wipe (wipe σ ws) vs = wipe σ vs := fun ws => by
    induction ws with
    | nil => intro _; rfl
    | cons w ws ih =>
      intro h
      show wipe ((wipe σ ws).set w none) vs = _
      rw [wipe_set (h w (by simp)), ih fun x hx => h x (by simp [hx])]
  exact z vs fun _ h => h
theorem gw_nm {i : Nat} {vs : List Nat} (h : i ∈ vs) : GW (gName i) vs := fun v σ H Q q => q (wipe_set h)
theorem gw_nil {vs : List Nat} : GWs gNil vs := fun v σ H Q q => ⟨q.1, q.2 rfl⟩
theorem gw_cons {g : TG} {gs : TGs} {vs : List Nat} (hm : ∀ v σ H (Q Q' : St → Hp → Prop), (∀ a b, Q a b → Q' a b) → g v σ H Q → g v σ H Q') (h : GW g vs) (hs : GWs gs vs) (hms : ∀ v σ H (Q Q' : St → Hp → Prop), (∀ a b, Q a b → Q' a b) → gs v σ H Q → gs v σ H Q') : GWs (gCons g gs) vs := by
  rintro xs σ H Q ⟨v, r, rfl, q⟩
  refine ⟨v, r, rfl, h v σ H _ (hm v σ H _ _ (fun σ1 H1 q1 w1 => ?_) q)⟩
  refine hs r σ1 H1 Q (hms r σ1 H1 _ _ (fun σ2 H2 q2 w2 => q2 (w2.trans w1)) q1)
theorem gm_nm {i : Nat} : ∀ v σ H (Q Q' : St → Hp → Prop), (∀ a b, Q a b → Q' a b) → gName i v σ H Q → gName i v σ H Q' := fun _ _ _ _ _ m q => m _ _ q
theorem gm_nil : ∀ v σ H (Q Q' : St → Hp → Prop), (∀ a b, Q a b → Q' a b) → gNil v σ H Q → gNil v σ H Q' := fun _ _ _ _ _ m q => ⟨q.1, m _ _ q.2⟩
theorem gm_cons {g : TG} {gs : TGs} (hm : ∀ v σ H (Q Q' : St → Hp → Prop), (∀ a b, Q a b → Q' a b) → g v σ H Q → g v σ H Q') (hms : ∀ v σ H (Q Q' : St → Hp → Prop), (∀ a b, Q a b → Q' a b) → gs v σ H Q → gs v σ H Q') :
    ∀ v σ H (Q Q' : St → Hp → Prop), (∀ a b, Q a b → Q' a b) → gCons g gs v σ H Q → gCons g gs v σ H Q' := fun _ σ H _ _ m ⟨v, r, e, q⟩ => ⟨v, r, e, hm v σ H _ _ (fun σ1 H1 q1 => hms r σ1 H1 _ _ m q1) q⟩
theorem gm_tup {n : Nat} {gs : TGs} (hms : ∀ v σ H (Q Q' : St → Hp → Prop), (∀ a b, Q a b → Q' a b) → gs v σ H Q → gs v σ H Q') :
    ∀ v σ H (Q Q' : St → Hp → Prop), (∀ a b, Q a b → Q' a b) → gTup K n gs v σ H Q → gTup K n gs v σ H Q' := fun _ σ H _ _ m ⟨a, xs, e, h1, h2, q⟩ => ⟨a, xs, e, h1, h2, hms xs σ H _ _ m q⟩
theorem gw_tup {n : Nat} {gs : TGs} {vs : List Nat} (h : GWs gs vs) : GW (gTup K n gs) vs := fun v σ H Q ⟨a, xs, e, h1, h2, q⟩ => ⟨a, xs, e, h1, h2, h xs σ H Q q⟩
/-- a target of a comprehension: all that is asked of it -/
structure LGW (K : PySem.W.Frag) (g : TG) (o : FG) (vs : List Nat) : Prop where
  lg : LG K g o
  gw : GW g vs
  gm : ∀ v σ H (Q Q' : St → Hp → Prop), (∀ a b, Q a b → Q' a b) → g v σ H Q → g v σ H Q'
structure LGWs (K : PySem.W.Frag) (g : TGs) (o : FGs) (vs : List Nat) : Prop where
  lg : LGs K g o
  gw : GWs g vs
  gm : ∀ v σ H (Q Q' : St → Hp → Prop), (∀ a b, Q a b → Q' a b) → g v σ H Q → g v σ H Q'
theorem lw_nm {i : Nat} {vs : List Nat} (h : i ∈ vs := by decide) : LGW K (gName i) (nmG i) vs := ⟨lg_nm, gw_nm h, gm_nm⟩
theorem lw_nil {vs : List Nat} : LGWs K gNil nilG vs := ⟨lg_nil, gw_nil, gm_nil⟩
theorem lw_cons {g : TG} {gs : TGs} {t : FG} {u : FGs} {vs : List Nat} (h : LGW K g t vs) (hs : LGWs K gs u vs) : LGWs K (gCons g gs) (consG t u) vs := ⟨lg_cons h.lg hs.lg, gw_cons h.gm h.gw hs.gw hs.gm, gm_cons h.gm hs.gm⟩
theorem lw_tup {n : Nat} {gs : TGs} {u : FGs} {vs : List Nat} (h : LGWs K gs u vs) : LGW K (gTup K n gs) (tupG n u) vs := ⟨lg_tup h.lg, gw_tup h.gw, gm_tup h.gm⟩
def yesT : FT := fun _ S => some (true, S)
theorem le_yes : ∀ σ H Q, tDT K yesT σ H Q → tYes σ H Q := by
  rintro σ H Q ⟨ρ, δ, S, b, S', hS, hσ, e, q⟩
  cases e
  exact q H ρ (Step.refl _ _) hS
open Classical in
def lcGo (k : Ik) (ds items : List D) (g : FG) (c : FT) (f : FE) (δ : Dl) : List D → List D → Sg → Option (List D × Sg)
  | [], acc, S => if k ds S = some items then some (acc, S) else none
  | d :: r, acc, S => if k ds S = some items then (g d δ S).bind fun p => (c p.1 p.2).bind fun b => if b.1 = true then (f p.1 b.2).bind fun y => lcGo k ds items g c f δ r (acc ++ [y.1]) y.2 else lcGo k ds items g c f δ r acc b.2
    else none
def lcD (k : Ik) (fa : FA) (g : FG) (c : FT) (f : FE) (vs : List Nat) : FE := fun δ S => (fa δ S).bind fun p => (k p.1 p.2).bind fun items => if Fits (items.length) then
  (lcGo k p.1 items g c f (wipeD δ vs) items [] p.2).bind fun r => some (.lst r.1, r.2) else none
theorem RVs.snoc {ρ : Ro} {H : Hp} {vs : List V} {ds : List D} {v : V} {d : D} (h : RVs K H ρ vs ds) (r : RV K H ρ v d) : RVs K H ρ (vs ++ [v]) (ds ++ [d]) := h.append (.cons r .nil)
theorem RL.banned {ρ : Ro} {H : Hp} {p : Addr} {o : HO} (m : p ∈ ρ.bn) {a : Addr} {vs : List V} (h : RL K H ρ a vs) : RL K (upd H p o) ρ a vs := by
  rcases h with ⟨h, n⟩ | h
  · have ne : a ≠ p := fun z => n.2 (by rw [z]; exact m)
    refine .inl ⟨?_, n⟩
    rcases h with h | ⟨u, h⟩
    · exact .inl (by rw [upd_ne ne]; exact h)
    · exact .inr ⟨u, by rw [upd_ne ne]; exact h⟩
  · exact .inr h
mutual
theorem RV.banned {ρ : Ro} {H : Hp} {p : Addr} {o : HO} (m : p ∈ ρ.bn) : ∀ {v : V} {d : D}, RV K H ρ v d → RV K (upd H p o) ρ v d
  | _, _, .non => .non
  | _, _, .bl => .bl
  | _, _, .int => .int
  | _, _, .str => .str
  | _, _, .ty => .ty
  | _, _, .tup h n r => .tup (by rw [upd_ne (fun z => n.2 (by rw [z]; exact m))]; exact h) n (RVs.banned m r)
  | _, _, .lst h n r => .lst (by rw [upd_ne (fun z => n.2 (by rw [z]; exact m))]; exact h) n (RVs.banned m r)
  | _, _, .rol h r => .rol (h.banned m) (RVs.banned m r)
  | _, _, .ins h n r => .ins (by rw [upd_ne (fun z => n.2 (by rw [z]; exact m))]; exact h) n (RVs.banned m r)
  | _, _, .dic h n ee r => .dic (by rw [upd_ne (fun z => n.2 (by rw [z]; exact m))]; exact h) n ee (RVs.banned m r)
  | _, _, .exc h hd n nd r => .exc (by rw [upd_ne (fun z => n.2 (by rw [z]; exact m))]; exact h) (by rw [upd_ne (fun z => nd.2 (by rw [z]; exact m))]; exact hd) n nd (RVs.banned m r)
  | _, _, .loc h => .loc h
theorem RVs.banned {ρ : Ro} {H : Hp} {p : Addr} {o : HO} (m : p ∈ ρ.bn) : ∀ {vs : List V} {ds : List D}, RVs K H ρ vs ds → RVs K (upd H p o) ρ vs ds
  | _, _, .nil => .nil
  | _, _, .cons h r => .cons (RV.banned m h) (RVs.banned m r)
end
/-- a ban more, of a new thing -/
theorem RL.ban {ρ : Ro} {H : Hp} {p : Addr} {o : HO} (h0 : H p = none) {a : Addr} {vs : List V} (h : RL K H ρ a vs) : RL K (upd H p o) (ρ.ban p) a vs := by
  rcases h with ⟨h, n⟩ | h
  · refine .inl ?_
    rcases h with h | ⟨u, h⟩
    · have ne := ne_of_none h h0
      exact ⟨.inl (by rw [upd_ne ne]; exact h), n.1, by intro m; rcases List.mem_cons.mp m with z | z; exact ne z; exact n.2 z⟩
    · have ne := ne_of_none h h0
      exact ⟨.inr ⟨u, by rw [upd_ne ne]; exact h⟩, n.1, by intro m; rcases List.mem_cons.mp m with z | z; exact ne z; exact n.2 z⟩
  · exact .inr h
theorem out_ban {ρ : Ro} {H : Hp} {p a : Addr} {o : HO} (h0 : H p = none) (h : H a = some o) (n : ρ.out a) : (ρ.ban p).out a :=
  ⟨n.1, by intro m; rcases List.mem_cons.mp m with z | z; exact ne_of_none h h0 z; exact n.2 z⟩
mutual
theorem RV.ban {ρ : Ro} {H : Hp} {p : Addr} {o : HO} (h0 : H p = none) : ∀ {v : V} {d : D}, RV K H ρ v d → RV K (upd H p o) (ρ.ban p) v d
  | _, _, .non => .non
  | _, _, .bl => .bl
  | _, _, .int => .int
  | _, _, .str => .str
  | _, _, .ty => .ty
  | _, _, .tup h n r => .tup (by rw [upd_ne (ne_of_none h h0)]; exact h) (out_ban h0 h n) (RVs.ban h0 r)
  | _, _, .lst h n r => .lst (by rw [upd_ne (ne_of_none h h0)]; exact h) (out_ban h0 h n) (RVs.ban h0 r)
  | _, _, .rol h r => .rol (h.ban h0) (RVs.ban h0 r)
  | _, _, .ins h n r => .ins (by rw [upd_ne (ne_of_none h h0)]; exact h) (out_ban h0 h n) (RVs.ban h0 r)
  | _, _, .dic h n ee r => .dic (by rw [upd_ne (ne_of_none h h0)]; exact h) (out_ban h0 h n) ee (RVs.ban h0 r)
  | _, _, .exc h hd n nd r => .exc (by rw [upd_ne (ne_of_none h h0)]; exact h) (by rw [upd_ne (ne_of_none hd h0)]; exact hd) (out_ban h0 h n) (out_ban h0 hd nd) (RVs.ban h0 r)
  | _, _, .loc h => .loc h
theorem RVs.ban {ρ : Ro} {H : Hp} {p : Addr} {o : HO} (h0 : H p = none) : ∀ {vs : List V} {ds : List D}, RVs K H ρ vs ds → RVs K (upd H p o) (ρ.ban p) vs ds
  | _, _, .nil => .nil
  | _, _, .cons h r => .cons (RV.ban h0 h) (RVs.ban h0 r)
end
/-- the ban is over -/
theorem RL.unban {ρ : Ro} {H : Hp} {p : Addr} {a : Addr} {vs : List V} (h : RL K H (ρ.ban p) a vs) : RL K H ρ a vs := by
  rcases h with ⟨h, n⟩ | h
  · exact .inl ⟨h, n.1, fun m => n.2 (List.mem_cons_of_mem _ m)⟩
  · exact .inr h
mutual
theorem RV.unban {ρ : Ro} {H : Hp} {p : Addr} : ∀ {v : V} {d : D}, RV K H (ρ.ban p) v d → RV K H ρ v d
  | _, _, .non => .non
  | _, _, .bl => .bl
  | _, _, .int => .int
  | _, _, .str => .str
  | _, _, .ty => .ty
  | _, _, .tup h n r => .tup h ⟨n.1, fun m => n.2 (List.mem_cons_of_mem _ m)⟩ (RVs.unban r)
  | _, _, .lst h n r => .lst h ⟨n.1, fun m => n.2 (List.mem_cons_of_mem _ m)⟩ (RVs.unban r)
  | _, _, .rol h r => .rol h.unban (RVs.unban r)
  | _, _, .ins h n r => .ins h ⟨n.1, fun m => n.2 (List.mem_cons_of_mem _ m)⟩ (RVs.unban r)
  | _, _, .dic h n ee r => .dic h ⟨n.1, fun m => n.2 (List.mem_cons_of_mem _ m)⟩ ee (RVs.unban r)
  | _, _, .exc h hd n nd r => .exc h hd ⟨n.1, fun m => n.2 (List.mem_cons_of_mem _ m)⟩ ⟨nd.1, fun m => nd.2 (List.mem_cons_of_mem _ m)⟩ (RVs.unban r)
  | _, _, .loc h => .loc h
theorem RVs.unban {ρ : Ro} {H : Hp} {p : Addr} : ∀ {vs : List V} {ds : List D}, RVs K H (ρ.ban p) vs ds → RVs K H ρ vs ds
  | _, _, .nil => .nil
  | _, _, .cons h r => .cons (RV.unban h) (RVs.unban r)
end
theorem RS.ban {ρ : Ro} {H : Hp} {p : Addr} {o : HO} (h0 : H p = none) : ∀ {σ : St} {δ : Dl}, RS K H ρ σ δ → RS K (upd H p o) (ρ.ban p) σ δ
  | _, _, .nil => .nil
  | _, _, .no r => .no (RS.ban h0 r)
  | _, _, .yes h r => .yes (h.ban h0) (RS.ban h0 r)
theorem RS.banned {ρ : Ro} {H : Hp} {p : Addr} {o : HO} (m : p ∈ ρ.bn) : ∀ {σ : St} {δ : Dl}, RS K H ρ σ δ → RS K (upd H p o) ρ σ δ
  | _, _, .nil => .nil
  | _, _, .no r => .no (RS.banned m r)
  | _, _, .yes h r => .yes (h.banned m) (RS.banned m r)
theorem OR.map {ρ ρ' : Ro} {H H' : Hp} {a : Addr} {o : Ob} (k : H' a = H a) (f : ∀ vs ds, RVs K H ρ vs ds → RVs K H' ρ' vs ds) (h : OR K H ρ a o) : OR K H' ρ' a o := by
  cases o with
  | lst ds => obtain ⟨vs, e, r⟩ := h; exact ⟨vs, k.trans e, f _ _ r⟩
  | ins C gs => obtain ⟨dx, fs, e, n, r⟩ := h; exact ⟨dx, fs, k.trans e, n, f _ _ r⟩
  | dct gs => obtain ⟨fs, e, n, r⟩ := h; exact ⟨fs, k.trans e, n, f _ _ r⟩
theorem SR.ban {ρ : Ro} {H : Hp} {S : Sg} (s : SR K H ρ S) {p : Addr} {o : HO} (h : H p = none) : SR K (upd H p o) (ρ.ban p) S := by
  refine ⟨s.len, s.nd, fun a m => ?_, fun a m z => ?_, fun n a u e1 e2 => ?_⟩
  rotate_left
  · rcases List.mem_cons.mp z with rfl | z
    · exact s.freshP h m
    · exact s.dj a m z
  rotate_left
  · rcases List.mem_cons.mp m with rfl | z
    · rw [upd_same]; intro w; cases w
    · intro e
      exact s.bn a z ((Step.new (o := o) s h).dom a e)
  · have z := s.ob n a u e1 e2
    obtain ⟨w, e⟩ := z.some
    exact z.map (upd_ne (ne_of_none e h)) fun vs ds r => r.ban h
theorem SR.banned {ρ : Ro} {H : Hp} {S : Sg} (s : SR K H ρ S) {p : Addr} {o : HO} (m : p ∈ ρ.bn) (n : p ∉ ρ.pl) : SR K (upd H p o) ρ S := by
  refine ⟨s.len, s.nd, fun a ma e => ?_, s.dj, fun k a u e1 e2 => ?_⟩
  · by_cases z : a = p
    · subst z; rw [upd_same] at e; cases e
    · rw [upd_ne z] at e; exact s.bn a ma e
  · exact (s.ob k a u e1 e2).map (upd_ne (fun z => n (by rw [← z]; exact List.mem_of_getElem? e1))) fun vs ds r => r.banned m
theorem SR.unban {ρ : Ro} {H : Hp} {S : Sg} {p : Addr} (s : SR K H (ρ.ban p) S) : SR K H ρ S :=
  ⟨s.len, s.nd, fun a m => s.bn a (List.mem_cons_of_mem _ m), fun a m z => s.dj a m (List.mem_cons_of_mem _ z), fun n a u e1 e2 => (s.ob n a u e1 e2).map rfl fun vs ds r => r.unban⟩
/-- places alone matter for what is kept -/
theorem Step.reban {ρ ρ' : Ro} {H H' : Hp} {p : Addr} (s : Step ρ ρ' H H') : Step (ρ.ban p) (ρ'.ban p) H H' := ⟨s.ext, by show p :: ρ'.bn = p :: ρ.bn; rw [s.bn], s.keep, s.dom⟩
theorem ban_bn {ρ ρ' : Ro} {p : Addr} {H H' : Hp} (s : Step (ρ.ban p) ρ' H H') : ρ' = (⟨ρ'.pl, ρ.bn⟩ : Ro).ban p := by
  have e := s.bn
  cases ρ'
  dsimp only at e
  subst e
  rfl
theorem Step.unban {ρ ρ' : Ro} {H H' : Hp} {p : Addr} (s : Step (ρ.ban p) (ρ'.ban p) H H') : Step ρ ρ' H H' := ⟨s.ext, (List.cons.inj s.bn).2, s.keep, s.dom⟩
theorem Step.skip {ρ ρ' : Ro} {H H' : Hp} {p : Addr} {o : HO} (s : Step ρ ρ' H H') (h : H p = none) : Step ρ ρ' H (upd H' p o) :=
  ⟨s.ext, s.bn, fun a u e n => by rw [upd_ne (ne_of_none e h)]; exact s.keep a u e n, fun a e => by
    by_cases z : a = p
    · subst z; exact h
    · rw [upd_ne z] at e; exact s.dom a e⟩
theorem RL.banPush {ρ : Ro} {H : Hp} {p : Addr} {a : Addr} {vs : List V} (h : RL K H (ρ.ban p) a vs) : RL K H (ρ.push p) a vs := by
  rcases h with ⟨h, n⟩ | h
  · exact .inl ⟨h, fun m => (List.mem_append.mp m).elim n.1 (fun z => n.2 (by rw [List.mem_singleton.mp z]; exact List.mem_cons_self)), fun m => n.2 (List.mem_cons_of_mem _ m)⟩
  · exact .inr h
theorem out_banPush {ρ : Ro} {p a : Addr} (n : (ρ.ban p).out a) : (ρ.push p).out a := ⟨fun m => (List.mem_append.mp m).elim n.1 (fun z => n.2 (by rw [List.mem_singleton.mp z]; exact List.mem_cons_self)), fun m => n.2 (List.mem_cons_of_mem _ m)⟩
mutual
theorem RV.banPush {ρ : Ro} {H : Hp} {p : Addr} : ∀ {v : V} {d : D}, RV K H (ρ.ban p) v d → RV K H (ρ.push p) v d
  | _, _, .non => .non
  | _, _, .bl => .bl
  | _, _, .int => .int
  | _, _, .str => .str
  | _, _, .ty => .ty
  | _, _, .tup h n r => .tup h (out_banPush n) (RVs.banPush r)
  | _, _, .lst h n r => .lst h (out_banPush n) (RVs.banPush r)
  | _, _, .rol h r => .rol h.banPush (RVs.banPush r)
  | _, _, .ins h n r => .ins h (out_banPush n) (RVs.banPush r)
  | _, _, .dic h n ee r => .dic h (out_banPush n) ee (RVs.banPush r)
  | _, _, .exc h hd n nd r => .exc h hd (out_banPush n) (out_banPush nd) (RVs.banPush r)
  | _, _, .loc h => .loc (by
      show (ρ.pl ++ [p])[_]? = _
      have h : ρ.pl[_]? = _ := h
      rw [List.getElem?_append_left (List.getElem?_eq_some_iff.mp h).1]
      exact h)
theorem RVs.banPush {ρ : Ro} {H : Hp} {p : Addr} : ∀ {vs : List V} {ds : List D}, RVs K H (ρ.ban p) vs ds → RVs K H (ρ.push p) vs ds
  | _, _, .nil => .nil
  | _, _, .cons h r => .cons (RV.banPush h) (RVs.banPush r)
end
/-- the list is made, and nothing names it yet -/
theorem lc_main {wi : TI} {k : Ik} {fa : FA} {g : TG} {o : FG} {c : FT} {f : FE} {vs : List Nat} (hi : LI K wi k fa) (hg : LGW K g o vs) {σ : St} {H : Hp} {Q : VK} {ρ : Ro} {δ : Dl} {S S' : Sg} {out : List D} (hS : SR K H ρ S) (hσ : RS K H ρ σ δ) (e : lcD k fa o c f vs δ S = some (.lst out, S'))
    (q : ∀ H2 ρ2 L vacc, H L = none ∧ Step ρ ρ2 H H2 → SR K H2 (ρ2.ban L) S' → H2 L = some (.lst vacc) → L ∉ ρ2.pl → L ∉ ρ2.bn → RVs K H2 (ρ2.ban L) vacc out → Q (.ref L) H2) : tLc wi g (tDT K c) (tD K f) vs σ H Q := by
  obtain ⟨⟨ds, S1⟩, e1, e⟩ := bnd e
  obtain ⟨items, e2, e⟩ := bnd e
  dsimp only at e2 e
  split at e
  · rename_i hlim
    obtain ⟨⟨out', Sf⟩, e3, e⟩ := bnd e
    dsimp only at e
    obtain ⟨rfl, rfl⟩ : out' = out ∧ Sf = S' := by simpa using e
    clear e
    refine hi _ _ _ _ _ _ _ _ _ hS hσ e1 e2 fun J H1 ρ1 vs0 s1 hS1 rvs0 wk => fun L hL => ?_
    have hw : RS K H1 ρ1 (wipe σ vs) (wipeD δ vs) := (hσ.mono s1).wipe vs
    -- what holds between two turns
    let N : Nat → Hp → Prop := fun i H2 => ∃ ρ2 S2 acc vacc, acc.length ≤ i ∧ Step ρ1 ρ2 H1 H2 ∧ SR K H2 (ρ2.ban L) S2 ∧ H2 L = some (.lst vacc) ∧ L ∉ ρ2.pl ∧ RVs K H2 (ρ2.ban L) vacc acc ∧ RVs K H2 (ρ2.ban L) vs0 ds ∧ RS K H2 (ρ2.ban L) (wipe σ vs) (wipeD δ vs) ∧
        lcGo k ds items o c f (wipeD δ vs) (items.drop i) acc S2 = some (out', Sf)
    refine ⟨fun i m H2 => m = items.length - i ∧ i ≤ items.length ∧ N i H2, ⟨items.length, rfl, Nat.zero_le _, ρ1, S1, [], [], Nat.zero_le _, Step.new hS1 hL, hS1.ban hL, upd_same, hS1.freshP hL, .nil, rvs0.ban hL, hw.ban hL, e3⟩, ?_⟩
    rintro i m H2 ⟨rfl, hil, ρ2, S2, acc, vacc, hal, s2, hS2, hacc, nL, racc, rv0, hw2, e4⟩
    by_cases hlt : i < items.length
    · rw [List.drop_eq_getElem_cons hlt] at e4
      unfold lcGo at e4
      split at e4
      · rename_i hk
        obtain ⟨⟨δ3, S3⟩, e5, e6⟩ := bnd e4
        obtain ⟨⟨b, S4⟩, e7, e8⟩ := bnd e6
        dsimp only at e7 e8
        refine .inr ⟨wk.go i H2 _ S2 rv0 hS2 hk hlt, N (i + 1), fun H' n => ⟨items.length - (i + 1), by omega, rfl, hlt, n⟩, fun x H3 y => ?_⟩
        obtain ⟨st, hS3, d, hd, rd⟩ := wk.yld i H2 _ S2 x H3 rv0 hS2 hk y hlt
        have ed : items[i] = d := by rw [List.getElem?_eq_getElem hlt] at hd; exact Option.some.inj hd
        rw [ed] at e5
        refine hg.gw _ _ _ _ (hg.lg _ _ _ _ _ _ _ _ _ _ hS3 (hw2.mono st) rd e5 fun σ4 H4 ρ4 s4 hS4 hσ4 w4 => ⟨w4.trans (wipe_wipe σ vs), ?_⟩)
        refine ⟨ρ4, δ3, S3, b, S4, hS4, hσ4, e7, fun H5 ρ5 s5 hS5 => ?_⟩
        have sb := (st.trans s4).trans s5
        cases b with
        | false =>
          have eb := ban_bn sb
          rw [eb] at sb hS5
          refine ⟨_, S4, acc, vacc, by omega, s2.trans sb.unban, hS5, sb.keep _ _ hacc nL, sb.ninP hacc nL, racc.mono sb, rv0.mono sb, hw2.mono sb, e8⟩
        | true =>
          obtain ⟨⟨y, S6⟩, e9, e10⟩ := bnd (o := f δ3 S4) e8
          refine ⟨ρ5, δ3, S4, y, S6, hS5, hσ4.mono s5, e9, fun v H6 ρ6 s6 hS6 rv => ?_⟩
          have sc := sb.trans s6
          have ec := ban_bn sc
          rw [ec] at sc hS6 rv
          have nL6 : L ∉ ρ6.pl := sc.ninP hacc nL
          have bL : L ∈ ((⟨ρ6.pl, ρ2.bn⟩ : Ro).ban L).bn := List.mem_cons_self
          refine ⟨vacc, sc.keep _ _ hacc nL, by rw [racc.len]; exact Nat.lt_of_le_of_lt hal (Nat.lt_trans hlt hlim.lt), ?_⟩
          refine ⟨_, S6, acc ++ [y], vacc ++ [v], by rw [List.length_append]; exact Nat.add_le_add_right hal 1, (s2.trans sc.unban).skip hL, hS6.banned bL nL6, upd_same, nL6, ((racc.mono sc).snoc rv).banned bL, (rv0.mono sc).banned bL, (hw2.mono sc).banned bL, e10⟩
      · cases e4
    · have ei : i = items.length := by omega
      subst ei
      rw [List.drop_length] at e4
      unfold lcGo at e4
      split at e4
      · cases e4
        rename_i hk
        refine .inl ⟨wk.stop _ H2 _ _ rv0 hS2 hk (Nat.le_refl _), ?_⟩
        refine q H2 ρ2 L vacc ⟨s1.dom L hL, s1.trans s2⟩ hS2 hacc nL (fun m => ?_) racc
        rw [s2.bn] at m
        exact hS1.bn L m hL
      · cases e4
  · cases e
theorem le_lc {wi : TI} {k : Ik} {fa : FA} {g : TG} {o : FG} {c : FT} {f : FE} {vs : List Nat} (hi : LI K wi k fa) (hg : LGW K g o vs) :
    ∀ σ H Q, tD K (lcD k fa o c f vs) σ H Q → tLc wi g (tDT K c) (tD K f) vs σ H Q := by
  rintro σ H Q ⟨ρ, δ, S, d, S', hS, hσ, e, q⟩
  have hd : ∃ out, d = .lst out := by
    obtain ⟨⟨ds, S1⟩, e1, e⟩ := bnd e
    obtain ⟨items, e2, e⟩ := bnd e
    dsimp only at e
    split at e
    · obtain ⟨⟨out, Sf⟩, e3, e⟩ := bnd e
      cases e
      exact ⟨_, rfl⟩
    · cases e
  obtain ⟨out, rfl⟩ := hd
  exact lc_main hi hg hS hσ e fun H2 ρ2 L vacc s2 hS2 hacc nL nB racc => q _ H2 ρ2 s2.2 hS2.unban (.lst hacc ⟨nL, nB⟩ racc.unban)
end
end DL
end
noncomputable section
namespace DL
open PySem L2
section
variable {K : PySem.W.Frag}
/-! ### what is left behind a def: the places that it made are forgotten -/
mutual
def old (n : Nat) : D → Bool
  | .tup ds => oldL n ds
  | .lst ds => oldL n ds
  | .rol ds => oldL n ds
  | .ins _ _ ds => oldL n ds
  | .dic _ ds => oldL n ds
  | .exc _ _ ds => oldL n ds
  | .loc m => decide (m < n)
  | .non => true
  | .bl _ => true
  | .int _ => true
  | .str _ => true
  | .ty _ => true
def oldL (n : Nat) : List D → Bool
  | [] => true
  | d :: r => old n d && oldL n r
end
def oldO (n : Nat) : Ob → Bool
  | .lst ds => oldL n ds
  | .ins _ gs => oldL n (gs.map (·.2))
  | .dct gs => oldL n (gs.map (·.2))
def cut (ρ : Ro) (n : Nat) : Ro := ⟨ρ.pl.take n, ρ.bn⟩
theorem RL.cut {ρ : Ro} {H : Hp} {n : Nat} {a : Addr} {vs : List V} (h : RL K H ρ a vs) : RL K H (cut ρ n) a vs := by
  rcases h with ⟨h, m⟩ | h
  · exact .inl ⟨h, fun z => m.1 (List.mem_of_mem_take z), m.2⟩
  · exact .inr h
mutual
theorem RV.cut {ρ : Ro} {H : Hp} {n : Nat} : ∀ {v : V} {d : D}, old n d = true → RV K H ρ v d → RV K H (cut ρ n) v d
  | _, _, _, .non => .non
  | _, _, _, .bl => .bl
  | _, _, _, .int => .int
  | _, _, _, .str => .str
  | _, _, _, .ty => .ty
  | _, _, o, .tup h m r => .tup h ⟨fun z => m.1 (List.mem_of_mem_take z), m.2⟩ (RVs.cut (by unfold old at o; exact o) r)
  | _, _, o, .lst h m r => .lst h ⟨fun z => m.1 (List.mem_of_mem_take z), m.2⟩ (RVs.cut (by unfold old at o; exact o) r)
  | _, _, o, .rol h r => .rol h.cut (RVs.cut (by unfold old at o; exact o) r)
  | _, _, o, .ins h m r => .ins h ⟨fun z => m.1 (List.mem_of_mem_take z), m.2⟩ (RVs.cut (by unfold old at o; exact o) r)
  | _, _, o, .dic h m e r => .dic h ⟨fun z => m.1 (List.mem_of_mem_take z), m.2⟩ e (RVs.cut (by unfold old at o; exact o) r)
  | _, _, o, .exc h hd m md r => .exc h hd ⟨fun z => m.1 (List.mem_of_mem_take z), m.2⟩ ⟨fun z => md.1 (List.mem_of_mem_take z), md.2⟩ (RVs.cut (by unfold old at o; exact o) r)
  | _, _, o, .loc h => .loc (by
      unfold old at o
      have o' := of_decide_eq_true o
      show (ρ.pl.take n)[_]? = _
      rw [List.getElem?_take_of_lt o']
      exact h)
theorem RVs.cut {ρ : Ro} {H : Hp} {n : Nat} : ∀ {vs : List V} {ds : List D}, oldL n ds = true → RVs K H ρ vs ds → RVs K H (cut ρ n) vs ds
  | _, _, _, .nil => .nil
  | _, _, o, .cons h r => by
    unfold oldL at o
    rw [Bool.and_eq_true] at o
    exact .cons (RV.cut o.1 h) (RVs.cut o.2 r)
end
theorem OR.cut {ρ : Ro} {H : Hp} {n : Nat} {a : Addr} {o : Ob} (h : oldO n o = true) (r : OR K H ρ a o) : OR K H (cut ρ n) a o := by
  cases o with
  | lst ds => obtain ⟨vs, e, r⟩ := r; exact ⟨vs, e, r.cut h⟩
  | ins C gs => obtain ⟨dx, fs, e, m, r⟩ := r; exact ⟨dx, fs, e, m, r.cut h⟩
  | dct gs => obtain ⟨fs, e, m, r⟩ := r; exact ⟨fs, e, m, r.cut h⟩
theorem SR.cut {ρ : Ro} {H : Hp} {S : Sg} {n : Nat} (s : SR K H ρ S) (h : (S.take n).all (oldO n) = true) : SR K H (cut ρ n) (S.take n) := by
  refine ⟨by show (ρ.pl.take n).length = _; rw [List.length_take, List.length_take, s.len], s.nd.sublist (List.take_sublist _ _), s.bn, fun a m => s.dj a (List.mem_of_mem_take m), fun k a o e1 e2 => ?_⟩
  have e1 : (ρ.pl.take n)[k]? = some a := e1
  have hk : k < n := by
    have := (List.getElem?_eq_some_iff.mp e1).1
    rw [List.length_take] at this
    omega
  have m := List.mem_of_getElem? e2
  rw [List.getElem?_take_of_lt hk] at e1 e2
  exact (s.ob k a o e1 e2).cut (List.all_eq_true.mp h o m)
/-! a value told by a def: a new list is told as it is then; φ tells a new place's thing -/
mutual
def frzG (n : Nat) (φ : Nat → Option D) : D → Option D
  | .tup ds => (frzL n φ ds).bind fun r => some (.tup r)
  | .lst ds => (frzL n φ ds).bind fun r => some (.lst r)
  | .rol ds => if oldL n ds = true then some (.rol ds) else none
  | .ins C ns ds => (frzL n φ ds).bind fun r => some (.ins C ns r)
  | .dic ks ds => (frzL n φ ds).bind fun r => some (.dic ks r)
  | .exc C ns ds => (frzL n φ ds).bind fun r => some (.exc C ns r)
  | .loc m => if m < n then some (.loc m) else φ m
  | .non => some .non
  | .bl b => some (.bl b)
  | .int i => some (.int i)
  | .str z => some (.str z)
  | .ty z => some (.ty z)
def frzL (n : Nat) (φ : Nat → Option D) : List D → Option (List D)
  | [] => some []
  | d :: r => (frzG n φ d).bind fun x => (frzL n φ r).bind fun y => some (x :: y)
end
def keysT : List (Key × D) → Option (List Str)
  | [] => some []
  | (.inr k, _) :: r => (keysT r).bind fun ks => some (k :: ks)
  | _ => none
theorem keysT_eq : ∀ {gs : List (Key × D)} {ks : List Str}, keysT gs = some ks → gs.map (·.1) = ks.map Sum.inr
  | [], _, h => by cases h; rfl
  | (.inr k, d) :: r, _, h => by
    unfold keysT at h
    obtain ⟨ks, e, h⟩ := bnd h
    cases h
    rw [List.map_cons, List.map_cons, keysT_eq e]
  | (.inl _, _) :: _, _, h => by unfold keysT at h; cases h
/-- k deep -/
def frzP (S : Sg) (n : Nat) : Nat → Nat → Option D
  | 0, _ => none
  | k + 1, m => match S[m]? with
    | some (.lst ds) => (frzL n (frzP S n k) ds).bind fun r => some (.lst r)
    | some (.ins C gs) => (frzL n (frzP S n k) (gs.map (·.2))).bind fun r => some (.ins C (gs.map (·.1)) r)
    | some (.dct gs) => (keysT gs).bind fun ks => (frzL n (frzP S n k) (gs.map (·.2))).bind fun r => some (.dic ks r)
    | none => none
def frz (S : Sg) (n : Nat) (d : D) : Option D := frzG n (frzP S n 4) d
mutual
theorem frzG_old {n : Nat} {φ : Nat → Option D} : ∀ d : D, old n d = true → frzG n φ d = some d
  | .tup ds, h => by unfold old at h; unfold frzG; rw [frzL_old ds h]; rfl
  | .lst ds, h => by unfold old at h; unfold frzG; rw [frzL_old ds h]; rfl
  | .rol ds, h => by unfold old at h; unfold frzG; rw [if_pos h]
  | .ins C ns ds, h => by unfold old at h; unfold frzG; rw [frzL_old ds h]; rfl
  | .dic ks ds, h => by unfold old at h; unfold frzG; rw [frzL_old ds h]; rfl
  | .exc C ns ds, h => by unfold old at h; unfold frzG; rw [frzL_old ds h]; rfl
  | .loc m, h => by unfold old at h; unfold frzG; rw [if_pos (of_decide_eq_true h)]
  | .non, _ => by unfold frzG; rfl
  | .bl _, _ => by unfold frzG; rfl
  | .int _, _ => by unfold frzG; rfl
  | .str _, _ => by unfold frzG; rfl
  | .ty _, _ => by unfold frzG; rfl
theorem frzL_old {n : Nat} {φ : Nat → Option D} : ∀ ds : List D, oldL n ds = true → frzL n φ ds = some ds
  | [], _ => by unfold frzL; rfl
  | d :: r, h => by
    unfold oldL at h
    rw [Bool.and_eq_true] at h
    unfold frzL
    rw [frzG_old d h.1, frzL_old r h.2]
    rfl
end
theorem not_take {ρ : Ro} {H : Hp} {S : Sg} {n m : Nat} {a : Addr} (s : SR K H ρ S) (h : ρ.pl[m]? = some a) (hm : ¬ m < n) : a ∉ ρ.pl.take n := by
  intro z
  obtain ⟨k, hk, e⟩ := List.mem_iff_getElem.mp z
  rw [List.length_take] at hk
  have e2 : ρ.pl[k]? = some a := by
    rw [List.getElem_take] at e
    rw [List.getElem?_eq_getElem (by omega), e]
  obtain ⟨l1, g1⟩ := List.getElem?_eq_some_iff.mp h
  obtain ⟨l2, g2⟩ := List.getElem?_eq_some_iff.mp e2
  exact List.pairwise_iff_getElem.mp s.nd k m l2 l1 (by omega) (g2.trans g1.symm)
/-- what φ tells of a place is right -/
def PhOk (K : PySem.W.Frag) (H : Hp) (ρ : Ro) (n : Nat) (φ : Nat → Option D) : Prop := ∀ m a d, ρ.pl[m]? = some a → ¬ m < n → φ m = some d → RV K H (cut ρ n) (.ref a) d
mutual
theorem RV.frzG {ρ : Ro} {H : Hp} {n : Nat} {φ : Nat → Option D} (hφ : PhOk K H ρ n φ) : ∀ {v : V} {d d' : D}, frzG n φ d = some d' → RV K H ρ v d → RV K H (cut ρ n) v d'
  | _, _, _, e, .non => by unfold DL.frzG at e; cases e; exact .non
  | _, _, _, e, .bl => by unfold DL.frzG at e; cases e; exact .bl
  | _, _, _, e, .int => by unfold DL.frzG at e; cases e; exact .int
  | _, _, _, e, .str => by unfold DL.frzG at e; cases e; exact .str
  | _, _, _, e, .ty => by unfold DL.frzG at e; cases e; exact .ty
  | _, _, _, e, .tup h m r => by
    unfold DL.frzG at e
    obtain ⟨x, e1, e⟩ := bnd e
    cases e
    exact .tup h ⟨fun z => m.1 (List.mem_of_mem_take z), m.2⟩ (RVs.frzL hφ e1 r)
  | _, _, _, e, .lst h m r => by
    unfold DL.frzG at e
    obtain ⟨x, e1, e⟩ := bnd e
    cases e
    exact .lst h ⟨fun z => m.1 (List.mem_of_mem_take z), m.2⟩ (RVs.frzL hφ e1 r)
  | _, _, _, e, .rol h r => by
    unfold DL.frzG at e
    split at e
    · rename_i o
      cases e
      exact .rol h.cut (RVs.cut o r)
    · cases e
  | _, _, _, e, .ins h m r => by
    unfold DL.frzG at e
    obtain ⟨x, e1, e⟩ := bnd e
    cases e
    exact .ins h ⟨fun z => m.1 (List.mem_of_mem_take z), m.2⟩ (RVs.frzL hφ e1 r)
  | _, _, _, e, .dic h m ee r => by
    unfold DL.frzG at e
    obtain ⟨x, e1, e⟩ := bnd e
    cases e
    exact .dic h ⟨fun z => m.1 (List.mem_of_mem_take z), m.2⟩ ee (RVs.frzL hφ e1 r)
  | _, _, _, e, .exc h hd m md r => by
    unfold DL.frzG at e
    obtain ⟨x, e1, e⟩ := bnd e
    cases e
    exact .exc h hd ⟨fun z => m.1 (List.mem_of_mem_take z), m.2⟩ ⟨fun z => md.1 (List.mem_of_mem_take z), md.2⟩ (RVs.frzL hφ e1 r)
  | _, _, _, e, .loc h => by
    unfold DL.frzG at e
    split at e
    · rename_i hm
      cases e
      refine .loc ?_
      show (ρ.pl.take n)[_]? = _
      rw [List.getElem?_take_of_lt hm]
      exact h
    · rename_i hm
      exact hφ _ _ _ h hm e
theorem RVs.frzL {ρ : Ro} {H : Hp} {n : Nat} {φ : Nat → Option D} (hφ : PhOk K H ρ n φ) : ∀ {vs : List V} {ds es : List D}, frzL n φ ds = some es → RVs K H ρ vs ds → RVs K H (cut ρ n) vs es
  | _, _, _, e, .nil => by unfold DL.frzL at e; cases e; exact .nil
  | _, _, _, e, .cons h r => by
    unfold DL.frzL at e
    obtain ⟨x, e1, e⟩ := bnd e
    obtain ⟨y, e2, e⟩ := bnd e
    cases e
    exact .cons (RV.frzG hφ e1 h) (RVs.frzL hφ e2 r)
end
theorem frzP_ok {ρ : Ro} {H : Hp} {S : Sg} {n : Nat} (s : SR K H ρ S) : ∀ k : Nat, PhOk K H ρ n (frzP S n k)
  | 0 => fun m a d h hm e => by cases e
  | k + 1 => fun m a d h hm e => by
    unfold frzP at e
    split at e
    · rename_i hs
      obtain ⟨x, e1, e⟩ := bnd e
      cases e
      obtain ⟨vs, h1, h2⟩ := s.ob _ _ _ h hs
      exact .lst h1 ⟨not_take s h hm, s.dj _ (List.mem_of_getElem? h)⟩ (RVs.frzL (frzP_ok s k) e1 h2)
    · rename_i hs
      obtain ⟨x, e1, e⟩ := bnd e
      cases e
      obtain ⟨dx, fs, h1, h2, h3⟩ := s.ob _ _ _ h hs
      rw [← h2]
      exact .ins h1 ⟨not_take s h hm, s.dj _ (List.mem_of_getElem? h)⟩ (RVs.frzL (frzP_ok s k) e1 h3)
    · rename_i hs
      obtain ⟨ks, e0, e⟩ := bnd e
      obtain ⟨x, e1, e⟩ := bnd e
      cases e
      obtain ⟨fs, h1, h2, h3⟩ := s.ob _ _ _ h hs
      exact .dic h1 ⟨not_take s h hm, s.dj _ (List.mem_of_getElem? h)⟩ (h2.trans (keysT_eq e0)) (RVs.frzL (frzP_ok s k) e1 h3)
    · cases e
theorem RV.frz {ρ : Ro} {H : Hp} {S : Sg} {n : Nat} (s : SR K H ρ S) {v : V} {d d' : D} (e : DL.frz S n d = some d') (r : RV K H ρ v d) : RV K H (DL.cut ρ n) v d' := RV.frzG (frzP_ok s 4) e r
/-- the end of a def: places of its own are gone -/
def fin (n : Nat) (d : D) (S : Sg) : Option (D × Sg) := if S.length = n then some (d, S) else (frz S n d).bind fun x => if (S.take n).all (oldO n) = true then some (x, S.take n) else none
/-- the end of a def whose new places stay -/
def finK (_ : Nat) (d : D) (S : Sg) : Option (D × Sg) := some (d, S)
def FinOk (K : PySem.W.Frag) (φ : Nat → D → Sg → Option (D × Sg)) : Prop := ∀ (ρ ρ' : Ro) (H H' : Hp) (S S' S'' : Sg) (v : V) (d d' : D), SR K H ρ S → Step ρ ρ' H H' → SR K H' ρ' S' → RV K H' ρ' v d → φ S.length d S' = some (d', S'') →
  ∃ ρ2, Step ρ ρ2 H H' ∧ SR K H' ρ2 S'' ∧ RV K H' ρ2 v d'
theorem finK_ok : FinOk K finK := by
  intro ρ ρ' H H' S S' S'' v d d' hS st hS' r e
  cases e
  exact ⟨ρ', st, hS', r⟩
theorem fin_ok : FinOk K fin := by
  intro ρ ρ' H H' S S' S'' v d d' hS st hS' r e
  unfold fin at e
  split at e
  · cases e
    exact ⟨ρ', st, hS', r⟩
  · obtain ⟨x, e1, e⟩ := bnd e
    split at e
    · rename_i ho
      cases e
      refine ⟨cut ρ' S.length, ⟨⟨[], ?_, by simp⟩, st.bn, st.keep, st.dom⟩, hS'.cut ho, RV.frz hS' e1 r⟩
      obtain ⟨nw, e2, _⟩ := st.ext
      show ρ'.pl.take S.length = ρ.pl ++ []
      rw [e2, ← hS.len, List.take_left', List.append_nil]
      rfl
    · cases e
def bodyF (φ : Nat → D → Sg → Option (D × Sg)) (n : Nat) (body : FS) : Fn := fun ds S => (body (ds.map some ++ List.replicate (n - ds.length) none) S).bind fun r => match r.1 with
  | .rt d => φ S.length d r.2.2
  | .nx => φ S.length .non r.2.2
  | _ => none
theorem body_ok {φ : Nat → D → Sg → Option (D × Sg)} (hφ : FinOk K φ) {N : List Str} {n m : Nat} {body : FS} (hn : N.length = n) {vs : List V} {H : Hp} {Q : VK} {E : XK} (h : spD K m (bodyF φ n body) vs H Q E) :
    tDS K body { nx := fun _ H' => Q .non H', rt := Q } (start N vs) H := by
  obtain ⟨ρ, S, ds, d, S', hl, hS, hv, e, q⟩ := h
  obtain ⟨⟨r, δ', S1⟩, e1, e⟩ := bnd e
  refine ⟨ρ, _, S, r, δ', S1, hS, RS.start hv N n hn, e1, ?_⟩
  dsimp only at e
  cases r with
  | rt x =>
    intro v H' ρ' st hS' rv
    obtain ⟨ρ2, s2, hS2, r2⟩ := hφ _ _ _ _ _ _ _ _ _ _ hS st hS' rv e
    exact q v H' ρ2 s2 hS2 r2
  | nx =>
    intro σ' H' ρ' st hS' _
    obtain ⟨ρ2, s2, hS2, r2⟩ := hφ _ _ _ _ _ _ _ _ _ _ hS st hS' .non e
    exact q .non H' ρ2 s2 hS2 r2
  | bk => cases e
  | ct => cases e
theorem spD_len {n : Nat} {F : Fn} {vs : List V} {H : Hp} {Q : VK} {E : XK} (h : spD K n F vs H Q E) : vs.length = n := by
  obtain ⟨_, _, _, _, _, h, _⟩ := h
  exact h
/-! ### methods, new objects -/
def methD (C : Addr) (m : Str) (F : Fn) (dds : List D) (fa : FE) (f : FA) : FE := fun δ S => (fa δ S).bind fun p => (fsOf p.2 C p.1).bind fun gs => if gs.lookup m = none then (f δ p.2).bind fun q => F (p.1 :: (q.1 ++ dds)) q.2 else none
theorem le_meth {C : Addr} {m : Str} {n : Nat} {F : Fn} {dvs : List V} {dds : List D} {E : XK} {fa : FE} {f : FA} (hd : ∀ H ρ, RVs K H ρ dvs dds) (hn : ∀ δ S ds S', f δ S = some (ds, S') → (ds ++ dds).length + 1 = n) :
    ∀ σ H Q, tD K (methD C m F dds fa f) σ H Q → tMeth C m (spD K n F) dvs E (tD K fa) (tDA K f) σ H Q := by
  rintro σ H Q ⟨ρ, δ, S, d, S', hS, hσ, e, q⟩
  obtain ⟨⟨x, S1⟩, e1, e⟩ := bnd e
  obtain ⟨gs, e2, e⟩ := bnd e
  split at e
  · rename_i hno
    obtain ⟨⟨y, S2⟩, e3, e⟩ := bnd e
    refine ⟨ρ, δ, S, x, S1, hS, hσ, e1, fun v H1 ρ1 s1 hS1 rv => ?_⟩
    obtain ⟨a, dx, fs, rfl, h1, h2, h3⟩ := fsOf_sq hS1 rv e2
    refine ⟨a, dx, fs, rfl, h1, look_none h2 hno, ρ1, δ, S1, y, S2, hS1, hσ.mono s1, e3, fun vs H2 ρ2 s2 hS2 rvs => ?_⟩
    have r2 : RVs K H2 ρ2 (.ref a :: (vs ++ dvs)) (x :: (y ++ dds)) := .cons (rv.mono s2) (rvs.append (hd H2 ρ2))
    exact ⟨ρ2, S2, _, d, S', by rw [r2.len]; exact hn _ _ _ _ e3, hS2, r2, e, fun w H3 ρ3 s3 hS3 rw' => q w H3 ρ3 ((s1.trans s2).trans s3) hS3 rw'⟩
  · cases e
/-- C(..): φ says whether the object stays to be changed (finK) or is told as it is (fin) -/
def mkD (φ : Nat → D → Sg → Option (D × Sg)) (C : Addr) (F : Fn) (dds : List D) (f : FA) : FE := fun δ S => (f δ S).bind fun p => (F (.loc p.2.length :: (p.1 ++ dds)) (p.2 ++ [.ins C []])).bind fun q => if isNoneB q.1 = true then φ p.2.length (.loc p.2.length) q.2 else none
theorem le_mk {φ : Nat → D → Sg → Option (D × Sg)} (hφ : FinOk K φ) {C : Addr} {n : Nat} {F : Fn} {dvs : List V} {dds : List D} {E : XK} {f : FA} (hd : ∀ H ρ, RVs K H ρ dvs dds) (hn : ∀ δ S ds S', f δ S = some (ds, S') → (ds ++ dds).length + 1 = n) :
    ∀ σ H Q, tD K (mkD φ C F dds f) σ H Q → tMake C (spD K n F) dvs E (tDA K f) σ H Q := by
  rintro σ H Q ⟨ρ, δ, S, d, S', hS, hσ, e, q⟩
  obtain ⟨⟨y, S1⟩, e1, e⟩ := bnd e
  obtain ⟨⟨w, S2⟩, e2, e⟩ := bnd e
  dsimp only at e
  split at e
  · rename_i hw
    refine ⟨ρ, δ, S, y, S1, hS, hσ, e1, fun vs H1 ρ1 s1 hS1 rvs x dx hx hdx ne => ?_⟩
    have hx2 : (upd H1 dx (.own x)) x = none := by rw [upd_ne (Ne.symm ne)]; exact hx
    have sA : Step ρ1 ρ1 H1 (upd H1 dx (.own x)) := Step.new hS1 hdx
    have hSA : SR K (upd H1 dx (.own x)) ρ1 S1 := hS1.new hdx
    have sB : Step ρ1 (ρ1.push x) (upd H1 dx (.own x)) (upd (upd H1 dx (.own x)) x (.ins C dx [])) := Step.push hSA hx2
    have hSB : SR K (upd (upd H1 dx (.own x)) x (.ins C dx [])) (ρ1.push x) (S1 ++ [.ins C []]) := hSA.push hx2 ⟨dx, [], upd_same, rfl, .nil⟩
    have rx : RV K (upd (upd H1 dx (.own x)) x (.ins C dx [])) (ρ1.push x) (.ref x) (.loc S1.length) := by
      refine .loc ?_
      show (ρ1.pl ++ [x])[S1.length]? = some x
      rw [← hS1.len, List.getElem?_append_right (Nat.le_refl _), Nat.sub_self]
      rfl
    have r2 : RVs K _ (ρ1.push x) (.ref x :: (vs ++ dvs)) (.loc S1.length :: (y ++ dds)) := .cons rx (((rvs.mono (sA.trans sB))).append (hd _ _))
    refine ⟨ρ1.push x, _, _, w, S2, by rw [r2.len]; exact hn _ _ _ _ e1, hSB, r2, e2, fun v H2 ρ2 s2 hS2 rv => ?_⟩
    have ew : w = .non := by cases w <;> first | rfl | cases hw
    subst ew
    cases rv
    refine ⟨rfl, ?_⟩
    obtain ⟨ρ3, s3, hS3, r3⟩ := hφ _ _ _ _ _ _ _ _ _ _ hS1 ((sA.trans sB).trans s2) hS2 (rx.mono s2) e
    exact q _ H2 ρ3 (s1.trans s3) hS3 r3
  · cases e
end
end DL
end
noncomputable section
namespace DL
open PySem L2
section
variable {K : PySem.W.Frag}
/-! ### lists of numbers, truths, texts -/
def intsOf : List D → Option (List Int)
  | [] => some []
  | .int i :: r => (intsOf r).bind fun ns => some (i :: ns)
  | _ => none
def blsOf : List D → Option (List Bool)
  | [] => some []
  | .bl i :: r => (blsOf r).bind fun ns => some (i :: ns)
  | _ => none
def strsOf : List D → Option (List Str)
  | [] => some []
  | .str i :: r => (strsOf r).bind fun ns => some (i :: ns)
  | _ => none
theorem intsOf_map (ns : List Int) : intsOf (ns.map .int) = some ns := by
  induction ns with
  | nil => rfl
  | cons n ns ih => show (intsOf (ns.map .int)).bind _ = _; rw [ih]; rfl
theorem blsOf_map (ns : List Bool) : blsOf (ns.map .bl) = some ns := by
  induction ns with
  | nil => rfl
  | cons n ns ih => show (blsOf (ns.map .bl)).bind _ = _; rw [ih]; rfl
theorem strsOf_map (ns : List Str) : strsOf (ns.map .str) = some ns := by
  induction ns with
  | nil => rfl
  | cons n ns ih => show (strsOf (ns.map .str)).bind _ = _; rw [ih]; rfl
theorem intsOf_eq : ∀ {ds : List D} {ns : List Int}, intsOf ds = some ns → ds = ns.map .int
  | [], ns, h => by cases h; rfl
  | d :: r, ns, h => by
    cases d <;> first | cases h | skip
    obtain ⟨ms, e, h⟩ := bnd (o := intsOf r) h
    cases h
    rw [intsOf_eq e]
    rfl
theorem blsOf_eq : ∀ {ds : List D} {ns : List Bool}, blsOf ds = some ns → ds = ns.map .bl
  | [], ns, h => by cases h; rfl
  | d :: r, ns, h => by
    cases d <;> first | cases h | skip
    obtain ⟨ms, e, h⟩ := bnd (o := blsOf r) h
    cases h
    rw [blsOf_eq e]
    rfl
theorem strsOf_eq : ∀ {ds : List D} {ns : List Str}, strsOf ds = some ns → ds = ns.map .str
  | [], ns, h => by cases h; rfl
  | d :: r, ns, h => by
    cases d <;> first | cases h | skip
    obtain ⟨ms, e, h⟩ := bnd (o := strsOf r) h
    cases h
    rw [strsOf_eq e]
    rfl
theorem rvs_ints {ρ : Ro} {H : Hp} : ∀ {vs : List V} {ns : List Int}, RVs K H ρ vs (ns.map .int) → vs = ns.map V.int
  | _, [], .nil => rfl
  | _, n :: ns, .cons h r => by
    cases h
    rw [rvs_ints r]
    rfl
theorem rvs_bls {ρ : Ro} {H : Hp} : ∀ {vs : List V} {ns : List Bool}, RVs K H ρ vs (ns.map .bl) → vs = ns.map V.bl
  | _, [], .nil => rfl
  | _, n :: ns, .cons h r => by
    cases h
    rw [rvs_bls r]
    rfl
theorem rvs_strs {ρ : Ro} {H : Hp} : ∀ {vs : List V} {ns : List Str}, RVs K H ρ vs (ns.map .str) → vs = ns.map V.str
  | _, [], .nil => rfl
  | _, n :: ns, .cons h r => by
    cases h
    rw [rvs_strs r]
    rfl
theorem ints_rvs {ρ : Ro} {H : Hp} : ∀ ns : List Int, RVs K H ρ (ns.map V.int) (ns.map .int)
  | [] => .nil
  | _ :: ns => .cons .int (ints_rvs ns)
theorem strs_rvs {ρ : Ro} {H : Hp} : ∀ ns : List Str, RVs K H ρ (ns.map V.str) (ns.map .str)
  | [] => .nil
  | _ :: ns => .cons .str (strs_rvs ns)
/-! ### operators -/
theorem opD_str {g : Str → Str → V} {g' : Str → Str → D} {C C' : Str → Str → Prop} [∀ i j, Decidable (C i j)] (hC : ∀ i j, C i j → C' i j) (hg : ∀ i j, Plain (g i j) (g' i j)) :
    OpD K (fun x y H Q => ∃ i j, x = .str i ∧ y = .str j ∧ C' i j ∧ Q (g i j) H) (fun d e S => match d, e with
      | .str i, .str j => if C i j then some (g' i j, S) else none
      | _, _ => none) := by
  intro x y H Q ρ S d e z S' hS rx ry eq q
  dsimp only at eq
  split at eq
  · cases rx; cases ry
    split at eq
    · cases eq
      exact ⟨_, _, rfl, rfl, hC _ _ ‹_›, q _ H ρ (Step.refl _ _) hS (hg _ _).rv⟩
    · cases eq
  · cases eq
def catO : O2 := fun d e S => (plOf S d).bind fun xs => (plOf S e).bind fun ys => if Fits (xs.length + ys.length) then some (.lst (xs ++ ys), S) else none
theorem opD_cat : OpD K rCat catO := by
  intro x y H Q ρ S d e z S' hS rx ry eq q
  obtain ⟨xs, e1, eq⟩ := bnd eq
  obtain ⟨ys, e2, eq⟩ := bnd eq
  split at eq
  · cases eq
    obtain ⟨a, vs, rfl, h1, r1⟩ := plOf_sq hS rx e1
    obtain ⟨b, ws, rfl, h2, r2⟩ := plOf_sq hS ry e2
    refine ⟨a, b, vs, ws, rfl, rfl, h1, h2, by rw [r1.len, r2.len]; exact Fits.le ‹_›, fun p hp => ?_⟩
    exact q _ _ ρ (Step.new hS hp) (hS.new hp) (rv_lst hS hp (r1.append r2))
  · cases eq
def addO : O2 := fun d e S => match d, e with
  | .int i, .int j => some (.int (i + j), S)
  | .str i, .str j => if Fits (i.length + j.length) then some (.str (i ++ j), S) else none
  | d, e => catO d e S
def rAdd3 : R2 := fun x y H Q => (rI0 fun i j => .int (i + j)) x y H Q ∨ (∃ i j, x = .str i ∧ y = .str j ∧ i.length + j.length ≤ sizeLine ∧ Q (.str (i ++ j)) H) ∨ rCat x y H Q
theorem op_add3 {X : Cx} : OpR X (binaryOp .Add) rAdd3 := OpR_or op_add (OpR_or op_add_str op_cat)
theorem opD_add : OpD K rAdd3 addO := by
  intro x y H Q ρ S d e z S' hS rx ry eq q
  unfold addO at eq
  split at eq
  · cases rx; cases ry; cases eq
    exact .inl ⟨_, _, rfl, rfl, q _ H ρ (Step.refl _ _) hS .int⟩
  · cases rx; cases ry
    split at eq
    · cases eq
      exact .inr (.inl ⟨_, _, rfl, rfl, Fits.le ‹_›, q _ H ρ (Step.refl _ _) hS .str⟩)
    · cases eq
  · exact .inr (.inr (opD_cat x y H Q ρ S d e z S' hS rx ry eq q))
def subO : O2 := int0 fun i j => .int (i - j)
def repO : O2 := fun d e S => match e with
  | .int k => (plOf S d).bind fun xs => if R63 k ∧ Fits (xs.length * k.toNat) then some (.lst (List.replicate k.toNat xs).flatten, S) else none
  | _ => none
theorem RVs.flatten {ρ : Ro} {H : Hp} {vs : List V} {ds : List D} (r : RVs K H ρ vs ds) : ∀ n : Nat, RVs K H ρ (List.replicate n vs).flatten (List.replicate n ds).flatten
  | 0 => .nil
  | n + 1 => by
    rw [List.replicate_succ, List.replicate_succ, List.flatten_cons, List.flatten_cons]
    exact r.append (RVs.flatten r n)
theorem opD_rep : OpD K rRep repO := by
  intro x y H Q ρ S d e z S' hS rx ry eq q
  unfold repO at eq
  split at eq
  · cases ry
    obtain ⟨xs, e1, eq⟩ := bnd eq
    split at eq
    · rename_i hb
      cases eq
      obtain ⟨a, vs, rfl, h1, r1⟩ := plOf_sq hS rx e1
      refine ⟨a, _, vs, rfl, rfl, h1, ((r63_iff _).mp hb.1).1, ((r63_iff _).mp hb.1).2, by rw [r1.len]; exact hb.2.le, fun p hp => ?_⟩
      exact q _ _ ρ (Step.new hS hp) (hS.new hp) (rv_lst hS hp (r1.flatten _))
    · cases eq
  · cases eq
def mulO : O2 := fun d e S => match d, e with
  | .int i, .int j => if MulB i j then some (.int (i * j), S) else none
  | d, e => repO d e S
def rMul2 : R2 := fun x y H Q => (rI CMul fun i j => .int (i * j)) x y H Q ∨ rRep x y H Q
theorem op_mul2 {X : Cx} : OpR X (binaryOp .Mult) rMul2 := OpR_or op_mul op_rep
theorem opD_mul : OpD K rMul2 mulO := by
  intro x y H Q ρ S d e z S' hS rx ry eq q
  unfold mulO at eq
  split at eq
  · cases rx; cases ry
    split at eq
    · rename_i hm
      cases eq
      exact .inl ⟨_, _, rfl, rfl, (mulB_iff _ _).mp hm, q _ H ρ (Step.refl _ _) hS .int⟩
    · cases eq
  · exact .inr (opD_rep x y H Q ρ S d e z S' hS rx ry eq q)
def modO : O2 := intO (fun _ j => 0 < j) fun i j => .int (i % j)
theorem opD_mod : OpD K (rI (fun _ j => 0 < j) fun i j => .int (i % j)) modO := opD_int (fun _ _ h => h) fun _ _ => .int
def fdivO : O2 := intO (fun _ j => DivB j) fun i j => .int (i / j)
theorem div_ok {i j : Int} (h : DivB j) : CDivW i j := by
  rw [divB_iff] at h
  have h1 := h.1
  have h2 := h.2
  have h3 : j.natAbs < 1000000000000000000000000000000 := by omega
  exact wide_div (b := 100) h1 (Nat.lt_trans h3 (by decide)) (by decide) (by decide)
theorem opD_fdiv : OpD K (rI CDivW fun i j => .int (i / j)) fdivO := opD_int (fun _ _ h => div_ok h) fun _ _ => .int
def powO : O2 := intO (fun i j => PowB i j) fun i j => .int (i ^ j.toNat)
theorem pow_ok {i j : Int} (h' : PowB i j) : CPow i j := by
  have h := (powB_iff i j).mp h'
  exact ⟨h.1.1, h.1.2, by
  have h1 := h.2.1
  have h2 := h.2.2
  have h3 : i.natAbs < 18446744073709551616 := by omega
  exact h3⟩
theorem opD_pow : OpD K (rI CPow fun i j => .int (i ^ j.toNat)) powO := opD_int (fun _ _ h => pow_ok h) fun _ _ => .int
/-! equality of plain values -/
def eqB : D → D → Option Bool
  | .non, .non => some true | .non, .int _ => some false | .int _, .non => some false | .non, .bl _ => some false | .bl _, .non => some false | .non, .str _ => some false | .str _, .non => some false
  | .int i, .int j => some (decide (i = j)) | .bl a, .bl b => some (decide (a = b)) | .str a, .str b => some (decide (a = b))
  | .int _, .str _ => some false | .str _, .int _ => some false | .bl _, .str _ => some false | .str _, .bl _ => some false
  | _, _ => none
theorem eqB_ok {ρ : Ro} {H : Hp} {x y : V} {d e : D} {b : Bool} (rx : RV K H ρ x d) (ry : RV K H ρ y e) (h : eqB d e = some b) : scal x y = true ∧ decide (x = y) = b := by
  unfold eqB at h
  split at h <;> first
    | (cases h; done)
    | (cases rx; cases ry; cases h; exact ⟨rfl, by simp⟩)
def eqO : O2 := fun d e S => (eqB d e).bind fun b => some (.bl b, S)
def neO : O2 := fun d e S => (eqB d e).bind fun b => some (.bl (!b), S)
theorem opD_eq : OpD K rEq eqO := by
  intro x y H Q ρ S d e z S' hS rx ry eq q
  obtain ⟨b, e1, eq⟩ := bnd eq
  cases eq
  obtain ⟨h1, h2⟩ := eqB_ok rx ry e1
  exact ⟨h1, by rw [h2]; exact q _ H ρ (Step.refl _ _) hS .bl⟩
theorem opD_ne : OpD K rNe neO := by
  intro x y H Q ρ S d e z S' hS rx ry eq q
  obtain ⟨b, e1, eq⟩ := bnd eq
  cases eq
  obtain ⟨h1, h2⟩ := eqB_ok rx ry e1
  exact ⟨h1, by rw [h2]; exact q _ H ρ (Step.refl _ _) hS .bl⟩
/-! ### Python's own functions -/
def lenO : OC := fun ds S => match ds with
  | [d] => match sqOf S d with
    | some xs => some (.int (xs.length : Int), S)
    | none => match d with
      | .str z => if Fits (z.length) then some (.int (z.length : Int), S) else none
      | _ => none
  | _ => none
theorem cbD_len : CbD K (fun xs H Q => ∃ x n, xs = [x] ∧ LenV K x H n ∧ Q (.int n) H) lenO := by
  intro xs H Q ρ S ds z S' hS rs eq q
  unfold lenO at eq
  split at eq
  · cases rs with | cons rx rn => ?_
    cases rn
    split at eq
    · rename_i ys hy
      cases eq
      obtain ⟨a, vs, rfl, hq, r⟩ := sqOf_sq hS rx hy
      refine ⟨_, ys.length, rfl, ?_, q _ H ρ (Step.refl _ _) hS .int⟩
      rcases hq with hq | hq
      · exact .inl ⟨vs, hq, r.len.symm⟩
      · exact .inr ⟨vs, hq, r.len.symm⟩
    · split at eq
      · cases rx
        split at eq
        · cases eq
          exact ⟨_, _, rfl, ⟨Fits.le ‹_›, rfl⟩, q _ H ρ (Step.refl _ _) hS .int⟩
        · cases eq
      · cases eq
  · cases eq
def absO : OC := fun ds S => match ds with
  | [.int i] => some (.int (if i < 0 then -i else i), S)
  | _ => none
theorem cbD_abs : CbD K (fun xs H Q => ∃ i, xs = [.int i] ∧ Q (.int (if i < 0 then -i else i)) H) absO := by
  intro xs H Q ρ S ds z S' hS rs eq q
  unfold absO at eq
  split at eq
  · cases rs with | cons rx rn => ?_
    cases rn; cases rx; cases eq
    exact ⟨_, rfl, q _ H ρ (Step.refl _ _) hS .int⟩
  · cases eq
def max2O : OC := fun ds S => match ds with
  | [.int i, .int j] => some (.int (if j > i then j else i), S)
  | _ => none
def min2O : OC := fun ds S => match ds with
  | [.int i, .int j] => some (.int (if j < i then j else i), S)
  | _ => none
theorem cbD_max2 : CbD K (fun xs H Q => ∃ i j, xs = [.int i, .int j] ∧ Q (.int (if j > i then j else i)) H) max2O := by
  intro xs H Q ρ S ds z S' hS rs eq q
  unfold max2O at eq
  split at eq
  · cases rs with | cons rx rn => ?_
    cases rn with | cons ry rn => ?_
    cases rn; cases rx; cases ry; cases eq
    exact ⟨_, _, rfl, q _ H ρ (Step.refl _ _) hS .int⟩
  · cases eq
theorem cbD_min2 : CbD K (fun xs H Q => ∃ i j, xs = [.int i, .int j] ∧ Q (.int (if j < i then j else i)) H) min2O := by
  intro xs H Q ρ S ds z S' hS rs eq q
  unfold min2O at eq
  split at eq
  · cases rs with | cons rx rn => ?_
    cases rn with | cons ry rn => ?_
    cases rn; cases rx; cases ry; cases eq
    exact ⟨_, _, rfl, q _ H ρ (Step.refl _ _) hS .int⟩
  · cases eq
def int1O : OC := fun ds S => match ds with
  | [.int i] => some (.int i, S)
  | [.bl k] => some (.int (if k then 1 else 0), S)
  | _ => none
theorem cbD_int1 : CbD K (fun xs H Q => (∃ i, xs = [.int i] ∧ Q (.int i) H) ∨ ∃ k, xs = [.bl k] ∧ Q (.int (if k then 1 else 0)) H) int1O := by
  intro xs H Q ρ S ds z S' hS rs eq q
  unfold int1O at eq
  split at eq
  · cases rs with | cons rx rn => ?_
    cases rn; cases rx; cases eq
    exact .inl ⟨_, rfl, q _ H ρ (Step.refl _ _) hS .int⟩
  · cases rs with | cons rx rn => ?_
    cases rn; cases rx; cases eq
    exact .inr ⟨_, rfl, q _ H ρ (Step.refl _ _) hS .int⟩
  · cases eq
/-- list(x): told for good; to be changed -/
def listO : OC := fun ds S => match ds with
  | [d] => (sqOf S d).bind fun xs => some (.lst xs, S)
  | _ => none
def listN : OC := fun ds S => match ds with
  | [d] => (sqOf S d).bind fun xs => some (.loc S.length, S ++ [.lst xs])
  | _ => none
theorem cbD_list : CbD K (fun xs H Q => ∃ p ys, xs = [.ref p] ∧ (SqL K H p ys ∨ SqT K H p ys) ∧ ∀ l, H l = none → Q (.ref l) (upd H l (.lst ys))) listO := by
  intro xs H Q ρ S ds z S' hS rs eq q
  unfold listO at eq
  split at eq
  · cases rs with | cons rx rn => ?_
    cases rn
    obtain ⟨ys, e1, eq⟩ := bnd eq
    cases eq
    obtain ⟨a, vs, rfl, hq, r⟩ := sqOf_sq hS rx e1
    exact ⟨a, vs, rfl, hq, fun p hp => q _ _ ρ (Step.new hS hp) (hS.new hp) (rv_lst hS hp r)⟩
  · cases eq
theorem cbD_listN : CbD K (fun xs H Q => ∃ p ys, xs = [.ref p] ∧ (SqL K H p ys ∨ SqT K H p ys) ∧ ∀ l, H l = none → Q (.ref l) (upd H l (.lst ys))) listN := by
  intro xs H Q ρ S ds z S' hS rs eq q
  unfold listN at eq
  split at eq
  · cases rs with | cons rx rn => ?_
    cases rn
    obtain ⟨ys, e1, eq⟩ := bnd eq
    cases eq
    obtain ⟨a, vs, rfl, hq, r⟩ := sqOf_sq hS rx e1
    refine ⟨a, vs, rfl, hq, fun p hp => ?_⟩
    obtain ⟨c1, c2⟩ := rv_new hS hp r
    exact q _ _ _ (Step.push hS hp) c1 c2
  · cases eq
def tupleO : OC := fun ds S => match ds with
  | [d] => match lsOf S d with
    | some xs => some (.tup xs, S)
    | none => (tpOf d).bind fun xs => some (.tup xs, S)
  | _ => none
theorem cbD_tuple : CbD K (fun xs H Q => ∃ p ys, xs = [.ref p] ∧ ((SqL K H p ys ∧ ∀ l, H l = none → Q (.ref l) (upd H l (.tup ys))) ∨ (SqT K H p ys ∧ Q (.ref p) H))) tupleO := by
  intro xs H Q ρ S ds z S' hS rs eq q
  unfold tupleO at eq
  split at eq
  · cases rs with | cons rx rn => ?_
    cases rn
    split at eq
    · rename_i ys e1
      cases eq
      obtain ⟨a, vs, rfl, hq, r⟩ := lsOf_sq hS rx e1
      exact ⟨a, vs, rfl, .inl ⟨hq, fun p hp => q _ _ ρ (Step.new hS hp) (hS.new hp) (rv_tup hS hp r)⟩⟩
    · obtain ⟨ys, e1, eq⟩ := bnd eq
      cases eq
      obtain ⟨a, vs, rfl, hq, r⟩ := tpOf_sq rx e1
      refine ⟨a, vs, rfl, .inr ⟨hq, q _ H ρ (Step.refl _ _) hS ?_⟩⟩
      unfold tpOf at e1
      split at e1
      · cases e1; exact rx
      · cases e1
  · cases eq
def anyO : OC := fun ds S => match ds with
  | [d] => (lsOf S d).bind fun xs => (blsOf xs).bind fun bs => some (.bl (bs.any id), S)
  | _ => none
def allO : OC := fun ds S => match ds with
  | [d] => (lsOf S d).bind fun xs => (blsOf xs).bind fun bs => some (.bl (bs.all id), S)
  | _ => none
theorem cbD_any : CbD K (rAny K) anyO := by
  intro xs H Q ρ S ds z S' hS rs eq q
  unfold anyO at eq
  split at eq
  · cases rs with | cons rx rn => ?_
    cases rn
    obtain ⟨ys, e1, eq⟩ := bnd eq
    obtain ⟨bs, e2, eq⟩ := bnd eq
    cases eq
    obtain ⟨a, vs, rfl, hq, r⟩ := lsOf_sq hS rx e1
    rw [blsOf_eq e2] at r
    rw [rvs_bls r] at hq
    exact ⟨a, bs, rfl, hq, q _ H ρ (Step.refl _ _) hS .bl⟩
  · cases eq
theorem cbD_all : CbD K (rAll K) allO := by
  intro xs H Q ρ S ds z S' hS rs eq q
  unfold allO at eq
  split at eq
  · cases rs with | cons rx rn => ?_
    cases rn
    obtain ⟨ys, e1, eq⟩ := bnd eq
    obtain ⟨bs, e2, eq⟩ := bnd eq
    cases eq
    obtain ⟨a, vs, rfl, hq, r⟩ := lsOf_sq hS rx e1
    rw [blsOf_eq e2] at r
    rw [rvs_bls r] at hq
    exact ⟨a, bs, rfl, hq, q _ H ρ (Step.refl _ _) hS .bl⟩
  · cases eq
def rSum2 (K : PySem.W.Frag) : List V → Hp → VK → Prop := fun vs H Q => rSum K vs H Q ∨ ∃ (a : Addr) (ns : List Int), vs = [V.ref a] ∧ SqT K H a (ns.map V.int) ∧ Q (.int ns.sum) H
theorem cr_sum2 {X : Cx} (hc : X.calm = true) : CallR X (.builtin "sum") (rSum2 X.K) := fun pins s σ H vs us Q I r h => by
  rcases h with h | ⟨a, ns, ev, hs, q⟩
  · exact cr_sum hc pins s σ H vs us Q I r h
  subst ev
  obtain ⟨its, rv, ht, _⟩ := I.tuple hs
  have hi := rv.ints
  obtain ⟨xs, hx⟩ := hi.allInts.items
  have hn : PySem.numsOf (PySem.intItems xs).toList = ns := hx ▸ hi.numsOf
  rw [PySem.nums_intItems] at hn
  rw [hx] at ht
  rw [Vals.ref1 r]
  refine PySem.W.ktm_sumG (I.ok.hd hc) ht fun h' tk t' hk => ⟨.int _, H, I.kept hk, ⟨_, rfl⟩, ?_⟩
  rw [PySem.preSum_eq, List.take_of_length_le (by simp), hn]; exact q
def sumO : OC := fun ds S => match ds with
  | [d] => (sqOf S d).bind fun xs => (intsOf xs).bind fun ns => some (.int ns.sum, S)
  | _ => none
theorem cbD_sum : CbD K (rSum2 K) sumO := by
  intro xs H Q ρ S ds z S' hS rs eq q
  unfold sumO at eq
  split at eq
  · cases rs with | cons rx rn => ?_
    cases rn
    obtain ⟨ys, e1, eq⟩ := bnd eq
    obtain ⟨ns, e2, eq⟩ := bnd eq
    cases eq
    obtain ⟨a, vs, rfl, hq, r⟩ := sqOf_sq hS rx e1
    rw [intsOf_eq e2] at r
    rw [rvs_ints r] at hq
    rcases hq with hq | hq
    · exact .inl ⟨a, ns, rfl, hq, q _ H ρ (Step.refl _ _) hS .int⟩
    · exact .inr ⟨a, ns, rfl, hq, q _ H ρ (Step.refl _ _) hS .int⟩
  · cases eq
/-! greatest, least, sorted of numbers -/
def maxI : List Int → Option Int
  | [] => none
  | x :: r => some (r.foldl (fun a b => if b > a then b else a) x)
theorem foldmax_le (r : List Int) : ∀ x : Int, x ≤ r.foldl (fun a b => if b > a then b else a) x ∧ (∀ y ∈ r, y ≤ r.foldl (fun a b => if b > a then b else a) x) ∧ (r.foldl (fun a b => if b > a then b else a) x = x ∨ r.foldl (fun a b => if b > a then b else a) x ∈ r) := by
  induction r with
  | nil => intro x; exact ⟨Int.le_refl _, fun y h => (by cases h), .inl rfl⟩
  | cons b r ih =>
    intro x
    obtain ⟨h1, h2, h3⟩ := ih (if b > x then b else x)
    rw [List.foldl_cons]
    refine ⟨Int.le_trans (by split <;> omega) h1, fun y hy => ?_, ?_⟩
    · rcases List.mem_cons.mp hy with rfl | hy
      · exact Int.le_trans (by split <;> omega) h1
      · exact h2 y hy
    · rcases h3 with h3 | h3
      · rw [h3]
        split
        · exact .inr List.mem_cons_self
        · exact .inl rfl
      · exact .inr (List.mem_cons_of_mem _ h3)
theorem maxI_spec {ns : List Int} {m : Int} (h : maxI ns = some m) : m ∈ ns ∧ ∀ y ∈ ns, y ≤ m := by
  cases ns with
  | nil => cases h
  | cons x r =>
    cases h
    obtain ⟨h1, h2, h3⟩ := foldmax_le r x
    refine ⟨?_, fun y hy => ?_⟩
    · rcases h3 with h3 | h3
      · rw [h3]; exact List.mem_cons_self
      · exact List.mem_cons_of_mem _ h3
    · rcases List.mem_cons.mp hy with rfl | hy
      · exact h1
      · exact h2 y hy
def maxO : OC := fun ds S => match ds with
  | [d] => (lsOf S d).bind fun xs => (intsOf xs).bind fun ns => (maxI ns).bind fun m => some (.int m, S)
  | _ => none
theorem cbD_max : CbD K (rMax K) maxO := by
  intro xs H Q ρ S ds z S' hS rs eq q
  unfold maxO at eq
  split at eq
  · cases rs with | cons rx rn => ?_
    cases rn
    obtain ⟨ys, e1, eq⟩ := bnd eq
    obtain ⟨ns, e2, eq⟩ := bnd eq
    obtain ⟨m, e3, eq⟩ := bnd eq
    cases eq
    obtain ⟨a, vs, rfl, hq, r⟩ := lsOf_sq hS rx e1
    rw [intsOf_eq e2] at r
    rw [rvs_ints r] at hq
    obtain ⟨h1, h2⟩ := maxI_spec e3
    refine ⟨a, ns, rfl, hq, List.length_pos_of_mem h1, fun m' hm hle => ?_⟩
    have e : m' = m := Int.le_antisymm (h2 m' hm) (hle m h1)
    subst e
    exact q _ H ρ (Step.refl _ _) hS .int
  · cases eq
def insI (x : Int) : List Int → List Int
  | [] => [x]
  | y :: r => if x ≤ y then x :: y :: r else y :: insI x r
def sortI : List Int → List Int
  | [] => []
  | x :: r => insI x (sortI r)
theorem insI_perm (x : Int) : ∀ l : List Int, (insI x l).Perm (x :: l)
  | [] => .refl _
  | y :: r => by
    unfold insI
    split
    · exact .refl _
    · exact ((insI_perm x r).cons y).trans (.swap x y r)
theorem sortI_perm : ∀ l : List Int, (sortI l).Perm l
  | [] => .refl _
  | x :: r => (insI_perm x (sortI r)).trans ((sortI_perm r).cons x)
theorem insI_sorted (x : Int) : ∀ l : List Int, l.Pairwise (· ≤ ·) → (insI x l).Pairwise (· ≤ ·)
  | [], _ => List.pairwise_singleton _ _
  | y :: r, h => by
    unfold insI
    rw [List.pairwise_cons] at h
    split
    · rename_i hxy
      rw [List.pairwise_cons, List.pairwise_cons]
      exact ⟨fun z hz => (List.mem_cons.mp hz).elim (fun e => e ▸ hxy) fun m => Int.le_trans hxy (h.1 z m), h⟩
    · rename_i hxy
      rw [List.pairwise_cons]
      refine ⟨fun z hz => ?_, insI_sorted x r h.2⟩
      rcases List.mem_cons.mp ((insI_perm x r).mem_iff.mp hz) with rfl | m
      · omega
      · exact h.1 z m
theorem sortI_sorted : ∀ l : List Int, (sortI l).Pairwise (· ≤ ·)
  | [] => .nil
  | x :: r => insI_sorted x _ (sortI_sorted r)
theorem sorted_eq {a b : List Int} (p : a.Perm b) (ha : a.Pairwise (· ≤ ·)) (hb : b.Pairwise (· ≤ ·)) : a = b := p.eq_of_pairwise (fun x y _ _ h1 h2 => Int.le_antisymm h1 h2) ha hb
def sortO : OC := fun ds S => match ds with
  | [d] => (lsOf S d).bind fun xs => (intsOf xs).bind fun ns => if ns.length < 64 then some (.lst ((sortI ns).map .int), S) else none
  | _ => none
theorem cbD_sort : CbD K (rSorted K) sortO := by
  intro xs H Q ρ S ds z S' hS rs eq q
  unfold sortO at eq
  split at eq
  · cases rs with | cons rx rn => ?_
    cases rn
    obtain ⟨ys, e1, eq⟩ := bnd eq
    obtain ⟨ns, e2, eq⟩ := bnd eq
    split at eq
    · cases eq
      obtain ⟨a, vs, rfl, hq, r⟩ := lsOf_sq hS rx e1
      rw [intsOf_eq e2] at r
      rw [rvs_ints r] at hq
      refine ⟨a, ns, rfl, hq, ‹_›, fun ns' p hp hs hn => ?_⟩
      have e : ns' = sortI ns := sorted_eq (hp.trans (sortI_perm ns).symm) hs (sortI_sorted ns)
      subst e
      exact q _ _ ρ (Step.new hS hn) (hS.new hn) (rv_lst hS hn (ints_rvs _))
    · cases eq
  · cases eq
/-! ### methods of Python's own -/
abbrev OM := D → List D → Sg → Option (D × Sg)
def MtD (K : PySem.W.Frag) (T : String) (r : V → List V → Hp → VK → Prop) (o : OM) (ok : Sg → D → Bool) : Prop := (∀ H ρ S v d, SR K H ρ S → RV K H ρ v d → ok S d = true → tyV K T v H) ∧
  ∀ x xs H Q ρ S d ds z S', SR K H ρ S → RV K H ρ x d → RVs K H ρ xs ds → o d ds S = some (z, S') → (∀ v H' ρ', Step ρ ρ' H H' → SR K H' ρ' S' → RV K H' ρ' v z → Q v H') → r x xs H Q
def bmD (ok : Sg → D → Bool) (o : OM) (fa : FE) (f : FA) : FE := fun δ S => (fa δ S).bind fun p => if ok p.2 p.1 = true then (f δ p.2).bind fun q => o p.1 q.1 q.2 else none
theorem le_bm {T : String} {r : V → List V → Hp → VK → Prop} {o : OM} {ok : Sg → D → Bool} {fa : FE} {f : FA} (h : MtD K T r o ok) : ∀ σ H Q, tD K (bmD ok o fa f) σ H Q → tBM K T r (tD K fa) (tDA K f) σ H Q := by
  rintro σ H Q ⟨ρ, δ, S, d, S', hS, hσ, e, q⟩
  obtain ⟨⟨x, S1⟩, e1, e⟩ := bnd e
  dsimp only at e
  split at e
  · rename_i hk
    obtain ⟨⟨y, S2⟩, e2, e⟩ := bnd e
    refine ⟨ρ, δ, S, x, S1, hS, hσ, e1, fun v H1 ρ1 s1 hS1 rv => ⟨h.1 _ _ _ _ _ hS1 rv hk, ρ1, δ, S1, y, S2, hS1, hσ.mono s1, e2, fun ws H2 ρ2 s2 hS2 rw' => ?_⟩⟩
    exact h.2 _ _ _ _ _ _ _ _ _ _ hS2 (rv.mono s2) rw' e fun z H3 ρ3 s3 hS3 rz => q z H3 ρ3 ((s1.trans s2).trans s3) hS3 rz
  · cases e
theorem le_bm0 {T : String} {r : V → List V → Hp → VK → Prop} {o : OM} {ok : Sg → D → Bool} {fa : FE} (h : MtD K T r o ok) : ∀ σ H Q, tD K (bmD ok o fa nilA) σ H Q → tBM0 K T r (tD K fa) σ H Q := by
  rintro σ H Q ⟨ρ, δ, S, d, S', hS, hσ, e, q⟩
  obtain ⟨⟨x, S1⟩, e1, e⟩ := bnd e
  dsimp only at e
  split at e
  · rename_i hk
    obtain ⟨⟨y, S2⟩, e2, e⟩ := bnd e
    cases e2
    refine ⟨ρ, δ, S, x, S1, hS, hσ, e1, fun v H1 ρ1 s1 hS1 rv => ⟨h.1 _ _ _ _ _ hS1 rv hk, ?_⟩⟩
    exact h.2 _ _ _ _ _ _ _ _ _ _ hS1 rv .nil e fun z H3 ρ3 s3 hS3 rz => q z H3 ρ3 (s1.trans s3) hS3 rz
  · cases e
def isLoc (S : Sg) (d : D) : Bool := (lsOf S d).isSome
theorem isLoc_ty {H : Hp} {ρ : Ro} {S : Sg} {v : V} {d : D} (hS : SR K H ρ S) (r : RV K H ρ v d) (h : isLoc S d = true) : tyV K "list" v H := by
  unfold isLoc at h
  cases e : lsOf S d with
  | none => rw [e] at h; cases h
  | some ds =>
    obtain ⟨a, vs, rfl, hq, _⟩ := lsOf_sq hS r e
    exact .inl ⟨rfl, vs, hq⟩
def appO : OM := fun d ds S => match d, ds with
  | .loc n, [y] => match S[n]? with
    | some (.lst xs) => if Fits (xs.length) then some (.non, S.set n (.lst (xs ++ [y]))) else none
    | _ => none
  | _, _ => none
theorem mtD_app : MtD K "list" rAppend appO isLoc := by
  refine ⟨fun _ _ _ _ _ hS r h => isLoc_ty hS r h, ?_⟩
  intro x xs H Q ρ S d ds z S' hS rx rs eq q
  unfold appO at eq
  split at eq
  · cases rs with | @cons vy _ _ _ ry rn => ?_
    cases rn
    cases rx with | loc hn => ?_
    split at eq
    · rename_i ys hy
      split at eq
      · cases eq
        obtain ⟨vs, h1, h2⟩ := hS.ob _ _ _ hn hy
        refine ⟨_, vs, _, rfl, rfl, h1, by rw [h2.len]; exact Fits.lt ‹_›, ?_⟩
        have st : Step ρ ρ H (upd H _ (.lst (vs ++ [vy]))) := Step.write hn h1
        exact q _ _ ρ st (hS.write hn ⟨_, h1⟩ ⟨_, upd_same, (h2.snoc ry).mono st⟩) .non
      · cases eq
    · cases eq
  · cases eq
def revO : OM := fun d ds S => match d, ds with
  | .loc n, [] => match S[n]? with
    | some (.lst xs) => some (.non, S.set n (.lst xs.reverse))
    | _ => none
  | _, _ => none
theorem mtD_rev : MtD K "list" rReverse revO isLoc := by
  refine ⟨fun _ _ _ _ _ hS r h => isLoc_ty hS r h, ?_⟩
  intro x xs H Q ρ S d ds z S' hS rx rs eq q
  unfold revO at eq
  split at eq
  · cases rs
    cases rx with | loc hn => ?_
    split at eq
    · rename_i ys hy
      cases eq
      obtain ⟨vs, h1, h2⟩ := hS.ob _ _ _ hn hy
      refine ⟨_, vs, rfl, rfl, h1, ?_⟩
      have st : Step ρ ρ H (upd H _ (.lst vs.reverse)) := Step.write hn h1
      exact q _ _ ρ st (hS.write hn ⟨_, h1⟩ ⟨_, upd_same, h2.rev.mono st⟩) .non
    · cases eq
  · cases eq
def extO : OM := fun d ds S => match d, ds with
  | .loc n, [e] => match S[n]? with
    | some (.lst xs) => (plOf S e).bind fun ys => if Fits (xs.length + ys.length) then some (.non, S.set n (.lst (xs ++ ys))) else none
    | _ => none
  | _, _ => none
theorem mtD_ext : MtD K "list" rExtend extO isLoc := by
  refine ⟨fun _ _ _ _ _ hS r h => isLoc_ty hS r h, ?_⟩
  intro x xs H Q ρ S d ds z S' hS rx rs eq q
  unfold extO at eq
  split at eq
  · cases rs with | cons ry rn => ?_
    cases rn
    cases rx with | loc hn => ?_
    split at eq
    · rename_i xs' hy
      obtain ⟨ys, e1, eq⟩ := bnd eq
      split at eq
      · cases eq
        obtain ⟨vs, h1, h2⟩ := hS.ob _ _ _ hn hy
        obtain ⟨b, ws, rfl, h3, h4⟩ := plOf_sq hS ry e1
        refine ⟨_, b, vs, ws, rfl, rfl, h1, h3, by rw [h2.len, h4.len]; exact Fits.le ‹_›, ?_⟩
        have st : Step ρ ρ H (upd H _ (.lst (vs ++ ws))) := Step.write hn h1
        exact q _ _ ρ st (hS.write hn ⟨_, h1⟩ ⟨_, upd_same, (h2.append h4).mono st⟩) .non
      · cases eq
    · cases eq
  · cases eq
def isStr (_ : Sg) : D → Bool
  | .str _ => true
  | _ => false
theorem isStr_ty {H : Hp} {ρ : Ro} {S : Sg} {v : V} {d : D} (_ : SR K H ρ S) (r : RV K H ρ v d) (h : isStr S d = true) : tyV K "str" v H := by
  cases d <;> cases h
  cases r
  rfl
def joinO : OM := fun d ds S => match d, ds with
  | .str a, [e] => (sqOf S e).bind fun xs => (strsOf xs).bind fun ys => if Fits ((ys.map (·.length)).sum + ys.length * a.length) then some (.str (Txt.join a ys), S) else none
  | _, _ => none
theorem mtD_join : MtD K "str" (fun x xs H Q => ∃ a p, ∃ ys : List Str, x = .str a ∧ xs = [.ref p] ∧ (SqL K H p (ys.map V.str) ∨ SqT K H p (ys.map V.str)) ∧
    (ys.map (·.length)).sum + ys.length * a.length ≤ 16777216 ∧ Q (.str (Txt.join a ys)) H) joinO isStr := by
  refine ⟨fun _ _ _ _ _ hS r h => isStr_ty hS r h, ?_⟩
  intro x xs H Q ρ S d ds z S' hS rx rs eq q
  unfold joinO at eq
  split at eq
  · cases rs with | cons ry rn => ?_
    cases rn
    cases rx
    obtain ⟨xs', e1, eq⟩ := bnd eq
    obtain ⟨ys, e2, eq⟩ := bnd eq
    split at eq
    · cases eq
      obtain ⟨a, vs, rfl, hq, r⟩ := sqOf_sq hS ry e1
      rw [strsOf_eq e2] at r
      rw [rvs_strs r] at hq
      exact ⟨_, a, ys, rfl, rfl, hq, Nat.le_of_lt (Nat.lt_of_lt_of_le ((fits_iff _).mp ‹_›) (by decide)), q _ H ρ (Step.refl _ _) hS .str⟩
    · cases eq
  · cases eq
/-- t[i:j] of a text -/
def slSO : O3 := fun d lo hi S => match d with
  | .str z => if Fits (z.length) then some (.str (cutS z lo hi), S) else none
  | _ => none
theorem slD_S : SlD K rSlS slSO := by
  intro x lo hi H Q ρ S d z S' hS rx eq q
  unfold slSO at eq
  split at eq
  · cases rx
    split at eq
    · cases eq
      exact ⟨_, rfl, Fits.le ‹_›, q _ H ρ (Step.refl _ _) hS .str⟩
    · cases eq
  · cases eq
end
end DL
end
noncomputable section
namespace DL
open PySem L2
section
variable {X : Cx} {a b c e : Expr} {es : List Expr} {pos p : Pos} {f g h : FE} {fa fb : FA} {ft gt : FT} {fs gs : FS}
theorem jv {i : Nat} (h : PE X e (tVar i)) : JE X e (varD i) := PE.imp h le_var
theorem jc {v : V} {d : D} (h : PE X e (tC v)) (q : Plain v d) : JE X e (cD d) := PE.imp h (le_c fun _ _ => q.rv)
theorem ji {i : Int} {j} : JE X (.Constant (.int i) j pos) (cD (.int i)) := jc pe_int .int
theorem jb {i : Bool} {j} : JE X (.Constant (.bool i) j pos) (cD (.bl i)) := jc pe_bl .bl
theorem js {i : Str} {j} : JE X (.Constant (.str i) j pos) (cD (.str i)) := jc pe_str .str
theorem jn {j} : JE X (.Constant .none j pos) (cD .non) := jc pe_non .non
theorem jgi {x : Str} {i : Int} (h : ∃ t, X.mg x = some (.int i t)) (hg : Gl X x := by rfl) (hd : (x == ("__debug__" : Str)) = false := by decide) : JE X (.Name x pos) (cD (.int i)) := by
  obtain ⟨t, h⟩ := h
  exact jc (pe_glob (v := .int i) hg h ⟨_, rfl⟩ hd) .int
theorem jgs {x z : Str} (h : ∃ t, X.mg x = some (.str z t)) (hg : Gl X x := by rfl) (hd : (x == ("__debug__" : Str)) = false := by decide) : JE X (.Name x pos) (cD (.str z)) := by
  obtain ⟨t, h⟩ := h
  exact jc (pe_glob (v := .str z) hg h ⟨_, rfl⟩ hd) .str
theorem jty {x : Str} {n : String} (hm : X.mg x = none) (hv : bootBuiltins x = some (.type n)) (hg : Gl X x := by rfl) (hn : x ≠ "__name__" := by decide) (hd : (x == ("__debug__" : Str)) = false := by decide) : JE X (.Name x pos) (cD (.ty n)) :=
  jc (pe_bltn (v := .ty n) hg hm hv rfl hn hd) .ty
theorem jop {op : Operator} {r : R2} {o : O2} (ho : OpR X (binaryOp op) r) (hd : OpD X.K r o) (ha : JE X a f) (hb : JE X b g) : JE X (.BinOp a op b pos) (op2D o f g) := PE.imp (pe_op ho ha hb) (le_op hd)
theorem jadd (ha : JE X a f) (hb : JE X b g) : JE X (.BinOp a .Add b pos) (op2D addO f g) := jop op_add3 opD_add ha hb
theorem jsub (ha : JE X a f) (hb : JE X b g) : JE X (.BinOp a .Sub b pos) (op2D subO f g) := jop op_sub (opD_int0 fun _ _ => .int) ha hb
theorem jmul (ha : JE X a f) (hb : JE X b g) : JE X (.BinOp a .Mult b pos) (op2D mulO f g) := jop op_mul2 opD_mul ha hb
theorem jmod (ha : JE X a f) (hb : JE X b g) : JE X (.BinOp a .Mod b pos) (op2D modO f g) := jop op_mod opD_mod ha hb
theorem jfdiv (ha : JE X a f) (hb : JE X b g) : JE X (.BinOp a .FloorDiv b pos) (op2D fdivO f g) := jop op_fdivW opD_fdiv ha hb
theorem jpow (ha : JE X a f) (hb : JE X b g) : JE X (.BinOp a .Pow b pos) (op2D powO f g) := jop op_pow opD_pow ha hb
theorem jneg (ha : JE X a f) : JE X (.UnaryOp .USub a pos) (op1D negO f) := PE.imp (pe_un un_neg ha) (le_un unD_neg)
/-! comparisons -/
theorem le_B' {K : PySem.W.Frag} {t : TE} (q : ∀ σ H Q, tD K f σ H Q → t σ H Q) : ∀ σ H Q, tDT K (tvD f) σ H Q → tB t σ H Q := fun σ H Q x => q σ H _ (le_B σ H Q x)
theorem le_test' {K : PySem.W.Frag} {t : TE} (q : ∀ σ H Q, tD K f σ H Q → t σ H Q) : ∀ σ H Q, tDT K (tvD f) σ H Q → tTest t σ H Q := fun σ H Q x => q σ H _ (le_B σ H Q x)
/-- a comparison's rule with what it does -/
structure JC (X : Cx) (op : CmpOp) (a b : Expr) (f : FE) : Prop where
  ex : ∃ t, PC X op a b t ∧ ∀ σ H Q, tD X.K f σ H Q → t σ H Q
theorem jlt (ha : JE X a f) (hb : JE X b g) : JC X .Lt a b (op2D (cmpO fun i j => decide (i < j)) f g) := ⟨⟨_, pc_lt ha hb, le_cmp⟩⟩
theorem jle (ha : JE X a f) (hb : JE X b g) : JC X .LtE a b (op2D (cmpO fun i j => decide (i ≤ j)) f g) := ⟨⟨_, pc_le ha hb, le_cmp⟩⟩
theorem jgt (ha : JE X a f) (hb : JE X b g) : JC X .Gt a b (op2D (cmpO fun i j => decide (j < i)) f g) := ⟨⟨_, pc_gt ha hb, le_cmp⟩⟩
theorem jge (ha : JE X a f) (hb : JE X b g) : JC X .GtE a b (op2D (cmpO fun i j => decide (j ≤ i)) f g) := ⟨⟨_, pc_ge ha hb, le_cmp⟩⟩
theorem jisN {j} {pos'} (ha : JE X a f) : JC X .Is a (.Constant .none j pos') (op1D (isNO false) f) := ⟨⟨_, pc_isN ha, le_isN⟩⟩
theorem jnotN {j} {pos'} (ha : JE X a f) : JC X .IsNot a (.Constant .none j pos') (op1D (isNO true) f) := ⟨⟨_, pc_notN ha, le_notN⟩⟩
theorem jcmp {op : CmpOp} (q : JC X op a b f) (h1 : behindInMarks op b = false := by first | exact nobehind _ (by decide) (by decide) | rfl) : JE X (.Compare a [op] [b] pos) f := by
  obtain ⟨t, q, i⟩ := q.ex
  exact PE.imp (pe_cmp q h1) i
theorem jtcmp {op : CmpOp} (q : JC X op a b f) (h1 : behindInMarks op b = false := by first | exact nobehind _ (by decide) (by decide) | rfl) : JT X (.Compare a [op] [b] pos) (tvD f) := by
  obtain ⟨t, q, i⟩ := q.ex
  exact PT.imp (pt_cmp q h1) (le_B' i)
theorem jcmpR {op : CmpOp} {r : R2} {o : O2} (ho : OpR X (compareOp op) r) (hd : OpD X.K r o) (ha : JE X a f) (hb : JE X b g) (hm : behindInMarks op b = false := by first | exact nomark _ | rfl) : JE X (.Compare a [op] [b] pos) (op2D o f g) := PE.imp (pe_cmpR ho ha hb hm) (le_op hd)
theorem jtcmpR {op : CmpOp} {r : R2} {o : O2} (ho : OpR X (compareOp op) r) (hd : OpD X.K r o) (ha : JE X a f) (hb : JE X b g) (hm : behindInMarks op b = false := by first | exact nomark _ | rfl) : JT X (.Compare a [op] [b] pos) (tvD (op2D o f g)) := PT.imp (pt_cmpR ho ha hb hm) (le_test' (le_op hd))
theorem jeq (ha : JE X a f) (hb : JE X b g) : JE X (.Compare a [.Eq] [b] pos) (op2D eqO f g) := jcmpR op_eq opD_eq ha hb
theorem jteq (ha : JE X a f) (hb : JE X b g) : JT X (.Compare a [.Eq] [b] pos) (tvD (op2D eqO f g)) := jtcmpR op_eq opD_eq ha hb
theorem jne (ha : JE X a f) (hb : JE X b g) : JE X (.Compare a [.NotEq] [b] pos) (op2D neO f g) := jcmpR op_ne opD_ne ha hb
theorem jtne (ha : JE X a f) (hb : JE X b g) : JT X (.Compare a [.NotEq] [b] pos) (tvD (op2D neO f g)) := jtcmpR op_ne opD_ne ha hb
theorem jchain {op op' : CmpOp} {r r' : R2} {o o' : O2} (ho : OpR X (compareOp op) r) (hd : OpD X.K r o) (ho' : OpR X (compareOp op') r') (hd' : OpD X.K r' o') (ha : JE X a f) (hb : JE X b g) (hc : JE X c h)
    (hm : lastMarks [op, op'] [b, c] = false := by with_unfolding_all rfl) : JE X (.Compare a [op, op'] [b, c] pos) (chainD o o' f g h) := PE.imp (pe_chain ho ho' ha hb hc hm) (le_chain hd hd')
theorem jtchain {op op' : CmpOp} {r r' : R2} {o o' : O2} (ho : OpR X (compareOp op) r) (hd : OpD X.K r o) (ho' : OpR X (compareOp op') r') (hd' : OpD X.K r' o') (ha : JE X a f) (hb : JE X b g) (hc : JE X c h)
    (hm : lastMarks [op, op'] [b, c] = false := by with_unfolding_all rfl) : JT X (.Compare a [op, op'] [b, c] pos) (tvD (chainD o o' f g h)) := PT.imp (pt_chain ho ho' ha hb hc hm) (le_test' (le_chain hd hd'))
theorem dle {K : PySem.W.Frag} : OpD K (rI0 fun i j => .bl (decide (i ≤ j))) (cmpO fun i j => decide (i ≤ j)) := opD_int0 fun _ _ => .bl
theorem dlt {K : PySem.W.Frag} : OpD K (rI0 fun i j => .bl (decide (i < j))) (cmpO fun i j => decide (i < j)) := opD_int0 fun _ _ => .bl
/-! tests -/
theorem jtv (q : JE X e f) (he : ∀ whole, isTrue e X.env whole = (do let v ← whole; standAt e.pos; holding [v] (truthy v)) := by intro _; rfl) : JT X e (tvD f) := PT.imp (pt_val q he) le_B
theorem jtnot (ha : JT X a ft) : JT X (.UnaryOp .Not a pos) (notD ft) := PT.imp (pt_not ha) le_not
theorem PW.imp {e : Expr} {t t' : TT} (q : PW X e t) (i : ∀ σ H Q, t' σ H Q → t σ H Q) : PW X e t' := ⟨fun w pins s σ H Q I x => q.run w pins s σ H Q I (i σ H Q x)⟩
theorem jwand {rest : List Expr} (ha : JT X a ft) (hb : JW X (.BoolOp .And (b :: rest) pos) gt) : JW X (.BoolOp .And (a :: b :: rest) pos) (andD ft gt) := PW.imp (pw_and ha hb) le_and
theorem jwand1 (ha : JT X a ft) : JW X (.BoolOp .And [a] pos) ft := pw_and1 ha
theorem jwor {rest : List Expr} (ha : JT X a ft) (hb : JW X (.BoolOp .Or (b :: rest) pos) gt) : JW X (.BoolOp .Or (a :: b :: rest) pos) (orD ft gt) := PW.imp (pw_or ha hb) le_or
theorem jwor1 (ha : JT X a ft) : JW X (.BoolOp .Or [a] pos) ft := pw_or1 ha
theorem jwt (q : JW X e ft) : JT X e ft := PW.pt q
theorem jand {rest : List Expr} (ha : JE X a f) (hb : JE X (.BoolOp .And (b :: rest) pos) g) : JE X (.BoolOp .And (a :: b :: rest) pos) (andV f g) := PE.imp (pe_and ha hb) le_andV
theorem jor {rest : List Expr} (ha : JE X a f) (hb : JE X (.BoolOp .Or (b :: rest) pos) g) : JE X (.BoolOp .Or (a :: b :: rest) pos) (orV f g) := PE.imp (pe_or ha hb) le_orV
theorem jone {op} (ha : JE X a f) : JE X (.BoolOp op [a] pos) f := pe_one ha
theorem jnot (ha : JE X a f) : JE X (.UnaryOp .Not a pos) (notV f) := PE.imp (pe_not ha) le_notV
theorem jif (hc : JT X c ft) (ha : JE X a f) (hb : JE X b g) : JE X (.IfExp c a b pos) (iteV ft f g) := PE.imp (pe_ifExp hc ha hb) le_ite
/-! arguments, displays -/
theorem janil : JA X [] nilA := PA.imp pa_nil le_nilA
theorem jacons (ha : JE X e f) (hr : JA X es fa) (hs : starEach (e :: es) X.env = (false, eval e X.env) :: starEach es X.env := by rfl) : JA X (e :: es) (consA f fa) := PA.imp (pa_cons ha hr hs) le_consA
theorem jtup {x1} (q : JA X es fa) : JE X (.Tuple es x1 pos) (tupD fa) := PE.imp (pe_tup q) le_tup
theorem jlst (q : JA X es fa) : JE X (.List es pos) (lstD fa) := PE.imp (pe_lst q) le_lst
theorem jnew (q : JA X es fa) : JE X (.List es pos) (newD fa) := PE.imp (pe_lst q) le_new
theorem jix (ha : JE X a f) (hb : JE X b g) (hs : PlainIx b := by exact fun _ _ => rfl) : JE X (.Subscript a b pos) (op2D ixO f g) := PE.imp (pe_ix ix_seq ha hb hs) (le_op opD_ix)
theorem jonone : JO X none noO := by
  exact ⟨fun pins s σ H Q I q => (po_none (X := X)).run pins s σ H Q I (le_noO σ H Q q)⟩
theorem josome (q : JE X e f) : JO X (some e) (someO f) := by
  exact ⟨fun pins s σ H Q I z => (po_some q).run pins s σ H Q I (le_someO σ H Q z)⟩
theorem jsl {lo hi : Option Expr} {p2 : Pos} {r : V → Option Int → Option Int → Hp → VK → Prop} {o : O3} {fl fh : FO} (hr : SlR X r) (hd : SlD X.K r o) (he : JE X e f) (hl : JO X lo fl) (hu : JO X hi fh) : JE X (.Subscript e (.Slice lo hi none p2) pos) (slD o f fl fh) := PE.imp (pe_slice hr he hl hu) (le_sl hd)
theorem jcb {x : Str} {id : String} {r : List V → Hp → VK → Prop} {o : OC} (hc : CallR X (.builtin id) r) (hd : CbD X.K r o) (hm : X.mg x = none) (hv : bootBuiltins x = some (.builtin id)) (ha : JA X (e :: es) fa) (hg : Gl X x := by rfl) (hn : x ≠ "__name__" := by decide) (hdb : (x == ("__debug__" : Str)) = false := by decide)
    (he : starEach (e :: es) X.env = (false, eval e X.env) :: starEach es X.env := by rfl) (hpl : (backTo pos (starEach es X.env)).any (·.1) = false := by rfl) : JE X (.Call (.Name x p) (e :: es) [] pos) (cbD o fa) := PE.imp (pe_callB hc hg hm hv ha hn hdb he hpl) (le_cb hd)
theorem jct {x : Str} {T : String} {r : List V → Hp → VK → Prop} {o : OC} (hc : CallR X (.type T) r) (hd : CbD X.K r o) (hm : X.mg x = none) (hv : bootBuiltins x = some (.type T)) (ha : JA X (e :: es) fa) (hg : Gl X x := by rfl) (hn : x ≠ "__name__" := by decide) (hdb : (x == ("__debug__" : Str)) = false := by decide)
    (he : starEach (e :: es) X.env = (false, eval e X.env) :: starEach es X.env := by rfl) (hpl : (backTo pos (starEach es X.env)).any (·.1) = false := by rfl) : JE X (.Call (.Name x p) (e :: es) [] pos) (cbD o fa) := PE.imp (pe_callTy hc hg hm hv ha hn hdb he hpl) (le_cb hd)
theorem jbm {o : Expr} {name : Str} {apos : Pos} {T id : String} {r : V → List V → Hp → VK → Prop} {od : OM} {ok : Sg → D → Bool} (pa : PlainAttrs T) (slot : Slot T name id) (hty : typeOf (.builtin id) = pure (.type "method_descriptor")) (hm : MtR X id r) (hd : MtD X.K T r od ok) (ho : JE X o f) (ha : JA X (e :: es) fa)
    (hbase : attributeBase o name X.env (eval o X.env) = eval o X.env := by rfl)
    (hfew : ((backTo pos (starEach (e :: es) X.env)).all (fun x => !x.1) && (backToKw pos (keywordEach [] X.env)).all (fun x => x.1.isSome)
      && decide ((e :: es).length + ([] : List Keyword).length + (if ([] : List Keyword).isEmpty then 0 else 1) < 30)) = true := by rfl)
    (hline : (apos.endLine == pos.line) = true := by rfl) (hs : starEach (e :: es) X.env = (false, eval e X.env) :: starEach es X.env := by rfl) (hplain : (backTo pos (starEach es X.env)).any (·.1) = false := by rfl) :
    JE X (.Call (.Attribute o name apos) (e :: es) [] pos) (bmD ok od f fa) := PE.imp (pe_bm pa slot hty hm ho ha hbase hfew hline hs hplain) (le_bm hd)
theorem jbm0 {o : Expr} {name : Str} {apos : Pos} {T id : String} {r : V → List V → Hp → VK → Prop} {od : OM} {ok : Sg → D → Bool} (pa : PlainAttrs T) (slot : Slot T name id) (hty : typeOf (.builtin id) = pure (.type "method_descriptor")) (hm : MtR X id r) (hd : MtD X.K T r od ok) (ho : JE X o f)
    (hbase : attributeBase o name X.env (eval o X.env) = eval o X.env := by rfl) (hline : (apos.endLine == pos.line) = true := by rfl) : JE X (.Call (.Attribute o name apos) [] [] pos) (bmD ok od f nilA) := PE.imp (pe_bm0 pa slot hty hm ho hbase hline) (le_bm0 hd)
theorem jfld {C : Addr} {fl : Str} (cl : Cls X.K C) (n : NoAttr X.K C fl) (he : JE X e f) (hb : attributeBase e fl X.env (eval e X.env) = eval e X.env := by rfl) : JE X (.Attribute e fl pos) (fldD C fl f) := PE.imp (pe_fld he hb) (le_fld cl n)
/-! ### calls of defs of the text -/
/-- the def x does F (at level k) -/
structure Df (P : Program) (w : World) (K : PySem.W.Frag) (mg : Str → Option Value) (base : Heap) (x : Str) (k : Nat) (ps : List Str) (F : Fn) : Prop where
  ex : ∃ (f : Addr) (fd : FuncData), FnOk P w K mg base CX0 k f fd ps (spD K ps.length F) ∧ mg x = some (.ref f) ∧ PySem.W.keepIn K (.ref f) = true ∧ Binds K fd ps []
theorem args_len : ∀ {es : List Expr} {fa : FA}, (∀ δ S ds S', fa δ S = some (ds, S') → ds.length = es.length) → ∀ {e : Expr} {f : FE} δ S ds S', consA f fa δ S = some (ds, S') → ds.length = (e :: es).length := by
  intro es fa h e f δ S ds S' q
  obtain ⟨⟨x, S1⟩, e1, q⟩ := bnd q
  obtain ⟨⟨y, S2⟩, e2, q⟩ := bnd q
  cases q
  rw [List.length_cons, List.length_cons, h _ _ _ _ e2]
/-- how many things are handed in -/
def NA (n : Nat) (fa : FA) : Prop := ∀ δ S ds S', fa δ S = some (ds, S') → ds.length = n
theorem na0 : NA 0 nilA := fun _ _ _ _ h => by cases h; rfl
theorem na {n : Nat} (h : NA n fa) : NA (n + 1) (consA f fa) := fun δ S ds S' q => by
  obtain ⟨⟨x, S1⟩, e1, q⟩ := bnd q
  obtain ⟨⟨y, S2⟩, e2, q⟩ := bnd q
  cases q
  rw [List.length_cons, h _ _ _ _ e2]
theorem jfn {x : Str} {k : Nat} {ps : List Str} {F : Fn} {p : Pos} (Z : Df X.prog X.w X.K X.mg X.base x k ps F) (hr : Room k X.A) (ha : JA X (e :: es) fa) (hn : NA ps.length fa := by repeat (first | exact na0 | apply na))
    (hg : Gl X x := by rfl) (hdb : (x == ("__debug__" : Str)) = false := by decide) (he : starEach (e :: es) X.env = (false, eval e X.env) :: starEach es X.env := by rfl) (hpl : (backTo pos (starEach es X.env)).any (·.1) = false := by rfl) :
    JE X (.Call (.Name x p) (e :: es) [] pos) (fnD F [] fa) := by
  obtain ⟨f, fd, Fk, hm, kp, b⟩ := Z.ex
  exact PE.imp (pe_call Fk hr hg hm kp b .nil pass0 ha hdb he hpl) (le_fn (fun _ _ => .nil) fun δ S ds S' q => by rw [List.append_nil]; exact hn δ S ds S' q)
/-- a method of an own class -/
structure Dm (P : Program) (w : World) (K : PySem.W.Frag) (mg : Str → Option Value) (base : Heap) (C : Addr) (m : Str) (k : Nat) (ps : List Str) (F : Fn) : Prop where
  ex : ∃ (f : Addr) (fd : FuncData), FnOk P w K mg base CX0 k f fd ps (spD K ps.length F) ∧ Cls K C ∧ Meth K C m f ∧ Binds K fd ps []
theorem jmt {C : Addr} {m : Str} {k : Nat} {ps : List Str} {F : Fn} {apos : Pos} {o : Expr} {pl : Sem Bool} (Z : Dm X.prog X.w X.K X.mg X.base C m k ps F) (hr : Room k X.A) (he : JE X o f) (ha : JA X (e :: es) fa) (hn : NA (ps.length - 1) fa := by repeat (first | exact na0 | apply na)) (hps : ps ≠ [] := by decide)
    (hst : starEach (e :: es) X.env = (false, eval e X.env) :: starEach es X.env := by rfl) (hpl : (backTo pos (starEach es X.env)).any (·.1) = false := by rfl)
    (ht : eval (.Call (.Attribute o m apos) (e :: es) [] pos) X.env = (do
      let ov ← eval o X.env
      standAt apos.atName
      let (f, first) ← holding [ov] (getMethod ov m pl)
      callWith pos f first (backTo pos (starEach (e :: es) X.env)) (backToKw pos (keywordEach [] X.env))) := by rfl) :
    JE X (.Call (.Attribute o m apos) (e :: es) [] pos) (methD C m F [] f fa) := by
  obtain ⟨f, fd, Fk, c, m, b⟩ := Z.ex
  refine PE.imp (pe_meth he c m Fk hr b .nil pass0 ha hst hpl ht) (le_meth (fun _ _ => .nil) fun δ S ds S' q => ?_)
  rw [List.append_nil, hn δ S ds S' q]
  have : 0 < ps.length := List.length_pos_iff.mpr hps
  omega
theorem jmt0 {C : Addr} {m : Str} {k : Nat} {ps : List Str} {F : Fn} {apos : Pos} {o : Expr} {pl : Sem Bool} (Z : Dm X.prog X.w X.K X.mg X.base C m k ps F) (hr : Room k X.A) (he : JE X o f) (hps : ps.length = 1 := by rfl)
    (ht : eval (.Call (.Attribute o m apos) [] [] pos) X.env = (do
      let ov ← eval o X.env
      standAt apos.atName
      let (f, first) ← holding [ov] (getMethod ov m pl)
      callWith pos f first (backTo pos (starEach [] X.env)) (backToKw pos (keywordEach [] X.env))) := by rfl) :
    JE X (.Call (.Attribute o m apos) [] [] pos) (methD C m F [] f nilA) := by
  obtain ⟨f, fd, Fk, c, m, b⟩ := Z.ex
  refine PE.imp (pe_meth0 he c m Fk hr b .nil pass0 ht) (fun σ H Q z => ?_)
  have z1 := le_meth (K := X.K) (E := E0) (n := ps.length) (fun _ _ => .nil) (fun δ S ds S' q => by cases q; rw [hps]; rfl) σ H Q z
  obtain ⟨ρ, δ, S, d, S', h1, h2, h3, q⟩ := z1
  refine ⟨ρ, δ, S, d, S', h1, h2, h3, fun v H' ρ' s hS r => ?_⟩
  obtain ⟨a, dx, fs, e1, e2, e3, t⟩ := q v H' ρ' s hS r
  exact ⟨a, dx, fs, e1, e2, e3, le_nilA σ H' _ t⟩
/-- a class of the text, made with all arguments, or with the last ones left out (dvs) -/
structure Dk (P : Program) (w : World) (K : PySem.W.Frag) (mg : Str → Option Value) (base : Heap) (x : Str) (C : Addr) (k : Nat) (ps : List Str) (dvs : List V) (F : Fn) : Prop where
  ex : ∃ (f : Addr) (fd : FuncData) (ds : List Value), Mk K C f ∧ FnOk P w K mg base CX0 k f fd ps (spD K ps.length F) ∧ mg x = some (.ref C) ∧ Vals dvs ds ∧ Binds K fd ps ds
theorem jmk {φ : Nat → D → Sg → Option (D × Sg)} {x : Str} {C : Addr} {k : Nat} {ps : List Str} {dvs : List V} {dds : List D} {F : Fn} {p : Pos} (hφ : FinOk X.K φ) (Z : Dk X.prog X.w X.K X.mg X.base x C k ps dvs F) (hd : ∀ H ρ, RVs X.K H ρ dvs dds) (hr : Room (k + 1) X.A) (ha : JA X (e :: es) fa) (hn : NA (ps.length - 1 - dds.length) fa := by repeat (first | exact na0 | apply na)) (hl : dds.length + 1 ≤ ps.length := by decide)
    (hg : Gl X x := by rfl) (hdb : (x == ("__debug__" : Str)) = false := by decide) (he : starEach (e :: es) X.env = (false, eval e X.env) :: starEach es X.env := by rfl) (hpl : (backTo pos (starEach es X.env)).any (·.1) = false := by rfl) :
    JE X (.Call (.Name x p) (e :: es) [] pos) (mkD φ C F dds fa) := by
  obtain ⟨f, fd, ds, M, Fk, hm, hv, b⟩ := Z.ex
  refine PE.imp (pe_make M Fk hr hg hm b hv pass0 ha hdb he hpl) (le_mk hφ hd fun δ S ds S' q => ?_)
  rw [List.length_append, hn δ S ds S' q]
  omega
/-! ### statements -/
theorem jsset {i : Nat} {x : Str} {pos' : Pos} (hN : X.N.Nodup) (hi : X.N[i]? = some x) (hx : Loc X.env.scope x) (he : JE X e f) (hs : swapsWith e (some (.Name x pos')) pos.line X.env = pure false := by rfl) (hf : X.fn x = true ∨ X.env.scope.names.lookup x = some .local := by first | exact .inl rfl | exact .inr rfl | assumption) :
    JS X (.Assign [.Name x pos'] e pos) (setS i f) := PS.imp (ps_set hN hi hx he hs hf) ls_set
theorem jsasg {tg : Expr} {gr : TG} {o : FG} (he : JE X e f) (hg : PG X tg gr) (lg : LG X.K gr o) (hs : swapsWithSole [tg] e pos.line X.env = pure false := by rfl) (hw : swappedStores [tg] e X.env = pure none := by rfl)
    (h1 : (assignEach [tg] X.env).map (·.2) = [assign tg X.env] := by rfl) : JS X (.Assign [tg] e pos) (asgS f o) := PS.imp (ps_asg he hg hs hw h1) (ls_asg lg)
theorem jsret (he : JE X e f) : JS X (.Return (some e) pos) (retS f) := PS.imp (ps_ret he) ls_ret
theorem jsretN : JS X (.Return none pos) retNS := PS.imp ps_retN ls_retN
theorem jsexpr (he : JE X e f) (hs : swapsWith e none pos.line X.env = pure false := by rfl) : JS X (.Expr e pos) (dropS f) := PS.imp (ps_expr he hs) ls_drop
theorem jspass : JS X (.Pass pos) nextS := PS.imp ps_pass ls_next
theorem jsbreak : JS X (.Break pos) breakS := PS.imp ps_break ls_break
theorem jscont : JS X (.Continue pos) contS := PS.imp ps_continue ls_cont
theorem jsif {sa sb : List Stmt} (hc : JT X c ft) (ha : JSs X sa fs) (hb : JSs X sb gs) : JS X (.If c sa sb pos) (ifS ft fs gs) := PS.imp (ps_if hc ha hb) ls_if
theorem jsnever {st : Stmt} : JS X st neverS := PS.imp ps_never ls_never
theorem jsaug {i : Nat} {x : Str} {op : Operator} {ti : TIp} {o : O2} {pos' : Pos} (hN : X.N.Nodup) (hi : X.N[i]? = some x) (hx : Loc X.env.scope x) (he : JE X e f) (ho : PIp X op ti) (hd : OpD X.K ti o) (hf : X.fn x = true ∨ X.env.scope.names.lookup x = some .local := by first | exact .inl rfl | exact .inr rfl | assumption) :
    JS X (.AugAssign (.Name x pos') op e pos) (augS i f o) := PS.imp (ps_aug hN hi hx he ho hf) (ls_aug hd)
theorem jsfld {C : Addr} {fl : Str} {o value : Expr} {pos' : Pos} (cl : Cls X.K C) (n : NoAttr X.K C fl) (ha : JE X o f) (hv : JE X value g) (hs : swapsWith value (some (.Attribute o fl pos')) pos.line X.env = pure false := by rfl) : JS X (.Assign [.Attribute o fl pos'] value pos) (fldS C fl f g) := PS.imp (ps_fld ha hv hs) (ls_fld cl n)
theorem jspar {i j : Nat} {x y : Str} {px py pt : Pos} {kt k2 pt2} (hc : X.calm = true) (hN : X.N.Nodup) (hi : X.N[i]? = some x) (hj : X.N[j]? = some y) (hij : i ≠ j)
    (hx : X.env.scope.names.lookup x = some .local) (hy : X.env.scope.names.lookup y = some .local) (ha : JA X [a, b] fa)
    (hw : swappedStores [.Tuple [.Name x px, .Name y py] kt pt] (.Tuple [a, b] k2 pt2) X.env = pure (some [x, y]))
    (hs : swapsWithSole [.Tuple [.Name x px, .Name y py] kt pt] (.Tuple [a, b] k2 pt2) pos.line X.env = pure false := by rfl) :
    JS X (.Assign [.Tuple [.Name x px, .Name y py] kt pt] (.Tuple [a, b] k2 pt2) pos) (parS i j fa) := PS.imp (ps_par hc hN hi hj hij hx hy ha hw hs) ls_par
theorem jsfor {tg iter : Expr} {body : List Stmt} {wi : TI} {k : Ik} {gr : TG} {o : FG} (hp : PassesOwn (model X.prog X.w) X.A X.env X.xe) (hc : X.calm = true) (hi : PI X tg iter wi) (li : LI X.K wi k fa) (hg : PG X tg gr) (lg : LG X.K gr o) (hb : JSs X body fs)
    (hs : ∀ x, foldedSetIterable iter X.env x = pure x := by intro _; rfl) : JS X (.For tg iter body [] pos) (forS k fa o fs) := PS.imp (ps_for hp hc hi hg hb hs) (ls_for li lg)
theorem jswhile {body : List Stmt} (hp : PassesOwn (model X.prog X.w) X.A X.env X.xe) (hc : JT X c ft) (hb : JSs X body fs) : JS X (.While c body [] pos) (whileS ft fs) := PS.imp (ps_while hp hc hb) ls_while
theorem jssnil : JSs X [] nextS := PSs.imp pss_nil ls_next
theorem jssone {st : Stmt} (q : JS X st fs) : JSs X [st] fs := pss_one q
theorem jsscons {st : Stmt} {rest : List Stmt} (q : JS X st fs) (q2 : JSs X rest gs) : JSs X (st :: rest) (seqS fs gs) := PSs.imp (pss_cons q q2) ls_seq
theorem jlc {elt tg iter : Expr} {ifs : List Expr} {scope : Scope} {own : List (Str × Nat)} {wi : TI} {k : Ik} {gr : TG} {o : FG} (hc : X.calm = true) (hN : X.N.Nodup) (hi : PI X tg iter wi) (li : LI X.K wi k fa) (ok : BlkOk X.N X.env.scope scope own)
    (hg : ∀ (s : Shared) (H : Hp) (C : Addr) (cl : List (Str × Addr)) (fp : List Addr), PG (X.blk s H scope (compEnvC scope cl C X.env) fp) tg gr) (lg : LGW X.K gr o (own.map (·.2))) (ht : ∀ (s : Shared) (H : Hp) (C : Addr) (cl : List (Str × Addr)) (fp : List Addr), PTs (X.blk s H scope (compEnvC scope cl C X.env) fp) ifs (tDT X.K ft))
    (he : ∀ (s : Shared) (H : Hp) (C : Addr) (cl : List (Str × Addr)) (fp : List Addr), JE (X.blk s H scope (compEnvC scope cl C X.env) fp) elt f) (hs : ∀ x, foldedSetIterable iter X.env x = pure x := by intro _; rfl) :
    JE X (.ListComp elt [⟨tg, iter, ifs, 0⟩] scope pos) (lcD k fa o ft f (own.map (·.2))) := PE.imp (pe_lc (te := tD X.K f) hc hN hi ok hg ht he hs) (le_lc li lg)
theorem jssetLc {i : Nat} {y : Str} {py : Pos} {elt tg iter : Expr} {ifs : List Expr} {scope : Scope} {own : List (Str × Nat)} {spos : Pos} {wi : TI} {k : Ik} {gr : TG} {o : FG} (hc : X.calm = true) (hN : X.N.Nodup) (hy : X.N[i]? = some y) (hyl : X.env.scope.names.lookup y = some .local)
    (hsw : swapsWith (.ListComp elt [⟨tg, iter, ifs, 0⟩] scope pos) (some (.Name y py)) spos.line X.env = pure true) (hi : PI X tg iter wi) (li : LI X.K wi k fa) (ok : BlkOk X.N X.env.scope scope own)
    (hg : ∀ (s : Shared) (H : Hp) (C : Addr) (cl : List (Str × Addr)) (fp : List Addr), PG (X.blk s H scope (compEnvC scope cl C X.env) fp) tg gr) (lg : LGW X.K gr o (own.map (·.2))) (ht : ∀ (s : Shared) (H : Hp) (C : Addr) (cl : List (Str × Addr)) (fp : List Addr), PTs (X.blk s H scope (compEnvC scope cl C X.env) fp) ifs (tDT X.K ft))
    (he : ∀ (s : Shared) (H : Hp) (C : Addr) (cl : List (Str × Addr)) (fp : List Addr), JE (X.blk s H scope (compEnvC scope cl C X.env) fp) elt f) (hs : ∀ x, foldedSetIterable iter X.env x = pure x := by intro _; rfl) :
    JS X (.Assign [.Name y py] (.ListComp elt [⟨tg, iter, ifs, 0⟩] scope pos) spos) (setS i (lcD k fa o ft f (own.map (·.2)))) :=
  PS.imp (ps_setLc (te := tD X.K f) hc hN hy hyl hsw hi ok hg ht he hs) fun D σ H q => le_lc li lg σ H _ (by
    obtain ⟨ρ, δ, S, r, δ', S', hS, hσ, e, z⟩ := q
    obtain ⟨⟨x, S1⟩, e1, e⟩ := bnd e
    cases e
    exact ⟨ρ, δ, S, x, S1, hS, hσ, e1, fun v H1 ρ1 s1 hS1 rv => z _ H1 ρ1 s1 hS1 ((hσ.mono s1).set i rv)⟩)
theorem jtsnil {K : PySem.W.Frag} : PTs X [] (tDT K yesT) := ⟨fun pins s σ H Q I q => (pts_nil (X := X)).run pins s σ H Q I (le_yes σ H Q q)⟩
theorem jtsone (q : JT X c ft) : PTs X [c] (tDT X.K ft) := pts_one q
end
/-! ### a def's own promise -/
section
variable {P : Program} {w : World} {K : PySem.W.Frag} {mg : Str → Option Value} {base : Heap}
theorem fn_ok {φ : Nat → D → Sg → Option (D × Sg)} (hφ : FinOk K φ) {x qual : Str} {st : Stmt} {f : Addr} {fd : FuncData} {N ps : List Str} {k : Nat} {body : FS} (F : Fun K x qual st f fd) (sc : FnScope N ps (defScope st))
    (hb : ∀ (cdv : Value) (A : Around) (outer : List Env) (s : Shared) (H : Hp) (E : XK), Room k (A.deeper (PyProof.Rows.envOfC qual (defScope st) s.heap.objs.size f cdv)) → JSs (cxOf CX0 P w K mg base N qual (defScope st) f cdv A outer s H E).nox (defBody st) body) :
    FnOk P w K mg base CX0 (k + 1) f fd ps (spD K ps.length (bodyF φ N.length body)) :=
  F.ok sc (fun _ _ _ _ h => spD_len h) fun cdv A outer s H vs Q E hr h => ⟨_, hb cdv A outer s H E hr, body_ok hφ rfl h⟩
theorem fn_okD {φ : Nat → D → Sg → Option (D × Sg)} (hφ : FinOk K φ) {x qual : Str} {st : Stmt} {dvs : List V} {f : Addr} {fd : FuncData} {N ps : List Str} {k : Nat} {body : FS} (F : FunD K x qual (defArgs st) (defBody st) (defScope st) dvs [] f fd) (sc : FnScope N ps (defScope st))
    (hb : ∀ (cdv : Value) (A : Around) (outer : List Env) (s : Shared) (H : Hp) (E : XK), Room k (A.deeper (PyProof.Rows.envOfC qual (defScope st) s.heap.objs.size f cdv)) → JSs (cxOf CX0 P w K mg base N qual (defScope st) f cdv A outer s H E).nox (defBody st) body) :
    FnOk P w K mg base CX0 (k + 1) f fd ps (spD K ps.length (bodyF φ N.length body)) :=
  F.ok sc (fun _ _ _ _ h => spD_len h) fun cdv A outer s H vs Q E hr h => ⟨_, PSs.nox (hb cdv A outer s H E hr), body_ok hφ rfl h⟩
end
end DL
end
noncomputable section
namespace DL
open PySem L2
section
variable {K : PySem.W.Frag}
/-! ### lists joined, repeated, to be changed behind -/
def addNO : O2 := fun d e S => (plOf S d).bind fun xs => (plOf S e).bind fun ys => if Fits (xs.length + ys.length) then some (.loc S.length, S ++ [.lst (xs ++ ys)]) else none
theorem opD_addN : OpD K rCat addNO := by
  intro x y H Q ρ S d e z S' hS rx ry eq q
  obtain ⟨xs, e1, eq⟩ := bnd eq
  obtain ⟨ys, e2, eq⟩ := bnd eq
  split at eq
  · cases eq
    obtain ⟨a, vs, rfl, h1, r1⟩ := plOf_sq hS rx e1
    obtain ⟨b, ws, rfl, h2, r2⟩ := plOf_sq hS ry e2
    refine ⟨a, b, vs, ws, rfl, rfl, h1, h2, by rw [r1.len, r2.len]; exact Fits.le ‹_›, fun p hp => ?_⟩
    obtain ⟨c1, c2⟩ := rv_new hS hp (r1.append r2)
    exact q _ _ _ (Step.push hS hp) c1 c2
  · cases eq
def mulNO : O2 := fun d e S => match e with
  | .int k => (plOf S d).bind fun xs => if R63 k ∧ Fits (xs.length * k.toNat) then some (.loc S.length, S ++ [.lst (List.replicate k.toNat xs).flatten]) else none
  | _ => none
theorem opD_mulN : OpD K rRep mulNO := by
  intro x y H Q ρ S d e z S' hS rx ry eq q
  unfold mulNO at eq
  split at eq
  · cases ry
    obtain ⟨xs, e1, eq⟩ := bnd eq
    split at eq
    · rename_i hb
      cases eq
      obtain ⟨a, vs, rfl, h1, r1⟩ := plOf_sq hS rx e1
      refine ⟨a, _, vs, rfl, rfl, h1, ((r63_iff _).mp hb.1).1, ((r63_iff _).mp hb.1).2, by rw [r1.len]; exact hb.2.le, fun p hp => ?_⟩
      obtain ⟨c1, c2⟩ := rv_new hS hp (r1.flatten _)
      exact q _ _ _ (Step.push hS hp) c1 c2
    · cases eq
  · cases eq
/-! ### truth of any value -/
def truB (S : Sg) : D → Option Bool
  | .non => some false
  | .bl b => some b
  | .int i => some (i != 0)
  | .str z => if Fits (z.length) then some ((z.length : Int) != 0) else none
  | d => (sqOf S d).bind fun xs => some (!xs.isEmpty)
def truD (f : FE) : FT := fun δ S => (f δ S).bind fun p => (truB p.2 p.1).bind fun b => some (b, p.2)
theorem empty_rv {ρ : Ro} {H : Hp} {vs : List V} {ds : List D} (r : RVs K H ρ vs ds) : vs.isEmpty = ds.isEmpty := by cases r <;> rfl
theorem truB_ok {ρ : Ro} {H : Hp} {S : Sg} {v : V} {d : D} {b : Bool} (hS : SR K H ρ S) (r : RV K H ρ v d) (h : truB S d = some b) : TruV K v H b := by
  have sq : ∀ {d : D}, RV K H ρ v d → (sqOf S d).bind (fun xs => some (!xs.isEmpty)) = some b → TruV K v H b := fun {d} r h => by
    obtain ⟨xs, e, h⟩ := bnd h
    cases h
    obtain ⟨a, vs, rfl, hq, rs⟩ := sqOf_sq hS r e
    rcases hq with hq | hq
    · exact .inl ⟨vs, hq, by rw [empty_rv rs]⟩
    · exact .inr (.inl ⟨vs, hq, by rw [empty_rv rs]⟩)
  cases d with
  | non => cases h; cases r; rfl
  | bl _ => cases h; cases r; rfl
  | int _ => cases h; cases r; rfl
  | str z =>
    cases r
    unfold truB at h
    dsimp only at h
    split at h
    · cases h; exact ⟨Fits.le ‹_›, rfl⟩
    · cases h
  | ty _ => cases h
  | tup _ => exact sq r h
  | lst _ => exact sq r h
  | rol _ => exact sq r h
  | ins _ _ _ => exact sq r h
  | dic _ _ => exact sq r h
  | exc _ _ _ => exact sq r h
  | loc _ => exact sq r h
/-! ### in -/
def flatD : D → Bool
  | .non => true
  | .bl _ => true
  | .int _ => true
  | .str _ => true
  | _ => false
def eqF : D → D → Bool
  | .non, .non => true
  | .bl a, .bl b => a == b
  | .bl a, .int b => (if a then 1 else 0) == b
  | .int a, .bl b => a == (if b then 1 else 0)
  | .int a, .int b => a == b
  | .str a, .str b => a == b
  | _, _ => false
def inF (x : D) (xs : List D) : Bool := xs.any fun y => eqF y x
theorem flat_rv {ρ : Ro} {H : Hp} {v : V} {d : D} (r : RV K H ρ v d) (h : flatD d = true) : flatV v = true := by cases r <;> first | rfl | cases h
theorem flats_rv {ρ : Ro} {H : Hp} {vs : List V} {ds : List D} (r : RVs K H ρ vs ds) (h : ds.all flatD = true) : vs.all flatV = true := by
  induction vs generalizing ds with
  | nil => rfl
  | cons v vs ih =>
    cases r with
    | cons h1 r =>
      rw [List.all_cons, Bool.and_eq_true] at h ⊢
      exact ⟨flat_rv h1 h.1, ih r h.2⟩
theorem eqF_rv {ρ : Ro} {H : Hp} {v w : V} {d e : D} (r : RV K H ρ v d) (q : RV K H ρ w e) (h1 : flatD d = true) (h2 : flatD e = true) : eqV v w = eqF d e := by
  cases r <;> first | (cases h1; done) | skip
  all_goals (cases q <;> first | (cases h2; done) | rfl)
theorem inF_rv {ρ : Ro} {H : Hp} {v : V} {d : D} {vs : List V} {ds : List D} (r : RV K H ρ v d) (h1 : flatD d = true) (rs : RVs K H ρ vs ds) (h2 : ds.all flatD = true) : inV v vs = inF d ds := by
  induction vs generalizing ds with
  | nil => cases rs; rfl
  | cons w vs ih =>
    cases rs with
    | cons q rs =>
      rw [List.all_cons, Bool.and_eq_true] at h2
      unfold inV inF at ih ⊢
      rw [List.any_cons, List.any_cons, eqF_rv q r h2.1 h1, ih rs h2.2]
def inseqO : O2 := fun d e S => (sqOf S e).bind fun xs => if flatD d = true ∧ xs.all flatD = true then some (.bl (inF d xs), S) else none
theorem opD_inseq : OpD K (rIn K false) inseqO := by
  intro x y H Q ρ S d e z S' hS rx ry eq q
  obtain ⟨xs, e1, eq⟩ := bnd eq
  split at eq
  · rename_i hf
    cases eq
    obtain ⟨a, vs, rfl, hq, rs⟩ := sqOf_sq hS ry e1
    refine ⟨a, vs, rfl, hq, flat_rv rx hf.1, flats_rv rs hf.2, ?_⟩
    rw [if_neg (by decide), inF_rv rx hf.1 rs hf.2]
    exact q _ H ρ (Step.refl _ _) hS .bl
  · cases eq
def insignO : O2 := fun d e S => match d, e with
  | .str y, .str z => match y.cps.toList with
    | [c] => some (.bl (decide (c ∈ z.cps.toList)), S)
    | _ => none
  | _, _ => none
theorem opD_insign : OpD K (fun x y H Q => ∃ (c : Nat) (z : Str), x = .str ⟨#[c]⟩ ∧ y = .str z ∧ Q (.bl (decide (c ∈ z.cps.toList))) H) insignO := by
  intro x y H Q ρ S d e z S' hS rx ry eq q
  unfold insignO at eq
  split at eq
  · cases rx; cases ry
    split at eq
    · rename_i y z0 l c hc
      cases eq
      have ey : y = ⟨#[c]⟩ := by
        refine Str.ext' (Array.toList_inj.mp ?_)
        rw [hc]
      exact ⟨c, _, by rw [ey], rfl, q _ H ρ (Step.refl _ _) hS .bl⟩
    · cases eq
  · cases eq
/-! ### slices of a list, a tuple, a text -/
def rSl3 (K : PySem.W.Frag) : V → Option Int → Option Int → Hp → VK → Prop := fun x lo hi H Q => rSlL K x lo hi H Q ∨ rSlT K x lo hi H Q ∨ rSlS x lo hi H Q
theorem sl_any {X : Cx} : SlR X (rSl3 X.K) := SlR.or sl_list (SlR.or sl_tup sl_str)
def slO : O3 := fun d lo hi S => match d with
  | .str z => slSO (.str z) lo hi S
  | .tup ds => slTO (.tup ds) lo hi S
  | d => slLO d lo hi S
theorem slD_any : SlD K (rSl3 K) slO := by
  intro x lo hi H Q ρ S d z S' hS rx eq q
  unfold slO at eq
  split at eq
  · exact .inr (.inr (slD_S x lo hi H Q ρ S _ z S' hS rx eq q))
  · exact .inr (.inl (slD_T x lo hi H Q ρ S _ z S' hS rx eq q))
  · exact .inl (slD_L x lo hi H Q ρ S d z S' hS rx eq q)
/-! ### isinstance -/
def tyN (S : Sg) : D → Option String
  | .non => some "NoneType"
  | .bl _ => some "bool"
  | .int _ => some "int"
  | .str _ => some "str"
  | .tup _ => some "tuple"
  | .lst _ => some "list"
  | .rol _ => some "list"
  | .loc n => match S[n]? with
    | some (.lst _) => some "list"
    | _ => none
  | _ => none
theorem tyN_ok {ρ : Ro} {H : Hp} {S : Sg} {v : V} {d : D} {t : String} (hS : SR K H ρ S) (r : RV K H ρ v d) (h : tyN S d = some t) : TyX K H v (.type t) := by
  cases r with
  | non => cases h; exact .base .non
  | bl => cases h; exact .base (.bl _)
  | int => cases h; exact .base (.int _)
  | str => cases h; exact .base (.str _)
  | ty => cases h
  | tup e => cases h; exact .base (.tup e)
  | lst e => cases h; exact .base (.lst e)
  | rol e =>
    cases h
    rcases e with ⟨e, _⟩ | ⟨o, its, n, e, c, _⟩
    · rcases e with e | ⟨o, e⟩
      · exact .base (.lst e)
      · exact .base (.frz e)
    · exact .kList e c
  | ins => cases h
  | dic => cases h
  | exc => cases h
  | loc hn =>
    unfold tyN at h
    dsimp only at h
    split at h
    · rename_i hs
      cases h
      obtain ⟨vs, h1, _⟩ := hS.ob _ _ _ hn hs
      exact .base (.lst h1)
    · cases h
def isiO : OC := fun ds S => match ds with
  | [d, .ty b] => (tyN S d).bind fun a => (kitB a b).bind fun r => some (.bl r, S)
  | _ => none
theorem cbD_isi : CbD K (rIsi K) isiO := by
  intro xs H Q ρ S ds z S' hS rs eq q
  unfold isiO at eq
  split at eq
  · cases rs with | cons rx rn => ?_
    cases rn with | cons ry rn => ?_
    cases rn; cases ry
    obtain ⟨a, e1, eq⟩ := bnd eq
    obtain ⟨r, e2, eq⟩ := bnd eq
    cases eq
    exact ⟨_, _, _, _, r, rfl, .ty _, tyN_ok hS rx e1, kit_ty e2, q _ H ρ (Step.refl _ _) hS .bl⟩
  · cases eq
def tysOf : List D → Option (List String)
  | [] => some []
  | .ty b :: r => (tysOf r).bind fun l => some (b :: l)
  | _ => none
def kitL (a : String) : List String → Option Bool
  | [] => some false
  | b :: r => match kitB a b with
    | some true => some true
    | some false => kitL a r
    | none => none
theorem kitL_ok {a : String} {r : Bool} : ∀ {bs : List String}, kitL a bs = some r → PySem.W.kitAny K (.type a) (bs.map Value.type) = some r
  | [], h => h
  | b :: bs, h => by
    unfold kitL at h
    rw [List.map_cons]
    unfold PySem.W.kitAny
    split at h
    · rename_i e
      rw [kit_ty e]
      exact h
    · rename_i e
      rw [kit_ty e]
      exact kitL_ok h
    · cases h
theorem tysOf_rv {ρ : Ro} {H : Hp} : ∀ {vs : List V} {ds : List D} {bs : List String}, tysOf ds = some bs → RVs K H ρ vs ds → Paired ClsV vs (bs.map Value.type)
  | _, _, _, h, .nil => by cases h; exact .nil
  | _, _, _, h, .cons r rs => by
    unfold tysOf at h
    split at h
    · rename_i e; cases e
    · rename_i b ds' e
      obtain ⟨rfl, rfl⟩ : _ = D.ty b ∧ _ = ds' := by simpa using e
      obtain ⟨l, e1, h⟩ := bnd h
      cases h
      cases r
      exact .cons (.ty b) (tysOf_rv e1 rs)
    · cases h
def isiTO : OC := fun ds S => match ds with
  | [d, .tup cs] => (tyN S d).bind fun a => (tysOf cs).bind fun bs => (kitL a bs).bind fun r => some (.bl r, S)
  | _ => none
theorem cbD_isiT : CbD K (rIsiT K) isiTO := by
  intro xs H Q ρ S ds z S' hS rs eq q
  unfold isiTO at eq
  split at eq
  · cases rs with | cons rx rn => ?_
    cases rn with | cons ry rn => ?_
    cases rn
    cases ry with | tup h n r => ?_
    obtain ⟨a, e1, eq⟩ := bnd eq
    obtain ⟨bs, e2, eq⟩ := bnd eq
    obtain ⟨r', e3, eq⟩ := bnd eq
    cases eq
    exact ⟨_, _, _, _, _, r', rfl, h, tysOf_rv e2 r, tyN_ok hS rx e1, kitL_ok e3, q _ H ρ (Step.refl _ _) hS .bl⟩
  · cases eq
/-! ### three at once -/
def parS3 (i j l : Nat) (f : FA) : FS := fun δ S => (f δ S).bind fun p => match p.1 with
  | [x, y, z] => some (.nx, ((δ.set i (some x)).set j (some y)).set l (some z), p.2)
  | _ => none
theorem ls_par3 {i j l : Nat} {f : FA} : ∀ D σ H, tDS K (parS3 i j l f) D σ H → tPar3 i j l (tDA K f) D σ H := by
  rintro D σ H ⟨ρ, δ, S, r, δ', S', hS, hσ, e, q⟩
  obtain ⟨⟨x, S1⟩, e1, e⟩ := bnd e
  dsimp only at e
  split at e
  · cases e
    refine ⟨ρ, δ, S, _, _, hS, hσ, e1, fun vs H1 ρ1 s1 hS1 rv => ?_⟩
    cases rv with | cons r1 rv => cases rv with | cons r2 rv => cases rv with | cons r3 rv => cases rv with | nil =>
      exact ⟨_, _, _, rfl, q _ H1 ρ1 s1 hS1 ((((hσ.mono s1).set i r1).set j r2).set l r3)⟩
  · cases e
/-! ### a list, item by item, to be changed behind -/
def lcDN (k : Ik) (fa : FA) (g : FG) (c : FT) (f : FE) (vs : List Nat) : FE := fun δ S => (lcD k fa g c f vs δ S).bind fun p => match p.1 with
  | .lst ds => some (.loc p.2.length, p.2 ++ [.lst ds])
  | _ => none
theorem le_lcN {wi : TI} {k : Ik} {fa : FA} {g : TG} {o : FG} {c : FT} {f : FE} {vs : List Nat} (hi : LI K wi k fa) (hg : LGW K g o vs) :
    ∀ σ H Q, tD K (lcDN k fa o c f vs) σ H Q → tLc wi g (tDT K c) (tD K f) vs σ H Q := by
  rintro σ H Q ⟨ρ, δ, S, d, S', hS, hσ, e, q⟩
  obtain ⟨⟨y, S1⟩, e1, e⟩ := bnd e
  dsimp only at e
  split at e
  · rename_i out
    cases e
    refine lc_main hi hg hS hσ e1 fun H2 ρ2 L vacc s2 hS2 hacc nL nB racc => ?_
    have hp : SR K H2 (ρ2.push L) (S1 ++ [.lst out]) := by
      refine ⟨by show (ρ2.pl ++ [L]).length = _; rw [List.length_append, List.length_append, ← hS2.len]; rfl, ?_, fun a m => hS2.bn a (List.mem_cons_of_mem _ m), fun a m => ?_, fun j a w h1 h2 => ?_⟩
      · show (ρ2.pl ++ [L]).Nodup
        rw [List.nodup_append]
        refine ⟨hS2.nd, by simp, fun a ha b hb e => ?_⟩
        rw [List.mem_singleton] at hb
        subst hb; subst e
        exact nL ha
      · rcases List.mem_append.mp m with m | m
        · exact fun z => hS2.dj a m (List.mem_cons_of_mem _ z)
        · rw [List.mem_singleton.mp m]; exact nB
      · have h1 : (ρ2.pl ++ [L])[j]? = some a := h1
        have hl : ρ2.pl.length = S1.length := hS2.len
        by_cases hn : j < ρ2.pl.length
        · rw [List.getElem?_append_left hn] at h1
          rw [List.getElem?_append_left (by rw [← hl]; exact hn)] at h2
          exact (hS2.ob j a w h1 h2).map rfl fun vs ds r => r.banPush
        · have hj : j = ρ2.pl.length := by
            have := (List.getElem?_eq_some_iff.mp h1).1
            rw [List.length_append] at this
            simp at this
            omega
          subst hj
          rw [List.getElem?_append_right (Nat.le_refl _), Nat.sub_self] at h1
          rw [hl, List.getElem?_append_right (Nat.le_refl _), Nat.sub_self] at h2
          have h1' : L = a := Option.some.inj h1
          have h2' : Ob.lst out = w := Option.some.inj h2
          subst h1'; subst h2'
          exact ⟨vacc, hacc, racc.banPush⟩
    have st : Step ρ (ρ2.push L) H H2 := by
      obtain ⟨nw, en, hf⟩ := s2.2.ext
      refine ⟨⟨nw ++ [L], by show ρ2.pl ++ [L] = _; rw [en, List.append_assoc], fun a m => ?_⟩, s2.2.bn, s2.2.keep, s2.2.dom⟩
      rcases List.mem_append.mp m with m | m
      · exact hf a m
      · rw [List.mem_singleton.mp m]; exact s2.1
    refine q _ H2 _ st hp (.loc ?_)
    show (ρ2.pl ++ [L])[S1.length]? = some L
    rw [← show ρ2.pl.length = S1.length from hS2.len, List.getElem?_append_right (Nat.le_refl _), Nat.sub_self]
    rfl
  · cases e
end
section
variable {X : Cx} {a b c e : Expr} {es : List Expr} {pos p : Pos} {f g : FE} {fa : FA} {ft : FT}
theorem jaddN (ha : JE X a f) (hb : JE X b g) : JE X (.BinOp a .Add b pos) (op2D addNO f g) := jop op_cat opD_addN ha hb
theorem jmulN (ha : JE X a f) (hb : JE X b g) : JE X (.BinOp a .Mult b pos) (op2D mulNO f g) := jop op_rep opD_mulN ha hb
theorem jtruth (q : JE X e f) (he : ∀ whole, isTrue e X.env whole = (do let v ← whole; standAt e.pos; holding [v] (truthy v)) := by intro _; rfl) : JT X e (truD f) := by
  refine PT.imp (pt_truth q he) ?_
  rintro σ H Q ⟨ρ, δ, S, b, S', hS, hσ, e, z⟩
  obtain ⟨⟨x, S1⟩, e1, e⟩ := bnd e
  obtain ⟨b', e2, e⟩ := bnd e
  cases e
  exact ⟨ρ, δ, S, x, S1, hS, hσ, e1, fun v H1 ρ1 s1 hS1 rv => ⟨_, truB_ok hS1 rv e2, z H1 ρ1 s1 hS1⟩⟩
theorem jinseq (ha : JE X a f) (hb : JE X b g) (hm : behindInMarks .In b = false := by rfl) : JE X (.Compare a [.In] [b] pos) (op2D inseqO f g) := jcmpR op_in_seq opD_inseq ha hb hm
theorem jtinseq (ha : JE X a f) (hb : JE X b g) (hm : behindInMarks .In b = false := by rfl) : JT X (.Compare a [.In] [b] pos) (tvD (op2D inseqO f g)) := jtcmpR op_in_seq opD_inseq ha hb hm
theorem jinsign (ha : JE X a f) (hb : JE X b g) (hm : behindInMarks .In b = false := by rfl) : JE X (.Compare a [.In] [b] pos) (op2D insignO f g) := jcmpR op_in_sign opD_insign ha hb hm
theorem jtinsign (ha : JE X a f) (hb : JE X b g) (hm : behindInMarks .In b = false := by rfl) : JT X (.Compare a [.In] [b] pos) (tvD (op2D insignO f g)) := jtcmpR op_in_sign opD_insign ha hb hm
theorem jspar3 {i j l : Nat} {x y z : Str} {px py pz pt : Pos} {kt k2 pt2} (hc : X.calm = true) (hN : X.N.Nodup) (hi : X.N[i]? = some x) (hj : X.N[j]? = some y) (hl : X.N[l]? = some z) (hij : i ≠ j) (hil : i ≠ l) (hjl : j ≠ l)
    (hx : X.env.scope.names.lookup x = some .local) (hy : X.env.scope.names.lookup y = some .local) (hz : X.env.scope.names.lookup z = some .local) (ha : JA X [a, b, c] fa)
    (hw : swappedStores [.Tuple [.Name x px, .Name y py, .Name z pz] kt pt] (.Tuple [a, b, c] k2 pt2) X.env = pure (some [x, y, z]))
    (hs : swapsWithSole [.Tuple [.Name x px, .Name y py, .Name z pz] kt pt] (.Tuple [a, b, c] k2 pt2) pos.line X.env = pure false := by rfl) :
    JS X (.Assign [.Tuple [.Name x px, .Name y py, .Name z pz] kt pt] (.Tuple [a, b, c] k2 pt2) pos) (parS3 i j l fa) := PS.imp (ps_par3 hc hN hi hj hl hij hil hjl hx hy hz ha hw hs) ls_par3
theorem jlcN {elt tg iter : Expr} {ifs : List Expr} {scope : Scope} {own : List (Str × Nat)} {wi : TI} {k : Ik} {gr : TG} {o : FG} (hc : X.calm = true) (hN : X.N.Nodup) (hi : PI X tg iter wi) (li : LI X.K wi k fa) (ok : BlkOk X.N X.env.scope scope own)
    (hg : ∀ (s : Shared) (H : Hp) (C : Addr) (cl : List (Str × Addr)) (fp : List Addr), PG (X.blk s H scope (compEnvC scope cl C X.env) fp) tg gr) (lg : LGW X.K gr o (own.map (·.2))) (ht : ∀ (s : Shared) (H : Hp) (C : Addr) (cl : List (Str × Addr)) (fp : List Addr), PTs (X.blk s H scope (compEnvC scope cl C X.env) fp) ifs (tDT X.K ft))
    (he : ∀ (s : Shared) (H : Hp) (C : Addr) (cl : List (Str × Addr)) (fp : List Addr), JE (X.blk s H scope (compEnvC scope cl C X.env) fp) elt f) (hs : ∀ x, foldedSetIterable iter X.env x = pure x := by intro _; rfl) :
    JE X (.ListComp elt [⟨tg, iter, ifs, 0⟩] scope pos) (lcDN k fa o ft f (own.map (·.2))) := PE.imp (pe_lc (te := tD X.K f) hc hN hi ok hg ht he hs) (le_lcN li lg)
theorem jssetLcN {i : Nat} {y : Str} {py : Pos} {elt tg iter : Expr} {ifs : List Expr} {scope : Scope} {own : List (Str × Nat)} {spos : Pos} {wi : TI} {k : Ik} {gr : TG} {o : FG} (hc : X.calm = true) (hN : X.N.Nodup) (hy : X.N[i]? = some y) (hyl : X.env.scope.names.lookup y = some .local)
    (hsw : swapsWith (.ListComp elt [⟨tg, iter, ifs, 0⟩] scope pos) (some (.Name y py)) spos.line X.env = pure true) (hi : PI X tg iter wi) (li : LI X.K wi k fa) (ok : BlkOk X.N X.env.scope scope own)
    (hg : ∀ (s : Shared) (H : Hp) (C : Addr) (cl : List (Str × Addr)) (fp : List Addr), PG (X.blk s H scope (compEnvC scope cl C X.env) fp) tg gr) (lg : LGW X.K gr o (own.map (·.2))) (ht : ∀ (s : Shared) (H : Hp) (C : Addr) (cl : List (Str × Addr)) (fp : List Addr), PTs (X.blk s H scope (compEnvC scope cl C X.env) fp) ifs (tDT X.K ft))
    (he : ∀ (s : Shared) (H : Hp) (C : Addr) (cl : List (Str × Addr)) (fp : List Addr), JE (X.blk s H scope (compEnvC scope cl C X.env) fp) elt f) (hs : ∀ x, foldedSetIterable iter X.env x = pure x := by intro _; rfl) :
    JS X (.Assign [.Name y py] (.ListComp elt [⟨tg, iter, ifs, 0⟩] scope pos) spos) (setS i (lcDN k fa o ft f (own.map (·.2)))) :=
  PS.imp (ps_setLc (te := tD X.K f) hc hN hy hyl hsw hi ok hg ht he hs) fun D σ H q => le_lcN li lg σ H _ (by
    obtain ⟨ρ, δ, S, r, δ', S', hS, hσ, e, z⟩ := q
    obtain ⟨⟨x, S1⟩, e1, e⟩ := bnd e
    cases e
    exact ⟨ρ, δ, S, x, S1, hS, hσ, e1, fun v H1 ρ1 s1 hS1 rv => z _ H1 ρ1 s1 hS1 ((hσ.mono s1).set i rv)⟩)
theorem jfn0 {x : Str} {k : Nat} {F : Fn} {p : Pos} (Z : Df X.prog X.w X.K X.mg X.base x k [] F) (hr : Room k X.A) (hg : Gl X x := by rfl) (hdb : (x == ("__debug__" : Str)) = false := by decide) : JE X (.Call (.Name x p) [] [] pos) (fnD F [] nilA) := by
  obtain ⟨f, fd, Fk, hm, kp, b⟩ := Z.ex
  refine PE.imp (pe_call0 Fk hr hg hm kp b .nil pass0 hdb) fun σ H Q z => ?_
  exact le_nilA σ H _ (le_fn (K := X.K) (E := E0) (n := 0) (fun _ _ => .nil) (fun δ S ds S' q => by cases q; rfl) σ H Q z)
/-- a def whose last arguments are left out -/
structure DfD (P : Program) (w : World) (K : PySem.W.Frag) (mg : Str → Option Value) (base : Heap) (x : Str) (k : Nat) (ps : List Str) (dvs : List V) (F : Fn) : Prop where
  ex : ∃ (f : Addr) (fd : FuncData) (ds : List Value), FnOk P w K mg base CX0 k f fd ps (spD K ps.length F) ∧ mg x = some (.ref f) ∧ PySem.W.keepIn K (.ref f) = true ∧ Vals dvs ds ∧ Binds K fd ps ds
theorem jfnD {x : Str} {k : Nat} {ps : List Str} {dvs : List V} {dds : List D} {F : Fn} {p : Pos} (Z : DfD X.prog X.w X.K X.mg X.base x k ps dvs F) (hd : ∀ H ρ, RVs X.K H ρ dvs dds) (hr : Room k X.A) (ha : JA X (e :: es) fa) (hn : NA (ps.length - dds.length) fa := by repeat (first | exact na0 | apply na)) (hl : dds.length ≤ ps.length := by decide)
    (hg : Gl X x := by rfl) (hdb : (x == ("__debug__" : Str)) = false := by decide) (he : starEach (e :: es) X.env = (false, eval e X.env) :: starEach es X.env := by rfl) (hpl : (backTo pos (starEach es X.env)).any (·.1) = false := by rfl) :
    JE X (.Call (.Name x p) (e :: es) [] pos) (fnD F dds fa) := by
  obtain ⟨f, fd, ds, Fk, hm, kp, v, b⟩ := Z.ex
  refine PE.imp (pe_call Fk hr hg hm kp b v pass0 ha hdb he hpl) (le_fn hd fun δ S ds S' q => ?_)
  rw [List.length_append, hn δ S ds S' q]
  omega
end
end DL
end
noncomputable section
namespace DL
open PySem L2
/-! ### reckoning: each piece where its slots and store are known -/
theorem mulL {i j : Int} (h : -18446744073709551616 < i ∧ i < 18446744073709551616) : MulB i j := (mulB_iff i j).mpr (.inl h)
theorem mulR {i j : Int} (h : -18446744073709551616 < j ∧ j < 18446744073709551616) : MulB i j := (mulB_iff i j).mpr (.inr h)
theorem divP {j : Int} (h : 0 < j ∧ j < 1000000000000000000000000000000) : DivB j := (divB_iff j).mpr h
theorem powP {i j : Int} (h : (0 ≤ j ∧ j ≤ 1000000) ∧ -18446744073709551616 < i ∧ i < 18446744073709551616) : PowB i j := (powB_iff i j).mpr h
theorem r62P {j : Int} (h : -4611686018427387904 ≤ j ∧ j < 4611686018427387904) : R62 j := (r62_iff j).mpr h
theorem r63P {j : Int} (h : -9223372036854775808 ≤ j ∧ j < 9223372036854775808) : R63 j := (r63_iff j).mpr h
/-! an own bind: simp visits its head alone, as the answer's type names what follows -/
abbrev Rz {α β : Type} (_ : α → Option β) : Type := Option β
def _root_.Option.bd {α β : Type} (o : Option α) (f : α → Option β) (_h : True := trivial) : Rz f := o.bind f
theorem bd_some {α β : Type} (a : α) (f : α → Option β) (h : True) : Option.bd (some a) f h = f a := rfl
theorem bd_none {α β : Type} (f : α → Option β) (h : True) : Option.bd none f h = none := rfl
section
variable (δ : Dl) (S : Sg)
theorem varD_ap (i : Nat) : varD i δ S = (δ[i]?).bd fun o => o.bd fun d => some (d, S) := rfl
theorem cD_ap (d : D) : cD d δ S = some (d, S) := rfl
theorem op2D_ap (o : O2) (f g : FE) : op2D o f g δ S = (f δ S).bd fun p => (g δ p.2).bd fun q => o p.1 q.1 q.2 := rfl
theorem op1D_ap (o : O1) (f : FE) : op1D o f δ S = (f δ S).bd fun p => o p.1 p.2 := rfl
theorem tvD_ap (f : FE) : tvD f δ S = (f δ S).bd fun p => (isB p.1).bd fun b => some (b, p.2) := rfl
theorem truD_ap (f : FE) : truD f δ S = (f δ S).bd fun p => (truB p.2 p.1).bd fun b => some (b, p.2) := rfl
theorem notD_ap (f : FT) : notD f δ S = (f δ S).bd fun p => some (!p.1, p.2) := rfl
theorem andD_ap (f g : FT) : andD f g δ S = (f δ S).bd fun p => if p.1 = true then g δ p.2 else some (false, p.2) := rfl
theorem orD_ap (f g : FT) : orD f g δ S = (f δ S).bd fun p => if p.1 = true then some (true, p.2) else g δ p.2 := rfl
theorem andV_ap (f g : FE) : andV f g δ S = (f δ S).bd fun p => (isB p.1).bd fun b => if b = true then g δ p.2 else some (.bl false, p.2) := rfl
theorem orV_ap (f g : FE) : orV f g δ S = (f δ S).bd fun p => (isB p.1).bd fun b => if b = true then some (.bl true, p.2) else g δ p.2 := rfl
theorem notV_ap (f : FE) : notV f δ S = (f δ S).bd fun p => (isB p.1).bd fun b => some (.bl (!b), p.2) := rfl
theorem iteV_ap (c : FT) (f g : FE) : iteV c f g δ S = (c δ S).bd fun p => if p.1 = true then f δ p.2 else g δ p.2 := rfl
theorem chainD_ap (o o' : O2) (f g h : FE) : chainD o o' f g h δ S = (f δ S).bd fun p => (g δ p.2).bd fun q => (o p.1 q.1 q.2).bd fun z => (isB z.1).bd fun b => if b = true then (h δ z.2).bd fun w => o' q.1 w.1 w.2 else some (.bl false, z.2) := rfl
theorem nilA_ap : nilA δ S = some ([], S) := rfl
theorem consA_ap (f : FE) (g : FA) : consA f g δ S = (f δ S).bd fun p => (g δ p.2).bd fun q => some (p.1 :: q.1, q.2) := rfl
theorem oneA_ap (f : FE) : oneA f δ S = (f δ S).bd fun p => some ([p.1], p.2) := by
  show (f δ S).bind _ = _
  rfl
theorem tupD_ap (f : FA) : tupD f δ S = (f δ S).bd fun p => if Fits (p.1.length) then some (.tup p.1, p.2) else none := rfl
theorem lstD_ap (f : FA) : lstD f δ S = (f δ S).bd fun p => if Fits (p.1.length) then some (.lst p.1, p.2) else none := rfl
theorem newD_ap (f : FA) : newD f δ S = (f δ S).bd fun p => if Fits (p.1.length) then some (.loc p.2.length, p.2 ++ [.lst p.1]) else none := rfl
theorem noO_ap : noO δ S = some (none, S) := rfl
theorem someO_ap (f : FE) : someO f δ S = (f δ S).bd fun p => (isI p.1).bd fun i => some (some i, p.2) := rfl
theorem slD_ap (o : O3) (f : FE) (g h : FO) : slD o f g h δ S = (f δ S).bd fun p => (g δ p.2).bd fun q => (h δ q.2).bd fun r => o p.1 q.1 r.1 r.2 := rfl
theorem cbD_ap (o : OC) (f : FA) : cbD o f δ S = (f δ S).bd fun p => o p.1 p.2 := rfl
theorem fnD_ap (F : Fn) (dds : List D) (f : FA) : fnD F dds f δ S = (f δ S).bd fun p => F (p.1 ++ dds) p.2 := rfl
theorem methD_ap (C : Addr) (m : Str) (F : Fn) (dds : List D) (fa : FE) (f : FA) : methD C m F dds fa f δ S = (fa δ S).bd fun p => (fsOf p.2 C p.1).bd fun gs => if gs.lookup m = none then (f δ p.2).bd fun q => F (p.1 :: (q.1 ++ dds)) q.2 else none := rfl
theorem mkD_ap (φ : Nat → D → Sg → Option (D × Sg)) (C : Addr) (F : Fn) (dds : List D) (f : FA) : mkD φ C F dds f δ S = (f δ S).bd fun p => (F (.loc p.2.length :: (p.1 ++ dds)) (p.2 ++ [.ins C []])).bd fun q => if isNoneB q.1 = true then φ p.2.length (.loc p.2.length) q.2 else none := rfl
theorem bmD_ap (ok : Sg → D → Bool) (o : OM) (fa : FE) (f : FA) : bmD ok o fa f δ S = (fa δ S).bd fun p => if ok p.2 p.1 = true then (f δ p.2).bd fun q => o p.1 q.1 q.2 else none := rfl
theorem fldD_ap (C : Addr) (f : Str) (fa : FE) : fldD C f fa δ S = (fa δ S).bd fun p => (fsOf p.2 C p.1).bd fun gs => (gs.lookup f).bd fun d => some (d, p.2) := rfl
theorem nextS_ap : nextS δ S = some (.nx, δ, S) := rfl
def onNx (r : Fl × Dl × Sg) (g : FS) : Option (Fl × Dl × Sg) := match r.1 with
  | .nx => g r.2.1 r.2.2
  | _ => some r
theorem onNx_nx (δ1 : Dl) (S1 : Sg) (g : FS) : onNx (.nx, δ1, S1) g = g δ1 S1 := rfl
theorem onNx_rt (d : D) (δ1 : Dl) (S1 : Sg) (g : FS) : onNx (.rt d, δ1, S1) g = some (.rt d, δ1, S1) := rfl
theorem onNx_bk (δ1 : Dl) (S1 : Sg) (g : FS) : onNx (.bk, δ1, S1) g = some (.bk, δ1, S1) := rfl
theorem onNx_ct (δ1 : Dl) (S1 : Sg) (g : FS) : onNx (.ct, δ1, S1) g = some (.ct, δ1, S1) := rfl
theorem seqS_ap (f g : FS) : seqS f g δ S = (f δ S).bd fun r => onNx r g := rfl
theorem ifS_ap (c : FT) (f g : FS) : ifS c f g δ S = (c δ S).bd fun p => if p.1 = true then f δ p.2 else g δ p.2 := rfl
theorem retS_ap (f : FE) : retS f δ S = (f δ S).bd fun p => some (.rt p.1, δ, p.2) := rfl
theorem retNS_ap : retNS δ S = some (.rt .non, δ, S) := rfl
theorem dropS_ap (f : FE) : dropS f δ S = (f δ S).bd fun p => some (.nx, δ, p.2) := rfl
theorem asgS_ap (f : FE) (g : FG) : asgS f g δ S = (f δ S).bd fun p => (g p.1 δ p.2).bd fun q => some (.nx, q.1, q.2) := rfl
theorem setS_ap (i : Nat) (f : FE) : setS i f δ S = (f δ S).bd fun p => some (.nx, δ.set i (some p.1), p.2) := rfl
theorem parS_ap (i j : Nat) (f : FA) : parS i j f δ S = (f δ S).bd fun p => match p.1 with
  | [x, y] => some (.nx, (δ.set i (some x)).set j (some y), p.2)
  | _ => none := rfl
theorem parS3_ap (i j l : Nat) (f : FA) : parS3 i j l f δ S = (f δ S).bd fun p => match p.1 with
  | [x, y, z] => some (.nx, ((δ.set i (some x)).set j (some y)).set l (some z), p.2)
  | _ => none := rfl
theorem augS_ap (i : Nat) (f : FE) (o : O2) : augS i f o δ S = (varD i δ S).bd fun x => (f δ x.2).bd fun p => (o x.1 p.1 p.2).bd fun z => some (.nx, δ.set i (some z.1), z.2) := rfl
theorem fldS_ap (C : Addr) (f : Str) (fa fv : FE) : fldS C f fa fv δ S = (fv δ S).bd fun y => (fa δ y.2).bd fun p => match p.1 with
  | .loc n => match p.2[n]? with
    | some (.ins C' gs) => if C' = C ∧ gs.length < 1000 then some (.nx, δ, p.2.set n (.ins C (putD f y.1 gs))) else none
    | _ => none
  | _ => none := rfl
theorem nmG_ap (i : Nat) (d : D) : nmG i d δ S = some (δ.set i (some d), S) := rfl
theorem nilG_ap : nilG [] δ S = some (δ, S) := rfl
theorem consG_ap (t : FG) (u : FGs) (d : D) (r : List D) : consG t u (d :: r) δ S = (t d δ S).bd fun p => u r p.1 p.2 := rfl
theorem tupG_ap (n : Nat) (u : FGs) (ds : List D) : tupG n u (.tup ds) δ S = if ds.length = n then u ds δ S else none := rfl
theorem subG_ap (o : OSt) (fo fi : FE) (d : D) : subG o fo fi d δ S = (fo δ S).bd fun p => (fi δ p.2).bd fun q => (o p.1 q.1 d q.2).bd fun S' => some (δ, S') := rfl
theorem forS_ap (k : Ik) (f : FA) (g : FG) (body : FS) : forS k f g body δ S = (f δ S).bd fun p => (k p.1 p.2).bd fun items => forGo k p.1 items g body items δ p.2 := rfl
theorem lcD_ap (k : Ik) (fa : FA) (g : FG) (c : FT) (f : FE) (vs : List Nat) : lcD k fa g c f vs δ S = (fa δ S).bd fun p => (k p.1 p.2).bd fun items => if Fits (items.length) then (lcGo k p.1 items g c f (wipeD δ vs) items [] p.2).bd fun r => some (.lst r.1, r.2) else none := rfl
theorem lcDN_ap (k : Ik) (fa : FA) (g : FG) (c : FT) (f : FE) (vs : List Nat) : lcDN k fa g c f vs δ S = (lcD k fa g c f vs δ S).bd fun p => match p.1 with
  | .lst ds => some (.loc p.2.length, p.2 ++ [.lst ds])
  | _ => none := rfl
def endB (φ : Nat → D → Sg → Option (D × Sg)) (n : Nat) (r : Fl × Dl × Sg) : Option (D × Sg) := match r.1 with
  | .rt d => φ n d r.2.2
  | .nx => φ n .non r.2.2
  | _ => none
theorem bodyF_ap (φ : Nat → D → Sg → Option (D × Sg)) (n : Nat) (body : FS) (ds : List D) : bodyF φ n body ds S = (body (ds.map some ++ List.replicate (n - ds.length) none) S).bd fun r => endB φ S.length r := rfl
theorem endB_rt (φ : Nat → D → Sg → Option (D × Sg)) (n : Nat) (d : D) : endB φ n (.rt d, δ, S) = φ n d S := rfl
theorem endB_nx (φ : Nat → D → Sg → Option (D × Sg)) (n : Nat) : endB φ n (.nx, δ, S) = φ n .non S := rfl
theorem fin_eq {n : Nat} (d : D) (h : S.length = n) : fin n d S = some (d, S) := if_pos h
theorem finK_ap (n : Nat) (d : D) : finK n d S = some (d, S) := rfl
/-! values -/
theorem isB_bl (b : Bool) : isB (.bl b) = some b := rfl
theorem isI_int (i : Int) : isI (.int i) = some i := rfl
theorem cmpO_int (p : Int → Int → Bool) (i j : Int) : cmpO p (.int i) (.int j) S = some (.bl (p i j), S) := rfl
theorem int0_int (g : Int → Int → D) (i j : Int) : int0 g (.int i) (.int j) S = some (g i j, S) := rfl
theorem addO_int (i j : Int) : addO (.int i) (.int j) S = some (.int (i + j), S) := rfl
theorem subO_int (i j : Int) : subO (.int i) (.int j) S = some (.int (i - j), S) := rfl
theorem mulO_int (i j : Int) : mulO (.int i) (.int j) S = if MulB i j then some (.int (i * j), S) else none := rfl
theorem modO_int (i j : Int) : modO (.int i) (.int j) S = if 0 < j then some (.int (i % j), S) else none := rfl
theorem fdivO_int (i j : Int) : fdivO (.int i) (.int j) S = if DivB j then some (.int (i / j), S) else none := rfl
theorem powO_int (i j : Int) : powO (.int i) (.int j) S = if PowB i j then some (.int (i ^ j.toNat), S) else none := rfl
def obL : Ob → Option (List D)
  | .lst ds => some ds
  | _ => none
def obI (C : Addr) : Ob → Option (List (Str × D))
  | .ins C' gs => if C' = C then some gs else none
  | _ => none
theorem obL_lst (ds : List D) : obL (.lst ds) = some ds := rfl
theorem obI_ins (C C' : Addr) (gs : List (Str × D)) : obI C (.ins C' gs) = if C' = C then some gs else none := rfl
theorem ixv_lst (ds : List D) (i : Int) : ixO (.lst ds) (.int i) S = (atI ds i).bd fun x => some (x, S) := rfl
theorem ixv_rol (ds : List D) (i : Int) : ixO (.rol ds) (.int i) S = (atI ds i).bd fun x => some (x, S) := rfl
theorem ixv_tup (ds : List D) (i : Int) : ixO (.tup ds) (.int i) S = (atI ds i).bd fun x => some (x, S) := rfl
theorem ixv_str (z : Str) (i : Int) : ixO (.str z) (.int i) S = if Fits (z.length) then (atI z.cps.toList i).bd fun c => some (.str ⟨#[c]⟩, S) else none := rfl
theorem joinv_lst (a : Str) (xs : List D) : joinO (.str a) [.lst xs] S = (strsOf xs).bd fun ys => if Fits ((ys.map (·.length)).sum + ys.length * a.length) then some (.str (Txt.join a ys), S) else none := rfl
theorem isStrv (z : Str) : isStr S (.str z) = true := rfl
theorem lsv_lst (ds : List D) : lsOf S (.lst ds) = some ds := rfl
theorem lsv_rol (ds : List D) : lsOf S (.rol ds) = some ds := rfl
theorem lsv_tup (ds : List D) : lsOf S (.tup ds) = none := rfl
theorem lsv_loc (n : Nat) : lsOf S (.loc n) = (S[n]?).bd obL := by
  unfold lsOf
  dsimp only
  cases S[n]? with
  | none => rfl
  | some o => cases o <;> rfl
theorem plv_lst (ds : List D) : plOf S (.lst ds) = some ds := rfl
theorem plv_loc (n : Nat) : plOf S (.loc n) = (S[n]?).bd obL := by
  unfold plOf
  dsimp only
  cases S[n]? with
  | none => rfl
  | some o => cases o <;> rfl
theorem tpv_tup (ds : List D) : tpOf (.tup ds) = some ds := rfl
theorem sqv_lst (ds : List D) : sqOf S (.lst ds) = some ds := rfl
theorem sqv_rol (ds : List D) : sqOf S (.rol ds) = some ds := rfl
theorem sqv_tup (ds : List D) : sqOf S (.tup ds) = some ds := rfl
theorem sqv_loc (n : Nat) : sqOf S (.loc n) = (S[n]?).bd obL := by
  unfold sqOf
  rw [lsv_loc]
  cases (S[n]?).bd obL <;> rfl
theorem ixv_loc (n : Nat) (i : Int) : ixO (.loc n) (.int i) S = ((S[n]?).bd obL).bd fun ds => (atI ds i).bd fun x => some (x, S) := by
  unfold ixO
  simp only [sqv_loc]
  cases (S[n]?).bd obL <;> rfl
theorem setL_loc (n : Nat) (k : Int) (z : D) : setLO (.loc n) (.int k) z S = ((S[n]?).bd obL).bd fun ds => (ixN ds.length k).bd fun j => some (S.set n (.lst (ds.set j z))) := by
  unfold setLO
  dsimp only
  cases S[n]? with
  | none => rfl
  | some o => cases o <;> rfl
theorem app_loc (n : Nat) (y : D) : appO (.loc n) [y] S = ((S[n]?).bd obL).bd fun xs => if Fits (xs.length) then some (.non, S.set n (.lst (xs ++ [y]))) else none := by
  unfold appO
  dsimp only
  cases S[n]? with
  | none => rfl
  | some o => cases o <;> rfl
theorem isLoc_loc (n : Nat) : isLoc S (.loc n) = ((S[n]?).bd obL).isSome := by
  unfold isLoc
  rw [lsv_loc]
theorem fsv_loc (C : Addr) (n : Nat) : fsOf S C (.loc n) = (S[n]?).bd (obI C) := by
  unfold fsOf
  dsimp only
  cases S[n]? with
  | none => rfl
  | some o => cases o <;> rfl
theorem fsv_ins (C C' : Addr) (ns : List Str) (ds : List D) : fsOf S C (.ins C' ns ds) = if C' = C then some (ns.zip ds) else none := rfl
theorem tyv_loc (n : Nat) : tyN S (.loc n) = ((S[n]?).bd obL).bd fun _ => some "list" := by
  unfold tyN
  dsimp only
  cases S[n]? with
  | none => rfl
  | some o => cases o <;> rfl
theorem tyv_non : tyN S .non = some "NoneType" := rfl
theorem tyv_bl (b : Bool) : tyN S (.bl b) = some "bool" := rfl
theorem tyv_int (i : Int) : tyN S (.int i) = some "int" := rfl
theorem tyv_str (z : Str) : tyN S (.str z) = some "str" := rfl
theorem tyv_tup (ds : List D) : tyN S (.tup ds) = some "tuple" := rfl
theorem tyv_lst (ds : List D) : tyN S (.lst ds) = some "list" := rfl
theorem truv_loc (n : Nat) : truB S (.loc n) = ((S[n]?).bd obL).bd fun xs => some (!xs.isEmpty) := by
  show (sqOf S (.loc n)).bind _ = _
  rw [sqv_loc]
  rfl
theorem isNv_non : isNoneB .non = true := rfl
theorem isNv_int (i : Int) : isNoneB (.int i) = false := rfl
theorem isNv_lst (ds : List D) : isNoneB (.lst ds) = false := rfl
theorem isNv_loc (n : Nat) : isNoneB (.loc n) = false := rfl
theorem isNv_tup (ds : List D) : isNoneB (.tup ds) = false := rfl
theorem isNv_rol (ds : List D) : isNoneB (.rol ds) = false := rfl
theorem sqK_1 (d : D) : sqK [d] S = sqOf S d := rfl
theorem enK_1 (d : D) : enK [d] S = (lsOf S d).bd fun xs => some (enumL xs) := rfl
theorem r1K_1 (j : Int) : r1K [.int j] S = if R62 j then some (rngL 0 j.toNat) else none := rfl
theorem r2K_1 (i j : Int) : r2K [.int i, .int j] S = if R62 i ∧ R62 j then some (rngL i (j - i).toNat) else none := rfl
theorem lenv_seq (d : D) : lenO [d] S = match sqOf S d with
    | some xs => some (.int (xs.length : Int), S)
    | none => match d with
      | .str z => if Fits (z.length) then some (.int (z.length : Int), S) else none
      | _ => none := rfl
theorem lenv_lst (ds : List D) : lenO [.lst ds] S = some (.int (ds.length : Int), S) := rfl
theorem lenv_rol (ds : List D) : lenO [.rol ds] S = some (.int (ds.length : Int), S) := rfl
theorem lenv_tup (ds : List D) : lenO [.tup ds] S = some (.int (ds.length : Int), S) := rfl
theorem lenv_loc (n : Nat) : lenO [.loc n] S = ((S[n]?).bd obL).bd fun xs => some (.int (xs.length : Int), S) := by
  rw [lenv_seq, sqv_loc]
  cases (S[n]?).bd obL <;> rfl
theorem lenv_str (z : Str) : lenO [.str z] S = if Fits (z.length) then some (.int (z.length : Int), S) else none := rfl
theorem absv (i : Int) : absO [.int i] S = some (.int (if i < 0 then -i else i), S) := rfl
theorem max2v (i j : Int) : max2O [.int i, .int j] S = some (.int (if j > i then j else i), S) := rfl
theorem min2v (i j : Int) : min2O [.int i, .int j] S = some (.int (if j < i then j else i), S) := rfl
theorem int1v_i (i : Int) : int1O [.int i] S = some (.int i, S) := rfl
theorem int1v_b (k : Bool) : int1O [.bl k] S = some (.int (if k then 1 else 0), S) := rfl
theorem tuplev (d : D) : tupleO [d] S = match lsOf S d with
    | some xs => some (.tup xs, S)
    | none => (tpOf d).bd fun xs => some (.tup xs, S) := rfl
theorem tuplev_lst (ds : List D) : tupleO [.lst ds] S = some (.tup ds, S) := rfl
theorem tuplev_tup (ds : List D) : tupleO [.tup ds] S = some (.tup ds, S) := rfl
theorem tuplev_loc {n : Nat} {ds : List D} (h : S[n]? = some (.lst ds)) : tupleO [.loc n] S = some (.tup ds, S) := by
  rw [tuplev, lsv_loc, h]
  rfl
theorem eqv_int (i j : Int) : eqO (.int i) (.int j) S = some (.bl (decide (i = j)), S) := rfl
theorem eqv_str (i j : Str) : eqO (.str i) (.str j) S = some (.bl (decide (i = j)), S) := rfl
theorem eqv_bl (i j : Bool) : eqO (.bl i) (.bl j) S = some (.bl (decide (i = j)), S) := rfl
theorem nev_int (i j : Int) : neO (.int i) (.int j) S = some (.bl (!decide (i = j)), S) := rfl
theorem nev_bl (i j : Bool) : neO (.bl i) (.bl j) S = some (.bl (!decide (i = j)), S) := rfl
theorem isN_ap (neg : Bool) (d : D) : isNO neg d S = some (.bl (if neg then !isNoneB d else isNoneB d), S) := rfl
theorem isiv (d : D) (b : String) : isiO [d, .ty b] S = (tyN S d).bd fun a => (kitB a b).bd fun r => some (.bl r, S) := rfl
theorem isiTv (d : D) (cs : List D) : isiTO [d, .tup cs] S = (tyN S d).bd fun a => (tysOf cs).bd fun bs => (kitL a bs).bd fun r => some (.bl r, S) := rfl
theorem allv (ds : List D) : allO [.lst ds] S = (blsOf ds).bd fun bs => some (.bl (bs.all id), S) := rfl
theorem anyv (ds : List D) : anyO [.lst ds] S = (blsOf ds).bd fun bs => some (.bl (bs.any id), S) := rfl
theorem sortv (ds : List D) : sortO [.lst ds] S = (intsOf ds).bd fun ns => if ns.length < 64 then some (.lst ((sortI ns).map .int), S) else none := rfl
theorem catv (d e : D) (h1 : ∀ i, d ≠ .int i) (h2 : ∀ i, d ≠ .str i) : addO d e S = catO d e S := by
  unfold addO
  split
  · exact absurd rfl (h1 _)
  · exact absurd rfl (h2 _)
  · rfl
theorem addv_ll (xs ys : List D) : addO (.lst xs) (.lst ys) S = if Fits (xs.length + ys.length) then some (.lst (xs ++ ys), S) else none := rfl
theorem addv_cl (n : Nat) (ys : List D) : addO (.loc n) (.lst ys) S = ((S[n]?).bd obL).bd fun xs => if Fits (xs.length + ys.length) then some (.lst (xs ++ ys), S) else none := by
  show catO (.loc n) (.lst ys) S = _
  unfold catO
  rw [plv_loc]
  rfl
theorem addv_str (i j : Str) : addO (.str i) (.str j) S = if Fits (i.length + j.length) then some (.str (i ++ j), S) else none := rfl
theorem mulv_li (xs : List D) (k : Int) : mulO (.lst xs) (.int k) S = if R63 k ∧ Fits (xs.length * k.toNat) then some (.lst (List.replicate k.toNat xs).flatten, S) else none := rfl
theorem slv_lst (ds : List D) (lo hi : Option Int) : slO (.lst ds) lo hi S = some (.lst (cutD ds lo hi), S) := rfl
theorem slv_loc (n : Nat) (lo hi : Option Int) : slO (.loc n) lo hi S = ((S[n]?).bd obL).bd fun ds => some (.lst (cutD ds lo hi), S) := by
  show slLO (.loc n) lo hi S = _
  unfold slLO
  rw [lsv_loc]
  rfl
theorem atI_0 {α : Type} (x : α) (r : List α) : atI (x :: r) 0 = some x := by
  unfold atI ixN
  rw [if_pos (by decide), if_pos (by simp only [List.length_cons]; omega)]
  rfl
theorem atI_ofNat {α : Type} (l : List α) (i : Nat) : atI l (i : Int) = l[i]? := by
  unfold atI ixN
  rw [if_pos (by omega)]
  split
  · rfl
  · rw [List.getElem?_eq_none (by omega)]; rfl
end
end DL
end
noncomputable section
namespace DL
open PySem L2
/-! ### loops, reckoned -/
def stepLc (g : FG) (c : FT) (f : FE) (δ : Dl) (d : D) (S : Sg) : Option (Option D × Sg) := (g d δ S).bind fun p => (c p.1 p.2).bind fun b => if b.1 = true then (f p.1 b.2).bind fun y => some (some y.1, y.2) else some (none, b.2)
theorem lcGo_nil {k : Ik} {ds items : List D} {g : FG} {c : FT} {f : FE} {δ : Dl} {acc : List D} {S : Sg} (hk : k ds S = some items) : lcGo k ds items g c f δ [] acc S = some (acc, S) := by
  unfold lcGo
  rw [if_pos hk]
theorem lcGo_cons {k : Ik} {ds items : List D} {g : FG} {c : FT} {f : FE} {δ : Dl} {d : D} {r acc : List D} {S : Sg} {y : Option D} {S' : Sg} (hk : k ds S = some items) (hs : stepLc g c f δ d S = some (y, S')) :
    lcGo k ds items g c f δ (d :: r) acc S = lcGo k ds items g c f δ r (acc ++ y.toList) S' := by
  rw [lcGo, if_pos hk]
  obtain ⟨⟨δ1, S1⟩, e1, h⟩ := bnd hs
  obtain ⟨⟨b, S2⟩, e2, h⟩ := bnd h
  rw [e1]
  show (c δ1 S1).bind _ = _
  rw [e2]
  cases b with
  | true =>
    obtain ⟨⟨z, S3⟩, e3, h⟩ := bnd (o := f δ1 S2) h
    cases h
    show (f δ1 S2).bind _ = _
    rw [e3]
    rfl
  | false =>
    cases h
    show lcGo k ds items g c f δ r acc _ = _
    simp
theorem lcGo_pure {k : Ik} {ds items : List D} {g : FG} {c : FT} {f : FE} {δ : Dl} {S : Sg} {h : D → Option D} (hk : k ds S = some items) : ∀ {r acc : List D}, (∀ d ∈ r, stepLc g c f δ d S = some (h d, S)) → lcGo k ds items g c f δ r acc S = some (acc ++ r.filterMap h, S)
  | [], acc, _ => by rw [lcGo_nil hk]; simp
  | d :: r, acc, hs => by
    rw [lcGo_cons hk (hs d (by simp)), lcGo_pure hk fun x hx => hs x (by simp [hx])]
    cases e : h d <;> simp [List.filterMap_cons, e]
theorem lcGo_map {k : Ik} {ds items : List D} {g : FG} {c : FT} {f : FE} {δ : Dl} {S : Sg} {h : D → D} (hk : k ds S = some items) {r acc : List D} (hs : ∀ d ∈ r, stepLc g c f δ d S = some (some (h d), S)) : lcGo k ds items g c f δ r acc S = some (acc ++ r.map h, S) := by
  rw [lcGo_pure (h := fun d => some (h d)) hk hs, List.filterMap_eq_map' ]
/-- a list whose making changes the store: P of the store is kept, each item has R -/
theorem lcGo_inv {k : Ik} {ds items : List D} {g : FG} {c : FT} {f : FE} {δ : Dl} (P : Nat → Sg → Prop) (R : D → Prop) (m : Nat) (hk : ∀ i S, P i S → k ds S = some items) (hs : ∀ i d S, i < m → d ∈ items → P i S → ∃ y S', stepLc g c f δ d S = some (some y, S') ∧ P (i + 1) S' ∧ R y) :
    ∀ {r acc : List D} {i : Nat} {S : Sg}, i + r.length ≤ m → (∀ d ∈ r, d ∈ items) → P i S → ∃ out S', lcGo k ds items g c f δ r acc S = some (acc ++ out, S') ∧ P (i + r.length) S' ∧ out.length = r.length ∧ ∀ y ∈ out, R y
  | [], acc, i, S, _, _, p => ⟨[], S, by rw [lcGo_nil (hk i S p)]; simp, p, rfl, fun y h => (by cases h)⟩
  | d :: r, acc, i, S, hi, hm, p => by
    rw [List.length_cons] at hi
    obtain ⟨y, S1, e, p1, ry⟩ := hs i d S (by omega) (hm d (by simp)) p
    obtain ⟨out, S2, e2, p2, l2, r2⟩ := lcGo_inv P R m hk hs (r := r) (acc := acc ++ [y]) (by omega) (fun x hx => hm x (by simp [hx])) p1
    refine ⟨y :: out, S2, ?_, ?_, by simp [l2], fun z hz => ?_⟩
    · rw [lcGo_cons (hk i S p) e, show acc ++ (some y).toList = acc ++ [y] from rfl, e2]
      simp
    · rw [List.length_cons, show i + (r.length + 1) = i + 1 + r.length by omega]
      exact p2
    · rcases List.mem_cons.mp hz with rfl | hz
      · exact ry
      · exact r2 z hz
def stepFor (g : FG) (body : FS) (d : D) (δ : Dl) (S : Sg) : Option (Fl × Dl × Sg) := (g d δ S).bind fun p => body p.1 p.2
theorem forGo_nil {k : Ik} {ds items : List D} {g : FG} {body : FS} {δ : Dl} {S : Sg} (hk : k ds S = some items) : forGo k ds items g body [] δ S = some (.nx, δ, S) := by
  unfold forGo
  rw [if_pos hk]
theorem forGo_cons {k : Ik} {ds items : List D} {g : FG} {body : FS} {d : D} {r : List D} {δ δ' : Dl} {S S' : Sg} (hk : k ds S = some items) (hs : stepFor g body d δ S = some (.nx, δ', S')) : forGo k ds items g body (d :: r) δ S = forGo k ds items g body r δ' S' := by
  rw [forGo, if_pos hk]
  obtain ⟨⟨δ1, S1⟩, e1, h⟩ := bnd hs
  rw [e1]
  show (body δ1 S1).bind _ = _
  rw [h]
  rfl
theorem forGo_ret {k : Ik} {ds items : List D} {g : FG} {body : FS} {d v : D} {r : List D} {δ δ' : Dl} {S S' : Sg} (hk : k ds S = some items) (hs : stepFor g body d δ S = some (.rt v, δ', S')) : forGo k ds items g body (d :: r) δ S = some (.rt v, δ', S') := by
  rw [forGo, if_pos hk]
  obtain ⟨⟨δ1, S1⟩, e1, h⟩ := bnd hs
  rw [e1]
  show (body δ1 S1).bind _ = _
  rw [h]
  rfl
/-- a loop by what holds between two turns -/
theorem forGo_inv {k : Ik} {ds items : List D} {g : FG} {body : FS} (I : Nat → Dl → Sg → Prop) (hk : ∀ i δ S, I i δ S → k ds S = some items) (hs : ∀ i d δ S, items[i]? = some d → I i δ S → ∃ δ' S', stepFor g body d δ S = some (.nx, δ', S') ∧ I (i + 1) δ' S') :
    ∀ {r : List D} {i : Nat} {δ : Dl} {S : Sg}, i ≤ items.length → items.drop i = r → I i δ S → ∃ δ' S', forGo k ds items g body r δ S = some (.nx, δ', S') ∧ I items.length δ' S'
  | [], i, δ, S, hl, hr, p => ⟨δ, S, forGo_nil (hk i δ S p), by
      have : items.length ≤ i := List.drop_eq_nil_iff.mp hr
      rw [show items.length = i by omega]
      exact p⟩
  | d :: r, i, δ, S, hl, hr, p => by
    have hi : items[i]? = some d := by
      have := congrArg (fun l => l[0]?) hr
      simpa using this
    obtain ⟨δ1, S1, e, p1⟩ := hs i d δ S hi p
    obtain ⟨δ2, S2, e2, p2⟩ := forGo_inv I hk hs (r := r) (i := i + 1) (List.getElem?_eq_some_iff.mp hi).1 (by rw [← List.drop_drop, hr]; rfl) p1
    exact ⟨δ2, S2, by rw [forGo_cons (hk i δ S p) e, e2], p2⟩
theorem mapC {f : D → D} {δ : Dl} {S : Sg} {d : D} {g : FG} {fe : FE} {δ' : Dl} (h1 : g d δ S = some (δ', S)) (h2 : fe δ' S = some (f d, S)) : stepLc g yesT fe δ d S = some (some (f d), S) := by
  unfold stepLc
  rw [h1]
  show (fe δ' S).bind _ = _
  rw [h2]
  rfl
theorem mapC' {δ : Dl} {S S' : Sg} {d y : D} {g : FG} {fe : FE} {δ' : Dl} (h1 : g d δ S = some (δ', S)) (h2 : fe δ' S = some (y, S')) : stepLc g yesT fe δ d S = some (some y, S') := by
  unfold stepLc
  rw [h1]
  show (fe δ' S).bind _ = _
  rw [h2]
  rfl
end DL
end
noncomputable section
namespace DL
open PySem L2
/-! ### dicts that are made once, of texts, and only read -/
section
variable {K : PySem.W.Frag}
def slotsD (δ : Dl) : List Nat → Option (List D)
  | [] => some []
  | i :: r => (δ[i]?).bind fun o => o.bind fun d => (slotsD δ r).bind fun ds => some (d :: ds)
def dicD (ks : List Str) (is : List Nat) : FE := fun δ S => (slotsD δ is).bind fun ds => some (.dic ks ds, S)
def dicTrs (ks : List Str) (is : List Nat) : List (TE × TE) := (ks.zip is).map fun p => (tC (.str p.1), tVar p.2)
inductive SlV (σ : St) : List Nat → List V → Prop
  | nil : SlV σ [] []
  | cons {i : Nat} {v : V} {is : List Nat} {vs : List V} (h : σ[i]? = some (some v)) (r : SlV σ is vs) : SlV σ (i :: is) (v :: vs)
theorem RS.slots {H : Hp} {ρ : Ro} {σ : St} {δ : Dl} (h : RS K H ρ σ δ) : ∀ {is : List Nat} {ds : List D}, slotsD δ is = some ds → ∃ vs, SlV σ is vs ∧ RVs K H ρ vs ds
  | [], _, e => by cases e; exact ⟨[], .nil, .nil⟩
  | i :: r, _, e => by
    unfold slotsD at e
    obtain ⟨o, e1, e⟩ := bnd e
    obtain ⟨d, e2, e⟩ := bnd e
    obtain ⟨ds, e3, e⟩ := bnd e
    cases e
    subst e2
    obtain ⟨v, hv, rv⟩ := h.get e1
    obtain ⟨vs, h1, h2⟩ := RS.slots h e3
    exact ⟨v :: vs, .cons hv h1, .cons rv h2⟩
theorem SlV.len {σ : St} : ∀ {is : List Nat} {vs : List V}, SlV σ is vs → is.length = vs.length
  | _, _, .nil => rfl
  | _, _, .cons _ r => by rw [List.length_cons, List.length_cons, SlV.len r]
theorem dic_pairs {σ : St} {H : Hp} : ∀ {ks : List Str} {is : List Nat} {vs : List V} {Q : List (V × V) → Hp → Prop}, SlV σ is vs → Q ((ks.zip vs).map fun p => (V.str p.1, p.2)) H → tPairs (dicTrs ks is) σ H Q
  | [], is, vs, Q, _, h => h
  | k :: ks, _, _, Q, .nil, h => h
  | k :: ks, _, _, Q, .cons hv r, h => ⟨_, hv, dic_pairs (ks := ks) r h⟩
theorem mergeK_new : ∀ (more kvs : List (Key × V)), (kvs.map (·.1) ++ more.map (·.1)).Nodup → mergeK kvs more = kvs ++ more
  | [], kvs, _ => by rw [List.append_nil]; rfl
  | p :: r, kvs, h => by
    have hn : valV kvs p.1 = none := by
      cases q : valV kvs p.1 with
      | none => rfl
      | some x =>
        have a : (kvs.any fun kv => decide (kv.1 = p.1)) = true := by rw [valV_any, q]; rfl
        obtain ⟨kv, hm, he⟩ := List.any_eq_true.mp a
        rw [List.map_cons, List.nodup_append] at h
        exact (h.2.2 kv.1 (List.mem_map_of_mem hm) p.1 (List.mem_cons_self ..) (of_decide_eq_true he)).elim
    show mergeK (putK kvs p.1 p.2) r = _
    rw [putK_new _ hn, mergeK_new r (kvs ++ [(p.1, p.2)])]
    · rw [List.append_assoc]; rfl
    · rw [List.map_append, List.append_assoc]
      exact h
theorem le_dic {ks : List Str} {is : List Nat} (hn : ks.Nodup) (hl : ks.length = is.length) (h15 : ks.length ≤ 15) : ∀ σ H Q, tD K (dicD ks is) σ H Q → tDisp (dicTrs ks is) σ H Q := by
  rintro σ H Q ⟨ρ, δ, S, d, S', hS, hσ, e, q⟩
  obtain ⟨ds, e1, e⟩ := bnd e
  cases e
  obtain ⟨vs, h1, h2⟩ := hσ.slots e1
  have lv : ks.length = vs.length := hl.trans h1.len
  intro p hp
  have k1 : ((ks.zip vs).map fun p => ((Sum.inr p.1 : Key), p.2)).map (·.1) = ks.map Sum.inr := by
    rw [List.map_map]
    show (ks.zip vs).map (fun p => (Sum.inr p.1 : Key)) = _
    rw [show (fun p : Str × V => (Sum.inr p.1 : Key)) = Sum.inr ∘ Prod.fst from rfl, ← List.map_map, List.map_fst_zip (by omega)]
  have k2 : ((ks.zip vs).map fun p => ((Sum.inr p.1 : Key), p.2)).map (·.2) = vs := by
    rw [List.map_map]
    show (ks.zip vs).map (fun p => p.2) = _
    rw [show (fun p : Str × V => p.2) = Prod.snd from rfl, List.map_snd_zip (by omega)]
  refine dic_pairs h1 ⟨upd_same, (ks.zip vs).map fun p => ((Sum.inr p.1 : Key), p.2), ?_, ?_, ?_⟩
  · rw [List.map_map]; rfl
  · rw [List.length_map, List.length_zip]; omega
  · rw [upd_upd, mergeK_new _ [] (by rw [k1]; exact List.pairwise_map.mpr (hn.imp fun h z => h (Sum.inr.inj z))), List.nil_append]
    refine q _ _ ρ (Step.new hS hp) (hS.new hp) (.dic upd_same (hS.fresh hp) k1 ?_)
    rw [k2]
    exact h2.mono (Step.new hS hp)
def dgO : O2 := fun d e S => match d, e with
  | .dic ks ds, .str k => ((ks.zip ds).lookup k).bind fun x => some (x, S)
  | _, _ => none
theorem dic_look {H : Hp} {ρ : Ro} {k : Str} {d : D} : ∀ {kvs : List (Key × V)} {ks : List Str} {ds : List D}, kvs.map (·.1) = ks.map Sum.inr → RVs K H ρ (kvs.map (·.2)) ds → (ks.zip ds).lookup k = some d → ∃ v, valV kvs (.inr k) = some v ∧ RV K H ρ v d
  | [], [], _, _, _, h => by simp at h
  | p :: kvs, [], _, e, _, h => by simp at e
  | [], k' :: ks, _, e, _, _ => by simp at e
  | p :: kvs, k' :: ks, _, e, r, h => by
    rw [List.map_cons, List.map_cons] at e
    injection e with e1 e2
    rw [List.map_cons] at r
    cases r with
    | @cons _ d0 _ ds hv hr =>
      rw [List.zip_cons_cons, List.lookup_cons] at h
      by_cases hk : k = k'
      · subst hk
        rw [beq_self_eq_true] at h
        cases h
        exact ⟨p.2, valV_pos e1, hv⟩
      · have hb : (k == k') = false := beq_eq_false_iff_ne.mpr hk
        rw [hb] at h
        obtain ⟨v, h1, h2⟩ := dic_look e2 hr h
        refine ⟨v, ?_, h2⟩
        rw [valV_neg (p := p) (fun z => hk (Sum.inr.inj (z.symm.trans e1))), h1]
theorem dgO_some {d e z : D} {S S' : Sg} (h : dgO d e S = some (z, S')) : ∃ ks ds k, d = .dic ks ds ∧ e = .str k ∧ (ks.zip ds).lookup k = some z ∧ S' = S := by
  unfold dgO at h
  split at h
  · obtain ⟨x, e3, h⟩ := bnd h
    cases h
    exact ⟨_, _, _, rfl, rfl, e3, rfl⟩
  · cases h
theorem le_dget {fa fb : FE} : ∀ σ H Q, tD K (op2D dgO fa fb) σ H Q → tDGet (tD K fa) (tD K fb) σ H Q := by
  rintro σ H Q ⟨ρ, δ, S, d, S', hS, hσ, e, q⟩
  obtain ⟨⟨x, S1⟩, e1, e⟩ := bnd e
  obtain ⟨⟨y, S2⟩, e2, e⟩ := bnd e
  obtain ⟨ks, ds, k, rfl, rfl, e3, rfl⟩ := dgO_some e
  refine ⟨ρ, δ, S, _, S1, hS, hσ, e1, fun v H1 ρ1 s1 hS1 rv => ⟨ρ1, δ, S1, _, S', hS1, hσ.mono s1, e2, fun w H2 ρ2 s2 hS2 rw' => ?_⟩⟩
  have rv2 := rv.mono s2
  cases rw'
  cases rv2 with
  | dic h n ee r =>
    obtain ⟨v, h1, h2⟩ := dic_look ee r e3
    exact ⟨_, v, rfl, .inl ⟨_, .inr _, .inl h, rfl, h1.symm⟩, q _ _ _ (s1.trans s2) hS2 h2⟩
end
section
variable {X : Cx} {a b : Expr} {pos : Pos} {f g : FE}
theorem jdget (hu : X.A.units + 1 < cLine) (ha : JE X a f) (hb : JE X b g) (hs : NoSl b := by exact fun _ _ => rfl) : JE X (.Subscript a b pos) (op2D dgO f g) := PE.imp (pe_dget hu ha hb hs) le_dget
theorem jdic {keys : List (Option Expr)} {values : List Expr} {ks : List Str} {is : List Nat} (h : PPs X pos keys values (dicTrs ks is)) (hall : keys.all (·.isSome) = true := by rfl) (hl : keys.length = values.length := by rfl) (h0 : keys ≠ [] := by simp)
    (h15 : keys.length ≤ 15 := by decide) (hn : ks.Nodup := by decide +kernel) (hk : ks.length = is.length := by rfl) (hk15 : ks.length ≤ 15 := by decide) : JE X (.Dict keys values pos) (dicD ks is) := PE.imp (pe_disp h hall hl h0 h15) (le_dic hn hk hk15)
theorem jdk {k : Str} {j} {ks : List (Option Expr)} {v : Expr} {vs : List Expr} {i : Nat} {ks' : List Str} {is' : List Nat} {p2 : Pos} (hv : PE X v (tVar i)) (hr : PPs X pos ks vs (dicTrs ks' is')) : PPs X pos (some (.Constant (.str k) j p2) :: ks) (v :: vs) (dicTrs (k :: ks') (i :: is')) := pps_cons pe_str hv hr
theorem jdknil : PPs X pos [] [] (dicTrs [] []) := pps_nil
end
theorem dgv (ks : List Str) (ds : List D) (k : Str) (S : Sg) : dgO (.dic ks ds) (.str k) S = ((ks.zip ds).lookup k).bd fun x => some (x, S) := rfl
theorem dicD_ap (ks : List Str) (is : List Nat) (δ : Dl) (S : Sg) : dicD ks is δ S = (slotsD δ is).bd fun ds => some (.dic ks ds, S) := rfl
end DL
end
noncomputable section
namespace DL
open PySem L2
/-! ### == and != of lists and tuples at any depth -/
mutual
def pyD : D → Option PyData
  | .non => some .none
  | .bl b => some (.bool b)
  | .int i => some (.int i)
  | .str z => some (.str z)
  | .tup ds => (pyL ds).bind fun r => some (.tuple r)
  | .lst ds => (pyL ds).bind fun r => some (.list r)
  | .rol ds => (pyL ds).bind fun r => some (.list r)
  | .ty _ => none
  | .ins _ _ _ => none
  | .dic _ _ => none
  | .exc _ _ _ => none
  | .loc _ => none
def pyL : List D → Option (List PyData)
  | [] => some []
  | d :: r => (pyD d).bind fun x => (pyL r).bind fun y => some (x :: y)
end
def pyT (S : Sg) (d : D) : Option PyData := match d with
  | .loc n => (lsOf S (.loc n)).bind fun ds => (pyL ds).bind fun r => some (.list r)
  | d => pyD d
def deepO (g : PyData → PyData → Bool) : O2 := fun d e S => (pyT S d).bind fun p => (pyT S e).bind fun q => if (SeqAt.shaped p && SeqAt.shaped q) = true then some (.bl (g p q), S) else none
def eqDO : O2 := deepO fun p q => PyData.eqv p q
def neDO : O2 := deepO fun p q => !PyData.eqv p q
section
variable {K : PySem.W.Frag}
mutual
theorem RV.dp {ρ : Ro} {H : Hp} : ∀ {v : V} {d : D} {p : PyData}, RV K H ρ v d → pyD d = some p → Dp K H v p
  | _, _, _, .non, e => by unfold pyD at e; cases e; exact .non
  | _, _, _, .bl, e => by unfold pyD at e; cases e; exact .bl _
  | _, _, _, .int, e => by unfold pyD at e; cases e; exact .int _
  | _, _, _, .str, e => by unfold pyD at e; cases e; exact .str _
  | _, _, _, .ty, e => by unfold pyD at e; cases e
  | _, _, _, .tup h n r, e => by
    unfold pyD at e
    obtain ⟨x, e1, e⟩ := bnd e
    cases e
    exact .tup (.inl (.inl h)) (RVs.dp r e1)
  | _, _, _, .lst h n r, e => by
    unfold pyD at e
    obtain ⟨x, e1, e⟩ := bnd e
    cases e
    exact .lst (.inl (.inl h)) (RVs.dp r e1)
  | _, _, _, .rol h r, e => by
    unfold pyD at e
    obtain ⟨x, e1, e⟩ := bnd e
    cases e
    exact .lst h.sq (RVs.dp r e1)
  | _, _, _, .ins h n r, e => by unfold pyD at e; cases e
  | _, _, _, .dic h n ee r, e => by unfold pyD at e; cases e
  | _, _, _, .exc h hd n nd r, e => by unfold pyD at e; cases e
  | _, _, _, .loc h, e => by unfold pyD at e; cases e
theorem RVs.dp {ρ : Ro} {H : Hp} : ∀ {vs : List V} {ds : List D} {ps : List PyData}, RVs K H ρ vs ds → pyL ds = some ps → DpAll K H vs ps
  | _, _, _, .nil, e => by unfold pyL at e; cases e; exact .nil
  | _, _, _, .cons h r, e => by
    unfold pyL at e
    obtain ⟨x, e1, e⟩ := bnd e
    obtain ⟨y, e2, e⟩ := bnd e
    cases e
    exact .cons (RV.dp h e1) (RVs.dp r e2)
end
theorem pyT_dp {ρ : Ro} {H : Hp} {S : Sg} {v : V} {d : D} {p : PyData} (hS : SR K H ρ S) (r : RV K H ρ v d) (e : pyT S d = some p) : Dp K H v p := by
  cases d with
  | loc n =>
    unfold pyT at e
    dsimp only at e
    obtain ⟨ds, e1, e⟩ := bnd e
    obtain ⟨x, e2, e⟩ := bnd e
    cases e
    unfold lsOf at e1
    dsimp only at e1
    cases r with
    | loc hn =>
      split at e1
      · rename_i hs
        cases e1
        obtain ⟨vs, h1, h2⟩ := hS.ob _ _ _ hn hs
        exact .lst (.inl (.inl h1)) (RVs.dp h2 e2)
      · cases e1
  | _ => exact RV.dp r e
theorem opD_deep {r : (PyData → PyData → Bool) → R2} {g : PyData → PyData → Bool} (hr : ∀ x y H Q d e, Dp K H x d → Dp K H y e → SeqAt.shaped d = true → SeqAt.shaped e = true → Q (.bl (g d e)) H → r g x y H Q) : OpD K (r g) (deepO g) := by
  intro x y H Q ρ S d e z S' hS rx ry eq q
  unfold deepO at eq
  obtain ⟨p, e1, eq⟩ := bnd eq
  obtain ⟨p2, e2, eq⟩ := bnd eq
  split at eq
  · rename_i hs
    cases eq
    rw [Bool.and_eq_true] at hs
    exact hr _ _ _ _ _ _ (pyT_dp hS rx e1) (pyT_dp hS ry e2) hs.1 hs.2 (q _ H ρ (Step.refl _ _) hS .bl)
  · cases eq
theorem opD_eqD : OpD K (rEqD K) eqDO := opD_deep (r := fun _ => rEqD K) fun _ _ _ _ _ _ h1 h2 h3 h4 q => ⟨_, _, h1, h2, h3, h4, q⟩
theorem opD_neD : OpD K (rNeD K) neDO := opD_deep (r := fun _ => rNeD K) fun _ _ _ _ _ _ h1 h2 h3 h4 q => ⟨_, _, h1, h2, h3, h4, q⟩
end
section
variable {X : Cx} {a b : Expr} {pos : Pos} {f g : FE}
theorem jeqD (hu : X.A.units + 64 < cLine) (ha : JE X a f) (hb : JE X b g) : JE X (.Compare a [.Eq] [b] pos) (op2D eqDO f g) := jcmpR (op_eqD hu) opD_eqD ha hb
theorem jteqD (hu : X.A.units + 64 < cLine) (ha : JE X a f) (hb : JE X b g) : JT X (.Compare a [.Eq] [b] pos) (tvD (op2D eqDO f g)) := jtcmpR (op_eqD hu) opD_eqD ha hb
theorem jneD (hu : X.A.units + 64 < cLine) (ha : JE X a f) (hb : JE X b g) : JE X (.Compare a [.NotEq] [b] pos) (op2D neDO f g) := jcmpR (op_neD hu) opD_neD ha hb
theorem jtneD (hu : X.A.units + 64 < cLine) (ha : JE X a f) (hb : JE X b g) : JT X (.Compare a [.NotEq] [b] pos) (tvD (op2D neDO f g)) := jtcmpR (op_neD hu) opD_neD ha hb
end
theorem un1 {k : Nat} {A : Around} (h : Room k A) : A.units + 1 < cLine := by have := h.un; omega
theorem un64 {k : Nat} {A : Around} (h : Room k A) : A.units + 64 < cLine := by have := h.un; omega
/-! reckoning: a list of numbers and the empty list -/
theorem pyL_ints : ∀ ns : List Int, pyL (ns.map .int) = some (ns.map .int)
  | [] => by unfold pyL; rfl
  | n :: r => by
    rw [List.map_cons]
    unfold pyL pyD
    rw [pyL_ints r]
    rfl
theorem lay_ints : ∀ ns : List Int, PyData.canLayAll0 (ns.map .int) = true
  | [] => by unfold PyData.canLayAll0; rfl
  | n :: r => by
    rw [List.map_cons]
    unfold PyData.canLayAll0 PyData.canLay0
    rw [lay_ints r]
    rfl
theorem dep_ints : ∀ ns : List Int, PyData.depthAll (ns.map .int) ≤ 1
  | [] => by rw [List.map_nil]; unfold PyData.depthAll; exact Nat.zero_le _
  | n :: r => by
    rw [List.map_cons]
    unfold PyData.depthAll PyData.depth
    have := dep_ints r
    omega
theorem shaped_ints (ns : List Int) : SeqAt.shaped (.list (ns.map .int)) = true := by
  unfold SeqAt.shaped PyData.canLay0 PyData.depth
  rw [lay_ints, Bool.true_and]
  have := dep_ints ns
  exact decide_eq_true (by omega)
theorem eqv_nil (ps : List PyData) : PyData.eqv (.list ps) (.list []) = ps.isEmpty := by
  cases ps with
  | nil => unfold PyData.eqv PyData.eqvAll; rfl
  | cons p r => unfold PyData.eqv PyData.eqvAll; rfl
theorem neD_nil {d : D} {S : Sg} {ns : List Int} (h : pyT S d = some (.list (ns.map .int))) : neDO d (.lst []) S = some (.bl (!ns.isEmpty), S) := by
  unfold neDO deepO
  rw [h, show pyT S (.lst []) = some (.list (([] : List Int).map .int)) from by unfold pyT pyD pyL; rfl]
  show (if (SeqAt.shaped _ && SeqAt.shaped _) = true then _ else _) = _
  rw [shaped_ints, shaped_ints, if_pos (by rfl)]
  show some (D.bl (!PyData.eqv (.list (ns.map .int)) (.list [])), S) = _
  rw [eqv_nil, List.isEmpty_map]
end DL
end
noncomputable section
namespace DL
open PySem L2
/-! ### rules for walking: a piece's answer from its parts' -/
section
variable {δ δ1 δ2 : Dl} {S S1 S2 S3 S4 : Sg}
theorem r_c {d : D} : cD d δ S = some (d, S) := rfl
theorem r_v {i : Nat} {d : D} (h : δ[i]? = some (some d)) : varD i δ S = some (d, S) := by rw [varD_ap, h]; rfl
theorem r_nil : nilA δ S = some ([], S) := rfl
theorem r_cons {f : FE} {g : FA} {d : D} {ds : List D} (h : f δ S = some (d, S1)) (h2 : g δ S1 = some (ds, S2)) : consA f g δ S = some (d :: ds, S2) := by
  rw [consA_ap, h, bd_some, h2]; rfl
theorem r_one {f : FE} {d : D} (h : f δ S = some (d, S1)) : oneA f δ S = some ([d], S1) := by
  rw [oneA_ap, h]; rfl
theorem r_tup {f : FA} {ds : List D} (h : f δ S = some (ds, S1)) (l : ds.length < 1000000) : tupD f δ S = some (.tup ds, S1) := by
  rw [tupD_ap, h, bd_some, if_pos ((fits_iff _).mpr l)]
theorem r_lst {f : FA} {ds : List D} (h : f δ S = some (ds, S1)) (l : ds.length < 1000000) : lstD f δ S = some (.lst ds, S1) := by
  rw [lstD_ap, h, bd_some, if_pos ((fits_iff _).mpr l)]
theorem r_new {f : FA} {ds : List D} (h : f δ S = some (ds, S1)) (l : ds.length < 1000000) : newD f δ S = some (.loc S1.length, S1 ++ [.lst ds]) := by
  rw [newD_ap, h, bd_some, if_pos ((fits_iff _).mpr l)]
theorem r_op2 {o : O2} {f g : FE} {d e x : D} (h : f δ S = some (d, S1)) (h2 : g δ S1 = some (e, S2)) (h3 : o d e S2 = some (x, S3)) : op2D o f g δ S = some (x, S3) := by
  rw [op2D_ap, h, bd_some, h2, bd_some, h3]
theorem r_op1 {o : O1} {f : FE} {d x : D} (h : f δ S = some (d, S1)) (h2 : o d S1 = some (x, S2)) : op1D o f δ S = some (x, S2) := by
  rw [op1D_ap, h, bd_some, h2]
theorem r_cb {o : OC} {f : FA} {ds : List D} {x : D} (h : f δ S = some (ds, S1)) (h2 : o ds S1 = some (x, S2)) : cbD o f δ S = some (x, S2) := by
  rw [cbD_ap, h, bd_some, h2]
theorem r_fn {F : Fn} {dds ds as : List D} {f : FA} {x : D} (h : f δ S = some (ds, S1)) (e : ds ++ dds = as) (h2 : F as S1 = some (x, S2)) : fnD F dds f δ S = some (x, S2) := by
  rw [fnD_ap, h, bd_some, e, h2]
theorem r_bm {ok : Sg → D → Bool} {o : OM} {fa : FE} {f : FA} {d x : D} {ds : List D} (h : fa δ S = some (d, S1)) (k : ok S1 d = true) (h2 : f δ S1 = some (ds, S2)) (h3 : o d ds S2 = some (x, S3)) : bmD ok o fa f δ S = some (x, S3) := by
  rw [bmD_ap, h, bd_some]
  dsimp only
  rw [k, if_pos rfl, h2, bd_some, h3]
theorem r_fld {C : Addr} {f : Str} {fa : FE} {d x : D} {gs : List (Str × D)} (h : fa δ S = some (d, S1)) (h1 : fsOf S1 C d = some gs) (h2 : gs.lookup f = some x) : fldD C f fa δ S = some (x, S1) := by
  rw [fldD_ap, h, bd_some]
  dsimp only
  rw [h1, bd_some, h2]
  rfl
theorem r_meth {C : Addr} {m : Str} {F : Fn} {dds ds as : List D} {fa : FE} {f : FA} {d x : D} {gs : List (Str × D)} (h : fa δ S = some (d, S1)) (h1 : fsOf S1 C d = some gs) (h2 : gs.lookup m = none) (h3 : f δ S1 = some (ds, S2)) (e : d :: (ds ++ dds) = as) (h4 : F as S2 = some (x, S3)) : methD C m F dds fa f δ S = some (x, S3) := by
  rw [methD_ap, h, bd_some]
  dsimp only
  rw [h1, bd_some, if_pos h2, h3, bd_some, e, h4]
theorem r_tv {f : FE} {q : Bool} (h : f δ S = some (.bl q, S1)) : tvD f δ S = some (q, S1) := by rw [tvD_ap, h]; rfl
theorem r_tru {f : FE} {d : D} {q : Bool} (h : f δ S = some (d, S1)) (h2 : truB S1 d = some q) : truD f δ S = some (q, S1) := by
  rw [truD_ap, h, bd_some]
  dsimp only
  rw [h2]
  rfl
theorem r_not {f : FT} {q : Bool} (h : f δ S = some (q, S1)) : notD f δ S = some (!q, S1) := by rw [notD_ap, h]; rfl
theorem r_and {f g : FT} {q : Bool} {r : Option (Bool × Sg)} (h : f δ S = some (q, S1)) (h2 : (if q = true then g δ S1 else some (false, S1)) = r) : andD f g δ S = r := by rw [andD_ap, h, ← h2]; rfl
theorem r_or {f g : FT} {q : Bool} {r : Option (Bool × Sg)} (h : f δ S = some (q, S1)) (h2 : (if q = true then some (true, S1) else g δ S1) = r) : orD f g δ S = r := by rw [orD_ap, h, ← h2]; rfl
theorem r_andV {f g : FE} {q : Bool} {r : Option (D × Sg)} (h : f δ S = some (.bl q, S1)) (h2 : (if q = true then g δ S1 else some (.bl false, S1)) = r) : andV f g δ S = r := by rw [andV_ap, h, ← h2]; rfl
theorem r_orV {f g : FE} {q : Bool} {r : Option (D × Sg)} (h : f δ S = some (.bl q, S1)) (h2 : (if q = true then some (.bl true, S1) else g δ S1) = r) : orV f g δ S = r := by rw [orV_ap, h, ← h2]; rfl
theorem r_notV {f : FE} {q : Bool} (h : f δ S = some (.bl q, S1)) : notV f δ S = some (.bl (!q), S1) := by rw [notV_ap, h]; rfl
theorem r_ite {c : FT} {f g : FE} {q : Bool} {r : Option (D × Sg)} (h : c δ S = some (q, S1)) (h2 : (if q = true then f δ S1 else g δ S1) = r) : iteV c f g δ S = r := by rw [iteV_ap, h, ← h2]; rfl
theorem r_chain {o o' : O2} {f g h : FE} {a b w x : D} {q : Bool} (h1 : f δ S = some (a, S1)) (h2 : g δ S1 = some (b, S2)) (h3 : o a b S2 = some (.bl q, S2)) (hq : q = true) (h4 : h δ S2 = some (w, S3)) (h5 : o' b w S3 = some (x, S4)) : chainD o o' f g h δ S = some (x, S4) := by
  subst hq
  rw [chainD_ap, h1, bd_some, h2, bd_some]
  dsimp only
  rw [h3, bd_some]
  dsimp only
  rw [isB_bl, bd_some, if_pos rfl, h4, bd_some]
  exact h5
theorem r_chainN {o o' : O2} {f g h : FE} {a b : D} {q : Bool} (h1 : f δ S = some (a, S1)) (h2 : g δ S1 = some (b, S2)) (h3 : o a b S2 = some (.bl q, S2)) (hq : q = false) : chainD o o' f g h δ S = some (.bl false, S2) := by
  subst hq
  rw [chainD_ap, h1, bd_some, h2, bd_some]
  dsimp only
  rw [h3]
  rfl
theorem r_noO : noO δ S = some (none, S) := rfl
theorem r_someO {f : FE} {i : Int} (h : f δ S = some (.int i, S1)) : someO f δ S = some (some i, S1) := by rw [someO_ap, h]; rfl
theorem r_sl {o : O3} {f : FE} {g h : FO} {d x : D} {lo hi : Option Int} (h1 : f δ S = some (d, S1)) (h2 : g δ S1 = some (lo, S2)) (h3 : h δ S2 = some (hi, S3)) (h4 : o d lo hi S3 = some (x, S4)) : slD o f g h δ S = some (x, S4) := by
  rw [slD_ap, h1, bd_some, h2, bd_some, h3, bd_some, h4]
/-! statements -/
theorem r_seq {f g : FS} {r : Option (Fl × Dl × Sg)} (h : f δ S = some (.nx, δ1, S1)) (h2 : g δ1 S1 = r) : seqS f g δ S = r := by
  rw [seqS_ap, h, bd_some, onNx_nx, h2]
theorem r_seqr {f g : FS} {d : D} (h : f δ S = some (.rt d, δ1, S1)) : seqS f g δ S = some (.rt d, δ1, S1) := by rw [seqS_ap, h]; rfl
theorem r_drop {f : FE} {d : D} (h : f δ S = some (d, S1)) : dropS f δ S = some (.nx, δ, S1) := by rw [dropS_ap, h]; rfl
theorem r_set {i : Nat} {f : FE} {d : D} (h : f δ S = some (d, S1)) : setS i f δ S = some (.nx, δ.set i (some d), S1) := by rw [setS_ap, h]; rfl
theorem r_par2 {i j : Nat} {f : FA} {x y : D} (h : f δ S = some ([x, y], S1)) : parS i j f δ S = some (.nx, (δ.set i (some x)).set j (some y), S1) := by rw [parS_ap, h]; rfl
theorem r_par3 {i j l : Nat} {f : FA} {x y z : D} (h : f δ S = some ([x, y, z], S1)) : parS3 i j l f δ S = some (.nx, ((δ.set i (some x)).set j (some y)).set l (some z), S1) := by rw [parS3_ap, h]; rfl
theorem r_asg {f : FE} {g : FG} {d : D} (h : f δ S = some (d, S1)) (h2 : g d δ S1 = some (δ1, S2)) : asgS f g δ S = some (.nx, δ1, S2) := by
  rw [asgS_ap, h, bd_some]
  dsimp only
  rw [h2]
  rfl
theorem r_nmG {i : Nat} {d : D} : nmG i d δ S = some (δ.set i (some d), S) := rfl
theorem r_tupG {n : Nat} {u : FGs} {ds : List D} {r : Option (Dl × Sg)} (h : ds.length = n) (h2 : u ds δ S = r) : tupG n u (.tup ds) δ S = r := by rw [tupG_ap, if_pos h, h2]
theorem r_consG {t : FG} {u : FGs} {d : D} {ds : List D} {r : Option (Dl × Sg)} (h : t d δ S = some (δ1, S1)) (h2 : u ds δ1 S1 = r) : consG t u (d :: ds) δ S = r := by rw [consG_ap, h, bd_some, h2]
theorem r_nilG : nilG [] δ S = some (δ, S) := rfl
theorem r_subG {o : OSt} {fo fi : FE} {d a b : D} (h : fo δ S = some (a, S1)) (h2 : fi δ S1 = some (b, S2)) (h3 : o a b d S2 = some S3) : subG o fo fi d δ S = some (δ, S3) := by
  rw [subG_ap, h, bd_some]
  dsimp only
  rw [h2, bd_some]
  dsimp only
  rw [h3]
  rfl
theorem r_ret {f : FE} {d : D} (h : f δ S = some (d, S1)) : retS f δ S = some (.rt d, δ, S1) := by rw [retS_ap, h]; rfl
theorem r_retN : retNS δ S = some (.rt .non, δ, S) := rfl
theorem r_next : nextS δ S = some (.nx, δ, S) := rfl
theorem r_if {c : FT} {g h : FS} {q : Bool} {r : Option (Fl × Dl × Sg)} (e : c δ S = some (q, S1)) (e2 : (if q = true then g δ S1 else h δ S1) = r) : ifS c g h δ S = r := by rw [ifS_ap, e, bd_some, ← e2]
theorem r_aug {i : Nat} {f : FE} {o : O2} {a b x : D} (h : δ[i]? = some (some a)) (h2 : f δ S = some (b, S1)) (h3 : o a b S1 = some (x, S2)) : augS i f o δ S = some (.nx, δ.set i (some x), S2) := by
  rw [augS_ap, r_v h, bd_some]
  dsimp only
  rw [h2, bd_some]
  dsimp only
  rw [h3]
  rfl
theorem r_fldS {C : Addr} {f : Str} {fa fv : FE} {n : Nat} {y : D} {gs : List (Str × D)} (h : fv δ S = some (y, S1)) (h2 : fa δ S1 = some (.loc n, S2)) (h3 : S2[n]? = some (.ins C gs)) (h4 : gs.length < 1000) : fldS C f fa fv δ S = some (.nx, δ, S2.set n (.ins C (putD f y gs))) := by
  rw [fldS_ap, h, bd_some]
  dsimp only
  rw [h2, bd_some]
  dsimp only
  rw [h3]
  dsimp only
  rw [if_pos ⟨rfl, h4⟩]
theorem r_for {k : Ik} {f : FA} {g : FG} {body : FS} {ds items : List D} {r : Option (Fl × Dl × Sg)} (h : f δ S = some (ds, S1)) (h2 : k ds S1 = some items) (h3 : forGo k ds items g body items δ S1 = r) : forS k f g body δ S = r := by
  rw [forS_ap, h, bd_some]
  dsimp only
  rw [h2, bd_some, h3]
theorem r_lc {k : Ik} {fa : FA} {g : FG} {c : FT} {f : FE} {vs : List Nat} {ds items out : List D} (h : fa δ S = some (ds, S1)) (h2 : k ds S1 = some items) (hl : items.length < 1000000) (h3 : lcGo k ds items g c f (wipeD δ vs) items [] S1 = some (out, S2)) : lcD k fa g c f vs δ S = some (.lst out, S2) := by
  rw [lcD_ap, h, bd_some]
  dsimp only
  rw [h2, bd_some, if_pos ((fits_iff _).mpr hl), h3]
  rfl
theorem r_lcN {k : Ik} {fa : FA} {g : FG} {c : FT} {f : FE} {vs : List Nat} {out : List D} (h : lcD k fa g c f vs δ S = some (.lst out, S1)) : lcDN k fa g c f vs δ S = some (.loc S1.length, S1 ++ [.lst out]) := by
  rw [lcDN_ap, h, bd_some]
theorem r_body {φ : Nat → D → Sg → Option (D × Sg)} {n : Nat} {body : FS} {ds : List D} {d : D} {r : Option (D × Sg)} (h : body (ds.map some ++ List.replicate (n - ds.length) none) S = some (.rt d, δ1, S1)) (h2 : φ S.length d S1 = r) : bodyF φ n body ds S = r := by
  rw [bodyF_ap, h, bd_some, endB_rt, h2]
theorem r_bodyN {φ : Nat → D → Sg → Option (D × Sg)} {n : Nat} {body : FS} {ds : List D} {r : Option (D × Sg)} (h : body (ds.map some ++ List.replicate (n - ds.length) none) S = some (.nx, δ1, S1)) (h2 : φ S.length .non S1 = r) : bodyF φ n body ds S = r := by
  rw [bodyF_ap, h, bd_some, endB_nx, h2]
theorem i_y {α : Type} {q : Bool} {a b r : α} (h : q = true) (h2 : a = r) : (if q = true then a else b) = r := by rw [if_pos h, h2]
theorem i_n {α : Type} {q : Bool} {a b r : α} (h : q = false) (h2 : b = r) : (if q = true then a else b) = r := by rw [if_neg (by rw [h]; decide), h2]
/-! values -/
theorem v_mul {i j : Int} (h : MulB i j) : mulO (.int i) (.int j) S = some (.int (i * j), S) := by rw [mulO_int, if_pos h]
theorem v_mod {i j : Int} (h : 0 < j) : modO (.int i) (.int j) S = some (.int (i % j), S) := by rw [modO_int, if_pos h]
theorem v_div {i j : Int} (h : DivB j) : fdivO (.int i) (.int j) S = some (.int (i / j), S) := by rw [fdivO_int, if_pos h]
theorem v_pow {i j : Int} (h : PowB i j) : powO (.int i) (.int j) S = some (.int (i ^ j.toNat), S) := by rw [powO_int, if_pos h]
theorem v_ixl {ds : List D} {i : Int} {y : D} (h : atI ds i = some y) : ixO (.lst ds) (.int i) S = some (y, S) := by rw [ixv_lst, h]; rfl
theorem v_ixt {ds : List D} {i : Int} {y : D} (h : atI ds i = some y) : ixO (.tup ds) (.int i) S = some (y, S) := by rw [ixv_tup, h]; rfl
theorem v_ixr {ds : List D} {i : Int} {y : D} (h : atI ds i = some y) : ixO (.rol ds) (.int i) S = some (y, S) := by rw [ixv_rol, h]; rfl
theorem v_ixc {n : Nat} {ds : List D} {i : Int} {y : D} (h : S[n]? = some (.lst ds)) (h2 : atI ds i = some y) : ixO (.loc n) (.int i) S = some (y, S) := by rw [ixv_loc, h, bd_some, obL_lst, bd_some, h2]; rfl
theorem v_ixs {z : Str} {i : Int} {c : Nat} (l : z.length < 1000000) (h : atI z.cps.toList i = some c) : ixO (.str z) (.int i) S = some (.str ⟨#[c]⟩, S) := by rw [ixv_str, if_pos ((fits_iff _).mpr l), h]; rfl
theorem v_app {n : Nat} {xs : List D} {y : D} (h : S[n]? = some (.lst xs)) (l : xs.length < 1000000) : appO (.loc n) [y] S = some (.non, S.set n (.lst (xs ++ [y]))) := by rw [app_loc, h, bd_some, obL_lst, bd_some, if_pos ((fits_iff _).mpr l)]
theorem v_isLoc {n : Nat} {xs : List D} (h : S[n]? = some (.lst xs)) : isLoc S (.loc n) = true := by rw [isLoc_loc, h]; rfl
theorem v_addll {xs ys : List D} (l : xs.length + ys.length < 1000000) : addO (.lst xs) (.lst ys) S = some (.lst (xs ++ ys), S) := by rw [addv_ll, if_pos ((fits_iff _).mpr l)]
theorem v_addcl {n : Nat} {xs ys : List D} (h : S[n]? = some (.lst xs)) (l : xs.length + ys.length < 1000000) : addO (.loc n) (.lst ys) S = some (.lst (xs ++ ys), S) := by
  rw [addv_cl, h, bd_some, obL_lst, bd_some, if_pos ((fits_iff _).mpr l)]
theorem v_adds {x y : Str} (l : x.length + y.length < 1000000) : addO (.str x) (.str y) S = some (.str (x ++ y), S) := by rw [addv_str, if_pos ((fits_iff _).mpr l)]
theorem v_rep {xs : List D} {k : Int} (h : R63 k) (l : xs.length * k.toNat < 1000000) : mulO (.lst xs) (.int k) S = some (.lst (List.replicate k.toNat xs).flatten, S) := by rw [mulv_li, if_pos ⟨h, (fits_iff _).mpr l⟩]
theorem v_lenc {n : Nat} {xs : List D} (h : S[n]? = some (.lst xs)) : lenO [.loc n] S = some (.int (xs.length : Int), S) := by rw [lenv_loc, h]; rfl
theorem v_lens {z : Str} (l : z.length < 1000000) : lenO [.str z] S = some (.int (z.length : Int), S) := by rw [lenv_str, if_pos ((fits_iff _).mpr l)]
theorem v_setc {n j : Nat} {k : Int} {xs : List D} {z : D} (h : S[n]? = some (.lst xs)) (hj : ixN xs.length k = some j) : setLO (.loc n) (.int k) z S = some (S.set n (.lst (xs.set j z))) := by
  rw [setL_loc, h, bd_some, obL_lst, bd_some, hj]; rfl
theorem v_slc {n : Nat} {ds : List D} {lo hi : Option Int} (h : S[n]? = some (.lst ds)) : slO (.loc n) lo hi S = some (.lst (cutD ds lo hi), S) := by rw [slv_loc, h]; rfl
theorem v_dg {ks : List Str} {ds : List D} {k : Str} {x : D} (h : (ks.zip ds).lookup k = some x) : dgO (.dic ks ds) (.str k) S = some (x, S) := by rw [dgv, h]; rfl
theorem v_sum {ns : List Int} {ds : List D} (h : intsOf ds = some ns) : sumO [.lst ds] S = some (.int ns.sum, S) := by
  unfold sumO
  dsimp only
  rw [sqv_lst, Option.bind_some, h]; rfl
theorem v_sumt {ns : List Int} {ds : List D} (h : intsOf ds = some ns) : sumO [.tup ds] S = some (.int ns.sum, S) := by
  unfold sumO
  dsimp only
  rw [sqv_tup, Option.bind_some, h]; rfl
theorem v_max {ns : List Int} {ds : List D} {m : Int} (h : intsOf ds = some ns) (h2 : maxI ns = some m) : maxO [.lst ds] S = some (.int m, S) := by
  unfold maxO
  dsimp only
  rw [lsv_lst, Option.bind_some, h, Option.bind_some, h2]; rfl
end
theorem bd_bind {α β : Type} (o : Option α) (f : α → Option β) : o.bind f = o.bd f := rfl
/-! ### a text times 0 or 1 -/
section
variable {K : PySem.W.Frag}
def rMulS : R2 := fun x y H Q => ∃ z n, x = .str z ∧ y = .int n ∧ MulOk z n ∧ Q (.str (Txt.mul z n)) H
theorem op_mul_str {X : Cx} : OpR X (binaryOp .Mult) rMulS := by
  intro pins s σ H x y v u Q I rx ry h
  obtain ⟨z, n, rfl, rfl, hz, q⟩ := h
  obtain ⟨t, rfl⟩ := rx
  obtain ⟨t', rfl⟩ := ry
  exact SB.mul hz fun t' tk => ⟨.str (Txt.mul z n), H, I.tok _, ⟨_, rfl⟩, q⟩
def mulTO : O2 := fun d e S => match d, e with
  | .str z, .int n => if n = 0 ∨ n = 1 then some (.str (Txt.mul z n), S) else none
  | _, _ => none
theorem mul_ok01 {z : Str} {n : Int} (h : n = 0 ∨ n = 1) : MulOk z n := by
  rcases h with rfl | rfl
  · exact ⟨by decide, fun h => absurd (by decide) h, fun h => absurd (by decide) h⟩
  · exact ⟨by decide, fun _ h => by simp at h, fun _ h => by simp at h⟩
theorem opD_mulT : OpD K rMulS mulTO := by
  intro x y H Q ρ S d e z S' hS rx ry eq q
  unfold mulTO at eq
  split at eq
  · split at eq
    · cases eq
      cases rx; cases ry
      exact ⟨_, _, rfl, rfl, mul_ok01 ‹_›, q _ H ρ (Step.refl _ _) hS .str⟩
    · cases eq
  · cases eq
section
variable {X : Cx} {a b : Expr} {pos : Pos} {f g : FE}
theorem jmulT (ha : JE X a f) (hb : JE X b g) : JE X (.BinOp a .Mult b pos) (op2D mulTO f g) := jop op_mul_str opD_mulT ha hb
end
theorem v_mulT {S : Sg} {z : Str} {n : Int} (h : n = 0 ∨ n = 1) : mulTO (.str z) (.int n) S = some (.str (if n = 1 then z else Str.empty), S) := by
  show (if n = 0 ∨ n = 1 then some (D.str (Txt.mul z n), S) else none) = _
  rw [if_pos h]
  rcases h with rfl | rfl <;> rfl
end
end DL
end
noncomputable section
namespace DL
open PySem L2
/-! ### loops over typed lists -/
section
variable {δ δ' : Dl} {S S1 S2 S3 : Sg}
theorem st_y {g : FG} {c : FT} {f : FE} {d y : D} (h1 : g d δ S = some (δ', S1)) (h2 : c δ' S1 = some (true, S2)) (h3 : f δ' S2 = some (y, S3)) : stepLc g c f δ d S = some (some y, S3) := by
  unfold stepLc
  rw [h1, Option.bind_some]
  dsimp only
  rw [h2, Option.bind_some]
  dsimp only
  rw [if_pos rfl, h3]
  rfl
theorem st_q {g : FG} {c : FT} {f : FE} {d y : D} {q : Bool} (h1 : g d δ S = some (δ', S1)) (h2 : c δ' S1 = some (q, S2)) (h3 : q = true → f δ' S2 = some (y, S2)) : stepLc g c f δ d S = some (if q = true then some y else none, S2) := by
  unfold stepLc
  rw [h1, Option.bind_some]
  dsimp only
  rw [h2, Option.bind_some]
  cases q with
  | false => rfl
  | true =>
    dsimp only
    rw [if_pos rfl, h3 rfl]
    rfl
theorem st_for {g : FG} {body : FS} {d : D} {r : Option (Fl × Dl × Sg)} (h1 : g d δ S = some (δ', S1)) (h2 : body δ' S1 = r) : stepFor g body d δ S = r := by
  unfold stepFor
  rw [h1, Option.bind_some, h2]
theorem r_yes : yesT δ S = some (true, S) := rfl
theorem lc_typ {α : Type} {k : Ik} {fa : FA} {g : FG} {c : FT} {f : FE} {vs : List Nat} {ds : List D} (xs : List α) (e : α → D) (p : α → Bool) (h : α → D) (hfa : fa δ S = some (ds, S1)) (hk : k ds S1 = some (xs.map e)) (hl : xs.length < 1000000)
    (hs : ∀ x ∈ xs, stepLc g c f (wipeD δ vs) (e x) S1 = some (if p x = true then some (h x) else none, S1)) : lcD k fa g c f vs δ S = some (.lst ((xs.filter p).map h), S1) := by
  have key : ∀ (r : List α) (acc : List D), (∀ x ∈ r, x ∈ xs) → lcGo k ds (xs.map e) g c f (wipeD δ vs) (r.map e) acc S1 = some (acc ++ (r.filter p).map h, S1) := by
    intro r
    induction r with
    | nil => intro acc _; rw [List.map_nil, lcGo_nil hk, List.filter_nil, List.map_nil, List.append_nil]
    | cons x r ih =>
      intro acc hm
      rw [List.map_cons, lcGo_cons hk (hs x (hm x (by simp))), ih _ fun y hy => hm y (by simp [hy]), List.filter_cons]
      by_cases q : p x = true
      · rw [if_pos q, if_pos q, List.map_cons]
        simp
      · rw [if_neg q, if_neg q]
        simp
  refine r_lc hfa hk (by rw [List.length_map]; exact hl) ?_
  rw [key xs [] fun x hx => hx, List.nil_append]
theorem lc_all {α : Type} {k : Ik} {fa : FA} {g : FG} {f : FE} {vs : List Nat} {ds : List D} (xs : List α) (e : α → D) (h : α → D) (hfa : fa δ S = some (ds, S1)) (hk : k ds S1 = some (xs.map e)) (hl : xs.length < 1000000)
    (hs : ∀ x ∈ xs, ∃ δ', g (e x) (wipeD δ vs) S1 = some (δ', S1) ∧ f δ' S1 = some (h x, S1)) : lcD k fa g yesT f vs δ S = some (.lst (xs.map h), S1) := by
  have := lc_typ (g := g) (c := yesT) (f := f) (vs := vs) xs e (fun _ => true) h hfa hk hl fun x hx => by
    obtain ⟨δ', h1, h2⟩ := hs x hx
    rw [if_pos rfl]
    exact st_y h1 r_yes h2
  rwa [List.filter_eq_self.mpr fun _ _ => rfl] at this
theorem k_rng {m : Nat} (hm : m < 1000000) (S : Sg) : r1K [.int (m : Int)] S = some ((List.range m).map fun (i : Nat) => .int (i : Int)) := by
  rw [r1K_1, if_pos (r62P (by omega))]
  unfold rngL
  rw [Int.toNat_natCast]
  simp only [Int.zero_add]
theorem k_sql (xs : List D) (S : Sg) : sqK [.lst xs] S = some xs := rfl
theorem k_sqt (xs : List D) (S : Sg) : sqK [.tup xs] S = some xs := rfl
theorem k_enl (xs : List D) (S : Sg) : enK [.lst xs] S = some (xs.zipIdx.map fun p => .tup [.int (p.2 : Int), p.1]) := by
  rw [enK_1, lsv_lst, bd_some]
  congr 1
  refine List.ext_getElem? fun i => ?_
  cases q : xs[i]? with
  | none =>
    have hl : xs.length ≤ i := List.getElem?_eq_none_iff.mp q
    rw [List.getElem?_eq_none (by rw [enumL_len]; exact hl), List.getElem?_eq_none (by rw [List.length_map, List.length_zipIdx]; exact hl)]
  | some d =>
    rw [enumL_get q, List.getElem?_map, List.getElem?_zipIdx, q]
    simp
theorem k_zpl {α β : Type} (xs : List α) (ys : List β) (e : α → D) (e' : β → D) (hl : xs.length = ys.length) (S : Sg) : zpK2 [.lst (xs.map e), .lst (ys.map e')] S = some ((xs.zip ys).map fun p => .tup [e p.1, e' p.2]) := by
  show ((some (xs.map e)).bind fun as => (some (ys.map e')).bind fun bs => if as.length = bs.length then some (zipL as bs) else none).or _ = _
  rw [Option.bind_some, Option.bind_some, if_pos (by rw [List.length_map, List.length_map]; exact hl), Option.some_or]
  unfold zipL
  rw [List.zipWith_map, List.map_zip_eq_zipWith]
  rfl
theorem k_zpt {α β : Type} (xs : List α) (ys : List β) (e : α → D) (e' : β → D) (hl : xs.length = ys.length) (S : Sg) : zpK2 [.tup (xs.map e), .tup (ys.map e')] S = some ((xs.zip ys).map fun p => .tup [e p.1, e' p.2]) := by
  show (none : Option (List D)).or ((some (xs.map e)).bind fun as => (some (ys.map e')).bind fun bs => if as.length = bs.length then some (zipL as bs) else none) = _
  rw [Option.bind_some, Option.bind_some, if_pos (by rw [List.length_map, List.length_map]; exact hl), Option.none_or]
  unfold zipL
  rw [List.zipWith_map, List.map_zip_eq_zipWith]
  rfl
/-- a loop over a typed list, by what holds between two turns -/
theorem for_typ {α : Type} {k : Ik} {g : FG} {body : FS} {ds : List D} (xs : List α) (e : α → D) (I : List α → Dl → Sg → Prop) (hk : ∀ r δ S, I r δ S → k ds S = some (xs.map e)) (hs : ∀ pre x post δ S, xs = pre ++ x :: post → I pre δ S → ∃ δ' S', stepFor g body (e x) δ S = some (.nx, δ', S') ∧ I (pre ++ [x]) δ' S') :
    ∀ (pre post : List α) (δ : Dl) (S : Sg), xs = pre ++ post → I pre δ S → ∃ δ' S', forGo k ds (xs.map e) g body (post.map e) δ S = some (.nx, δ', S') ∧ I xs δ' S'
  | pre, [], δ, S, h, p => ⟨δ, S, forGo_nil (hk pre δ S p), by rw [h, List.append_nil]; exact p⟩
  | pre, x :: post, δ, S, h, p => by
    obtain ⟨δ1, S1, e1, p1⟩ := hs pre x post δ S h p
    obtain ⟨δ2, S2, e2, p2⟩ := for_typ xs e I hk hs (pre ++ [x]) post δ1 S1 (by rw [h, List.append_assoc]; rfl) p1
    exact ⟨δ2, S2, by rw [List.map_cons, forGo_cons (hk pre δ S p) e1, e2], p2⟩
theorem r_forT {α : Type} {k : Ik} {f : FA} {g : FG} {body : FS} {ds : List D} (xs : List α) (e : α → D) (I : List α → Dl → Sg → Prop) (h : f δ S = some (ds, S1)) (h0 : I [] δ S1) (hk : ∀ r δ S, I r δ S → k ds S = some (xs.map e)) (hs : ∀ pre x post δ S, xs = pre ++ x :: post → I pre δ S → ∃ δ' S', stepFor g body (e x) δ S = some (.nx, δ', S') ∧ I (pre ++ [x]) δ' S') :
    ∃ δ' S', forS k f g body δ S = some (.nx, δ', S') ∧ I xs δ' S' := by
  obtain ⟨δ', S', e1, p⟩ := for_typ xs e I hk hs [] xs δ S1 rfl h0
  exact ⟨δ', S', r_for h (hk [] δ S1 h0) e1, p⟩
end
end DL
end
noncomputable section
namespace DL
open PySem L2
/-! ### calls with keywords: from where each parameter comes -/
inductive Sr where
  | p (i : Nat) | k (i : Nat) | d (i : Nat)
def pick1 {α : Type} (us ws ds : List α) : Sr → Option α
  | .p i => us[i]?
  | .k i => ws[i]?
  | .d i => ds[i]?
def pickS {α : Type} (src : List Sr) (us ws ds : List α) : List α := src.filterMap (pick1 us ws ds)
theorem vals_pick {vs zs dvs : List V} {us ws its : List Value} (h1 : Vals vs us) (h2 : Vals zs ws) (h3 : Vals dvs its) : ∀ src : List Sr, Vals (pickS src vs zs dvs) (pickS src us ws its)
  | [] => .nil
  | s :: src => by
    have ih := vals_pick h1 h2 h3 src
    have key : ∀ {xs : List V} {ys : List Value} (i : Nat), Vals xs ys → (xs[i]? = none ∧ ys[i]? = none) ∨ ∃ x y, xs[i]? = some x ∧ ys[i]? = some y ∧ RelV x y := fun {xs ys} i r => by
      cases e : xs[i]? with
      | none => exact .inl ⟨rfl, r.none_of e⟩
      | some x =>
        obtain ⟨y, e2, r2⟩ := r.get e
        exact .inr ⟨x, y, rfl, e2, r2⟩
    have one : (pick1 vs zs dvs s = none ∧ pick1 us ws its s = none) ∨ ∃ x y, pick1 vs zs dvs s = some x ∧ pick1 us ws its s = some y ∧ RelV x y := by
      cases s with
      | p i => exact key i h1
      | k i => exact key i h2
      | d i => exact key i h3
    unfold pickS at ih ⊢
    rcases one with ⟨e1, e2⟩ | ⟨x, y, e1, e2, r⟩
    · rw [List.filterMap_cons_none e1, List.filterMap_cons_none e2]
      exact ih
    · rw [List.filterMap_cons_some e1, List.filterMap_cons_some e2]
      exact .cons r ih
section
variable {K : PySem.W.Frag}
theorem rvs_pick {H : Hp} {ρ : Ro} {vs zs dvs : List V} {us ws its : List D} (h1 : RVs K H ρ vs us) (h2 : RVs K H ρ zs ws) (h3 : RVs K H ρ dvs its) : ∀ src : List Sr, RVs K H ρ (pickS src vs zs dvs) (pickS src us ws its)
  | [] => .nil
  | s :: src => by
    have ih := rvs_pick h1 h2 h3 src
    have key : ∀ {xs : List V} {ys : List D} (i : Nat), RVs K H ρ xs ys → (xs[i]? = none ∧ ys[i]? = none) ∨ ∃ x y, xs[i]? = some x ∧ ys[i]? = some y ∧ RV K H ρ x y := fun {xs ys} i r => by
      cases e : xs[i]? with
      | none =>
        refine .inl ⟨rfl, ?_⟩
        rw [List.getElem?_eq_none_iff] at e ⊢
        rw [← r.len]
        exact e
      | some x =>
        obtain ⟨y, e2, r2⟩ := r.getV e
        exact .inr ⟨x, y, rfl, e2, r2⟩
    have one : (pick1 vs zs dvs s = none ∧ pick1 us ws its s = none) ∨ ∃ x y, pick1 vs zs dvs s = some x ∧ pick1 us ws its s = some y ∧ RV K H ρ x y := by
      cases s with
      | p i => exact key i h1
      | k i => exact key i h2
      | d i => exact key i h3
    unfold pickS at ih ⊢
    rcases one with ⟨e1, e2⟩ | ⟨x, y, e1, e2, r⟩
    · rw [List.filterMap_cons_none e1, List.filterMap_cons_none e2]
      exact ih
    · rw [List.filterMap_cons_some e1, List.filterMap_cons_some e2]
      exact .cons r ih
/-- a def without defaults -/
theorem fun_kbn {x qual : Str} {st : Stmt} {f : Addr} {fd : FuncData} {ps : List Str} (F : Fun K x qual st f fd) (n : Nat) (ks : List Str) (src : List Sr)
    (h : ∀ (kV doc pm : Value) (an : Option Addr) (cdv ct : Value) (us ws : List Value), us.length = n → ws.length = ks.length → bindArgs (PySem.W.fnOf x qual (defArgs st) (defBody st) (defScope st) .none kV doc pm an cdv ct) ⟨us, ks.zip ws⟩ = pure (ps.zip (pickS src us ws []))) :
    ∃ its : List Value, Vals [] its ∧ KBn K fd ps n ks (fun us ws => pickS src us ws its) (fun vs zs => pickS src vs zs []) := by
  obtain ⟨oc, od, kV, doc, pm, an, cdv, ct, osl, rfl, lk, hcd⟩ := F.ex
  exact ⟨[], .nil, fun s us ws _ l1 l2 => .of_eq (h kV doc pm an cdv ct us ws l1 l2), fun r1 r2 => vals_pick r1 r2 .nil src⟩
/-- a def with defaults -/
theorem fund_kbn {x qual : Str} {params : Arguments} {body : List Stmt} {scope : Scope} {dvs : List V} {f : Addr} {fd : FuncData} {ps : List Str} (F : FunD K x qual params body scope dvs [] f fd) (hd : dvs ≠ []) (n : Nat) (ks : List Str) (src : List Sr)
    (h : ∀ (T : Addr) (kV doc pm : Value) (an : Option Addr) (cdv ct : Value) (us its ws : List Value), us.length = n → its.length = dvs.length → ws.length = ks.length →
      ∃ k, bindArgs (PySem.W.fnOf x qual params body scope (.ref T) kV doc pm an cdv ct) ⟨us, ks.zip ws⟩ = seqItems? (.ref T) >>= k ∧ k (some its.toArray) = pure (ps.zip (pickS src us ws its))) :
    ∃ its : List Value, Vals dvs its ∧ KBn K fd ps n ks (fun us ws => pickS src us ws its) (fun vs zs => pickS src vs zs dvs) := by
  obtain ⟨oc, od, dV, kV, doc, pm, an, cdv, ct, osl, rfl, lk, hcd, hD, hK⟩ := F.ex
  rcases hD with ⟨e, _⟩ | ⟨_, T, o, its, m, rfl, lT, oT, rT⟩
  · exact absurd e hd
  · refine ⟨its, rT, fun s us ws X l1 l2 => ?_, fun r1 r2 => vals_pick r1 r2 rT src⟩
    obtain ⟨k, e1, e2⟩ := h T kV doc pm an cdv ct us its ws l1 rT.length.symm l2
    refine BindsTo.of_looks fun M => ?_
    rw [e1]
    exact looks_items X lT oT (.of_pure e2)
def fnK (F : Fn) (src : List Sr) (dds : List D) (f g : FA) : FE := fun δ S => (f δ S).bind fun p => (g δ p.2).bind fun q => F (pickS src p.1 q.1 dds) q.2
theorem le_fnK {n m N : Nat} {F : Fn} {src : List Sr} {dvs : List V} {dds : List D} {E : XK} {f g : FA} (hd : ∀ H ρ, RVs K H ρ dvs dds) (hn : NA n f) (hm : NA m g) (hN : ∀ us ws : List V, us.length = n → ws.length = m → (pickS src us ws dvs).length = N) :
    ∀ σ H Q, tD K (fnK F src dds f g) σ H Q → tCallN n m (spD K N F) (fun vs zs => pickS src vs zs dvs) E (tDA K f) (tDA K g) σ H Q := by
  rintro σ H Q ⟨ρ, δ, S, d, S', hS, hσ, e, q⟩
  obtain ⟨⟨x, S1⟩, e1, e⟩ := bnd e
  obtain ⟨⟨y, S2⟩, e2, e⟩ := bnd e
  refine ⟨ρ, δ, S, x, S1, hS, hσ, e1, fun vs H1 ρ1 s1 hS1 rv => ⟨ρ1, δ, S1, y, S2, hS1, hσ.mono s1, e2, fun zs H2 ρ2 s2 hS2 rz => ?_⟩⟩
  have l1 : vs.length = n := by rw [rv.len]; exact hn _ _ _ _ e1
  have l2 : zs.length = m := by rw [rz.len]; exact hm _ _ _ _ e2
  exact ⟨l1, l2, ρ2, S2, _, d, S', hN vs zs l1 l2, hS2, rvs_pick (rv.mono s2) rz (hd H2 ρ2) src, e, fun v H3 ρ3 s3 hS3 r => q v H3 ρ3 ((s1.trans s2).trans s3) hS3 r⟩
/-- keywords alone -/
def tCallK0 (m : Nat) (sp : Sp) (gV : List V → List V → List V) (E : XK) (tk : TA) : TE := fun σ H Q => tk σ H fun zs H2 => zs.length = m ∧ sp (gV [] zs) H2 Q E
theorem le_fnK0 {m N : Nat} {F : Fn} {src : List Sr} {dvs : List V} {dds : List D} {E : XK} {g : FA} (hd : ∀ H ρ, RVs K H ρ dvs dds) (hm : NA m g) (hN : ∀ ws : List V, ws.length = m → (pickS src [] ws dvs).length = N) :
    ∀ σ H Q, tD K (fnK F src dds nilA g) σ H Q → tCallK0 m (spD K N F) (fun vs zs => pickS src vs zs dvs) E (tDA K g) σ H Q := by
  rintro σ H Q ⟨ρ, δ, S, d, S', hS, hσ, e, q⟩
  obtain ⟨⟨x, S1⟩, e1, e⟩ := bnd e
  cases e1
  obtain ⟨⟨y, S2⟩, e2, e⟩ := bnd e
  refine ⟨ρ, δ, S, y, S2, hS, hσ, e2, fun zs H2 ρ2 s2 hS2 rz => ?_⟩
  have l2 : zs.length = m := by rw [rz.len]; exact hm _ _ _ _ e2
  exact ⟨l2, ρ2, S2, _, d, S', hN zs l2, hS2, rvs_pick .nil rz (hd H2 ρ2) src, e, fun v H3 ρ3 s3 hS3 r => q v H3 ρ3 (s2.trans s3) hS3 r⟩
end
/-- a def called with n values and the keywords ks -/
structure DfN (P : Program) (w : World) (K : PySem.W.Frag) (mg : Str → Option Value) (base : Heap) (x : Str) (k : Nat) (ps : List Str) (n : Nat) (ks : List Str) (src : List Sr) (dvs : List V) (F : Fn) : Prop where
  ex : ∃ (f : Addr) (fd : FuncData) (its : List Value), FnOk P w K mg base CX0 k f fd ps (spD K ps.length F) ∧ mg x = some (.ref f) ∧ PySem.W.keepIn K (.ref f) = true ∧ Vals dvs its ∧ KBn K fd ps n ks (fun us ws => pickS src us ws its) (fun vs zs => pickS src vs zs dvs)
section
variable {X : Cx} {e : Expr} {es : List Expr} {f g : FA} {pos : Pos}
theorem jknil : PK X [] (tDA X.K nilA) := ⟨fun pos pins s σ H Q I h => pk_nil.run pos pins s σ H Q I (le_nilA σ H Q h)⟩
theorem jkcons {nm : Option Str} {kpos : Pos} {kws : List Keyword} {fe : FE} {fa : FA} (he : JE X e fe) (hr : PK X kws (tDA X.K fa)) : PK X (⟨nm, e, kpos⟩ :: kws) (tDA X.K (consA fe fa)) := ⟨fun pos pins s σ H Q I h => (pk_cons he hr).run pos pins s σ H Q I (le_consA σ H Q h)⟩
theorem jfnK {x : Str} {k n : Nat} {ps ks : List Str} {src : List Sr} {dvs : List V} {dds : List D} {F : Fn} {p : Pos} {kws : List Keyword} (Z : DfN X.prog X.w X.K X.mg X.base x k ps n ks src dvs F) (hd : ∀ H ρ, RVs X.K H ρ dvs dds) (hr : Room k X.A) (ha : JA X (e :: es) f) (hk : PK X kws (tDA X.K g))
    (hN : ∀ us ws : List V, us.length = n → ws.length = ks.length → (pickS src us ws dvs).length = ps.length) (hn : NA n f := by repeat (first | exact na0 | apply na)) (hm : NA ks.length g := by repeat (first | exact na0 | apply na))
    (hall : (backToKw pos (keywordEach kws X.env)).all (·.1.isSome) = true := by rfl) (hks : (backToKw pos (keywordEach kws X.env)).filterMap (·.1) = ks := by rfl) (hg : Gl X x := by rfl) (hdb : (x == ("__debug__" : Str)) = false := by decide) (he : starEach (e :: es) X.env = (false, eval e X.env) :: starEach es X.env := by rfl)
    (hpl : ((backTo pos (starEach (e :: es) X.env)).any (·.1) || (backToKw pos (keywordEach kws X.env)).any (·.1.isNone)) = false := by rfl) :
    JE X (.Call (.Name x p) (e :: es) kws pos) (fnK F src dds f g) := by
  obtain ⟨f, fd, its, Fk, hm', kp, v, b⟩ := Z.ex
  exact PE.imp (pe_callN Fk hr hg hm' kp b pass0 ha hk hall hks hdb he hpl) (le_fnK hd hn hm hN)
theorem jfnK0 {x : Str} {k : Nat} {ps ks : List Str} {src : List Sr} {dvs : List V} {dds : List D} {F : Fn} {p : Pos} {kws : List Keyword} (Z : DfN X.prog X.w X.K X.mg X.base x k ps 0 ks src dvs F) (hd : ∀ H ρ, RVs X.K H ρ dvs dds) (hr : Room k X.A) (hk : PK X kws (tDA X.K g))
    (hN : ∀ ws : List V, ws.length = ks.length → (pickS src [] ws dvs).length = ps.length) (hm : NA ks.length g := by repeat (first | exact na0 | apply na))
    (hall : (backToKw pos (keywordEach kws X.env)).all (·.1.isSome) = true := by rfl) (hks : (backToKw pos (keywordEach kws X.env)).filterMap (·.1) = ks := by rfl) (hg : Gl X x := by rfl) (hdb : (x == ("__debug__" : Str)) = false := by decide)
    (hpl : ((backTo pos (starEach [] X.env)).any (·.1) || (backToKw pos (keywordEach kws X.env)).any (·.1.isNone)) = false := by rfl) :
    JE X (.Call (.Name x p) [] kws pos) (fnK F src dds nilA g) := by
  obtain ⟨f, fd, its, Fk, hm', kp, v, b⟩ := Z.ex
  refine PE.imp ⟨fun pins s σ H Q I h => ?_⟩ (le_fnK0 (E := E0) hd hm hN)
  refine wpAny_Call_Name_kw (ld_glob I hg hm' ?_ hdb)
  refine PySem.W.callWith_KW0 (first := []) (h₀ := X.base) I.ok.mod.kin kp hall ?_ hpl
  refine thn (hk.run pos pins s σ H _ I h) fun ws s2 ⟨zs, H2, I2, rz, l2, q2⟩ => ⟨I2.kIn, ?_⟩
  rw [hks]
  exact run_fnN (us := []) (vs := []) Fk hr b pass0 I2 .nil rz rfl l2 q2
end
section
variable {δ : Dl} {S S1 S2 S3 : Sg}
theorem r_fnK {F : Fn} {src : List Sr} {dds ds es as : List D} {f g : FA} {x : D} (h : f δ S = some (ds, S1)) (h1 : g δ S1 = some (es, S2)) (e : pickS src ds es dds = as) (h2 : F as S2 = some (x, S3)) : fnK F src dds f g δ S = some (x, S3) := by
  unfold fnK
  rw [h, Option.bind_some]
  dsimp only
  rw [h1, Option.bind_some]
  dsimp only
  rw [e, h2]
end
/-! ### is, of truths -/
section
variable {K : PySem.W.Frag}
theorem op_is_b {X : Cx} : OpR X (compareOp .Is) (fun x y H Q => ∃ a b, x = .bl a ∧ y = .bl b ∧ Q (.bl (decide (a = b))) H) := by
  intro pins s σ H x y v u Q I rx ry h
  obtain ⟨a, b, rfl, rfl, q⟩ := h
  cases (show v = Value.bool a from rx)
  cases (show u = Value.bool b from ry)
  by_cases e : a = b
  · subst e
    exact wpAny_is_self rfl ⟨.bl true, H, I, rfl, by simpa using q⟩
  · exact wpAny_is_other rfl (fun z => e (Value.bool.inj z)) ⟨.bl false, H, I, rfl, by simpa [e] using q⟩
theorem op_isnot_b {X : Cx} : OpR X (compareOp .IsNot) (fun x y H Q => ∃ a b, x = .bl a ∧ y = .bl b ∧ Q (.bl (!decide (a = b))) H) := by
  intro pins s σ H x y v u Q I rx ry h
  obtain ⟨a, b, rfl, rfl, q⟩ := h
  cases (show v = Value.bool a from rx)
  cases (show u = Value.bool b from ry)
  by_cases e : a = b
  · subst e
    exact wpAny_isNot_self rfl ⟨.bl false, H, I, rfl, by simpa using q⟩
  · exact wpAny_isNot_other rfl (fun z => e (Value.bool.inj z)) ⟨.bl true, H, I, rfl, by simpa [e] using q⟩
def isBO (neg : Bool) : O2 := fun d e S => match d, e with
  | .bl a, .bl b => some (.bl (if neg then !decide (a = b) else decide (a = b)), S)
  | _, _ => none
theorem opD_isB : OpD K (fun x y H Q => ∃ a b, x = .bl a ∧ y = .bl b ∧ Q (.bl (decide (a = b))) H) (isBO false) := by
  intro x y H Q ρ S d e z S' hS rx ry eq q
  unfold isBO at eq
  split at eq
  · cases eq; cases rx; cases ry
    exact ⟨_, _, rfl, rfl, q _ H ρ (Step.refl _ _) hS .bl⟩
  · cases eq
theorem opD_isnotB : OpD K (fun x y H Q => ∃ a b, x = .bl a ∧ y = .bl b ∧ Q (.bl (!decide (a = b))) H) (isBO true) := by
  intro x y H Q ρ S d e z S' hS rx ry eq q
  unfold isBO at eq
  split at eq
  · cases eq; cases rx; cases ry
    exact ⟨_, _, rfl, rfl, q _ H ρ (Step.refl _ _) hS .bl⟩
  · cases eq
section
variable {X : Cx} {a b : Expr} {pos : Pos} {f g : FE}
theorem jisB (ha : JE X a f) (hb : JE X b g) : JE X (.Compare a [.Is] [b] pos) (op2D (isBO false) f g) := jcmpR op_is_b opD_isB ha hb
theorem jtisB (ha : JE X a f) (hb : JE X b g) : JT X (.Compare a [.Is] [b] pos) (tvD (op2D (isBO false) f g)) := jtcmpR op_is_b opD_isB ha hb
theorem jisnotB (ha : JE X a f) (hb : JE X b g) : JE X (.Compare a [.IsNot] [b] pos) (op2D (isBO true) f g) := jcmpR op_isnot_b opD_isnotB ha hb
theorem jtisnotB (ha : JE X a f) (hb : JE X b g) : JT X (.Compare a [.IsNot] [b] pos) (tvD (op2D (isBO true) f g)) := jtcmpR op_isnot_b opD_isnotB ha hb
end
end
end DL
end
noncomputable section
namespace DL
open PySem L2
/-! ### dicts that are changed: keys are numbers and texts -/
def keyOf : D → Option Key
  | .int i => some (.inl i)
  | .str z => some (.inr z)
  | _ => none
def dsOf (S : Sg) : D → Option (List (Key × D))
  | .dic ks ds => if ks.length = ds.length then some ((ks.map Sum.inr).zip ds) else none
  | .loc n => match S[n]? with
    | some (.dct gs) => some gs
    | _ => none
  | _ => none
def valG (gs : List (Key × D)) (k : Key) : Option D := (gs.find? fun kv => decide (kv.1 = k)).map (·.2)
def putG (gs : List (Key × D)) (k : Key) (d : D) : List (Key × D) := if (gs.any fun kv => decide (kv.1 = k)) = true then gs.map (fun kv => if kv.1 = k then (kv.1, d) else kv) else gs ++ [(k, d)]
section
variable {K : PySem.W.Frag} {H : Hp} {ρ : Ro}
theorem keyOf_rv {v : V} {d : D} {k : Key} (r : RV K H ρ v d) (h : keyOf d = some k) : v = kV k := by
  cases r <;> cases h <;> rfl
/-- the pairs of a dict, side by side -/
structure DR (K : PySem.W.Frag) (H : Hp) (ρ : Ro) (kvs : List (Key × V)) (gs : List (Key × D)) : Prop where
  ks : kvs.map (·.1) = gs.map (·.1)
  vs : RVs K H ρ (kvs.map (·.2)) (gs.map (·.2))
theorem dsOf_rd {S : Sg} {v : V} {d : D} {gs : List (Key × D)} (hS : SR K H ρ S) (r : RV K H ρ v d) (h : dsOf S d = some gs) : ∃ a kvs, v = .ref a ∧ H a = some (.dK kvs) ∧ DR K H ρ kvs gs := by
  unfold dsOf at h
  split at h
  · split at h
    · rename_i hl
      cases h
      cases r with
      | dic e n k rs => exact ⟨_, _, rfl, e, by rw [k, List.map_fst_zip (by rw [List.length_map]; omega)], by rw [List.map_snd_zip (by rw [List.length_map]; omega)]; exact rs⟩
    · cases h
  · cases r with
    | loc hn =>
      split at h
      · rename_i gs' e
        cases h
        obtain ⟨fs, h1, h2, h3⟩ := hS.ob _ _ _ hn e
        exact ⟨_, fs, rfl, h1, h2, h3⟩
      · cases h
  · cases h
theorem DR.len {kvs : List (Key × V)} {gs : List (Key × D)} (h : DR K H ρ kvs gs) : kvs.length = gs.length := by
  have := congrArg List.length h.ks
  rwa [List.length_map, List.length_map] at this
theorem DR.yes {k : Key} {d : D} : ∀ {kvs : List (Key × V)} {gs : List (Key × D)}, DR K H ρ kvs gs → valG gs k = some d → ∃ v, valV kvs k = some v ∧ RV K H ρ v d
  | [], [], _, h => by cases h
  | [], _ :: _, r, _ => by have := r.len; cases this
  | _ :: _, [], r, _ => by have := r.len; cases this
  | p :: kvs, q :: gs, r, h => by
    have hk : p.1 = q.1 := (List.cons.inj r.ks).1
    have hvs := r.vs
    rw [List.map_cons, List.map_cons] at hvs
    cases hvs with
    | cons h1 h2 =>
      have r' : DR K H ρ kvs gs := ⟨(List.cons.inj r.ks).2, h2⟩
      by_cases c : q.1 = k
      · have e : d = q.2 := by
          unfold valG at h
          rw [List.find?_cons, decide_eq_true c] at h
          exact (Option.some.inj h).symm
        subst e
        exact ⟨p.2, valV_pos (hk.trans c), h1⟩
      · have e : valG gs k = some d := by
          unfold valG at h ⊢
          rw [List.find?_cons, decide_eq_false c] at h
          exact h
        obtain ⟨v, e1, e2⟩ := DR.yes r' e
        exact ⟨v, by rw [valV_neg (p := p) (fun z => c (hk ▸ z)), e1], e2⟩
theorem DR.nope {k : Key} : ∀ {kvs : List (Key × V)} {gs : List (Key × D)}, DR K H ρ kvs gs → valG gs k = none → valV kvs k = none
  | [], [], _, _ => rfl
  | [], _ :: _, r, _ => by have := r.len; cases this
  | _ :: _, [], r, _ => by have := r.len; cases this
  | p :: kvs, q :: gs, r, h => by
    have hk : p.1 = q.1 := (List.cons.inj r.ks).1
    have hvs := r.vs
    rw [List.map_cons, List.map_cons] at hvs
    cases hvs with
    | cons h1 h2 =>
      have r' : DR K H ρ kvs gs := ⟨(List.cons.inj r.ks).2, h2⟩
      by_cases c : q.1 = k
      · unfold valG at h
        rw [List.find?_cons, decide_eq_true c] at h
        cases h
      · have e : valG gs k = none := by
          unfold valG at h ⊢
          rw [List.find?_cons, decide_eq_false c] at h
          exact h
        rw [valV_neg (p := p) (fun z => c (hk ▸ z)), DR.nope r' e]
theorem DR.any {k : Key} : ∀ {kvs : List (Key × V)} {gs : List (Key × D)}, DR K H ρ kvs gs → (kvs.any fun kv => decide (kv.1 = k)) = gs.any fun kv => decide (kv.1 = k) := fun {kvs gs} r => by
  have h1 : (kvs.any fun kv => decide (kv.1 = k)) = (kvs.map (·.1)).any fun x => decide (x = k) := by rw [List.any_map]; rfl
  have h2 : (gs.any fun kv => decide (kv.1 = k)) = (gs.map (·.1)).any fun x => decide (x = k) := by rw [List.any_map]; rfl
  rw [h1, h2, r.ks]
theorem DR.mapped {k : Key} {v : V} {d : D} (rv : RV K H ρ v d) : ∀ {kvs : List (Key × V)} {gs : List (Key × D)}, DR K H ρ kvs gs → DR K H ρ (kvs.map fun kv => if kv.1 = k then (kv.1, v) else kv) (gs.map fun kv => if kv.1 = k then (kv.1, d) else kv)
  | [], [], _ => ⟨rfl, .nil⟩
  | [], _ :: _, r => by have := r.len; cases this
  | _ :: _, [], r => by have := r.len; cases this
  | p :: kvs, q :: gs, r => by
    have hk : p.1 = q.1 := (List.cons.inj r.ks).1
    have hvs := r.vs
    rw [List.map_cons, List.map_cons] at hvs
    cases hvs with
    | cons h1 h2 =>
      have r' := DR.mapped (k := k) rv (kvs := kvs) (gs := gs) ⟨(List.cons.inj r.ks).2, h2⟩
      rw [List.map_cons, List.map_cons]
      by_cases c : q.1 = k
      · rw [if_pos c, if_pos (hk.trans c)]
        exact ⟨by rw [List.map_cons, List.map_cons, r'.ks, hk], .cons rv r'.vs⟩
      · rw [if_neg c, if_neg (fun z => c (hk ▸ z))]
        exact ⟨by rw [List.map_cons, List.map_cons, r'.ks, hk], .cons h1 r'.vs⟩
theorem DR.put {k : Key} {v : V} {d : D} (rv : RV K H ρ v d) {kvs : List (Key × V)} {gs : List (Key × D)} (r : DR K H ρ kvs gs) : DR K H ρ (putK kvs k v) (putG gs k d) := by
  unfold putK putG
  rw [r.any]
  split
  · exact r.mapped rv
  · refine ⟨by rw [List.map_append, List.map_append, r.ks]; rfl, ?_⟩
    rw [List.map_append, List.map_append]
    exact r.vs.append (.cons rv .nil)
theorem DR.mono {ρ' : Ro} {H' : Hp} (s : Step ρ ρ' H H') {kvs : List (Key × V)} {gs : List (Key × D)} (r : DR K H ρ kvs gs) : DR K H' ρ' kvs gs := ⟨r.ks, r.vs.mono s⟩
/-! reading -/
def dgK : O2 := fun d e S => (dsOf S d).bind fun gs => (keyOf e).bind fun k => (valG gs k).bind fun x => some (x, S)
theorem le_dgetK {fa fb : FE} : ∀ σ H Q, tD K (op2D dgK fa fb) σ H Q → tDGet (tD K fa) (tD K fb) σ H Q := by
  rintro σ H Q ⟨ρ, δ, S, d, S', hS, hσ, e, q⟩
  obtain ⟨⟨x, S1⟩, e1, e⟩ := bnd e
  obtain ⟨⟨y, S2⟩, e2, e⟩ := bnd e
  obtain ⟨gs, e3, e⟩ := bnd e
  obtain ⟨k, e4, e⟩ := bnd e
  obtain ⟨z, e5, e⟩ := bnd e
  cases e
  refine ⟨ρ, δ, S, _, S1, hS, hσ, e1, fun v H1 ρ1 s1 hS1 rv => ⟨ρ1, δ, S1, _, _, hS1, hσ.mono s1, e2, fun w H2 ρ2 s2 hS2 rw' => ?_⟩⟩
  obtain ⟨a, kvs, rfl, h1, r⟩ := dsOf_rd hS2 (rv.mono s2) e3
  obtain rfl := keyOf_rv rw' e4
  obtain ⟨u, e6, ru⟩ := r.yes e5
  exact ⟨a, u, rfl, .inl ⟨kvs, k, .inl h1, rfl, e6.symm⟩, q _ _ _ (s1.trans s2) hS2 ru⟩
def inKO (neg : Bool) : O2 := fun e d S => (keyOf e).bind fun k => (dsOf S d).bind fun gs => some (.bl (if neg then !(valG gs k).isSome else (valG gs k).isSome), S)
theorem DR.there {k : Key} {kvs : List (Key × V)} {gs : List (Key × D)} (r : DR K H ρ kvs gs) : (valV kvs k).isSome = (valG gs k).isSome := by
  cases e : valG gs k with
  | none => rw [r.nope e]; rfl
  | some d => obtain ⟨v, e1, _⟩ := r.yes e; rw [e1]; rfl
theorem le_dinK {fa fb : FE} : ∀ σ H Q, tD K (op2D (inKO false) fa fb) σ H Q → tDIn (tD K fa) (tD K fb) σ H Q := by
  rintro σ H Q ⟨ρ, δ, S, d, S', hS, hσ, e, q⟩
  obtain ⟨⟨x, S1⟩, e1, e⟩ := bnd e
  obtain ⟨⟨y, S2⟩, e2, e⟩ := bnd e
  obtain ⟨k, e4, e⟩ := bnd e
  obtain ⟨gs, e3, e⟩ := bnd e
  cases e
  refine ⟨ρ, δ, S, _, S1, hS, hσ, e1, fun v H1 ρ1 s1 hS1 rv => ⟨ρ1, δ, S1, _, _, hS1, hσ.mono s1, e2, fun w H2 ρ2 s2 hS2 rw' => ?_⟩⟩
  obtain ⟨a, kvs, rfl, h1, r⟩ := dsOf_rd hS2 rw' e3
  obtain rfl := keyOf_rv (rv.mono s2) e4
  refine ⟨a, valV kvs k, rfl, .inl ⟨kvs, k, .inl h1, rfl, rfl⟩, ?_⟩
  rw [r.there]
  exact q _ _ _ (s1.trans s2) hS2 .bl
theorem le_dninK {fa fb : FE} : ∀ σ H Q, tD K (op2D (inKO true) fa fb) σ H Q → tDNotIn (tD K fa) (tD K fb) σ H Q := by
  rintro σ H Q ⟨ρ, δ, S, d, S', hS, hσ, e, q⟩
  obtain ⟨⟨x, S1⟩, e1, e⟩ := bnd e
  obtain ⟨⟨y, S2⟩, e2, e⟩ := bnd e
  obtain ⟨k, e4, e⟩ := bnd e
  obtain ⟨gs, e3, e⟩ := bnd e
  cases e
  refine ⟨ρ, δ, S, _, S1, hS, hσ, e1, fun v H1 ρ1 s1 hS1 rv => ⟨ρ1, δ, S1, _, _, hS1, hσ.mono s1, e2, fun w H2 ρ2 s2 hS2 rw' => ?_⟩⟩
  obtain ⟨a, kvs, rfl, h1, r⟩ := dsOf_rd hS2 rw' e3
  obtain rfl := keyOf_rv (rv.mono s2) e4
  refine ⟨a, valV kvs k, rfl, .inl ⟨kvs, k, .inl h1, rfl, rfl⟩, ?_⟩
  rw [r.there]
  exact q _ _ _ (s1.trans s2) hS2 .bl
/-! storing -/
def dputS (fd fk fv : FE) : FS := fun δ S => (fv δ S).bind fun v => (fd δ v.2).bind fun p => (fk δ p.2).bind fun q => match p.1 with
  | .loc n => match q.2[n]? with
    | some (.dct gs) => if Fits gs.length then (keyOf q.1).bind fun k => some (.nx, δ, q.2.set n (.dct (putG gs k v.1))) else none
    | _ => none
  | _ => none
theorem ls_dput {fd fk fv : FE} : ∀ D σ H, tDS K (dputS fd fk fv) D σ H → sDPut (tD K fd) (tD K fk) (tD K fv) D σ H := by
  rintro Dn σ H ⟨ρ, δ, S, r, δ', S', hS, hσ, e, q⟩
  obtain ⟨⟨v, S1⟩, e1, e⟩ := bnd e
  obtain ⟨⟨x, S2⟩, e2, e⟩ := bnd e
  obtain ⟨⟨y, S3⟩, e3, e⟩ := bnd e
  dsimp only at e
  split at e
  · rename_i n
    split at e
    · rename_i gs hg
      split at e
      · rename_i hfit
        obtain ⟨k, e4, e⟩ := bnd e
        cases e
        refine ⟨ρ, δ, S, v, S1, hS, hσ, e1, fun vv H1 ρ1 s1 hS1 rv => ⟨ρ1, δ, S1, _, S2, hS1, hσ.mono s1, e2, fun xv H2 ρ2 s2 hS2 rx => ⟨ρ2, δ, S2, y, S3, hS2, hσ.mono (s1.trans s2), e3, fun yv H3 ρ3 s3 hS3 ry => ?_⟩⟩⟩
        have rx3 := rx.mono s3
        cases rx3 with
        | @loc a _ hn =>
          obtain ⟨fs, h1, h2, h3⟩ := hS3.ob _ _ _ hn hg
          have dr : DR K H3 ρ3 fs gs := ⟨h2, h3⟩
          obtain rfl := keyOf_rv ry e4
          have st : Step ρ3 ρ3 H3 (upd H3 a (.dK (putK fs k vv))) := Step.write hn h1
          have dp := (dr.put (k := k) (rv.mono (s2.trans s3))).mono st
          refine ⟨a, upd H3 a (.dK (putK fs k vv)), rfl, .inl ⟨fs, k, h1, rfl, by rw [dr.len]; exact hfit.lt, rfl⟩, ?_⟩
          have s13 := (s1.trans s2).trans s3
          exact q σ _ ρ3 (s13.trans st) (hS3.write hn ⟨_, h1⟩ ⟨_, upd_same, dp.ks, dp.vs⟩) (hσ.mono (s13.trans st))
      · cases e
    · cases e
  · cases e
/-! a copy, to be changed -/
def dictN : OC := fun ds S => match ds with
  | [d] => (dsOf S d).bind fun gs => some (.loc S.length, S ++ [.dct gs])
  | _ => none
theorem cbD_dictN : CbD K (fun xs H Q => ∃ (a : Addr) (kvs : List (Key × V)), xs = [.ref a] ∧ Rd H a (.dK kvs) ∧ ∀ p, H p = none → Q (.ref p) (upd H p (.dK kvs))) dictN := by
  intro xs H Q ρ S ds z S' hS rs eq q
  unfold dictN at eq
  split at eq
  · cases rs with | cons rx rn => ?_
    cases rn
    obtain ⟨gs, e, eq⟩ := bnd eq
    cases eq
    obtain ⟨a, kvs, rfl, h1, r⟩ := dsOf_rd hS rx e
    refine ⟨a, kvs, rfl, .inl h1, fun p hp => ?_⟩
    have st := Step.push hS (o := .dK kvs) hp
    have r' := r.mono st
    refine q _ _ _ st (hS.push hp ⟨kvs, upd_same, r'.ks, r'.vs⟩) (.loc ?_)
    show (ρ.pl ++ [p])[S.length]? = some p
    rw [← hS.len, List.getElem?_append_right (Nat.le_refl _), Nat.sub_self]
    rfl
  · cases eq
end
section
variable {X : Cx} {a b v : Expr} {pos : Pos} {f g h : FE}
theorem jdgetK (hu : X.A.units + 1 < cLine) (ha : JE X a f) (hb : JE X b g) (hs : NoSl b := by exact fun _ _ => rfl) : JE X (.Subscript a b pos) (op2D dgK f g) := PE.imp (pe_dget hu ha hb hs) le_dgetK
theorem jinK (hu : X.A.units + 1 < cLine) (ha : JE X a f) (hb : JE X b g) : JC X .In a b (op2D (inKO false) f g) := ⟨⟨_, pc_din hu ha hb, le_dinK⟩⟩
theorem jninK (hu : X.A.units + 1 < cLine) (ha : JE X a f) (hb : JE X b g) : JC X .NotIn a b (op2D (inKO true) f g) := ⟨⟨_, pc_dnotin hu ha hb, le_dninK⟩⟩
theorem jsdput {pos' : Pos} (hu : X.A.units + 1 < cLine) (ho : JE X a f) (hi : JE X b g) (hv : JE X v h) (hs : swapsWith v (some (.Subscript a b pos')) pos.line X.env = pure false := by rfl) : JS X (.Assign [.Subscript a b pos'] v pos) (dputS f g h) := PS.imp (ps_dput hu ho hi hv hs) ls_dput
end
section
variable {δ : Dl} {S S1 S2 S3 : Sg}
theorem r_dput {fd fk fv : FE} {v y : D} {n : Nat} {gs : List (Key × D)} {k : Key} (h : fv δ S = some (v, S1)) (h2 : fd δ S1 = some (.loc n, S2)) (h3 : fk δ S2 = some (y, S3)) (h4 : S3[n]? = some (.dct gs)) (l : gs.length < 1000000) (h5 : keyOf y = some k) : dputS fd fk fv δ S = some (.nx, δ, S3.set n (.dct (putG gs k v))) := by
  unfold dputS
  rw [h, Option.bind_some]
  dsimp only
  rw [h2, Option.bind_some]
  dsimp only
  rw [h3, Option.bind_some]
  dsimp only
  rw [h4]
  dsimp only
  rw [if_pos ((fits_iff _).mpr l), h5]
  rfl
theorem v_dgK {d e x : D} {gs : List (Key × D)} {k : Key} (h : dsOf S d = some gs) (h2 : keyOf e = some k) (h3 : valG gs k = some x) : dgK d e S = some (x, S) := by
  unfold dgK
  rw [h, Option.bind_some, h2, Option.bind_some, h3]
  rfl
theorem v_inK {neg : Bool} {d e : D} {gs : List (Key × D)} {k : Key} (h : dsOf S d = some gs) (h2 : keyOf e = some k) : inKO neg e d S = some (.bl (if neg then !(valG gs k).isSome else (valG gs k).isSome), S) := by
  unfold inKO
  rw [h2, Option.bind_some, h]
  rfl
theorem v_dictN {d : D} {gs : List (Key × D)} (h : dsOf S d = some gs) : dictN [d] S = some (.loc S.length, S ++ [.dct gs]) := by
  show (dsOf S d).bind _ = _
  rw [h]
  rfl
end
end DL
end
noncomputable section
namespace DL
open PySem L2
/-! ### tuples joined, neither empty -/
section
variable {K : PySem.W.Frag}
def catTO : O2 := fun d e S => match d, e with
  | .tup xs, .tup ys => if xs ≠ [] ∧ ys ≠ [] ∧ Fits (xs.length + ys.length) then some (.tup (xs ++ ys), S) else none
  | _, _ => none
theorem opD_catT : OpD K (rCatT K) catTO := by
  intro x y H Q ρ S d e z S' hS rx ry eq q
  unfold catTO at eq
  split at eq
  · rename_i xs ys
    split at eq
    · rename_i hc
      cases eq
      obtain ⟨a, vs, rfl, h1, r1⟩ := tpOf_sq rx (show tpOf (.tup xs) = some xs from rfl)
      obtain ⟨b, ws, rfl, h2, r2⟩ := tpOf_sq ry (show tpOf (.tup ys) = some ys from rfl)
      have n1 : vs ≠ [] := fun z => hc.1 (List.eq_nil_of_length_eq_zero (by rw [← r1.len, z]; rfl))
      have n2 : ws ≠ [] := fun z => hc.2.1 (List.eq_nil_of_length_eq_zero (by rw [← r2.len, z]; rfl))
      refine ⟨a, b, vs, ws, rfl, rfl, h1, h2, n1, by rw [r1.len, r2.len]; exact hc.2.2.le, fun z => (n2 z).elim, fun _ p hp => ?_⟩
      exact q _ _ ρ (Step.new hS hp) (hS.new hp) (rv_tup hS hp (r1.append r2))
    · cases eq
  · cases eq
section
variable {X : Cx} {a b : Expr} {pos : Pos} {f g : FE}
theorem jaddT (ha : JE X a f) (hb : JE X b g) : JE X (.BinOp a .Add b pos) (op2D catTO f g) := jop op_catT opD_catT ha hb
end
theorem v_catT {S : Sg} {xs ys : List D} (h1 : xs ≠ []) (h2 : ys ≠ []) (l : xs.length + ys.length < 1000000) : catTO (.tup xs) (.tup ys) S = some (.tup (xs ++ ys), S) := by
  show (if xs ≠ [] ∧ ys ≠ [] ∧ Fits (xs.length + ys.length) then _ else none) = _
  rw [if_pos ⟨h1, h2, (fits_iff _).mpr l⟩]
end
end DL
end
noncomputable section
namespace DL
open PySem L2
/-! ### a dict that is written down and will be changed -/
section
variable {K : PySem.W.Frag}
def argsL : List FE → FA
  | [] => nilA
  | f :: r => consA f (argsL r)
def dicTr (ks : List Str) (fs : List FE) : List (TE × TE) := (ks.zip fs).map fun p => (tC (.str p.1), tD K p.2)
theorem pairs_run : ∀ {ks : List Str} {fs : List FE} {σ : St} {H : Hp} {Q : List (V × V) → Hp → Prop} {ρ : Ro} {δ : Dl} {S S' : Sg} {ds : List D}, ks.length = fs.length → SR K H ρ S → RS K H ρ σ δ → argsL fs δ S = some (ds, S') →
    (∀ vs H' ρ', Step ρ ρ' H H' → SR K H' ρ' S' → RVs K H' ρ' vs ds → Q ((ks.zip vs).map fun p => (V.str p.1, p.2)) H') → tPairs (dicTr (K := K) ks fs) σ H Q
  | [], [], σ, H, Q, ρ, δ, S, S', ds, _, hS, hσ, e, q => by
    cases e
    exact q [] H ρ (Step.refl _ _) hS .nil
  | [], _ :: _, _, _, _, _, _, _, _, _, hl, _, _, _, _ => by cases hl
  | _ :: _, [], _, _, _, _, _, _, _, _, hl, _, _, _, _ => by cases hl
  | k :: ks, f :: fs, σ, H, Q, ρ, δ, S, S', ds, hl, hS, hσ, e, q => by
    obtain ⟨⟨x, S1⟩, e1, e⟩ := bnd e
    obtain ⟨⟨y, S2⟩, e2, e⟩ := bnd e
    cases e
    refine ⟨ρ, δ, S, x, S1, hS, hσ, e1, fun v H1 ρ1 s1 hS1 rv => ?_⟩
    refine pairs_run (ks := ks) (fs := fs) (by rw [List.length_cons, List.length_cons] at hl; omega) hS1 (hσ.mono s1) e2 fun vs H2 ρ2 s2 hS2 rvs => ?_
    exact q (v :: vs) H2 ρ2 (s1.trans s2) hS2 (.cons (rv.mono s2) rvs)
/-- what was in the making becomes a place -/
theorem SR.unbanPush {ρ2 : Ro} {H2 : Hp} {S1 : Sg} {L : Addr} {ob : Ob} (hS2 : SR K H2 (ρ2.ban L) S1) (nL : L ∉ ρ2.pl) (nB : L ∉ ρ2.bn) (ho : OR K H2 (ρ2.push L) L ob) : SR K H2 (ρ2.push L) (S1 ++ [ob]) := by
  refine ⟨by show (ρ2.pl ++ [L]).length = _; rw [List.length_append, List.length_append, ← hS2.len]; rfl, ?_, fun a m => hS2.bn a (List.mem_cons_of_mem _ m), fun a m => ?_, fun j a w h1 h2 => ?_⟩
  · show (ρ2.pl ++ [L]).Nodup
    rw [List.nodup_append]
    refine ⟨hS2.nd, by simp, fun a ha b hb e => ?_⟩
    rw [List.mem_singleton] at hb
    subst hb; subst e
    exact nL ha
  · rcases List.mem_append.mp m with m | m
    · exact fun z => hS2.dj a m (List.mem_cons_of_mem _ z)
    · rw [List.mem_singleton.mp m]; exact nB
  · have h1 : (ρ2.pl ++ [L])[j]? = some a := h1
    have hl : ρ2.pl.length = S1.length := hS2.len
    by_cases hn : j < ρ2.pl.length
    · rw [List.getElem?_append_left hn] at h1
      rw [List.getElem?_append_left (by rw [← hl]; exact hn)] at h2
      exact (hS2.ob j a w h1 h2).map rfl fun vs ds r => r.banPush
    · have hj : j = ρ2.pl.length := by
        have := (List.getElem?_eq_some_iff.mp h1).1
        rw [List.length_append] at this
        simp at this
        omega
      subst hj
      rw [List.getElem?_append_right (Nat.le_refl _), Nat.sub_self] at h1
      rw [hl, List.getElem?_append_right (Nat.le_refl _), Nat.sub_self] at h2
      have h1' : L = a := Option.some.inj h1
      have h2' : ob = w := Option.some.inj h2
      subst h1'; subst h2'
      exact ho
def dicN (ks : List Str) (fs : List FE) : FE := fun δ S => (argsL fs δ S).bind fun p => if p.1.length = ks.length then some (.loc p.2.length, p.2 ++ [.dct ((ks.map Sum.inr).zip p.1)]) else none
theorem le_dicN {ks : List Str} {fs : List FE} (hn : ks.Nodup) (hl : ks.length = fs.length) (h15 : ks.length ≤ 15) : ∀ σ H Q, tD K (dicN ks fs) σ H Q → tDisp (dicTr (K := K) ks fs) σ H Q := by
  rintro σ H Q ⟨ρ, δ, S, d, S', hS, hσ, e, q⟩
  obtain ⟨⟨ds, S1⟩, e1, e⟩ := bnd e
  dsimp only at e
  split at e
  · rename_i hdl
    cases e
    intro p hp
    have np : p ∉ ρ.pl := hS.freshP hp
    have nb : p ∉ ρ.bn := fun m => hS.bn p m hp
    refine pairs_run hl (hS.ban (o := .dK []) hp) (hσ.ban hp) e1 fun vs H2 ρ2 s2 hS2 rvs => ?_
    obtain ⟨pl2, bn2⟩ := ρ2
    have hb2 : bn2 = p :: ρ.bn := s2.bn
    subst hb2
    have hkeep : H2 p = some (.dK []) := s2.keep p _ upd_same np
    have np2 : p ∉ pl2 := s2.ninP (upd_same (H := H) (a := p) (o := .dK [])) np
    have lv : ks.length = vs.length := by rw [rvs.len]; exact hdl.symm
    have k1 : ((ks.zip vs).map fun p => ((Sum.inr p.1 : Key), p.2)).map (·.1) = ks.map Sum.inr := by
      rw [List.map_map]
      show (ks.zip vs).map (fun p => (Sum.inr p.1 : Key)) = _
      rw [show (fun p : Str × V => (Sum.inr p.1 : Key)) = Sum.inr ∘ Prod.fst from rfl, ← List.map_map, List.map_fst_zip (by omega)]
    have k2 : ((ks.zip vs).map fun p => ((Sum.inr p.1 : Key), p.2)).map (·.2) = vs := by
      rw [List.map_map]
      show (ks.zip vs).map (fun p => p.2) = _
      rw [show (fun p : Str × V => p.2) = Prod.snd from rfl, List.map_snd_zip (by omega)]
    refine ⟨hkeep, (ks.zip vs).map fun p => ((Sum.inr p.1 : Key), p.2), ?_, ?_, ?_⟩
    · rw [List.map_map]; rfl
    · rw [List.length_map, List.length_zip]; omega
    · rw [mergeK_new _ [] (by rw [k1]; exact List.pairwise_map.mpr (hn.imp fun h z => h (Sum.inr.inj z))), List.nil_append]
      have mp : p ∈ ((⟨pl2, ρ.bn⟩ : Ro).ban p).bn := List.mem_cons_self ..
      have hS3 : SR K (upd H2 p (.dK ((ks.zip vs).map fun p => ((Sum.inr p.1 : Key), p.2)))) ((⟨pl2, ρ.bn⟩ : Ro).ban p) S1 := SR.banned hS2 mp np2
      have rv3 : RVs K (upd H2 p (.dK ((ks.zip vs).map fun p => ((Sum.inr p.1 : Key), p.2)))) ((⟨pl2, ρ.bn⟩ : Ro).ban p) vs ds := RVs.banned mp rvs
      have hpush := SR.unbanPush (ρ2 := ⟨pl2, ρ.bn⟩) (ob := .dct ((ks.map Sum.inr).zip ds)) hS3 np2 nb ⟨_, upd_same, by rw [k1, List.map_fst_zip (by rw [List.length_map]; omega)], by rw [k2, List.map_snd_zip (by rw [List.length_map]; omega)]; exact rv3.banPush⟩
      have st : Step ρ ((⟨pl2, ρ.bn⟩ : Ro).push p) H (upd H2 p (.dK ((ks.zip vs).map fun p => ((Sum.inr p.1 : Key), p.2)))) := by
        obtain ⟨nw, en, hf⟩ := s2.ext
        have en : pl2 = ρ.pl ++ nw := en
        refine ⟨⟨nw ++ [p], by show pl2 ++ [p] = _; rw [en, List.append_assoc], fun a m => ?_⟩, rfl, fun a o h1 h2 => ?_, fun a h1 => ?_⟩
        · rcases List.mem_append.mp m with m | m
          · have := hf a m
            by_cases c : a = p
            · rw [c]; exact hp
            · rw [upd_ne c] at this; exact this
          · rw [List.mem_singleton.mp m]; exact hp
        · have hap : a ≠ p := ne_of_none h1 hp
          rw [upd_ne hap]
          exact s2.keep a o (by rw [upd_ne hap]; exact h1) h2
        · by_cases c : a = p
          · rw [c]; exact hp
          · rw [upd_ne c] at h1
            have := s2.dom a h1
            rw [upd_ne c] at this
            exact this
      refine q _ _ _ st hpush (.loc ?_)
      show (pl2 ++ [p])[S1.length]? = some p
      have hl2 : pl2.length = S1.length := hS2.len
      rw [← hl2, List.getElem?_append_right (Nat.le_refl _), Nat.sub_self]
      rfl
  · cases e
end
section
variable {X : Cx} {pos : Pos}
theorem jdN {keys : List (Option Expr)} {values : List Expr} {ks : List Str} {fs : List FE} (h : PPs X pos keys values (dicTr (K := X.K) ks fs)) (hall : keys.all (·.isSome) = true := by rfl) (hl : keys.length = values.length := by rfl) (h0 : keys ≠ [] := by simp)
    (h15 : keys.length ≤ 15 := by decide) (hn : ks.Nodup := by decide +kernel) (hk : ks.length = fs.length := by rfl) (hk15 : ks.length ≤ 15 := by decide) : JE X (.Dict keys values pos) (dicN ks fs) := PE.imp (pe_disp h hall hl h0 h15) (le_dicN hn hk hk15)
theorem jdkN {k : Str} {j} {ks : List (Option Expr)} {v : Expr} {vs : List Expr} {f : FE} {ks' : List Str} {fs' : List FE} {p2 : Pos} (hv : JE X v f) (hr : PPs X pos ks vs (dicTr (K := X.K) ks' fs')) : PPs X pos (some (.Constant (.str k) j p2) :: ks) (v :: vs) (dicTr (K := X.K) (k :: ks') (f :: fs')) := pps_cons pe_str hv hr
theorem jdknilN : PPs X pos [] [] (dicTr (K := X.K) [] []) := pps_nil
end
theorem r_dicN {δ : Dl} {S S1 : Sg} {ks : List Str} {fs : List FE} {ds : List D} (h : argsL fs δ S = some (ds, S1)) (hl : ds.length = ks.length) : dicN ks fs δ S = some (.loc S1.length, S1 ++ [.dct ((ks.map Sum.inr).zip ds)]) := by
  unfold dicN
  rw [h, Option.bind_some]
  dsimp only
  rw [if_pos hl]
end DL
end
noncomputable section
namespace DL
open PySem L2
/-! ### a dict that is written down and will be changed -/
/-! dict(xs) of a list of pairs -/
def pairsG : List D → Option (List (Key × D))
  | [] => some []
  | .tup [a, b] :: r => (keyOf a).bind fun k => (pairsG r).bind fun gs => some ((k, b) :: gs)
  | _ => none
def mergeG (gs more : List (Key × D)) : List (Key × D) := more.foldl (fun acc kv => putG acc kv.1 kv.2) gs
def dictP : OC := fun ds S => match ds with
  | [.lst xs] => (pairsG xs).bind fun gs => some (.loc S.length, S ++ [.dct (mergeG [] gs)])
  | _ => none
section
variable {K : PySem.W.Frag} {H : Hp} {ρ : Ro}
theorem pairsG_rd : ∀ {xs : List D} {vs : List V} {gs : List (Key × D)}, RVs K H ρ vs xs → pairsG xs = some gs → ∃ (ps : List Addr) (kvs : List (Key × V)), vs = ps.map V.ref ∧ Paired (fun p kv => SqT K H p [kV kv.1, kv.2]) ps kvs ∧ DR K H ρ kvs gs
  | [], _, _, r, h => by
    cases r
    cases h
    exact ⟨[], [], rfl, .nil, rfl, .nil⟩
  | x :: xs, vs, gs, r, h => by
    cases r with
    | cons rx rr =>
      unfold pairsG at h
      split at h
      · rename_i e; cases e
      · rename_i a b r' e
        cases e
        obtain ⟨k, hk, h⟩ := bnd h
        obtain ⟨gs', hg, h⟩ := bnd h
        cases h
        obtain ⟨ps, kvs, rfl, hp, hd⟩ := pairsG_rd rr hg
        cases rx with
        | tup h1 n r2 =>
          cases r2 with
          | cons ra r3 =>
            cases r3 with
            | cons rb r4 =>
              cases r4
              have := keyOf_rv ra hk
              subst this
              refine ⟨_ :: ps, (k, _) :: kvs, rfl, .cons (.inl (.inl h1)) hp, ?_, ?_⟩
              · show k :: kvs.map (·.1) = k :: gs'.map (·.1)
                rw [hd.ks]
              · exact .cons rb hd.vs
      · cases h
theorem DR.merge : ∀ {more : List (Key × V)} {more' : List (Key × D)} {kvs : List (Key × V)} {gs : List (Key × D)}, DR K H ρ more more' → DR K H ρ kvs gs → DR K H ρ (mergeK kvs more) (mergeG gs more')
  | [], [], _, _, _, q => q
  | [], _ :: _, _, _, r, _ => by have := r.len; cases this
  | _ :: _, [], _, _, r, _ => by have := r.len; cases this
  | p :: more, p' :: more', kvs, gs, r, q => by
    obtain ⟨k, v⟩ := p
    obtain ⟨k', d⟩ := p'
    have hk : k = k' := (List.cons.inj r.ks).1
    subst hk
    have hvs := r.vs
    rw [List.map_cons, List.map_cons] at hvs
    cases hvs with
    | cons h1 h2 => exact DR.merge (more := more) (more' := more') ⟨(List.cons.inj r.ks).2, h2⟩ (q.put h1)
theorem cbD_dictP : CbD K (fun xs H Q => ∃ (a : Addr) (ps : List Addr) (kvs : List (Key × V)), xs = [.ref a] ∧ SqL K H a (ps.map V.ref) ∧ Paired (fun p kv => SqT K H p [kV kv.1, kv.2]) ps kvs ∧
    ∀ p, H p = none → Q (.ref p) (upd H p (.dK (mergeK [] kvs)))) dictP := by
  intro xs H Q ρ S ds z S' hS rs eq q
  unfold dictP at eq
  split at eq
  · cases rs with | cons rx rn => ?_
    cases rn
    obtain ⟨gs, e, eq⟩ := bnd eq
    cases eq
    cases rx with
    | lst h1 n r =>
      obtain ⟨ps, kvs, rfl, hp, hd⟩ := pairsG_rd r e
      refine ⟨_, ps, kvs, rfl, .inl (.inl h1), hp, fun p hq => ?_⟩
      have st := Step.push hS (o := .dK (mergeK [] kvs)) hq
      have r' := (DR.merge hd (kvs := []) (gs := []) ⟨rfl, .nil⟩).mono st
      refine q _ _ _ st (hS.push hq ⟨mergeK [] kvs, upd_same, r'.ks, r'.vs⟩) (.loc ?_)
      show (ρ.pl ++ [p])[S.length]? = some p
      rw [← hS.len, List.getElem?_append_right (Nat.le_refl _), Nat.sub_self]
      rfl
  · cases eq
theorem v_dictP {S : Sg} {xs : List D} {gs : List (Key × D)} (h : pairsG xs = some gs) : dictP [.lst xs] S = some (.loc S.length, S ++ [.dct (mergeG [] gs)]) := by
  show (pairsG xs).bind _ = _
  rw [h]
  rfl
end
end DL
end
noncomputable section
namespace DL
open PySem L2
/-! o[k] = v of a dict, as a target -/
def setDO : OSt := fun d e z S => match d with
  | .loc n => match S[n]? with
    | some (.dct gs) => if Fits gs.length then (keyOf e).bind fun k => some (S.set n (.dct (putG gs k z))) else none
    | _ => none
  | _ => none
section
variable {K : PySem.W.Frag}
theorem stD_D : StD K rSetD setDO := by
  intro o i v H Q ρ S d e z S' hS ro ri rv eq q
  unfold setDO at eq
  split at eq
  · rename_i n
    split at eq
    · rename_i gs hg
      split at eq
      · rename_i hfit
        obtain ⟨k, e4, eq⟩ := bnd eq
        cases eq
        cases ro with
        | @loc a _ hn =>
          obtain ⟨fs, h1, h2, h3⟩ := hS.ob _ _ _ hn hg
          have dr : DR K H ρ fs gs := ⟨h2, h3⟩
          obtain rfl := keyOf_rv ri e4
          have st : Step ρ ρ H (upd H a (.dK (putK fs k v))) := Step.write hn h1
          have dp := (dr.put (k := k) rv).mono st
          refine ⟨a, upd H a (.dK (putK fs k v)), rfl, .inl ⟨fs, k, h1, rfl, by rw [dr.len]; exact hfit.lt, rfl⟩, ?_⟩
          exact q _ st (hS.write hn ⟨_, h1⟩ ⟨_, upd_same, dp.ks, dp.vs⟩)
      · cases eq
    · cases eq
  · cases eq
theorem v_setDc {S : Sg} {n : Nat} {y z : D} {gs : List (Key × D)} {k : Key} (h : S[n]? = some (.dct gs)) (l : gs.length < 1000000) (hk : keyOf y = some k) : setDO (.loc n) y z S = some (S.set n (.dct (putG gs k z))) := by
  unfold setDO
  dsimp only
  rw [h]
  dsimp only
  rw [if_pos ((fits_iff _).mpr l), hk]
  rfl
end
end DL
end
noncomputable section
namespace DL
open PySem L2
/-! ### walking forward: what holds of a piece's answer -/
def W {α : Type} (o : Option (α × Sg)) (Q : α → Sg → Prop) : Prop := ∃ d S', o = some (d, S') ∧ Q d S'
def Wd (dds : List D) (o : Option (List D × Sg)) (Q : List D → Sg → Prop) : Prop := W o fun ds S => Q (ds ++ dds) S
def WS (o : Option (Fl × Dl × Sg)) (Q : Fl → Dl → Sg → Prop) : Prop := ∃ r δ' S', o = some (r, δ', S') ∧ Q r δ' S'
def WG (o : Option (Dl × Sg)) (Q : Dl → Sg → Prop) : Prop := ∃ δ' S', o = some (δ', S') ∧ Q δ' S'
/-- a truth -/
def TB (d : D) (P : Bool → Prop) : Prop := ∃ b, d = .bl b ∧ P b
def Br (q : Bool) (A B : Prop) : Prop := (q = true → A) ∧ (q = false → B)
theorem tb {b : Bool} {P : Bool → Prop} (h : P b) : TB (.bl b) P := ⟨b, rfl, h⟩
theorem br_t {q : Bool} {A B : Prop} (h : q = true) (a : A) : Br q A B := ⟨fun _ => a, fun e => absurd (h.symm.trans e) (by decide)⟩
theorem br_f {q : Bool} {A B : Prop} (h : q = false) (b : B) : Br q A B := ⟨fun e => absurd (h.symm.trans e) (by decide), fun _ => b⟩
theorem br_c {q : Bool} {A B : Prop} (a : q = true → A) (b : q = false → B) : Br q A B := ⟨a, b⟩
theorem br_d {p : Prop} [Decidable p] {A B : Prop} (a : p → A) (b : ¬ p → B) : Br (decide p) A B := ⟨fun h => a (of_decide_eq_true h), fun h => b (of_decide_eq_false h)⟩
theorem br_tr {A B : Prop} (a : A) : Br true A B := br_t rfl a
theorem br_fa {A B : Prop} (b : B) : Br false A B := br_f rfl b
section
variable {δ : Dl} {S S1 : Sg}
section
variable {Q : D → Sg → Prop}
theorem w_ex {α : Type} {o : Option (α × Sg)} {d : α} {Q : α → Sg → Prop} (e : o = some (d, S1)) (q : Q d S1) : W o Q := ⟨_, _, e, q⟩
theorem w_imp {α : Type} {o : Option (α × Sg)} {Q Q' : α → Sg → Prop} (h : W o Q') (k : ∀ d S, Q' d S → Q d S) : W o Q := by
  obtain ⟨d, S1, e, q⟩ := h
  exact ⟨d, S1, e, k _ _ q⟩
theorem ws_imp {o : Option (Fl × Dl × Sg)} {Q Q' : Fl → Dl → Sg → Prop} (h : WS o Q') (k : ∀ r δ S, Q' r δ S → Q r δ S) : WS o Q := by
  obtain ⟨r, δ', S1, e, q⟩ := h
  exact ⟨r, δ', S1, e, k _ _ _ q⟩
theorem w_c {d : D} (q : Q d S) : W (cD d δ S) Q := ⟨_, _, rfl, q⟩
theorem w_v {i : Nat} {d : D} (h : δ[i]? = some (some d)) (q : Q d S) : W (varD i δ S) Q := ⟨_, _, r_v h, q⟩
theorem w_op2 {o : O2} {f g : FE} (h : W (f δ S) fun x S1 => W (g δ S1) fun y S2 => W (o x y S2) Q) : W (op2D o f g δ S) Q := by
  obtain ⟨x, S1, e1, y, S2, e2, z, S3, e3, q⟩ := h
  exact ⟨_, _, r_op2 e1 e2 e3, q⟩
theorem w_op1 {o : O1} {f : FE} (h : W (f δ S) fun x S1 => W (o x S1) Q) : W (op1D o f δ S) Q := by
  obtain ⟨x, S1, e1, z, S3, e3, q⟩ := h
  exact ⟨_, _, r_op1 e1 e3, q⟩
theorem w_nil {Q : List D → Sg → Prop} (q : Q [] S) : W (nilA δ S) Q := ⟨_, _, rfl, q⟩
theorem w_cons {f : FE} {g : FA} {Q : List D → Sg → Prop} (h : W (f δ S) fun x S1 => W (g δ S1) fun xs S2 => Q (x :: xs) S2) : W (consA f g δ S) Q := by
  obtain ⟨x, S1, e1, y, S2, e2, q⟩ := h
  exact ⟨_, _, r_cons e1 e2, q⟩
theorem w_one {f : FE} {Q : List D → Sg → Prop} (h : W (f δ S) fun x S1 => Q [x] S1) : W (oneA f δ S) Q := by
  obtain ⟨x, S1, e1, q⟩ := h
  exact ⟨_, _, r_one e1, q⟩
theorem wd_nil {dds : List D} {Q : List D → Sg → Prop} (q : Q dds S) : Wd dds (nilA δ S) Q := ⟨_, _, rfl, q⟩
theorem wd_cons {dds : List D} {f : FE} {g : FA} {Q : List D → Sg → Prop} (h : W (f δ S) fun x S1 => Wd dds (g δ S1) fun xs S2 => Q (x :: xs) S2) : Wd dds (consA f g δ S) Q := by
  obtain ⟨x, S1, e1, y, S2, e2, q⟩ := h
  exact ⟨_, _, r_cons e1 e2, q⟩
theorem w_tup {f : FA} (h : W (f δ S) fun ds S1 => ds.length < 1000000 ∧ Q (.tup ds) S1) : W (tupD f δ S) Q := by
  obtain ⟨x, S1, e1, l, q⟩ := h
  exact ⟨_, _, r_tup e1 l, q⟩
theorem w_lst {f : FA} (h : W (f δ S) fun ds S1 => ds.length < 1000000 ∧ Q (.lst ds) S1) : W (lstD f δ S) Q := by
  obtain ⟨x, S1, e1, l, q⟩ := h
  exact ⟨_, _, r_lst e1 l, q⟩
theorem w_cb {o : OC} {f : FA} (h : W (f δ S) fun ds S1 => W (o ds S1) Q) : W (cbD o f δ S) Q := by
  obtain ⟨x, S1, e1, z, S3, e3, q⟩ := h
  exact ⟨_, _, r_cb e1 e3, q⟩
theorem w_fn {F : Fn} {dds : List D} {f : FA} (h : Wd dds (f δ S) fun ds S1 => W (F ds S1) Q) : W (fnD F dds f δ S) Q := by
  obtain ⟨x, S1, e1, z, S3, e3, q⟩ := h
  exact ⟨_, _, r_fn e1 rfl e3, q⟩
theorem w_fnK {F : Fn} {src : List Sr} {dds : List D} {f g : FA} (h : W (f δ S) fun ds S1 => W (g δ S1) fun es S2 => W (F (pickS src ds es dds) S2) Q) : W (fnK F src dds f g δ S) Q := by
  obtain ⟨x, S1, e1, y, S2, e2, z, S3, e3, q⟩ := h
  exact ⟨_, _, r_fnK e1 e2 rfl e3, q⟩
theorem w_bm {ok : Sg → D → Bool} {o : OM} {fa : FE} {f : FA} (h : W (fa δ S) fun d S1 => ok S1 d = true ∧ W (f δ S1) fun ds S2 => W (o d ds S2) Q) : W (bmD ok o fa f δ S) Q := by
  obtain ⟨x, S1, e1, k, y, S2, e2, z, S3, e3, q⟩ := h
  exact ⟨_, _, r_bm e1 k e2 e3, q⟩
theorem w_fld {C : Addr} {f : Str} {fa : FE} (h : W (fa δ S) fun d S1 => ∃ gs x, fsOf S1 C d = some gs ∧ gs.lookup f = some x ∧ Q x S1) : W (fldD C f fa δ S) Q := by
  obtain ⟨x, S1, e1, gs, y, e2, e3, q⟩ := h
  exact ⟨_, _, r_fld e1 e2 e3, q⟩
theorem w_meth {C : Addr} {m : Str} {F : Fn} {dds : List D} {fa : FE} {f : FA} (h : W (fa δ S) fun d S1 => ∃ gs, fsOf S1 C d = some gs ∧ gs.lookup m = none ∧ Wd dds (f δ S1) fun ds S2 => W (F (d :: ds) S2) Q) : W (methD C m F dds fa f δ S) Q := by
  obtain ⟨x, S1, e1, gs, e2, e3, y, S2, e4, z, S3, e5, q⟩ := h
  exact ⟨_, _, r_meth e1 e2 e3 e4 rfl e5, q⟩
theorem w_andV {f g : FE} (h : W (f δ S) fun d S1 => TB d fun q => Br q (W (g δ S1) Q) (Q (.bl false) S1)) : W (andV f g δ S) Q := by
  obtain ⟨x, S1, e1, q, rfl, a, b⟩ := h
  cases q with
  | true =>
    obtain ⟨z, S2, e2, k⟩ := a rfl
    exact ⟨_, _, r_andV e1 (i_y rfl e2), k⟩
  | false => exact ⟨_, _, r_andV e1 (i_n rfl rfl), b rfl⟩
theorem w_orV {f g : FE} (h : W (f δ S) fun d S1 => TB d fun q => Br q (Q (.bl true) S1) (W (g δ S1) Q)) : W (orV f g δ S) Q := by
  obtain ⟨x, S1, e1, q, rfl, a, b⟩ := h
  cases q with
  | true => exact ⟨_, _, r_orV e1 (i_y rfl rfl), a rfl⟩
  | false =>
    obtain ⟨z, S2, e2, k⟩ := b rfl
    exact ⟨_, _, r_orV e1 (i_n rfl e2), k⟩
theorem w_notV {f : FE} (h : W (f δ S) fun d S1 => TB d fun q => Q (.bl (!q)) S1) : W (notV f δ S) Q := by
  obtain ⟨x, S1, e1, q, rfl, k⟩ := h
  exact ⟨_, _, r_notV e1, k⟩
theorem w_ite {c : FT} {f g : FE} (h : W (c δ S) fun q S1 => Br q (W (f δ S1) Q) (W (g δ S1) Q)) : W (iteV c f g δ S) Q := by
  obtain ⟨q, S1, e1, a, b⟩ := h
  cases q with
  | true =>
    obtain ⟨z, S2, e2, k⟩ := a rfl
    exact ⟨_, _, r_ite e1 (i_y rfl e2), k⟩
  | false =>
    obtain ⟨z, S2, e2, k⟩ := b rfl
    exact ⟨_, _, r_ite e1 (i_n rfl e2), k⟩
theorem w_chain {o o' : O2} {f g h : FE} (e : W (f δ S) fun x S1 => W (g δ S1) fun y S2 => W (o x y S2) fun z S3 => TB z fun q => Br q (W (h δ S3) fun w S4 => W (o' y w S4) Q) (Q (.bl false) S3)) : W (chainD o o' f g h δ S) Q := by
  obtain ⟨x, S1, e1, y, S2, e2, z, S3, e3, q, rfl, a, b⟩ := e
  cases q with
  | true =>
    obtain ⟨w, S4, e4, v, S5, e5, k⟩ := a rfl
    refine ⟨v, S5, ?_, k⟩
    rw [chainD_ap, e1, bd_some, e2, bd_some]
    dsimp only
    rw [e3, bd_some]
    dsimp only
    rw [isB_bl, bd_some, if_pos rfl, e4, bd_some]
    exact e5
  | false =>
    refine ⟨_, _, ?_, b rfl⟩
    rw [chainD_ap, e1, bd_some, e2, bd_some]
    dsimp only
    rw [e3]
    rfl
theorem w_sl {o : O3} {f : FE} {g h : FO} (e : W (f δ S) fun x S1 => W (g δ S1) fun lo S2 => W (h δ S2) fun hi S3 => W (o x lo hi S3) Q) : W (slD o f g h δ S) Q := by
  obtain ⟨x, S1, e1, lo, S2, e2, hi, S3, e3, z, S4, e4, q⟩ := e
  exact ⟨_, _, r_sl e1 e2 e3 e4, q⟩
theorem w_noO {Q : Option Int → Sg → Prop} (q : Q none S) : W (noO δ S) Q := ⟨_, _, rfl, q⟩
theorem w_someO {f : FE} {Q : Option Int → Sg → Prop} (h : W (f δ S) fun d S1 => ∃ i, d = .int i ∧ Q (some i) S1) : W (someO f δ S) Q := by
  obtain ⟨x, S1, e1, i, rfl, q⟩ := h
  exact ⟨_, _, r_someO e1, q⟩
end
section
variable {Q : Bool → Sg → Prop}
theorem w_tv {f : FE} (h : W (f δ S) fun d S1 => TB d fun q => Q q S1) : W (tvD f δ S) Q := by
  obtain ⟨x, S1, e1, q, rfl, k⟩ := h
  exact ⟨_, _, r_tv e1, k⟩
theorem w_tru {f : FE} (h : W (f δ S) fun d S1 => ∃ q, truB S1 d = some q ∧ Q q S1) : W (truD f δ S) Q := by
  obtain ⟨x, S1, e1, q, e2, k⟩ := h
  exact ⟨_, _, r_tru e1 e2, k⟩
theorem w_not {f : FT} (h : W (f δ S) fun q S1 => Q (!q) S1) : W (notD f δ S) Q := by
  obtain ⟨x, S1, e1, k⟩ := h
  exact ⟨_, _, r_not e1, k⟩
theorem w_and {f g : FT} (h : W (f δ S) fun q S1 => Br q (W (g δ S1) Q) (Q false S1)) : W (andD f g δ S) Q := by
  obtain ⟨q, S1, e1, a, b⟩ := h
  cases q with
  | true =>
    obtain ⟨z, S2, e2, k⟩ := a rfl
    exact ⟨_, _, r_and e1 (i_y rfl e2), k⟩
  | false => exact ⟨_, _, r_and e1 (i_n rfl rfl), b rfl⟩
theorem w_or {f g : FT} (h : W (f δ S) fun q S1 => Br q (Q true S1) (W (g δ S1) Q)) : W (orD f g δ S) Q := by
  obtain ⟨q, S1, e1, a, b⟩ := h
  cases q with
  | true => exact ⟨_, _, r_or e1 (i_y rfl rfl), a rfl⟩
  | false =>
    obtain ⟨z, S2, e2, k⟩ := b rfl
    exact ⟨_, _, r_or e1 (i_n rfl e2), k⟩
theorem w_yes (q : Q true S) : W (yesT δ S) Q := ⟨_, _, rfl, q⟩
end
/-! statements -/
section
variable {Q : Fl → Dl → Sg → Prop}
/-- what comes behind a statement -/
def Nx (Q : Fl → Dl → Sg → Prop) (g : Dl → Sg → Prop) : Fl → Dl → Sg → Prop := fun r δ S => match r with
  | .nx => g δ S
  | _ => Q r δ S
theorem nx_nx {g : Dl → Sg → Prop} (h : g δ S) : Nx Q g .nx δ S := h
theorem nx_rt {g : Dl → Sg → Prop} {d : D} (h : Q (.rt d) δ S) : Nx Q g (.rt d) δ S := h
theorem nx_bk {g : Dl → Sg → Prop} (h : Q .bk δ S) : Nx Q g .bk δ S := h
theorem nx_ct {g : Dl → Sg → Prop} (h : Q .ct δ S) : Nx Q g .ct δ S := h
theorem ws_ex {o : Option (Fl × Dl × Sg)} {r : Fl} {δ1 : Dl} (e : o = some (r, δ1, S1)) (q : Q r δ1 S1) : WS o Q := ⟨_, _, _, e, q⟩
theorem w_seq {f g : FS} (h : WS (f δ S) (Nx Q fun δ1 S1 => WS (g δ1 S1) Q)) : WS (seqS f g δ S) Q := by
  obtain ⟨r, δ1, S1, e, k⟩ := h
  cases r with
  | nx =>
    obtain ⟨r2, δ2, S2, e2, k2⟩ := k
    exact ⟨r2, δ2, S2, r_seq e e2, k2⟩
  | rt d => exact ⟨_, _, _, by rw [seqS_ap, e]; rfl, k⟩
  | bk => exact ⟨_, _, _, by rw [seqS_ap, e]; rfl, k⟩
  | ct => exact ⟨_, _, _, by rw [seqS_ap, e]; rfl, k⟩
theorem w_next (q : Q .nx δ S) : WS (nextS δ S) Q := ⟨_, _, _, rfl, q⟩
theorem w_break (q : Q .bk δ S) : WS (breakS δ S) Q := ⟨_, _, _, rfl, q⟩
theorem w_cont (q : Q .ct δ S) : WS (contS δ S) Q := ⟨_, _, _, rfl, q⟩
theorem w_drop {f : FE} (h : W (f δ S) fun _ S1 => Q .nx δ S1) : WS (dropS f δ S) Q := by
  obtain ⟨d, S1, e, k⟩ := h
  exact ⟨_, _, _, r_drop e, k⟩
theorem w_set {i : Nat} {f : FE} (h : W (f δ S) fun d S1 => Q .nx (δ.set i (some d)) S1) : WS (setS i f δ S) Q := by
  obtain ⟨d, S1, e, k⟩ := h
  exact ⟨_, _, _, r_set e, k⟩
theorem w_par2 {i j : Nat} {f : FA} (h : W (f δ S) fun ds S1 => ∃ x y, ds = [x, y] ∧ Q .nx ((δ.set i (some x)).set j (some y)) S1) : WS (parS i j f δ S) Q := by
  obtain ⟨_, S1, e, x, y, rfl, k⟩ := h
  exact ⟨_, _, _, r_par2 e, k⟩
theorem w_par3 {i j l : Nat} {f : FA} (h : W (f δ S) fun ds S1 => ∃ x y z, ds = [x, y, z] ∧ Q .nx (((δ.set i (some x)).set j (some y)).set l (some z)) S1) : WS (parS3 i j l f δ S) Q := by
  obtain ⟨_, S1, e, x, y, z, rfl, k⟩ := h
  exact ⟨_, _, _, r_par3 e, k⟩
theorem w_asg {f : FE} {g : FG} (h : W (f δ S) fun d S1 => WG (g d δ S1) fun δ1 S2 => Q .nx δ1 S2) : WS (asgS f g δ S) Q := by
  obtain ⟨d, S1, e, δ1, S2, e2, k⟩ := h
  exact ⟨_, _, _, r_asg e e2, k⟩
theorem w_nmG {i : Nat} {d : D} {Q : Dl → Sg → Prop} (q : Q (δ.set i (some d)) S) : WG (nmG i d δ S) Q := ⟨_, _, rfl, q⟩
theorem w_tupG {n : Nat} {u : FGs} {ds : List D} {Q : Dl → Sg → Prop} (h : ds.length = n) (k : WG (u ds δ S) Q) : WG (tupG n u (.tup ds) δ S) Q := by
  obtain ⟨δ1, S1, e, q⟩ := k
  exact ⟨_, _, r_tupG h e, q⟩
theorem w_consG {t : FG} {u : FGs} {d : D} {ds : List D} {Q : Dl → Sg → Prop} (h : WG (t d δ S) fun δ1 S1 => WG (u ds δ1 S1) Q) : WG (consG t u (d :: ds) δ S) Q := by
  obtain ⟨δ1, S1, e, δ2, S2, e2, q⟩ := h
  exact ⟨_, _, r_consG e e2, q⟩
theorem w_nilG {Q : Dl → Sg → Prop} (q : Q δ S) : WG (nilG [] δ S) Q := ⟨_, _, rfl, q⟩
theorem w_subG {o : OSt} {fo fi : FE} {d : D} {Q : Dl → Sg → Prop} (h : W (fo δ S) fun a S1 => W (fi δ S1) fun b S2 => ∃ S3, o a b d S2 = some S3 ∧ Q δ S3) : WG (subG o fo fi d δ S) Q := by
  obtain ⟨a, S1, e1, b, S2, e2, S3, e3, q⟩ := h
  exact ⟨_, _, r_subG e1 e2 e3, q⟩
theorem w_ret {f : FE} (h : W (f δ S) fun d S1 => Q (.rt d) δ S1) : WS (retS f δ S) Q := by
  obtain ⟨d, S1, e, k⟩ := h
  exact ⟨_, _, _, r_ret e, k⟩
theorem w_retN (q : Q (.rt .non) δ S) : WS (retNS δ S) Q := ⟨_, _, _, rfl, q⟩
theorem w_if {c : FT} {g h : FS} (k : W (c δ S) fun q S1 => Br q (WS (g δ S1) Q) (WS (h δ S1) Q)) : WS (ifS c g h δ S) Q := by
  obtain ⟨q, S1, e1, a, b⟩ := k
  cases q with
  | true =>
    obtain ⟨r, δ2, S2, e2, k⟩ := a rfl
    exact ⟨_, _, _, r_if e1 (i_y rfl e2), k⟩
  | false =>
    obtain ⟨r, δ2, S2, e2, k⟩ := b rfl
    exact ⟨_, _, _, r_if e1 (i_n rfl e2), k⟩
theorem w_aug {i : Nat} {f : FE} {o : O2} {a : D} (h : δ[i]? = some (some a)) (k : W (f δ S) fun b S1 => W (o a b S1) fun x S2 => Q .nx (δ.set i (some x)) S2) : WS (augS i f o δ S) Q := by
  obtain ⟨b, S1, e1, x, S2, e2, q⟩ := k
  exact ⟨_, _, _, r_aug h e1 e2, q⟩
theorem w_fldS {C : Addr} {f : Str} {fa fv : FE} (h : W (fv δ S) fun y S1 => W (fa δ S1) fun d S2 => ∃ n gs, d = .loc n ∧ S2[n]? = some (.ins C gs) ∧ gs.length < 1000 ∧ Q .nx δ (S2.set n (.ins C (putD f y gs)))) : WS (fldS C f fa fv δ S) Q := by
  obtain ⟨y, S1, e1, _, S2, e2, n, gs, rfl, e3, l, q⟩ := h
  exact ⟨_, _, _, r_fldS e1 e2 e3 l, q⟩
/-- a def's end -/
def Bd (φ : Nat → D → Sg → Option (D × Sg)) (n : Nat) (Q : D → Sg → Prop) : Fl → Dl → Sg → Prop := fun r _ S1 => match r with
  | .rt d => W (φ n d S1) Q
  | .nx => W (φ n .non S1) Q
  | _ => False
theorem bd_rt {φ : Nat → D → Sg → Option (D × Sg)} {n : Nat} {d : D} {Q : D → Sg → Prop} (h : W (φ n d S) Q) : Bd φ n Q (.rt d) δ S := h
theorem bd_nx {φ : Nat → D → Sg → Option (D × Sg)} {n : Nat} {Q : D → Sg → Prop} (h : W (φ n .non S) Q) : Bd φ n Q .nx δ S := h
theorem w_body {φ : Nat → D → Sg → Option (D × Sg)} {n : Nat} {body : FS} {ds : List D} {Q : D → Sg → Prop}
    (h : WS (body (ds.map some ++ List.replicate (n - ds.length) none) (S ++ [])) (Bd φ S.length Q)) : W (bodyF φ n body ds S) Q := by
  rw [List.append_nil] at h
  obtain ⟨r, δ1, S1, e, k⟩ := h
  cases r with
  | rt d =>
    obtain ⟨x, S2, e2, q⟩ := k
    exact ⟨x, S2, r_body e e2, q⟩
  | nx =>
    obtain ⟨x, S2, e2, q⟩ := k
    exact ⟨x, S2, r_bodyN e e2, q⟩
  | bk => exact k.elim
  | ct => exact k.elim
/-! loops -/
/-- what a turn of a loop leaves -/
def Tn (Q : Fl → Dl → Sg → Prop) (I : Dl → Sg → Prop) : Fl → Dl → Sg → Prop := fun r δ S => match r with
  | .nx => I δ S
  | .ct => I δ S
  | .bk => Q .nx δ S
  | .rt d => Q (.rt d) δ S
theorem tn_nx {I : Dl → Sg → Prop} (h : I δ S) : Tn Q I .nx δ S := h
theorem tn_ct {I : Dl → Sg → Prop} (h : I δ S) : Tn Q I .ct δ S := h
theorem tn_bk {I : Dl → Sg → Prop} (h : Q .nx δ S) : Tn Q I .bk δ S := h
theorem tn_rt {I : Dl → Sg → Prop} {d : D} (h : Q (.rt d) δ S) : Tn Q I (.rt d) δ S := h
theorem forGo_w {k : Ik} {ds items : List D} {g : FG} {body : FS} (I : Nat → Dl → Sg → Prop) (hk : ∀ i δ S, I i δ S → k ds S = some items)
    (hs : ∀ i d δ S, items[i]? = some d → I i δ S → WG (g d δ S) fun δ1 S1 => WS (body δ1 S1) (Tn Q (I (i + 1)))) (hq : ∀ δ S, I items.length δ S → Q .nx δ S) :
    ∀ (r : List D) (i : Nat) (δ : Dl) (S : Sg), items.drop i = r → i ≤ items.length → I i δ S → WS (forGo k ds items g body r δ S) Q
  | [], i, δ, S, hd, hi, p => by
    have : items.length ≤ i := by
      have h := congrArg List.length hd
      rw [List.length_drop] at h
      simp at h
      omega
    have e : i = items.length := by omega
    subst e
    exact ⟨_, _, _, forGo_nil (hk _ _ _ p), hq _ _ p⟩
  | d :: r, i, δ, S, hd, hi, p => by
    have hd' : items[i]? = some d := by
      have := congrArg (fun l => l[0]?) hd
      simpa using this
    have hr : items.drop (i + 1) = r := by
      have := congrArg List.tail hd
      simpa using this
    have hi' : i + 1 ≤ items.length := (List.getElem?_eq_some_iff.mp hd').1
    obtain ⟨δ1, S1, e1, fl, δ2, S2, e2, q⟩ := hs i d δ S hd' p
    have e3 : stepFor g body d δ S = some (fl, δ2, S2) := st_for e1 e2
    cases fl with
    | nx =>
      obtain ⟨r3, δ3, S3, e4, q4⟩ := forGo_w I hk hs hq r (i + 1) δ2 S2 hr hi' q
      exact ⟨_, _, _, (forGo_cons (hk i δ S p) e3).trans e4, q4⟩
    | ct =>
      obtain ⟨r3, δ3, S3, e4, q4⟩ := forGo_w I hk hs hq r (i + 1) δ2 S2 hr hi' q
      refine ⟨_, _, _, Eq.trans ?_ e4, q4⟩
      rw [forGo, if_pos (hk i δ S p), e1, Option.bind_some]
      dsimp only
      rw [e2]
      rfl
    | bk =>
      refine ⟨_, _, _, ?_, q⟩
      rw [forGo, if_pos (hk i δ S p), e1, Option.bind_some]
      dsimp only
      rw [e2]
      rfl
    | rt x =>
      refine ⟨_, _, _, ?_, q⟩
      rw [forGo, if_pos (hk i δ S p), e1, Option.bind_some]
      dsimp only
      rw [e2]
      rfl
end
end
end DL
end
noncomputable section
namespace DL
open PySem L2
section
variable {δ : Dl} {S S1 : Sg}
/-! ### loops over typed lists, forward -/
theorem w_forT {α : Type} {k : Ik} {f : FA} {g : FG} {body : FS} {Q : Fl → Dl → Sg → Prop} {ds : List D} (xs : List α) (e : α → D) (I : List α → Dl → Sg → Prop)
    (hf : W (f δ S) fun ds' S1 => ds' = ds ∧ I [] δ S1) (hk : ∀ r δ S, I r δ S → k ds S = some (xs.map e))
    (hs : ∀ pre x post δ S, xs = pre ++ x :: post → I pre δ S → WG (g (e x) δ S) fun δ1 S1 => WS (body δ1 S1) (Tn Q (I (pre ++ [x]))))
    (hq : ∀ δ S, I xs δ S → Q .nx δ S) : WS (forS k f g body δ S) Q := by
  obtain ⟨ds', S1, hf, eds, h0⟩ := hf
  rw [eds] at hf
  have main := forGo_w (Q := Q) (k := k) (items := xs.map e) (g := g) (body := body) (fun i δ S => I (xs.take i) δ S) (fun i δ S p => hk _ δ S p)
    (fun i d δ S hi p => by
      rw [List.getElem?_map] at hi
      cases hx : xs[i]? with
      | none => rw [hx] at hi; cases hi
      | some x =>
        rw [hx] at hi
        cases hi
        have hil := (List.getElem?_eq_some_iff.mp hx).1
        have e1 : xs = xs.take i ++ x :: xs.drop (i + 1) := by
          have := List.take_append_drop i xs
          rw [List.drop_eq_getElem_cons hil] at this
          rw [(List.getElem?_eq_some_iff.mp hx).2] at this
          exact this.symm
        have e2 : xs.take (i + 1) = xs.take i ++ [x] := by rw [List.take_succ, hx]; rfl
        have := hs (xs.take i) x (xs.drop (i + 1)) δ S e1 p
        rw [← e2] at this
        exact this)
    (fun δ S p => by
      rw [List.length_map, List.take_length] at p
      exact hq δ S p) (xs.map e) 0 δ S1 rfl (Nat.zero_le _) (by rw [List.take_zero]; exact h0)
  obtain ⟨r, δ', S', e1, q⟩ := main
  exact ⟨r, δ', S', r_for hf (hk [] δ S1 h0) e1, q⟩
/-- numbers from 0 -/
theorem w_forN {f : FA} {g : FG} {body : FS} {Q : Fl → Dl → Sg → Prop} (m : Nat) (I : Nat → Dl → Sg → Prop) (hm : m < 1000000)
    (hf : W (f δ S) fun ds' S1 => ds' = [.int (m : Int)] ∧ I 0 δ S1)
    (hs : ∀ i δ S, i < m → I i δ S → WG (g (.int (i : Int)) δ S) fun δ1 S1 => WS (body δ1 S1) (Tn Q (I (i + 1))))
    (hq : ∀ δ S, I m δ S → Q .nx δ S) : WS (forS r1K f g body δ S) Q := by
  refine w_forT (List.range m) (fun (i : Nat) => .int (i : Int)) (fun pre δ S => I pre.length δ S) hf (fun _ _ S _ => k_rng hm S) ?_ (fun δ S p => hq δ S (by rw [List.length_range] at p; exact p))
  intro pre x post δ S hx p
  have hi : pre.length < (List.range m).length := by rw [hx, List.length_append, List.length_cons]; omega
  have hxx : x = pre.length := by
    have h1 : (List.range m)[pre.length]? = some x := by rw [hx, List.getElem?_append_right (Nat.le_refl _), Nat.sub_self]; rfl
    rw [List.getElem?_range (by rwa [List.length_range] at hi)] at h1
    exact (Option.some.inj h1).symm
  subst hxx
  rw [List.length_append, List.length_singleton]
  exact hs _ δ S (by rwa [List.length_range] at hi) p
/-- a comprehension whose making may change the store -/
theorem w_lcI {α : Type} {k : Ik} {fa : FA} {g : FG} {c : FT} {f : FE} {vs : List Nat} {Q : D → Sg → Prop} {ds : List D} (xs : List α) (e : α → D) (I : List α → List D → Sg → Prop)
    (hf : W (fa δ S) fun ds' S1 => ds' = ds ∧ I [] [] S1) (hl : xs.length < 1000000) (hk : ∀ r o S, I r o S → k ds S = some (xs.map e))
    (hs : ∀ pre x post out S, xs = pre ++ x :: post → I pre out S → WG (g (e x) (wipeD δ vs) S) fun δ1 S1 => W (c δ1 S1) fun q S2 => Br q (W (f δ1 S2) fun d S3 => I (pre ++ [x]) (out ++ [d]) S3) (I (pre ++ [x]) out S2))
    (hq : ∀ out S, I xs out S → Q (.lst out) S) : W (lcD k fa g c f vs δ S) Q := by
  obtain ⟨ds', S1, hf, eds, h0⟩ := hf
  rw [eds] at hf
  have main : ∀ (r pre : List α) (acc : List D) (S : Sg), xs = pre ++ r → I pre acc S → ∃ out S', lcGo k ds (xs.map e) g c f (wipeD δ vs) (r.map e) acc S = some (out, S') ∧ I xs out S' := by
    intro r
    induction r with
    | nil =>
      intro pre acc S hx p
      rw [List.append_nil] at hx
      subst hx
      exact ⟨acc, S, lcGo_nil (hk _ _ _ p), p⟩
    | cons x r ih =>
      intro pre acc S hx p
      obtain ⟨δ1, Sa, e1, q, Sb, e2, a, b⟩ := hs pre x r acc S hx p
      cases q with
      | true =>
        obtain ⟨d, Sc, e3, p2⟩ := a rfl
        obtain ⟨out, S', e4, p3⟩ := ih (pre ++ [x]) (acc ++ [d]) Sc (by rw [hx, List.append_assoc]; rfl) p2
        exact ⟨out, S', by rw [List.map_cons, lcGo_cons (hk _ _ _ p) (st_y e1 e2 e3)]; exact e4, p3⟩
      | false =>
        obtain ⟨out, S', e4, p3⟩ := ih (pre ++ [x]) acc Sb (by rw [hx, List.append_assoc]; rfl) (b rfl)
        refine ⟨out, S', ?_, p3⟩
        have : stepLc g c f (wipeD δ vs) (e x) S = some (none, Sb) := by
          unfold stepLc
          rw [e1, Option.bind_some]
          dsimp only
          rw [e2]
          rfl
        rw [List.map_cons, lcGo_cons (hk _ _ _ p) this]
        simpa using e4
  obtain ⟨out, S', e1, p⟩ := main xs [] [] S1 rfl h0
  exact ⟨_, _, r_lc hf (hk _ _ _ h0) (by rw [List.length_map]; exact hl) e1, hq out S' p⟩
/-- one that leaves the store, all items -/
theorem w_lcA {α : Type} {k : Ik} {fa : FA} {g : FG} {f : FE} {vs : List Nat} {Q : D → Sg → Prop} {ds : List D} (xs : List α) (e : α → D) (h : α → D)
    (hf : W (fa δ S) fun ds' S1' => ds' = ds ∧ S1' = S1) (hk : k ds S1 = some (xs.map e)) (hl : xs.length < 1000000)
    (hs : ∀ x ∈ xs, WG (g (e x) (wipeD δ vs) S1) fun δ1 S2 => W (f δ1 S2) fun d S3 => d = h x ∧ S3 = S1) (hq : Q (.lst (xs.map h)) S1) : W (lcD k fa g yesT f vs δ S) Q := by
  obtain ⟨ds', S1', hf, eds, eS⟩ := hf
  rw [eds, eS] at hf
  have hs' : ∀ x ∈ xs, stepLc g yesT f (wipeD δ vs) (e x) S1 = some (some (h x), S1) := fun x hx => by
    obtain ⟨δ1, S2, e1, d, S3, e2, rfl, rfl⟩ := hs x hx
    exact st_y e1 r_yes e2
  have := lc_typ (g := g) (c := yesT) (f := f) (vs := vs) xs e (fun _ => true) h hf hk hl fun x hx => by rw [if_pos rfl]; exact hs' x hx
  rw [List.filter_eq_self.mpr fun _ _ => rfl] at this
  exact ⟨_, _, this, hq⟩
/-- one that leaves the store, some items -/
theorem w_lcF {α : Type} {k : Ik} {fa : FA} {g : FG} {c : FT} {f : FE} {vs : List Nat} {Q : D → Sg → Prop} {ds : List D} (xs : List α) (e : α → D) (p : α → Bool) (h : α → D)
    (hf : W (fa δ S) fun ds' S1' => ds' = ds ∧ S1' = S1) (hk : k ds S1 = some (xs.map e)) (hl : xs.length < 1000000)
    (hs : ∀ x ∈ xs, WG (g (e x) (wipeD δ vs) S1) fun δ1 S2 => W (c δ1 S2) fun q S3 => S3 = S1 ∧ q = p x ∧ (p x = true → W (f δ1 S3) fun d S4 => d = h x ∧ S4 = S1)) (hq : Q (.lst ((xs.filter p).map h)) S1) : W (lcD k fa g c f vs δ S) Q := by
  obtain ⟨ds', S1', hf, eds, eS⟩ := hf
  rw [eds, eS] at hf
  have hs' : ∀ x ∈ xs, stepLc g c f (wipeD δ vs) (e x) S1 = some (if p x = true then some (h x) else none, S1) := fun x hx => by
    obtain ⟨δ1, S2, e1, q, S3, e2, rfl, rfl, k⟩ := hs x hx
    refine st_q e1 e2 fun hp => ?_
    obtain ⟨d, S4, e3, rfl, rfl⟩ := k hp
    exact e3
  exact ⟨_, _, lc_typ (g := g) (c := c) (f := f) (vs := vs) xs e p h hf hk hl hs', hq⟩
/-- one that is to be changed -/
theorem w_lcN {k : Ik} {fa : FA} {g : FG} {c : FT} {f : FE} {vs : List Nat} {Q : D → Sg → Prop} (h : W (lcD k fa g c f vs δ S) fun d S1 => ∃ out, d = .lst out ∧ Q (.loc S1.length) (S1 ++ [.lst out])) : W (lcDN k fa g c f vs δ S) Q := by
  obtain ⟨_, S1, e, out, rfl, q⟩ := h
  exact ⟨_, _, r_lcN e, q⟩
/-! ### while -/
theorem w_while {c : FT} {b : FS} {Q : Fl → Dl → Sg → Prop} (I : Nat → Dl → Sg → Prop) (m : Nat) (hm : m < 10 ^ 60) (h0 : I m δ S)
    (hs : ∀ n δ S, I n δ S → W (c δ S) fun q S1 => Br q (WS (b δ S1) (Tn Q fun δ2 S2 => ∃ n', n' < n ∧ I n' δ2 S2)) (Q .nx δ S1)) : WS (whileS c b δ S) Q := by
  have main : ∀ (fu n : Nat) (δ : Dl) (S : Sg), n < fu → I n δ S → WS (whileGo c b fu δ S) Q := by
    intro fu
    induction fu with
    | zero => intro n δ S h _; omega
    | succ fu ih =>
      intro n δ S hn p
      obtain ⟨q, S1, e1, a, k⟩ := hs n δ S p
      cases q with
      | false =>
        refine ⟨_, _, _, ?_, k rfl⟩
        unfold whileGo
        rw [e1]
        rfl
      | true =>
        obtain ⟨fl, δ2, S2, e2, t⟩ := a rfl
        cases fl with
        | nx =>
          obtain ⟨n', hn', p'⟩ := t
          obtain ⟨r3, δ3, S3, e3, q3⟩ := ih n' δ2 S2 (by omega) p'
          refine ⟨r3, δ3, S3, Eq.trans ?_ e3, q3⟩
          rw [whileGo, e1, Option.bind_some]
          dsimp only
          rw [if_pos rfl, e2]
          rfl
        | ct =>
          obtain ⟨n', hn', p'⟩ := t
          obtain ⟨r3, δ3, S3, e3, q3⟩ := ih n' δ2 S2 (by omega) p'
          refine ⟨r3, δ3, S3, Eq.trans ?_ e3, q3⟩
          rw [whileGo, e1, Option.bind_some]
          dsimp only
          rw [if_pos rfl, e2]
          rfl
        | bk =>
          refine ⟨_, _, _, ?_, t⟩
          rw [whileGo, e1, Option.bind_some]
          dsimp only
          rw [if_pos rfl, e2]
          rfl
        | rt x =>
          refine ⟨_, _, _, ?_, t⟩
          rw [whileGo, e1, Option.bind_some]
          dsimp only
          rw [if_pos rfl, e2]
          rfl
  exact main FUEL m δ S hm h0
end
/-! ### a store whose own part is known: A ++ L, A as long as it was -/
section
variable {A : Sg} {L : List Ob} {N k : Nat}
theorem al_get (hl : A.length = N) : (A ++ L)[N + k]? = L[k]? := by
  rw [List.getElem?_append_right (by omega), show N + k - A.length = k by omega]
theorem al_set (hl : A.length = N) {o : Ob} : (A ++ L).set (N + k) o = A ++ L.set k o := by
  rw [List.set_append_right _ _ (by omega), show N + k - A.length = k by omega]
variable {Q : D → Sg → Prop} {δ : Dl}
theorem wl_new {f : FA} {S : Sg} (h : W (f δ S) fun ds S1 => ∃ (A : Sg) (L : List Ob) (N : Nat), S1 = A ++ L ∧ A.length = N ∧ ds.length < 1000000 ∧ Q (.loc (N + L.length)) (A ++ (L ++ [.lst ds]))) : W (newD f δ S) Q := by
  obtain ⟨ds, S1, e, A, L, N, rfl, hN, l, q⟩ := h
  refine ⟨_, _, r_new e l, ?_⟩
  rw [List.length_append, hN, List.append_assoc]
  exact q
theorem wl_lcN {kk : Ik} {fa : FA} {g : FG} {c : FT} {f : FE} {vs : List Nat} {S : Sg} (h : W (lcD kk fa g c f vs δ S) fun d S1 => ∃ (out : List D) (A : Sg) (L : List Ob) (N : Nat), d = .lst out ∧ S1 = A ++ L ∧ A.length = N ∧ Q (.loc (N + L.length)) (A ++ (L ++ [.lst out]))) : W (lcDN kk fa g c f vs δ S) Q := by
  obtain ⟨_, S1, e, out, A, L, N, rfl, rfl, hN, q⟩ := h
  refine ⟨_, _, r_lcN e, ?_⟩
  rw [List.length_append, hN, List.append_assoc]
  exact q
theorem wl_isLoc (hl : A.length = N) {xs : List D} (h : L[k]? = some (.lst xs)) : isLoc (A ++ L) (.loc (N + k)) = true := v_isLoc (by rw [al_get hl]; exact h)
theorem wl_app (hl : A.length = N) {xs : List D} {y : D} (h : L[k]? = some (.lst xs)) (l : xs.length < 1000000) (q : Q .non (A ++ L.set k (.lst (xs ++ [y])))) : W (appO (.loc (N + k)) [y] (A ++ L)) Q :=
  ⟨_, _, by rw [v_app (by rw [al_get hl]; exact h) l, al_set hl], q⟩
theorem wl_ix (hl : A.length = N) {xs : List D} {i : Int} {y : D} (h : L[k]? = some (.lst xs)) (h2 : atI xs i = some y) (q : Q y (A ++ L)) : W (ixO (.loc (N + k)) (.int i) (A ++ L)) Q :=
  ⟨_, _, v_ixc (by rw [al_get hl]; exact h) h2, q⟩
theorem wl_len (hl : A.length = N) {xs : List D} (h : L[k]? = some (.lst xs)) (q : Q (.int (xs.length : Int)) (A ++ L)) : W (lenO [.loc (N + k)] (A ++ L)) Q :=
  ⟨_, _, v_lenc (by rw [al_get hl]; exact h), q⟩
theorem wl_sl (hl : A.length = N) {xs : List D} {lo hi : Option Int} (h : L[k]? = some (.lst xs)) (q : Q (.lst (cutD xs lo hi)) (A ++ L)) : W (slO (.loc (N + k)) lo hi (A ++ L)) Q :=
  ⟨_, _, v_slc (by rw [al_get hl]; exact h), q⟩
theorem wl_addl (hl : A.length = N) {xs ys : List D} (h : L[k]? = some (.lst xs)) (l : xs.length + ys.length < 1000000) (q : Q (.lst (xs ++ ys)) (A ++ L)) : W (addO (.loc (N + k)) (.lst ys) (A ++ L)) Q :=
  ⟨_, _, v_addcl (by rw [al_get hl]; exact h) l, q⟩
theorem wl_set (hl : A.length = N) {xs : List D} {i : Int} {j : Nat} {z : D} {P : Sg → Prop} (h : L[k]? = some (.lst xs)) (hj : ixN xs.length i = some j) (q : P (A ++ L.set k (.lst (xs.set j z)))) : ∃ S3, setLO (.loc (N + k)) (.int i) z (A ++ L) = some S3 ∧ P S3 :=
  ⟨_, by rw [v_setc (by rw [al_get hl]; exact h) hj, al_set hl], q⟩
theorem wl_setD (hl : A.length = N) {gs : List (Key × D)} {y : D} {z : D} {kk : Key} {P : Sg → Prop} (h : L[k]? = some (.dct gs)) (l : gs.length < 1000000) (hj : keyOf y = some kk) (q : P (A ++ L.set k (.dct (putG gs kk z)))) : ∃ S3, setDO (.loc (N + k)) y z (A ++ L) = some S3 ∧ P S3 :=
  ⟨_, by rw [v_setDc (by rw [al_get hl]; exact h) l hj, al_set hl], q⟩
theorem wl_ds (hl : A.length = N) {gs : List (Key × D)} (h : L[k]? = some (.dct gs)) : dsOf (A ++ L) (.loc (N + k)) = some gs := by
  unfold dsOf
  dsimp only
  rw [al_get hl, h]
theorem wl_dg (hl : A.length = N) {gs : List (Key × D)} {e x : D} {kk : Key} (h : L[k]? = some (.dct gs)) (h2 : keyOf e = some kk) (h3 : valG gs kk = some x) (q : Q x (A ++ L)) : W (dgK (.loc (N + k)) e (A ++ L)) Q :=
  ⟨_, _, v_dgK (wl_ds hl h) h2 h3, q⟩
theorem wl_dicN {ks : List Str} {fs : List FE} {S : Sg} (h : W (argsL fs δ S) fun ds S1 => ∃ (A : Sg) (L : List Ob) (N : Nat), S1 = A ++ L ∧ A.length = N ∧ ds.length = ks.length ∧ Q (.loc (N + L.length)) (A ++ (L ++ [.dct ((ks.map Sum.inr).zip ds)]))) : W (dicN ks fs δ S) Q := by
  obtain ⟨ds, S1, e, A, L, N, rfl, hN, l, q⟩ := h
  refine ⟨_, _, r_dicN e l, ?_⟩
  rw [List.length_append, hN, List.append_assoc]
  exact q
/-- the end of a def: what is its own goes -/
theorem wl_fin (hl : A.length = N) {d x : D} (hL : L ≠ []) (hz : frz (A ++ L) N d = some x) (hc : A.all (oldO N) = true) (q : Q x A) : W (fin N d (A ++ L)) Q := by
  refine ⟨x, A, ?_, q⟩
  unfold fin
  have h0 : 0 < L.length := List.length_pos_iff.mpr hL
  rw [if_neg (by intro h; rw [List.length_append] at h; omega), hz]
  show (if ((A ++ L).take N).all (oldO N) = true then some (x, (A ++ L).take N) else none) = _
  rw [List.take_left' hl, if_pos hc]
theorem wl_fin0 (hl : A.length = N) {d : D} (q : Q d A) : W (fin N d (A ++ [])) Q := by
  rw [List.append_nil]
  exact ⟨d, A, if_pos hl, q⟩
end
end DL
end
noncomputable section
namespace DL
open PySem L2
/-! ### values, forward -/
section
variable {S : Sg} {Q : D → Sg → Prop}
theorem x_add {i j : Int} (q : Q (.int (i + j)) S) : W (addO (.int i) (.int j) S) Q := ⟨_, _, rfl, q⟩
theorem x_sub {i j : Int} (q : Q (.int (i - j)) S) : W (subO (.int i) (.int j) S) Q := ⟨_, _, rfl, q⟩
theorem x_mul {i j : Int} (h : MulB i j) (q : Q (.int (i * j)) S) : W (mulO (.int i) (.int j) S) Q := ⟨_, _, v_mul h, q⟩
theorem x_mod {i j : Int} (h : 0 < j) (q : Q (.int (i % j)) S) : W (modO (.int i) (.int j) S) Q := ⟨_, _, v_mod h, q⟩
theorem x_div {i j : Int} (h : DivB j) (q : Q (.int (i / j)) S) : W (fdivO (.int i) (.int j) S) Q := ⟨_, _, v_div h, q⟩
theorem x_pow {i j : Int} (h : PowB i j) (q : Q (.int (i ^ j.toNat)) S) : W (powO (.int i) (.int j) S) Q := ⟨_, _, v_pow h, q⟩
theorem x_cmp {p : Int → Int → Bool} {i j : Int} (q : Q (.bl (p i j)) S) : W (cmpO p (.int i) (.int j) S) Q := ⟨_, _, rfl, q⟩
theorem x_int0 {g : Int → Int → D} {i j : Int} (q : Q (g i j) S) : W (int0 g (.int i) (.int j) S) Q := ⟨_, _, rfl, q⟩
theorem x_eqI {i j : Int} (q : Q (.bl (decide (i = j))) S) : W (eqO (.int i) (.int j) S) Q := ⟨_, _, eqv_int .., q⟩
theorem x_neI {i j : Int} (q : Q (.bl (!decide (i = j))) S) : W (neO (.int i) (.int j) S) Q := ⟨_, _, nev_int .., q⟩
theorem x_eqS {i j : Str} (q : Q (.bl (decide (i = j))) S) : W (eqO (.str i) (.str j) S) Q := ⟨_, _, eqv_str .., q⟩
theorem x_eqB {i j : Bool} (q : Q (.bl (decide (i = j))) S) : W (eqO (.bl i) (.bl j) S) Q := ⟨_, _, eqv_bl .., q⟩
theorem x_neB {i j : Bool} (q : Q (.bl (!decide (i = j))) S) : W (neO (.bl i) (.bl j) S) Q := ⟨_, _, nev_bl .., q⟩
theorem x_ixl {ds : List D} {i : Int} {y : D} (h : atI ds i = some y) (q : Q y S) : W (ixO (.lst ds) (.int i) S) Q := ⟨_, _, v_ixl h, q⟩
theorem x_ixt {ds : List D} {i : Int} {y : D} (h : atI ds i = some y) (q : Q y S) : W (ixO (.tup ds) (.int i) S) Q := ⟨_, _, v_ixt h, q⟩
theorem x_ixr {ds : List D} {i : Int} {y : D} (h : atI ds i = some y) (q : Q y S) : W (ixO (.rol ds) (.int i) S) Q := ⟨_, _, v_ixr h, q⟩
theorem x_ixs {z : Str} {i : Int} {c : Nat} (l : z.length < 1000000) (h : atI z.cps.toList i = some c) (q : Q (.str ⟨#[c]⟩) S) : W (ixO (.str z) (.int i) S) Q := ⟨_, _, v_ixs l h, q⟩
theorem x_addll {xs ys : List D} (l : xs.length + ys.length < 1000000) (q : Q (.lst (xs ++ ys)) S) : W (addO (.lst xs) (.lst ys) S) Q := ⟨_, _, v_addll l, q⟩
theorem x_adds {x y : Str} (l : x.length + y.length < 1000000) (q : Q (.str (x ++ y)) S) : W (addO (.str x) (.str y) S) Q := ⟨_, _, v_adds l, q⟩
theorem x_rep {xs : List D} {k : Int} (h : R63 k) (l : xs.length * k.toNat < 1000000) (q : Q (.lst (List.replicate k.toNat xs).flatten) S) : W (mulO (.lst xs) (.int k) S) Q := ⟨_, _, v_rep h l, q⟩
theorem x_max2 {i j : Int} (q : Q (.int (if j > i then j else i)) S) : W (max2O [.int i, .int j] S) Q := ⟨_, _, max2v .., q⟩
theorem x_min2 {i j : Int} (q : Q (.int (if j < i then j else i)) S) : W (min2O [.int i, .int j] S) Q := ⟨_, _, min2v .., q⟩
theorem x_abs {i : Int} (q : Q (.int (if i < 0 then -i else i)) S) : W (absO [.int i] S) Q := ⟨_, _, absv .., q⟩
theorem x_int1b {b : Bool} (q : Q (.int (if b = true then 1 else 0)) S) : W (int1O [.bl b] S) Q := ⟨_, _, int1v_b .., q⟩
theorem x_int1i {i : Int} (q : Q (.int i) S) : W (int1O [.int i] S) Q := ⟨_, _, int1v_i .., q⟩
theorem x_lenl {ds : List D} (q : Q (.int (ds.length : Int)) S) : W (lenO [.lst ds] S) Q := ⟨_, _, lenv_lst .., q⟩
theorem x_lenr {ds : List D} (q : Q (.int (ds.length : Int)) S) : W (lenO [.rol ds] S) Q := ⟨_, _, lenv_rol .., q⟩
theorem x_lent {ds : List D} (q : Q (.int (ds.length : Int)) S) : W (lenO [.tup ds] S) Q := ⟨_, _, lenv_tup .., q⟩
theorem x_lens {z : Str} (l : z.length < 1000000) (q : Q (.int (z.length : Int)) S) : W (lenO [.str z] S) Q := ⟨_, _, v_lens l, q⟩
theorem x_tuplel {ds : List D} (q : Q (.tup ds) S) : W (tupleO [.lst ds] S) Q := ⟨_, _, tuplev_lst .., q⟩
theorem x_tuplet {ds : List D} (q : Q (.tup ds) S) : W (tupleO [.tup ds] S) Q := ⟨_, _, tuplev_tup .., q⟩
theorem x_sll {ds : List D} {lo hi : Option Int} (q : Q (.lst (cutD ds lo hi)) S) : W (slO (.lst ds) lo hi S) Q := ⟨_, _, slv_lst .., q⟩
theorem x_slr {ds : List D} {lo hi : Option Int} (q : Q (.lst (cutD ds lo hi)) S) : W (slO (.rol ds) lo hi S) Q := ⟨_, _, rfl, q⟩
theorem x_dg {ks : List Str} {ds : List D} {k : Str} {x : D} (h : (ks.zip ds).lookup k = some x) (q : Q x S) : W (dgO (.dic ks ds) (.str k) S) Q := ⟨_, _, v_dg h, q⟩
theorem x_sum {ns : List Int} {ds : List D} (h : intsOf ds = some ns) (q : Q (.int ns.sum) S) : W (sumO [.lst ds] S) Q := ⟨_, _, v_sum h, q⟩
theorem x_sumt {ns : List Int} {ds : List D} (h : intsOf ds = some ns) (q : Q (.int ns.sum) S) : W (sumO [.tup ds] S) Q := ⟨_, _, v_sumt h, q⟩
theorem x_sumi {ns : List Int} (q : Q (.int ns.sum) S) : W (sumO [.lst (ns.map .int)] S) Q := ⟨_, _, v_sum (intsOf_map _), q⟩
theorem x_sumti {ns : List Int} (q : Q (.int ns.sum) S) : W (sumO [.tup (ns.map .int)] S) Q := ⟨_, _, v_sumt (intsOf_map _), q⟩
theorem x_max {ns : List Int} {ds : List D} {m : Int} (h : intsOf ds = some ns) (h2 : maxI ns = some m) (q : Q (.int m) S) : W (maxO [.lst ds] S) Q := ⟨_, _, v_max h h2, q⟩
theorem x_isN {neg : Bool} {d : D} {b : Bool} (h : isNO neg d S = some (.bl b, S)) (q : Q (.bl b) S) : W (isNO neg d S) Q := ⟨_, _, h, q⟩
theorem x_isN_n (q : Q (.bl true) S) : W (isNO false .non S) Q := ⟨_, _, rfl, q⟩
theorem x_isN_nn (q : Q (.bl false) S) : W (isNO true .non S) Q := ⟨_, _, rfl, q⟩
theorem x_isN_i {i : Int} (q : Q (.bl false) S) : W (isNO false (.int i) S) Q := ⟨_, _, rfl, q⟩
theorem x_isN_ni {i : Int} (q : Q (.bl true) S) : W (isNO true (.int i) S) Q := ⟨_, _, rfl, q⟩
theorem x_isN_l {ds : List D} (q : Q (.bl false) S) : W (isNO false (.lst ds) S) Q := ⟨_, _, rfl, q⟩
theorem x_isN_nl {ds : List D} (q : Q (.bl true) S) : W (isNO true (.lst ds) S) Q := ⟨_, _, rfl, q⟩
theorem x_allb {bs : List Bool} (q : Q (.bl (bs.all id)) S) : W (allO [.lst (bs.map .bl)] S) Q := ⟨_, _, by rw [allv, blsOf_map]; rfl, q⟩
theorem x_anyb {bs : List Bool} (q : Q (.bl (bs.any id)) S) : W (anyO [.lst (bs.map .bl)] S) Q := ⟨_, _, by rw [anyv, blsOf_map]; rfl, q⟩
theorem par2x {d e : D} {P : D → D → Prop} (q : P d e) : ∃ x y, [d, e] = [x, y] ∧ P x y := ⟨_, _, rfl, q⟩
theorem par3x {d e f : D} {P : D → D → D → Prop} (q : P d e f) : ∃ x y z, [d, e, f] = [x, y, z] ∧ P x y z := ⟨_, _, _, rfl, q⟩
theorem someI {i : Int} {P : Int → Prop} (q : P i) : ∃ j, D.int i = .int j ∧ P j := ⟨_, rfl, q⟩
theorem lstX {ds : List D} {P : List D → Prop} (q : P ds) : ∃ out, D.lst ds = .lst out ∧ P out := ⟨_, rfl, q⟩
theorem newX {A : Sg} {L : List Ob} {N : Nat} {ds : List D} {P : Sg → List Ob → Nat → Prop} (hl : A.length = N) (l : ds.length < 1000000) (q : P A L N) : ∃ (A' : Sg) (L' : List Ob) (N' : Nat), A ++ L = A' ++ L' ∧ A'.length = N' ∧ ds.length < 1000000 ∧ P A' L' N' := ⟨A, L, N, rfl, hl, l, q⟩
end
end DL
end
noncomputable section
namespace DL
open PySem L2
/-! ### the greatest, the least of a list or a tuple -/
section
variable {prog : Program} {w : World} {A : Around} {E : Value → Shared → Prop} {s : Shared} {t : Addr} {xs : Array (Int × Tok)}
theorem tup_fp (ht : s.heap.IsTuple t (PySem.intItems xs)) : t ≠ s.heap.objs.size ∧ (∀ b ∈ [s.heap.objs.size, t], b < (s.heap.push { cls := .type "tuple_iterator", data := .fields #[.ref t, .int 0 0] }).objs.size) ∧
    (s.heap.push { cls := .type "tuple_iterator", data := .fields #[.ref t, .int 0 0] }).IsTupleIter s.heap.objs.size t 0 ∧ (s.heap.push { cls := .type "tuple_iterator", data := .fields #[.ref t, .int 0 0] }).IsTuple t (PySem.intItems xs) := by
  obtain ⟨o, ho, hc, n, hd⟩ := id ht
  refine ⟨Nat.ne_of_lt (Heap.lt_size ho), fun b hb => ?_, ⟨_, Heap.get?_push_size _ rfl, rfl, rfl⟩, ht.at fun o e => Heap.get?_push_of_some _ e⟩
  rcases List.mem_cons.mp hb with rfl | hb
  · exact Heap.lt_size (Heap.get?_push_size _ rfl)
  · obtain rfl := List.mem_singleton.mp hb
    exact Heap.lt_size (Heap.get?_push_of_some _ ho)
theorem tup_kept {h' : Heap} (hk : ∀ b o, b ∉ [s.heap.objs.size] → (s.heap.push { cls := .type "tuple_iterator", data := .fields #[.ref t, .int 0 0] }).get? b = some o → h'.get? b = some o) :
    ∀ b o, s.heap.get? b = some o → h'.get? b = some o := fun b o e => by
  refine hk b o (fun hm => ?_) (Heap.get?_push_of_some _ e)
  rcases List.mem_cons.mp hm with e1 | hm
  · exact absurd (e1 ▸ Heap.lt_size e) (Nat.lt_irrefl _)
  · cases hm
theorem max_intTup {Q : Value → Shared → Prop} (hh : A.handled = none) (ht : s.heap.IsTuple t (PySem.intItems xs)) (hne : 0 < xs.size)
    (h : ∀ v h' tk, (PySem.intItems xs)[PySem.argBest (fun i j => decide (PySem.numAt xs i > PySem.numAt xs j)) (xs.size - 1)]? = some v → (∀ b o, s.heap.get? b = some o → h'.get? b = some o) → Q v { s with heap := h', toks := tk }) :
    wpAny (model prog w) A (call (.builtin "max") [.ref t]) Q E s := by
  obtain ⟨h1, h2, h3, h4⟩ := tup_fp ht
  refine PySem.call_max_walk (PySem.wpAny_pyIter_tuple ht ?_)
  refine ⟨_, _, _, _, _, _, _, rfl, PySem.Walks.tuple (A := A.in1) hh _ t h1 (PySem.intItems xs), ⟨h3, h4⟩, h2, by simpa [PySem.intItems] using hne, PySem.CmpOf.ints_gt (PySem.numAt xs) (fun _ _ => PySem.intItems_at), fun v h' tk hP hk => ?_⟩
  exact h v h' tk (by simpa [PySem.intItems] using hP) (tup_kept hk)
theorem min_intTup {Q : Value → Shared → Prop} (hh : A.handled = none) (ht : s.heap.IsTuple t (PySem.intItems xs)) (hne : 0 < xs.size)
    (h : ∀ v h' tk, (PySem.intItems xs)[PySem.argBest (fun i j => decide (PySem.numAt xs i < PySem.numAt xs j)) (xs.size - 1)]? = some v → (∀ b o, s.heap.get? b = some o → h'.get? b = some o) → Q v { s with heap := h', toks := tk }) :
    wpAny (model prog w) A (call (.builtin "min") [.ref t]) Q E s := by
  obtain ⟨h1, h2, h3, h4⟩ := tup_fp ht
  refine PySem.call_min_walk (PySem.wpAny_pyIter_tuple ht ?_)
  refine ⟨_, _, _, _, _, _, _, rfl, PySem.Walks.tuple (A := A.in1) hh _ t h1 (PySem.intItems xs), ⟨h3, h4⟩, h2, by simpa [PySem.intItems] using hne, PySem.CmpOf.ints_lt (PySem.numAt xs) (fun _ _ => PySem.intItems_at), fun v h' tk hP hk => ?_⟩
  exact h v h' tk (by simpa [PySem.intItems] using hP) (tup_kept hk)
theorem max_rawT {its : List Value} {ns : List Int} {Q : Value → Shared → Prop} (hh : A.handled = none) (hl : s.heap.IsTuple t its.toArray) (hi : PyProof.Rows.IntsAre its ns) (hne : 0 < ns.length)
    (h : ∀ h' tk M t', (∀ b o, s.heap.get? b = some o → h'.get? b = some o) → M ∈ ns → (∀ a, a ∈ ns → a ≤ M) → Q (.int M t') { s with heap := h', toks := tk }) : wpAny (model prog w) A (call (.builtin "max") [.ref t]) Q E s := by
  obtain ⟨xs, e⟩ := hi.allInts.items
  have hn : PySem.numsOf (PySem.intItems xs).toList = ns := by rw [← e]; exact hi.numsOf
  rw [PySem.nums_intItems] at hn
  subst hn
  rw [e] at hl
  have hsz : 0 < xs.size := by simpa using hne
  refine max_intTup hh hl hsz fun v h' tk hv hk => ?_
  obtain ⟨t, rfl⟩ := PySem.intItems_at hv
  obtain ⟨h1, h2⟩ := argBest_gt (PySem.numAt xs) (xs.size - 1)
  refine h h' tk _ t hk ?_ fun a ha => ?_
  · rw [numAt_eq]; exact PySem.getD_mem (by rw [List.length_map, Array.length_toList]; omega)
  · obtain ⟨j, hj, rfl⟩ := mem_getD ha
    rw [List.length_map, Array.length_toList] at hj
    rw [← numAt_eq]; exact h2 j (by omega)
theorem min_rawT {its : List Value} {ns : List Int} {Q : Value → Shared → Prop} (hh : A.handled = none) (hl : s.heap.IsTuple t its.toArray) (hi : PyProof.Rows.IntsAre its ns) (hne : 0 < ns.length)
    (h : ∀ h' tk M t', (∀ b o, s.heap.get? b = some o → h'.get? b = some o) → M ∈ ns → (∀ a, a ∈ ns → M ≤ a) → Q (.int M t') { s with heap := h', toks := tk }) : wpAny (model prog w) A (call (.builtin "min") [.ref t]) Q E s := by
  obtain ⟨xs, e⟩ := hi.allInts.items
  have hn : PySem.numsOf (PySem.intItems xs).toList = ns := by rw [← e]; exact hi.numsOf
  rw [PySem.nums_intItems] at hn
  subst hn
  rw [e] at hl
  have hsz : 0 < xs.size := by simpa using hne
  refine min_intTup hh hl hsz fun v h' tk hv hk => ?_
  obtain ⟨t, rfl⟩ := PySem.intItems_at hv
  obtain ⟨h1, h2⟩ := argBest_lt (PySem.numAt xs) (xs.size - 1)
  refine h h' tk _ t hk ?_ fun a ha => ?_
  · rw [numAt_eq]; exact PySem.getD_mem (by rw [List.length_map, Array.length_toList]; omega)
  · obtain ⟨j, hj, rfl⟩ := mem_getD ha
    rw [List.length_map, Array.length_toList] at hj
    rw [← numAt_eq]; exact h2 j (by omega)
end
def rMaxA (K : PySem.W.Frag) : List V → Hp → VK → Prop := fun vs H Q => ∃ (a : Addr) (ns : List Int), vs = [V.ref a] ∧ (SqL K H a (ns.map V.int) ∨ SqT K H a (ns.map V.int)) ∧ 0 < ns.length ∧ ∀ m, m ∈ ns → (∀ y, y ∈ ns → y ≤ m) → Q (.int m) H
def rMinA (K : PySem.W.Frag) : List V → Hp → VK → Prop := fun vs H Q => ∃ (a : Addr) (ns : List Int), vs = [V.ref a] ∧ (SqL K H a (ns.map V.int) ∨ SqT K H a (ns.map V.int)) ∧ 0 < ns.length ∧ ∀ m, m ∈ ns → (∀ y, y ∈ ns → m ≤ y) → Q (.int m) H
section
variable {X : Cx}
theorem cr_maxA (hc : X.calm = true) : CallR X (.builtin "max") (rMaxA X.K) := by
  intro pins s σ H vs us Q I r h
  obtain ⟨a, ns, rfl, hs, hne, q⟩ := h
  rcases hs with hs | hs
  · exact cr_max hc pins s σ H _ us Q I r ⟨a, ns, rfl, hs, hne, q⟩
  · obtain ⟨its, rv, hl, _⟩ := I.tuple hs
    rw [Vals.ref1 r]
    exact max_rawT (I.ok.hd hc) hl rv.ints hne fun h' tk m t' hk h1 h2 => ⟨.int _, H, I.kept hk, ⟨_, rfl⟩, q m h1 h2⟩
theorem cr_minA (hc : X.calm = true) : CallR X (.builtin "min") (rMinA X.K) := by
  intro pins s σ H vs us Q I r h
  obtain ⟨a, ns, rfl, hs, hne, q⟩ := h
  rcases hs with hs | hs
  · exact cr_min hc pins s σ H _ us Q I r ⟨a, ns, rfl, hs, hne, q⟩
  · obtain ⟨its, rv, hl, _⟩ := I.tuple hs
    rw [Vals.ref1 r]
    exact min_rawT (I.ok.hd hc) hl rv.ints hne fun h' tk m t' hk h1 h2 => ⟨.int _, H, I.kept hk, ⟨_, rfl⟩, q m h1 h2⟩
end
def maxAO : OC := fun ds S => match ds with
  | [d] => (sqOf S d).bind fun xs => (intsOf xs).bind fun ns => (maxI ns).bind fun m => some (.int m, S)
  | _ => none
def minI : List Int → Option Int
  | [] => none
  | x :: r => some (r.foldl (fun a b => if b < a then b else a) x)
theorem foldmin_le (r : List Int) : ∀ x : Int, r.foldl (fun a b => if b < a then b else a) x ≤ x ∧ (∀ y ∈ r, r.foldl (fun a b => if b < a then b else a) x ≤ y) ∧ (r.foldl (fun a b => if b < a then b else a) x = x ∨ r.foldl (fun a b => if b < a then b else a) x ∈ r) := by
  induction r with
  | nil => intro x; exact ⟨Int.le_refl _, fun y h => (by cases h), .inl rfl⟩
  | cons b r ih =>
    intro x
    obtain ⟨h1, h2, h3⟩ := ih (if b < x then b else x)
    rw [List.foldl_cons]
    refine ⟨Int.le_trans h1 (by split <;> omega), fun y hy => ?_, ?_⟩
    · rcases List.mem_cons.mp hy with rfl | hy
      · exact Int.le_trans h1 (by split <;> omega)
      · exact h2 y hy
    · rcases h3 with h3 | h3
      · rw [h3]
        split
        · exact .inr List.mem_cons_self
        · exact .inl rfl
      · exact .inr (List.mem_cons_of_mem _ h3)
theorem minI_spec {ns : List Int} {m : Int} (h : minI ns = some m) : m ∈ ns ∧ ∀ y ∈ ns, m ≤ y := by
  cases ns with
  | nil => cases h
  | cons x r =>
    cases h
    obtain ⟨h1, h2, h3⟩ := foldmin_le r x
    refine ⟨?_, fun y hy => ?_⟩
    · rcases h3 with h3 | h3
      · rw [h3]; exact List.mem_cons_self
      · exact List.mem_cons_of_mem _ h3
    · rcases List.mem_cons.mp hy with rfl | hy
      · exact h1
      · exact h2 y hy
def minAO : OC := fun ds S => match ds with
  | [d] => (sqOf S d).bind fun xs => (intsOf xs).bind fun ns => (minI ns).bind fun m => some (.int m, S)
  | _ => none
section
variable {K : PySem.W.Frag}
theorem cbD_maxA : CbD K (rMaxA K) maxAO := by
  intro xs H Q ρ S ds z S' hS rs eq q
  unfold maxAO at eq
  split at eq
  · cases rs with | cons rx rn => ?_
    cases rn
    obtain ⟨ys, e1, eq⟩ := bnd eq
    obtain ⟨ns, e2, eq⟩ := bnd eq
    obtain ⟨m, e3, eq⟩ := bnd eq
    cases eq
    obtain ⟨a, vs, rfl, hq, r⟩ := sqOf_sq hS rx e1
    rw [intsOf_eq e2] at r
    rw [rvs_ints r] at hq
    obtain ⟨h1, h2⟩ := maxI_spec e3
    refine ⟨a, ns, rfl, hq, List.length_pos_of_mem h1, fun m' hm hle => ?_⟩
    have e : m' = m := Int.le_antisymm (h2 m' hm) (hle m h1)
    subst e
    exact q _ H ρ (Step.refl _ _) hS .int
  · cases eq
theorem cbD_minA : CbD K (rMinA K) minAO := by
  intro xs H Q ρ S ds z S' hS rs eq q
  unfold minAO at eq
  split at eq
  · cases rs with | cons rx rn => ?_
    cases rn
    obtain ⟨ys, e1, eq⟩ := bnd eq
    obtain ⟨ns, e2, eq⟩ := bnd eq
    obtain ⟨m, e3, eq⟩ := bnd eq
    cases eq
    obtain ⟨a, vs, rfl, hq, r⟩ := sqOf_sq hS rx e1
    rw [intsOf_eq e2] at r
    rw [rvs_ints r] at hq
    obtain ⟨h1, h2⟩ := minI_spec e3
    refine ⟨a, ns, rfl, hq, List.length_pos_of_mem h1, fun m' hm hle => ?_⟩
    have e : m' = m := Int.le_antisymm (hle m h1) (h2 m' hm)
    subst e
    exact q _ H ρ (Step.refl _ _) hS .int
  · cases eq
end
section
variable {S : Sg} {Q : D → Sg → Prop}
theorem x_maxA {ns : List Int} {d : D} {m : Int} (h : sqOf S d = some (ns.map .int)) (h2 : maxI ns = some m) (q : Q (.int m) S) : W (maxAO [d] S) Q := by
  refine ⟨_, _, ?_, q⟩
  unfold maxAO
  dsimp only
  rw [h, Option.bind_some, intsOf_map, Option.bind_some, h2]
  rfl
theorem x_minA {ns : List Int} {d : D} {m : Int} (h : sqOf S d = some (ns.map .int)) (h2 : minI ns = some m) (q : Q (.int m) S) : W (minAO [d] S) Q := by
  refine ⟨_, _, ?_, q⟩
  unfold minAO
  dsimp only
  rw [h, Option.bind_some, intsOf_map, Option.bind_some, h2]
  rfl
theorem maxI_some {ns : List Int} (h : ns ≠ []) : ∃ m, maxI ns = some m ∧ m ∈ ns ∧ ∀ y ∈ ns, y ≤ m := by
  cases ns with
  | nil => exact (h rfl).elim
  | cons x r => exact ⟨_, rfl, maxI_spec rfl⟩
theorem minI_some {ns : List Int} (h : ns ≠ []) : ∃ m, minI ns = some m ∧ m ∈ ns ∧ ∀ y ∈ ns, m ≤ y := by
  cases ns with
  | nil => exact (h rfl).elim
  | cons x r => exact ⟨_, rfl, minI_spec rfl⟩
theorem x_maxL {ns : List Int} (h : ns ≠ []) (q : ∀ m, maxI ns = some m → m ∈ ns → (∀ y ∈ ns, y ≤ m) → Q (.int m) S) : W (maxAO [.lst (ns.map .int)] S) Q := by
  obtain ⟨m, e, h1, h2⟩ := maxI_some h
  exact x_maxA (sqv_lst ..) e (q m e h1 h2)
theorem x_maxT {ns : List Int} (h : ns ≠ []) (q : ∀ m, maxI ns = some m → m ∈ ns → (∀ y ∈ ns, y ≤ m) → Q (.int m) S) : W (maxAO [.tup (ns.map .int)] S) Q := by
  obtain ⟨m, e, h1, h2⟩ := maxI_some h
  exact x_maxA (sqv_tup ..) e (q m e h1 h2)
theorem x_minL {ns : List Int} (h : ns ≠ []) (q : ∀ m, minI ns = some m → m ∈ ns → (∀ y ∈ ns, m ≤ y) → Q (.int m) S) : W (minAO [.lst (ns.map .int)] S) Q := by
  obtain ⟨m, e, h1, h2⟩ := minI_some h
  exact x_minA (sqv_lst ..) e (q m e h1 h2)
end
end DL
end
noncomputable section
namespace DL
open PySem L2
/-! ### enumerate of a tuple -/
section
open AutoSeq1 (wpAny_loadPart')
theorem meets_enumerate_newT (l : Addr) (items : Array Value) (n : Nat) (dct : Option Addr) (sl : Array (Option Value)) :
    Meets (Builtin.«enumerate.__new__» ⟨[.type "enumerate", .ref l], []⟩) (fun _ R s => s.heap.get? l = some { cls := .type "tuple", dict := dct, data := .seq items n, slots := sl } ∧
      R (.ok (.ret (.ref (s.heap.push { cls := .type "tuple_iterator", data := .fields #[.ref l, .int 0 0] }).objs.size)))
        { s with heap := (s.heap.push { cls := .type "tuple_iterator", data := .fields #[.ref l, .int 0 0] }).push { cls := .type "enumerate", data := .fields #[.none, .bool false, .ref s.heap.objs.size, rawInt 0, .none, .none] } }) :=
  .of_wp fun prog w A R s h => by
    obtain ⟨hp, g, d, tk, os⟩ := s; obtain ⟨hl, h⟩ := h
    have hsub := sub_enumerate
    have hL : Heap.IsTuple (Shared.heap ⟨hp, g, d, tk, os⟩) l items := ⟨_, hl, rfl, n, rfl⟩
    wp_walk using wpAny_loadPart' hl
    refine wpAny_stack_any fun st => wpAny_pure ?_
    split
    · rename_i c _ _ _ _ _
      cases (c == Value.type "enumerate")
      · wp_walk using wpAny_loadPart' hl, wpAny_pyIter_tuple hL
        exact ⟨_, rfl, h⟩
      · wp_walk using wpAny_loadPart' hl, wpAny_pyIter_tuple hL
        exact ⟨_, rfl, h⟩
    · wp_walk using wpAny_loadPart' hl, wpAny_pyIter_tuple hL
      exact ⟨_, rfl, h⟩
theorem call_enumerate_tuple {prog : Program} {w : World} {A : Around} {E : Value → Shared → Prop} {s : Shared} {l : Addr} {items : Array Value} {Q : Value → Shared → Prop} (hL : s.heap.IsTuple l items)
    (h : ∀ h', IsEnum h' (s.heap.objs.size + 1) s.heap.objs.size 0 .none → h'.IsTupleIter s.heap.objs.size l 0 → h'.objs.size = s.heap.objs.size + 2 →
      (∀ b o, s.heap.get? b = some o → h'.get? b = some o) → Q (.ref (s.heap.objs.size + 1)) { s with heap := h' }) :
    wpAny (model prog w) A (call (.type "enumerate") [.ref l]) Q E s := by
  obtain ⟨⟨c, dct, dt, sl⟩, hl, hc, n, hd⟩ := hL
  replace hc : c = .type "tuple" := hc
  replace hd : dt = .seq items n := hd
  subst hc hd
  refine callType_new F.called_enumerate (by decide) (F.typeCall_enumerate_1 _) (F.newCall_enumerate_1 _) (fun obj => F.args_object_init_2 obj _) F.entry_enumerate_new
    (meets_enumerate_newT l items n dct sl) ⟨hl, ?_⟩
  have hz : (s.heap.push { cls := .type "tuple_iterator", data := .fields #[.ref l, .int 0 0] }).objs.size = s.heap.objs.size + 1 := Heap.size_push ..
  show _ ∧ _
  rw [hz]
  have he : IsEnum ((s.heap.push { cls := .type "tuple_iterator", data := .fields #[.ref l, .int 0 0] }).push
      { cls := .type "enumerate", data := .fields #[.none, .bool false, .ref s.heap.objs.size, rawInt 0, .none, .none] }) (s.heap.objs.size + 1) s.heap.objs.size 0 .none := by
    have := Heap.get?_push_size (s.heap.push { cls := .type "tuple_iterator", data := .fields #[.ref l, .int 0 0] })
      (o := { cls := .type "enumerate", data := .fields #[.none, .bool false, .ref s.heap.objs.size, rawInt 0, .none, .none] }) rfl
    rw [hz] at this; exact this
  refine ⟨⟨_, he, rfl⟩, h _ he ⟨_, Heap.get?_push_of_some _ (Heap.get?_push_size _ rfl), rfl, rfl⟩ (by rw [Heap.size_push, hz]) fun b o x => Heap.get?_push_of_some _ (Heap.get?_push_of_some _ x)⟩
end
/-- the tuple at a as it stands at each turn, each item in a new pair -/
def IteT (K : PySem.W.Frag) (a : Addr) : It :=
  ⟨fun i H => ∃ (xs : List V) (x : V), SqT K H a xs ∧ xs[i]? = some x, fun i H v H' => ∃ T x, v = .ref T ∧ H T = none ∧ H' = upd H T (.tup [.int (i : Nat), x]) ∧ ∀ xs, SqT K H a xs → xs[i]? = some x, fun i H => ∃ xs : List V, SqT K H a xs ∧ xs.length ≤ i⟩
theorem turn_enumT {P : Program} {w : World} {K : PySem.W.Frag} {elts : List Expr} {kk : Nat} {tpos : Pos} (a e it : Addr) :
    Turn P w K (.Tuple elts kk tpos) (IteT K a) [e, it] e (fun i h => (∃ old, IsEnum h e it ((i : Nat) : Int) old) ∧ h.IsTupleIter it a i ∧ e ≠ it ∧ a ≠ it ∧ a ≠ e) where
  mem := by simp
  obj := fun i h st b hb => by
    obtain ⟨⟨old, he⟩, ⟨o, ho, hc, hd⟩, _⟩ := st
    have e' : b = e ∨ b = it := by simpa using hb
    rcases e' with z | z
    · rw [z]; exact ⟨_, he, fun v q => nomatch q⟩
    · rw [z]; exact ⟨o, ho, fun v q => by rw [hd] at q; cases q⟩
  keep := fun i h h' st k => let ⟨⟨old, he⟩, hi, hne⟩ := st; ⟨⟨old, k e (by simp) _ he⟩, hi.at fun o q => k it (by simp) o q, hne⟩
  item := by
    intro X hP hw hK hc i pins s σ H E I hf st hg
    subst hP hw hK
    obtain ⟨⟨old, he⟩, hit, hne, hai, hae⟩ := st
    obtain ⟨xs, x, hq, hx⟩ := hg
    obtain ⟨its, rv, p, hz⟩ := I.tuple hq
    obtain ⟨u, hu, ru⟩ := rv.get hx
    have hel : e < s.heap.objs.size := Heap.lt_size he
    have hil : it < s.heap.objs.size := by obtain ⟨_, q, _⟩ := hit; exact Heap.lt_size q
    have hli : i < its.toArray.size := by
      have := (List.getElem?_eq_some_iff.mp hu).1
      simpa using this
    refine wpAny_pyNext_enum_itemD (Draws.tuple (A := X.A.in1) (I.ok.hd hc) it a hai its.toArray) he ⟨hit, p⟩ hli hne (by simp [hne, Ne.symm hae]) fun y h' tk hy ho hst' hT hsz hk => ?_
    obtain ⟨hit', p'⟩ := hst'
    have ey : y = u := by
      have hy' : its[i]? = some y := by simpa using hy
      rw [hu] at hy'
      exact (Option.some.inj hy').symm
    subst ey
    refine ⟨_, rfl, wpAny_letOwnedTupleGo_enum (s := { s with heap := h', toks := tk + 1 }) ho fun h'' he' sb => ?_⟩
    have hT2 : h''.get? s.heap.objs.size = some { cls := .type "tuple", data := .seq #[.int i tk, y] } := (sb.2 _ (Nat.ne_of_gt hel)).trans hT
    have new : ObjOk X.prog X.w (upd H s.heap.objs.size (.tup [.int (i : Nat), x])) h'' s.heap.objs.size (.tup [.int (i : Nat), x]) :=
      ⟨by show 2 ≤ sizeLine; decide, [.int i tk, y], .cons ⟨_, rfl⟩ (.cons ru .nil), ⟨_, hT2, rfl, _, rfl⟩⟩
    have I1 : Inv X pins σ (upd H s.heap.objs.size (.tup [.int (i : Nat), x])) { s with heap := h'', toks := tk + 1 } :=
      I.turnedNew (ch := [e, it]) (fun b ob hb q => (sb.2 b (fun z => hb (by simp [z]))).trans (hk b ob (fun z => hb (by simp [z])) (fun z => hb (by simp [z])) q)) hf (Nat.le_refl _) new
    refine ⟨.ref s.heap.objs.size, _, I1, rfl, ⟨_, x, rfl, I.hok.fresh (Nat.le_refl _), rfl, fun ys hy => by rw [I.tuple_inj hy hq]; exact hx⟩, ⟨⟨y, ?_⟩, hit'.at fun o q => (sb.2 it (Ne.symm hne)).trans q, hne, hai, hae⟩, fun b hb => ?_⟩
    · have e1 : ((i + 1 : Nat) : Int) = (i : Int) + 1 := by omega
      rw [e1]; exact he'
    · have hb' : b < s.heap.objs.size := by
        have e' : b = e ∨ b = it := by simpa using hb
        rcases e' with z | z
        · rw [z]; exact hel
        · rw [z]; exact hil
      rw [upd_ne (Nat.ne_of_lt hb')]
      exact (hf b hb).1
  done := by
    intro X hP hw hK hc i pins s σ H E I hf st hg
    subst hP hw hK
    obtain ⟨⟨old, he⟩, hit, hne, hai, hae⟩ := st
    obtain ⟨xs, hq, hx⟩ := hg
    obtain ⟨its, rv, p, hz⟩ := I.tuple hq
    obtain ⟨f0, f1, f2, f3, f4, f5⟩ := hf it (by simp)
    have hl := rv.length
    have T : s.TypeIs (.ref e) "enumerate" := ⟨_, he, rfl⟩
    unfold pyNext
    refine wpAny_bind (wpAny_attempt (wpAny_callSpecial?_slot (name := Str.ofString "__next__") T F.slot_enumerate_next
      (wpAny_call_entry F.slot_enumerate_next T F.entry_enumerate_next ?_ (F.args_enumerate_next_1 _))))
    show wpAny _ _ (field (.ref e) 2 >>= _) _ _ _
    refine wpAny_bind (wpAny_field he rfl (x := .ref it) rfl ?_)
    refine wpAny_bind (wpAny_nextOf_tuple_end (I.ok.hd hc) hit p (by simp; omega) fun h' x he' hx' => ?_)
    obtain ⟨o, ho, hc'⟩ := hx'
    refine wpAny_bind (wpAny_isInstance (T := "StopIteration") (b := true) ⟨o, ho, hc'⟩ isSubtype_stop ?_)
    exact wpAny_pure ⟨rfl, I.turned (t' := s.toks) (fun b o hb q => he' b o hb q) f0 f1 f3 f4 f5⟩
  self := fun A i s Q E st h => let ⟨⟨_, he⟩, _⟩ := st; wpAny_pyIter_enum he h
/-- enumerate of a list or a tuple -/
def iEnumA (K : PySem.W.Frag) (ta : TA) : TI := fun σ H R => ta σ H fun vs H1 => ∃ a xs, vs = [.ref a] ∧ ((SqL K H1 a xs ∧ R (Ite K a) H1) ∨ (SqT K H1 a xs ∧ R (IteT K a) H1))
theorem pi_enumA {X : Cx} {e : Expr} {ta : TA} {p pos tpos : Pos} {elts : List Expr} {kk : Nat} (hg : Gl X "enumerate") (hm : X.mg "enumerate" = none) (ha : PA X [e] ta) (hs : starEach [e] X.env = [(false, eval e X.env)] := by rfl) :
    PI X (.Tuple elts kk tpos) (.Call (.Name "enumerate" p) [e] [] pos) (iEnumA X.K ta) := by
  refine ⟨fun pins s σ H R I h => ?_⟩
  refine PyProof.Rows.Call_ (ld_blt I hg hm PyProof.Rows.boot_enumerate (PyProof.Rows.callWith_type1 (thn (ha.run pos pins s σ H _ I h) fun us s1 ⟨vs, H1, I1, r1, q1⟩ => ?_) hs rfl))
  obtain ⟨a, xs, ex, q1⟩ := q1
  subst ex
  cases r1 with
  | cons r rr =>
    cases rr
    cases r
    have fresh2 : ∀ b ∈ [s1.heap.objs.size + 1, s1.heap.objs.size], FpOk X pins H1 b := fun b hb => by
      have e' : b = s1.heap.objs.size + 1 ∨ b = s1.heap.objs.size := by simpa using hb
      have hle : s1.heap.objs.size ≤ b := by
        rcases e' with z | z
        · rw [z]; exact Nat.le_add_right _ _
        · rw [z]; exact Nat.le_refl _
      exact I1.fpOk hle (I1.hok.fresh hle)
    rcases q1 with ⟨hq, q⟩ | ⟨hq, q⟩
    · obtain ⟨its, rv, p', hz⟩ := I1.list hq
      refine call_enumerate_list p'.isList fun h' he hit hsz hk => wpAny_pyIter_enum he ?_
      have I2 : Inv X pins σ H1 { s1 with heap := h' } := I1.kept (t' := s1.toks) hk
      exact ⟨s1.heap.objs.size + 1, [s1.heap.objs.size + 1, s1.heap.objs.size], _, _, H1, rfl, I2, turn_enum a (s1.heap.objs.size + 1) s1.heap.objs.size, ⟨⟨.none, he⟩, hit, Nat.succ_ne_self _⟩, fresh2, q⟩
    · obtain ⟨its, rv, p', hz⟩ := I1.tuple hq
      obtain ⟨o, ho, _⟩ := id p'
      have hal : a < s1.heap.objs.size := Heap.lt_size ho
      refine call_enumerate_tuple (show s1.heap.IsTuple a its.toArray from p') fun h' he hit hsz hk => wpAny_pyIter_enum he ?_
      have I2 : Inv X pins σ H1 { s1 with heap := h' } := I1.kept (t' := s1.toks) hk
      exact ⟨s1.heap.objs.size + 1, [s1.heap.objs.size + 1, s1.heap.objs.size], _, _, H1, rfl, I2, turn_enumT a (s1.heap.objs.size + 1) s1.heap.objs.size, ⟨⟨.none, he⟩, hit, Nat.succ_ne_self _, Nat.ne_of_lt hal, Nat.ne_of_lt (Nat.lt_succ_of_lt hal)⟩, fresh2, q⟩
section
variable {K : PySem.W.Frag}
def enAK : Ik := fun ds S => match ds with
  | [d] => (sqOf S d).bind fun xs => some (enumL xs)
  | _ => none
theorem li_enA {f : FA} : LI K (iEnumA K (tDA K f)) enAK f := by
  intro σ H R ρ δ S ds items S' hS hσ e ek q
  refine ⟨ρ, δ, S, ds, S', hS, hσ, e, fun vs H1 ρ1 s1 hS1 rvs => ?_⟩
  unfold enAK at ek
  split at ek
  · rename_i d
    obtain ⟨xs, e2, ek⟩ := bnd ek
    cases ek
    cases rvs with | cons rv rn => cases rn with | nil =>
      rcases sqOf_cases e2 with rfl | hl
      · obtain ⟨a, vs, rfl, hq, rs⟩ := tpOf_sq rv rfl
        refine ⟨a, vs, rfl, .inr ⟨hq, q _ H1 ρ1 [.ref a] s1 hS1 (.cons rv .nil) ⟨?_, ?_, ?_⟩⟩⟩
        · intro i H2 ρ2 S2 rvs hS2 k2 hi
          cases rvs with | cons rv2 rn2 => ?_
          obtain ⟨a', vs', e', hq', rs'⟩ := tpOf_sq rv2 rfl
          cases e'
          rw [enumL_len] at hi
          obtain ⟨v, hv, _⟩ := rs'.get (List.getElem?_eq_getElem hi)
          exact ⟨vs', v, hq', hv⟩
        · intro i H2 ρ2 S2 x H3 rvs hS2 k2 y hi
          cases rvs with | cons rv2 rn2 => ?_
          obtain ⟨T, z, rfl, hT, rfl, y⟩ := y
          obtain ⟨a', vs', e', hq', rs'⟩ := tpOf_sq rv2 rfl
          cases e'
          obtain ⟨d2, hd, rd⟩ := rs'.getV (y vs' hq')
          exact ⟨Step.new hS2 hT, hS2.new hT, _, enumL_get hd, rv_tup hS2 hT (.cons .int (.cons rd .nil))⟩
        · intro i H2 ρ2 S2 rvs hS2 k2 hi
          cases rvs with | cons rv2 rn2 => ?_
          obtain ⟨a', vs', e', hq', rs'⟩ := tpOf_sq rv2 rfl
          cases e'
          rw [enumL_len] at hi
          exact ⟨vs', hq', by rw [rs'.len]; exact hi⟩
      · obtain ⟨a, vs, rfl, hq, rs⟩ := lsOf_sq hS1 rv (hl _ _ e2)
        have again : ∀ S2, enAK [d] S2 = some (enumL xs) → lsOf S2 d = some xs := fun S2 h => by
          obtain ⟨ys, e3, e4⟩ := bnd (o := sqOf S2 d) h
          rw [hl _ _ e3, enumL_inj (Option.some.inj e4)]
        refine ⟨a, vs, rfl, .inl ⟨hq, q _ H1 ρ1 [.ref a] s1 hS1 (.cons rv .nil) ⟨?_, ?_, ?_⟩⟩⟩
        · intro i H2 ρ2 S2 rvs hS2 k2 hi
          cases rvs with | cons rv2 rn2 => ?_
          obtain ⟨a', vs', e', hq', rs'⟩ := lsOf_sq hS2 rv2 (again _ k2)
          cases e'
          rw [enumL_len] at hi
          obtain ⟨v, hv, _⟩ := rs'.get (List.getElem?_eq_getElem hi)
          exact ⟨vs', v, hq', hv⟩
        · intro i H2 ρ2 S2 x H3 rvs hS2 k2 y hi
          cases rvs with | cons rv2 rn2 => ?_
          obtain ⟨T, z, rfl, hT, rfl, y⟩ := y
          obtain ⟨a', vs', e', hq', rs'⟩ := lsOf_sq hS2 rv2 (again _ k2)
          cases e'
          obtain ⟨d2, hd, rd⟩ := rs'.getV (y vs' hq')
          exact ⟨Step.new hS2 hT, hS2.new hT, _, enumL_get hd, rv_tup hS2 hT (.cons .int (.cons rd .nil))⟩
        · intro i H2 ρ2 S2 rvs hS2 k2 hi
          cases rvs with | cons rv2 rn2 => ?_
          obtain ⟨a', vs', e', hq', rs'⟩ := lsOf_sq hS2 rv2 (again _ k2)
          cases e'
          rw [enumL_len] at hi
          exact ⟨vs', hq', by rw [rs'.len]; exact hi⟩
  · cases ek
theorem enumL_zip (xs : List D) : enumL xs = xs.zipIdx.map fun p => .tup [.int (p.2 : Int), p.1] := by
  refine List.ext_getElem? fun i => ?_
  cases q : xs[i]? with
  | none =>
    have hl : xs.length ≤ i := List.getElem?_eq_none_iff.mp q
    rw [List.getElem?_eq_none (by rw [enumL_len]; exact hl), List.getElem?_eq_none (by rw [List.length_map, List.length_zipIdx]; exact hl)]
  | some d =>
    rw [enumL_get q, List.getElem?_map, List.getElem?_zipIdx, q]
    simp
theorem k_enA {α : Type} {S : Sg} {d : D} (xs : List α) (e : α → D) (h : sqOf S d = some (xs.map e)) : enAK [d] S = some (xs.zipIdx.map fun p => .tup [.int (p.2 : Int), e p.1]) := by
  show (sqOf S d).bind _ = _
  rw [h, Option.bind_some, enumL_zip, List.zipIdx_map, List.map_map]
  rfl
/-! ### list(range(n)) -/
def rngO (f : FE) : FE := fun δ S => (f δ S).bind fun p => (isI p.1).bind fun i => if R62 i ∧ i.toNat ≤ 1000000 then some (.lst (rngL 0 i.toNat), p.2) else none
def rngNO (f : FE) : FE := fun δ S => (f δ S).bind fun p => (isI p.1).bind fun i => if R62 i ∧ i.toNat ≤ 1000000 then some (.loc p.2.length, p.2 ++ [.lst (rngL 0 i.toNat)]) else none
theorem rg_rvs {H : Hp} {ρ : Ro} (n : Int) : RVs K H ρ (rgV 0 n) (rngL 0 n.toNat) := by
  unfold rgV rngL
  rw [Int.sub_zero]
  generalize n.toNat = m
  induction List.range m with
  | nil => exact .nil
  | cons x r ih => exact .cons .int ih
theorem le_rng {f : FE} : ∀ σ H Q, tD K (rngO f) σ H Q → tLstRg (tRg1 (tD K f)) σ H Q := by
  rintro σ H Q ⟨ρ, δ, S, d, S', hS, hσ, e, q⟩
  obtain ⟨⟨x, S1⟩, e1, e⟩ := bnd e
  obtain ⟨i, e2, e3⟩ := bnd e
  clear e
  have e2' := isI_some e2
  dsimp only at e2' e3
  subst e2'
  split at e3
  · rename_i hi
    cases e3
    have h62 := (r62_iff i).mp hi.1
    refine ⟨ρ, δ, S, .int i, _, hS, hσ, e1, fun v H1 ρ1 s1 hS1 rv => ?_⟩
    cases rv
    refine ⟨i, rfl, ⟨by omega, by omega, by omega, by omega, by have := hi.2; omega⟩, fun p hp => ?_⟩
    exact q _ _ ρ1 (s1.trans (Step.new hS1 hp)) (hS1.new hp) (rv_lst hS1 hp (rg_rvs i))
  · cases e3
theorem le_rngN {f : FE} : ∀ σ H Q, tD K (rngNO f) σ H Q → tLstRg (tRg1 (tD K f)) σ H Q := by
  rintro σ H Q ⟨ρ, δ, S, d, S', hS, hσ, e, q⟩
  obtain ⟨⟨x, S1⟩, e1, e⟩ := bnd e
  obtain ⟨i, e2, e3⟩ := bnd e
  clear e
  have e2' := isI_some e2
  dsimp only at e2' e3
  subst e2'
  split at e3
  · rename_i hi
    cases e3
    have h62 := (r62_iff i).mp hi.1
    refine ⟨ρ, δ, S, .int i, _, hS, hσ, e1, fun v H1 ρ1 s1 hS1 rv => ?_⟩
    cases rv
    refine ⟨i, rfl, ⟨by omega, by omega, by omega, by omega, by have := hi.2; omega⟩, fun p hp => ?_⟩
    obtain ⟨a, b⟩ := rv_new hS1 hp (rg_rvs i)
    exact q _ _ _ (s1.trans (Step.push hS1 hp)) a b
  · cases e3
section
variable {X : Cx} {e : Expr} {f : FE} {p p2 pos pos2 : Pos}
theorem jrng (hc : X.calm = true) (hg : Gl X "list") (hm : X.mg "list" = none) (hg2 : Gl X "range") (hm2 : X.mg "range" = none) (he : JE X e f)
    (na2 : starEach [e] X.env = (false, eval e X.env) :: starEach [] X.env := by rfl) (na : starEach [Expr.Call (.Name "range" p) [e] [] pos] X.env = (false, eval (Expr.Call (.Name "range" p) [e] [] pos) X.env) :: starEach [] X.env := by rfl) :
    JE X (.Call (.Name "list" p2) [.Call (.Name "range" p) [e] [] pos] [] pos2) (rngO f) := PE.imp (pe_listRg hc hg hm (prg_1 hg2 hm2 he na2) na) le_rng
theorem jrngN (hc : X.calm = true) (hg : Gl X "list") (hm : X.mg "list" = none) (hg2 : Gl X "range") (hm2 : X.mg "range" = none) (he : JE X e f)
    (na2 : starEach [e] X.env = (false, eval e X.env) :: starEach [] X.env := by rfl) (na : starEach [Expr.Call (.Name "range" p) [e] [] pos] X.env = (false, eval (Expr.Call (.Name "range" p) [e] [] pos) X.env) :: starEach [] X.env := by rfl) :
    JE X (.Call (.Name "list" p2) [.Call (.Name "range" p) [e] [] pos] [] pos2) (rngNO f) := PE.imp (pe_listRg hc hg hm (prg_1 hg2 hm2 he na2) na) le_rngN
end
theorem w_rng {δ : Dl} {S : Sg} {f : FE} {Q : D → Sg → Prop} (h : W (f δ S) fun d S1 => ∃ m : Nat, d = .int (m : Int) ∧ m ≤ 1000000 ∧ Q (.lst ((List.range m).map fun (i : Nat) => .int (i : Int))) S1) : W (rngO f δ S) Q := by
  obtain ⟨_, S1, e, m, rfl, hm, q⟩ := h
  refine ⟨_, _, ?_, q⟩
  unfold rngO
  rw [e, Option.bind_some]
  show (if R62 (m : Int) ∧ _ then _ else none) = _
  rw [if_pos ⟨r62P (by omega), by omega⟩]
  unfold rngL
  rw [Int.toNat_natCast]
  simp only [Int.zero_add]
end
/-! ### sorted: tuples of numbers -/
def rowLe : List Int → List Int → Bool
  | [], _ => true
  | _ :: _, [] => false
  | x :: xs, y :: ys => if x = y then rowLe xs ys else decide (x < y)
def encR (r : List Int) : PyData := .tuple (r.map .int)
theorem rowLt_eq : ∀ xs ys : List Int, PySem.W.rowLt (xs.map .int) (ys.map .int) = !rowLe ys xs
  | [], [] => by
    rw [PySem.W.dataLt_ints]
    simp [rowLe]
  | [], y :: ys => by
    rw [PySem.W.dataLt_ints]
    simp [rowLe]
  | x :: xs, [] => by
    rw [PySem.W.dataLt_ints]
    simp [rowLe]
  | x :: xs, y :: ys => by
    have ih := rowLt_eq xs ys
    rw [PySem.W.dataLt_ints] at ih ⊢
    unfold rowLe
    by_cases h : x = y
    · subst h
      rw [if_pos rfl, ← ih]
      simp [List.cons_lt_cons_iff]
    · rw [if_neg (Ne.symm h)]
      by_cases q : x < y
      · have : ¬ y < x := by omega
        simp [List.cons_lt_cons_iff, h, q, this]
      · have : y < x := by omega
        simp [List.cons_lt_cons_iff, h, q, this]
theorem dataLe_enc {β : Type} (x : β → List Int) : PySem.W.dataLe false (fun b => encR (x b)) = fun p q => rowLe (x p) (x q) := by
  funext p q
  show (!PySem.W.dataLt (.tuple ((x q).map .int)) (.tuple ((x p).map .int))) = _
  rw [PySem.W.dataLt_tuple]
  show (!PySem.W.rowLt ((x q).map .int) ((x p).map .int)) = _
  rw [rowLt_eq, Bool.not_not]
section
variable {X : Cx}
/-- items that are tuples of numbers, one at least -/
def IsRow (K : PySem.W.Frag) (H : Hp) (v : V) (r : List Int) : Prop := ∃ t, v = .ref t ∧ SqT K H t (r.map V.int) ∧ r ≠ []
def rSortedRows (K : PySem.W.Frag) : List V → Hp → VK → Prop := fun vs H Q => ∃ (a : Addr) (bs : List (V × List Int)), vs = [V.ref a] ∧ SqL K H a (bs.map (·.1)) ∧ (∀ b ∈ bs, IsRow K H b.1 b.2) ∧
  ∀ p, H p = none → Q (.ref p) (upd H p (.lst ((bs.mergeSort fun p q => rowLe p.2 q.2).map (·.1))))
theorem each_rel : ∀ {bs : List (V × List Int)} {us : List Value}, Vals (bs.map (·.1)) us → PySem.W.EachIs (fun u (b : V × List Int) => RelV b.1 u) us bs
  | [], _, h => by cases h; exact .nil
  | b :: bs, _, h => by
    rw [List.map_cons] at h
    cases h with
    | cons h1 h2 => exact .cons h1 (each_rel h2)
theorem vals_each : ∀ {us : List Value} {bs : List (V × List Int)}, PySem.W.EachIs (fun u (b : V × List Int) => RelV b.1 u) us bs → Vals (bs.map (·.1)) us
  | _, _, .nil => .nil
  | _, _, .cons h t => .cons h (vals_each t)
theorem each_mem2 {α β : Type} {R R' : α → β → Prop} : ∀ {us : List α} {bs : List β}, PySem.W.EachIs R us bs → (∀ b ∈ bs, ∀ u, R u b → R' u b) → PySem.W.EachIs R' us bs
  | _, _, .nil, _ => .nil
  | _, _, .cons h t, k => .cons (k _ (by simp) _ h) (each_mem2 t fun b hb => k b (by simp [hb]))
theorem reads_ints {h : Heap} : ∀ {its : List Value} {ns : List Int}, PyProof.Rows.IntsAre its ns → ∃ as, PySem.ReadsAll h its (ns.map .int) as
  | _, _, .nil => ⟨_, .nil⟩
  | _, _, .cons n t hi => by
    obtain ⟨as, ra⟩ := reads_ints hi
    exact ⟨_, .cons (.int n t) ra⟩
theorem cr_sortedRows (hu : X.A.units + 8 < cLine) : CallR X (.builtin "sorted") (rSortedRows X.K) := by
  intro pins s σ H vs us Q I r h
  obtain ⟨a, bs, rfl, hs, hb, q⟩ := h
  obtain ⟨its, rv, hl, hz⟩ := I.list hs
  rw [Vals.ref1 r]
  have er : PySem.W.EachIs (fun v (b : V × List Int) => ∃ as, PySem.Reads s.heap v (encR b.2) as) its bs := each_mem2 (each_rel rv) fun b hbm u hu => by
    obtain ⟨t, et, hq, _⟩ := hb b hbm
    rw [et] at hu
    obtain rfl : u = Value.ref t := hu
    obtain ⟨its2, rv2, p2, _⟩ := I.tuple hq
    obtain ⟨o, ho, hc, n, hd⟩ := p2
    obtain ⟨as, ra⟩ := reads_ints (h := s.heap) rv2.ints
    exact ⟨as, .tuple ho hc hd (by simpa using ra)⟩
  refine PySem.W.sorted_data (enc := fun b : V × List Int => encR b.2) hl.isList (each_rel rv) er (PySem.W.AllAlike.of fun b b' => ?_) (.inl fun d hd => ?_) (by rw [List.length_map] at hz; exact hz) (fun b _ => ?_) fun out ho eo => ?_
  · show PySem.W.alikeAll _ _ = true
    exact PySem.W.alike_ints _ _
  · obtain ⟨b, hbm, rfl⟩ := List.mem_map.mp hd
    obtain ⟨t, _, _, hne⟩ := hb b hbm
    cases hr : b.2 with
    | nil => exact (hne hr).elim
    | cons x r => exact ⟨.int x, r.map .int, by unfold encR; rfl⟩
  · show X.A.units + 2 + (PyData.tuple (b.2.map .int)).depth < cLine
    rw [PyData.depth, PySem.W.depth_ints]
    omega
  · rw [dataLe_enc] at eo
    have hv := vals_each eo
    obtain ⟨ep, he'⟩ := PyProof.Rows.sortedAll_at s.heap its (List.toArray out)
    have hlen : ((bs.mergeSort fun p q => rowLe p.2 q.2).map (·.1)).length ≤ sizeLine := by
      rw [List.length_map, List.length_mergeSort]
      rw [List.length_map] at hz
      exact hz
    exact ⟨.ref _, upd H (s.heap.objs.size + 1) (.lst ((bs.mergeSort fun p q => rowLe p.2 q.2).map (·.1))), I.laid (t' := s.toks) (fun _ _ => PyProof.Rows.sortedAll_old) (Nat.le_succ _) ⟨hlen, out, ep, hv, he'⟩, rfl, q _ (I.hok.fresh (Nat.le_succ _))⟩
end
section
variable {K : PySem.W.Frag}
/-- rows of numbers -/
def rowOf : D → Option (List Int)
  | .tup ds => (intsOf ds).bind fun ns => if ns = [] then none else some ns
  | _ => none
def rowsOf : List D → Option (List (List Int))
  | [] => some []
  | d :: r => (rowOf d).bind fun x => (rowsOf r).bind fun y => some (x :: y)
def rowT (r : List Int) : D := .tup (r.map .int)
theorem rowOf_eq {d : D} {ns : List Int} (h : rowOf d = some ns) : d = rowT ns ∧ ns ≠ [] := by
  unfold rowOf at h
  split at h
  · obtain ⟨ms, e, h⟩ := bnd h
    split at h
    · cases h
    · cases h
      exact ⟨by rw [intsOf_eq e]; rfl, ‹_›⟩
  · cases h
def sortRO : OC := fun ds S => match ds with
  | [d] => (lsOf S d).bind fun xs => (rowsOf xs).bind fun rows => some (.lst ((rows.mergeSort rowLe).map rowT), S)
  | _ => none
def sortRNO : OC := fun ds S => match ds with
  | [d] => (lsOf S d).bind fun xs => (rowsOf xs).bind fun rows => some (.loc S.length, S ++ [.lst ((rows.mergeSort rowLe).map rowT)])
  | _ => none
theorem rows_pair {H : Hp} {ρ : Ro} : ∀ {ds : List D} {vs : List V} {rows : List (List Int)}, RVs K H ρ vs ds → rowsOf ds = some rows → ∃ bs : List (V × List Int), vs = bs.map (·.1) ∧ rows = bs.map (·.2) ∧ ∀ b ∈ bs, IsRow K H b.1 b.2 ∧ RV K H ρ b.1 (rowT b.2)
  | _, _, _, .nil, h => by
    cases h
    exact ⟨[], rfl, rfl, fun b hb => by cases hb⟩
  | d :: ds, v :: vs, _, .cons r rs, h => by
    obtain ⟨ns, e1, h⟩ := bnd (o := rowOf d) h
    obtain ⟨rest, e2, h⟩ := bnd h
    cases h
    obtain ⟨bs, rfl, rfl, hb⟩ := rows_pair rs e2
    obtain ⟨rfl, hne⟩ := rowOf_eq e1
    refine ⟨(v, ns) :: bs, rfl, rfl, fun b hbm => ?_⟩
    rcases List.mem_cons.mp hbm with rfl | hbm
    · refine ⟨?_, r⟩
      obtain ⟨t, ws, rfl, hq, rw'⟩ := tpOf_sq r (rfl : tpOf (rowT ns) = some (ns.map .int))
      rw [rvs_ints rw'] at hq
      exact ⟨t, rfl, hq, hne⟩
    · exact hb b hbm
theorem rvs_of {H : Hp} {ρ : Ro} : ∀ {bs : List (V × List Int)}, (∀ b ∈ bs, RV K H ρ b.1 (rowT b.2)) → RVs K H ρ (bs.map (·.1)) (bs.map fun b => rowT b.2)
  | [], _ => .nil
  | b :: bs, h => .cons (h b (by simp)) (rvs_of fun x hx => h x (by simp [hx]))
theorem ms_map {bs : List (V × List Int)} : (bs.mergeSort fun p q => rowLe p.2 q.2).map (·.2) = (bs.map (·.2)).mergeSort rowLe :=
  List.map_mergeSort (r := fun p q : V × List Int => rowLe p.2 q.2) (s := rowLe) (f := (·.2)) (fun _ _ _ _ => rfl)
theorem cbD_sortR : CbD K (rSortedRows K) sortRO := by
  intro xs H Q ρ S ds z S' hS rs eq q
  unfold sortRO at eq
  split at eq
  · cases rs with | cons rx rn => ?_
    cases rn
    obtain ⟨ys, e1, eq⟩ := bnd eq
    obtain ⟨rows, e2, eq⟩ := bnd eq
    cases eq
    obtain ⟨a, vs, rfl, hq, r⟩ := lsOf_sq hS rx e1
    obtain ⟨bs, rfl, rfl, hb⟩ := rows_pair r e2
    refine ⟨a, bs, rfl, hq, fun b hbm => (hb b hbm).1, fun p hp => ?_⟩
    have rr : RVs K H ρ ((bs.mergeSort fun p q => rowLe p.2 q.2).map (·.1)) (((bs.map (·.2)).mergeSort rowLe).map rowT) := by
      rw [← ms_map, List.map_map]
      exact rvs_of fun b hbm => (hb b (List.mem_mergeSort.mp hbm)).2
    exact q _ _ ρ (Step.new hS hp) (hS.new hp) (rv_lst hS hp rr)
  · cases eq
theorem cbD_sortRN : CbD K (rSortedRows K) sortRNO := by
  intro xs H Q ρ S ds z S' hS rs eq q
  unfold sortRNO at eq
  split at eq
  · cases rs with | cons rx rn => ?_
    cases rn
    obtain ⟨ys, e1, eq⟩ := bnd eq
    obtain ⟨rows, e2, eq⟩ := bnd eq
    cases eq
    obtain ⟨a, vs, rfl, hq, r⟩ := lsOf_sq hS rx e1
    obtain ⟨bs, rfl, rfl, hb⟩ := rows_pair r e2
    refine ⟨a, bs, rfl, hq, fun b hbm => (hb b hbm).1, fun p hp => ?_⟩
    have rr : RVs K H ρ ((bs.mergeSort fun p q => rowLe p.2 q.2).map (·.1)) (((bs.map (·.2)).mergeSort rowLe).map rowT) := by
      rw [← ms_map, List.map_map]
      exact rvs_of fun b hbm => (hb b (List.mem_mergeSort.mp hbm)).2
    obtain ⟨u, v⟩ := rv_new hS hp rr
    exact q _ _ _ (Step.push hS hp) u v
  · cases eq
theorem un8 {k : Nat} {A : Around} (h : Room k A) : A.units + 8 < cLine := by have := h.un; omega
theorem rowsOf_map : ∀ (rows : List (List Int)), (∀ r ∈ rows, r ≠ []) → rowsOf (rows.map rowT) = some rows
  | [], _ => rfl
  | r :: rows, h => by
    rw [List.map_cons]
    unfold rowsOf
    have e : rowOf (rowT r) = some r := by
      show (intsOf (r.map .int)).bind _ = _
      rw [intsOf_map, Option.bind_some, if_neg (h r (by simp))]
    rw [e, Option.bind_some, rowsOf_map rows fun x hx => h x (by simp [hx])]
    rfl
variable {S : Sg} {Q : D → Sg → Prop}
theorem x_sortR {rows : List (List Int)} (h : ∀ r ∈ rows, r ≠ []) (q : Q (.lst ((rows.mergeSort rowLe).map rowT)) S) : W (sortRO [.lst (rows.map rowT)] S) Q := by
  refine ⟨_, _, ?_, q⟩
  unfold sortRO
  dsimp only
  rw [lsv_lst, Option.bind_some, rowsOf_map rows h]
  rfl
end
end DL
end
noncomputable section
namespace DL
open PySem L2
/-! ### names of a list's or a tuple's items -/
def gUnA (K : PySem.W.Frag) (n : Nat) (t : TGs) : TG := fun v σ H Q => ∃ a xs, v = .ref a ∧ (SqL K H a xs ∨ SqT K H a xs) ∧ xs.length = n ∧ t xs σ H Q
theorem pg_unA {X : Cx} {pos : Pos} {es : List Expr} {k : Nat} {t : TGs} {n : Nat} (hc : X.calm = true) (h : PGs X es t)
    (hn : (assignEach es X.env).length = n := by rfl) (hst : (assignEach es X.env).findIdx? (·.1) = none := by rfl) : PG X (.Tuple es k pos) (gUnA X.K n t) := by
  refine ⟨fun pins s σ H v u Q I r hw => ?_⟩
  obtain ⟨a, xs, e1, hq, hl, hw⟩ := hw
  rcases hq with hq | hq
  · exact (pg_unl hc h hn hst).run pins s σ H v u Q I r ⟨a, xs, e1, hq, hl, hw⟩
  · exact (pg_tup hc h hn hst).run pins s σ H v u Q I r ⟨a, xs, e1, hq, hl, hw⟩
section
variable {K : PySem.W.Frag}
def tupAG (n : Nat) (u : FGs) : FG := fun d δ S => (sqOf S d).bind fun ds => if ds.length = n then u ds δ S else none
theorem lg_unA {n : Nat} {gs : TGs} {u : FGs} (h : LGs K gs u) : LG K (gUnA K n gs) (tupAG n u) := by
  intro v σ H Q ρ δ S d δ' S' hS hσ rv e q
  obtain ⟨ds, e1, e⟩ := bnd e
  split at e
  · rename_i hl
    obtain ⟨a, vs, rfl, hq, rs⟩ := sqOf_sq hS rv e1
    exact ⟨a, vs, rfl, hq, by rw [rs.len]; exact hl, h vs σ H Q ρ δ S ds δ' S' hS hσ rs e q⟩
  · cases e
theorem gm_unA {n : Nat} {gs : TGs} (hms : ∀ v σ H (Q Q' : St → Hp → Prop), (∀ a b, Q a b → Q' a b) → gs v σ H Q → gs v σ H Q') :
    ∀ v σ H (Q Q' : St → Hp → Prop), (∀ a b, Q a b → Q' a b) → gUnA K n gs v σ H Q → gUnA K n gs v σ H Q' := fun _ σ H _ _ m ⟨a, xs, e, h1, h2, q⟩ => ⟨a, xs, e, h1, h2, hms xs σ H _ _ m q⟩
theorem gw_unA {n : Nat} {gs : TGs} {vs : List Nat} (h : GWs gs vs) : GW (gUnA K n gs) vs := fun v σ H Q ⟨a, xs, e, h1, h2, q⟩ => ⟨a, xs, e, h1, h2, h xs σ H Q q⟩
theorem lw_unA {n : Nat} {gs : TGs} {u : FGs} {vs : List Nat} (h : LGWs K gs u vs) : LGW K (gUnA K n gs) (tupAG n u) vs := ⟨lg_unA h.lg, gw_unA h.gw, gm_unA h.gm⟩
theorem w_tupAG {n : Nat} {u : FGs} {d : D} {ds : List D} {δ : Dl} {S : Sg} {Q : Dl → Sg → Prop} (e : sqOf S d = some ds) (h : ds.length = n) (k : WG (u ds δ S) Q) : WG (tupAG n u d δ S) Q := by
  obtain ⟨δ1, S1, e1, q⟩ := k
  refine ⟨_, _, ?_, q⟩
  unfold tupAG
  rw [e, Option.bind_some, if_pos h]
  exact e1
end
end DL
end
noncomputable section
namespace DL
open PySem L2
/-! ### more of a store whose own part is known -/
section
variable {A : Sg} {L : List Ob} {N k : Nat} {Q : D → Sg → Prop} {δ : Dl}
theorem wl_mulN (hl : A.length = N) {xs : List D} {i : Int} (h : R63 i) (l : xs.length * i.toNat < 1000000) (q : Q (.loc (N + L.length)) (A ++ (L ++ [.lst (List.replicate i.toNat xs).flatten]))) : W (mulNO (.lst xs) (.int i) (A ++ L)) Q := by
  refine ⟨_, _, ?_, q⟩
  unfold mulNO
  dsimp only
  rw [plv_lst, Option.bind_some, if_pos ⟨h, (fits_iff _).mpr l⟩, List.length_append, hl, List.append_assoc]
theorem x_lenSq {S : Sg} {d : D} {xs : List D} (h : sqOf S d = some xs) (q : Q (.int (xs.length : Int)) S) : W (lenO [d] S) Q := by
  refine ⟨_, _, ?_, q⟩
  rw [lenv_seq, h]
theorem wl_truE (hl : A.length = N) {xs : List D} (h : L[k]? = some (.lst xs)) : truB (A ++ L) (.loc (N + k)) = some (!xs.isEmpty) := by
  rw [truv_loc, al_get hl, h]
  rfl
theorem wl_tru (hl : A.length = N) {xs : List D} {P : Bool → Prop} (h : L[k]? = some (.lst xs)) (q : P (!xs.isEmpty)) : ∃ b, truB (A ++ L) (.loc (N + k)) = some b ∧ P b :=
  ⟨_, wl_truE hl h, q⟩
theorem wl_slN (hl : A.length = N) {xs : List D} {lo hi : Option Int} (h : L[k]? = some (.lst xs)) (q : Q (.loc (N + L.length)) (A ++ (L ++ [.lst (cutD xs lo hi)]))) : W (slNO (.loc (N + k)) lo hi (A ++ L)) Q := by
  refine ⟨_, _, ?_, q⟩
  unfold slNO
  rw [lsv_loc, al_get hl, h]
  show some (D.loc (List.length (A ++ L)), A ++ L ++ [.lst (cutD xs lo hi)]) = _
  rw [List.length_append, hl, List.append_assoc]
theorem wl_sortRN (hl : A.length = N) {rows : List (List Int)} (h : ∀ r ∈ rows, r ≠ []) (q : Q (.loc (N + L.length)) (A ++ (L ++ [.lst ((rows.mergeSort rowLe).map rowT)]))) : W (sortRNO [.lst (rows.map rowT)] (A ++ L)) Q := by
  refine ⟨_, _, ?_, q⟩
  unfold sortRNO
  dsimp only
  rw [lsv_lst, Option.bind_some, rowsOf_map rows h, Option.bind_some, List.length_append, hl, List.append_assoc]
theorem w_finK {n : Nat} {d : D} {S : Sg} (q : Q d S) : W (finK n d S) Q := ⟨_, _, rfl, q⟩
theorem wl_sq (hl : A.length = N) {xs : List D} (h : L[k]? = some (.lst xs)) : sqOf (A ++ L) (.loc (N + k)) = some xs := by
  rw [sqv_loc, al_get hl, h]
  rfl
theorem wl_ls (hl : A.length = N) {xs : List D} (h : L[k]? = some (.lst xs)) : lsOf (A ++ L) (.loc (N + k)) = some xs := by
  rw [lsv_loc, al_get hl, h]
  rfl
theorem wl_rev (hl : A.length = N) {xs : List D} (h : L[k]? = some (.lst xs)) (q : Q .non (A ++ L.set k (.lst xs.reverse))) : W (revO (.loc (N + k)) [] (A ++ L)) Q := by
  refine ⟨_, _, ?_, q⟩
  unfold revO
  dsimp only
  rw [al_get hl, h]
  dsimp only
  rw [al_set hl]
theorem x_listSq {S : Sg} {d : D} {xs : List D} (h : sqOf S d = some xs) (q : Q (.lst xs) S) : W (listO [d] S) Q := by
  refine ⟨_, _, ?_, q⟩
  unfold listO
  dsimp only
  rw [h]
  rfl
theorem x_tupleSq {S : Sg} {d : D} {xs : List D} (h : sqOf S d = some xs) (q : Q (.tup xs) S) : W (tupleO [d] S) Q := by
  refine ⟨_, _, ?_, q⟩
  unfold tupleO
  dsimp only
  unfold sqOf at h
  cases e : lsOf S d with
  | some ys =>
    rw [e] at h
    cases h
    rfl
  | none =>
    rw [e] at h
    have h' : tpOf d = some xs := h
    dsimp only
    rw [h']
    rfl
end
theorem cut_take (xs : List D) (m : Nat) : cutD xs none (some (m : Int)) = xs.take m := by
  unfold cutD HT.sIx
  dsimp only
  rw [if_neg (by omega), List.drop_zero, Nat.sub_zero, List.take_eq_take_iff]
  omega
theorem cut_drop (xs : List D) (m : Nat) : cutD xs (some (m : Int)) none = xs.drop m := by
  unfold cutD
  rw [HT.sIx_nat, HT.sIx_none]
  by_cases h : m ≤ xs.length
  · rw [Nat.min_eq_left h]
    exact List.take_of_length_le (by rw [List.length_drop]; omega)
  · rw [Nat.min_eq_right (by omega), List.drop_eq_nil_of_le (Nat.le_refl _), List.drop_eq_nil_of_le (by omega), List.take_nil]
end DL
end
noncomputable section
namespace DL
open PySem L2
/-! ### list.pop at a place; the keys of a dict as a list -/
section
variable {K : PySem.W.Frag}
theorem RVs.eraseIdx {H : Hp} {ρ : Ro} : ∀ {vs : List V} {ds : List D} (i : Nat), RVs K H ρ vs ds → RVs K H ρ (vs.eraseIdx i) (ds.eraseIdx i)
  | _, _, _, .nil => .nil
  | _, _, 0, .cons _ r => r
  | _, _, i + 1, .cons h r => .cons h (RVs.eraseIdx i r)
def popAtO : OM := fun d ds S => match d, ds with
  | .loc n, [.int i] => match S[n]? with
    | some (.lst xs) => if 0 ≤ i ∧ i.toNat < xs.length ∧ R63 i then (xs[i.toNat]?).bind fun y => some (y, S.set n (.lst (xs.eraseIdx i.toNat))) else none
    | _ => none
  | _, _ => none
theorem seqIx {i : Int} {n : Nat} (h0 : 0 ≤ i) (h : i.toNat < n) : seqIndex? i n = some i.toNat := by
  unfold seqIndex?
  have h1 : ¬ i < 0 := by omega
  have h2 : (0 : Int) ≤ i := h0
  have h3 : i < (n : Int) := by omega
  simp [h1, h2, h3]
theorem mtD_popAt : MtD K "list" rPopAt popAtO isLoc := by
  refine ⟨fun _ _ _ _ _ hS r h => isLoc_ty hS r h, ?_⟩
  intro x xs H Q ρ S d ds z S' hS rx rs eq q
  unfold popAtO at eq
  split at eq
  · rename_i n i
    cases rs with | cons ry rn => ?_
    cases rn; cases ry
    cases rx with | loc hn => ?_
    split at eq
    · rename_i ys hy
      split at eq
      · rename_i hc
        obtain ⟨y, ey, eq⟩ := bnd eq
        cases eq
        obtain ⟨vs, h1, h2⟩ := hS.ob _ _ _ hn hy
        obtain ⟨v, hv, rv⟩ := h2.get ey
        have hr := (r63_iff i).mp hc.2.2
        refine ⟨_, vs, i, i.toNat, v, rfl, rfl, h1, by omega, by omega, seqIx hc.1 (by rw [h2.len]; exact hc.2.1), hv, ?_⟩
        have st : Step ρ ρ H (upd H _ (.lst (vs.eraseIdx i.toNat))) := Step.write hn h1
        exact q _ _ ρ st (hS.write hn ⟨_, h1⟩ ⟨_, upd_same, (h2.eraseIdx _).mono st⟩) (rv.mono st)
      · cases eq
    · cases eq
  · cases eq
def kD : Key → D
  | .inl i => .int i
  | .inr z => .str z
theorem kD_rv {H : Hp} {ρ : Ro} : ∀ k : Key, RV K H ρ (kV k) (kD k)
  | .inl _ => .int
  | .inr _ => .str
theorem kDs_rv {H : Hp} {ρ : Ro} : ∀ {kvs : List (Key × V)} {gs : List (Key × D)}, kvs.map (·.1) = gs.map (·.1) → RVs K H ρ (kvs.map fun kv => kV kv.1) (gs.map fun kv => kD kv.1)
  | [], [], _ => .nil
  | [], _ :: _, h => by cases h
  | _ :: _, [], h => by cases h
  | kv :: kvs, g :: gs, h => by
    rw [List.map_cons, List.map_cons] at h
    injection h with h1 h2
    rw [List.map_cons, List.map_cons, h1]
    exact .cons (kD_rv g.1) (kDs_rv h2)
def listDO : OC := fun ds S => match ds with
  | [d] => (dsOf S d).bind fun gs => some (.lst (gs.map fun kv => kD kv.1), S)
  | _ => none
theorem cbD_listD : CbD K (fun xs H Q => ∃ (a : Addr) (kvs : List (Key × V)), xs = [.ref a] ∧ Rd H a (.dK kvs) ∧ ∀ p, H p = none → Q (.ref p) (upd H p (.lst (kvs.map fun kv => kV kv.1)))) listDO := by
  intro xs H Q ρ S ds z S' hS rs eq q
  unfold listDO at eq
  split at eq
  · cases rs with | cons rx rn => ?_
    cases rn
    obtain ⟨gs, e1, eq⟩ := bnd eq
    cases eq
    obtain ⟨a, kvs, rfl, hq, r⟩ := dsOf_rd hS rx e1
    exact ⟨a, kvs, rfl, .inl hq, fun p hp => q _ _ ρ (Step.new hS hp) (hS.new hp) (rv_lst hS hp (kDs_rv r.ks))⟩
  · cases eq
/-! sorted, of any number of ints -/
def srtI (ns : List Int) : List Int := ns.mergeSort fun a b => decide (a ≤ b)
theorem srtI_perm (ns : List Int) : (srtI ns).Perm ns := List.mergeSort_perm _ _
theorem srtI_sorted (ns : List Int) : (srtI ns).Pairwise (· ≤ ·) :=
  (List.pairwise_mergeSort (le := fun a b : Int => decide (a ≤ b)) (fun a b c h k => decide_eq_true (Int.le_trans (of_decide_eq_true h) (of_decide_eq_true k))) (fun a b => by
    rcases Int.le_total a b with h | h
    · rw [decide_eq_true h]; rfl
    · rw [decide_eq_true h, Bool.or_true]) ns).imp fun h => of_decide_eq_true h
theorem sortedI_eq : ∀ {l r : List Int}, l.Perm r → l.Pairwise (· ≤ ·) → r.Pairwise (· ≤ ·) → l = r
  | [], r, h, _, _ => h.nil_eq
  | a :: l, r, h, hl, hr => by
    cases r with
    | nil => exact h.eq_nil
    | cons b r =>
      have e : a = b := by
        rw [List.pairwise_cons] at hl hr
        have h1 : a ∈ b :: r := h.mem_iff.mp (List.mem_cons_self ..)
        have h2 : b ∈ a :: l := h.mem_iff.mpr (List.mem_cons_self ..)
        rcases List.mem_cons.mp h1 with e | h1
        · exact e
        · rcases List.mem_cons.mp h2 with e | h2
          · exact e.symm
          · exact Int.le_antisymm (hl.1 _ h2) (hr.1 _ h1)
      subst e
      rw [sortedI_eq (h.cons_inv) (List.pairwise_cons.mp hl).2 (List.pairwise_cons.mp hr).2]
def sortIO : OC := fun ds S => match ds with
  | [d] => (lsOf S d).bind fun xs => (intsOf xs).bind fun ns => some (.lst ((srtI ns).map .int), S)
  | _ => none
theorem rvs_isI {H : Hp} {ρ : Ro} : ∀ {vs : List V} {ds : List D} {ns : List Int}, RVs K H ρ vs ds → intsOf ds = some ns → vs = ns.map V.int
  | _, _, _, .nil, h => by cases h; rfl
  | v :: vs, d :: ds, ns, .cons r rs, h => by
    cases d with
    | int i =>
      obtain ⟨rest, e1, h⟩ := bnd (o := intsOf ds) h
      cases h
      cases r
      rw [rvs_isI rs e1]
      rfl
    | _ => cases h
theorem rvs_intsL {H : Hp} {ρ : Ro} : ∀ ns : List Int, RVs K H ρ (ns.map V.int) (ns.map D.int)
  | [] => .nil
  | _ :: ns => .cons .int (rvs_intsL ns)
theorem cbD_sortI : CbD K (rSortedI K) sortIO := by
  intro xs H Q ρ S ds z S' hS rs eq q
  unfold sortIO at eq
  split at eq
  · cases rs with | cons rx rn => ?_
    cases rn
    obtain ⟨ys, e1, eq⟩ := bnd eq
    obtain ⟨ns, e2, eq⟩ := bnd eq
    cases eq
    obtain ⟨a, vs, rfl, hq, r⟩ := lsOf_sq hS rx e1
    have ev := rvs_isI r e2
    subst ev
    refine ⟨a, ns, rfl, hq, fun ns' p hp hs hn => ?_⟩
    rw [show ns' = srtI ns from sortedI_eq (hp.trans (srtI_perm ns).symm) hs (srtI_sorted ns)]
    exact q _ _ ρ (Step.new hS hn) (hS.new hn) (rv_lst hS hn (rvs_intsL _))
  · cases eq
end
section
variable {A S : Sg} {L : List Ob} {N k : Nat} {Q : D → Sg → Prop}
theorem wl_popAt (hl : A.length = N) {xs : List D} {j : Nat} {y : D} (h : L[k]? = some (.lst xs)) (hy : xs[j]? = some y) (hj : j < 1000000) (q : Q y (A ++ L.set k (.lst (xs.eraseIdx j)))) : W (popAtO (.loc (N + k)) [.int (j : Int)] (A ++ L)) Q := by
  refine ⟨_, _, ?_, q⟩
  unfold popAtO
  dsimp only
  rw [al_get hl, h]
  dsimp only
  have hlt := (List.getElem?_eq_some_iff.mp hy).1
  rw [if_pos ⟨by omega, by omega, (r63_iff _).mpr (by omega)⟩, Int.toNat_natCast, hy, Option.bind_some, al_set hl]
theorem x_sortI {ns : List Int} (q : Q (.lst ((srtI ns).map .int)) S) : W (sortIO [.lst (ns.map .int)] S) Q := by
  refine ⟨_, _, ?_, q⟩
  unfold sortIO
  dsimp only
  rw [lsv_lst, Option.bind_some, intsOf_map]
  rfl
theorem x_listD {d : D} {gs : List (Key × D)} (h : dsOf S d = some gs) (q : Q (.lst (gs.map fun kv => kD kv.1)) S) : W (listDO [d] S) Q := by
  refine ⟨_, _, ?_, q⟩
  unfold listDO
  dsimp only
  rw [h]
  rfl
theorem wl_dsOf (hl : A.length = N) {gs : List (Key × D)} (h : L[k]? = some (.dct gs)) : dsOf (A ++ L) (.loc (N + k)) = some gs := by
  unfold dsOf
  dsimp only
  rw [al_get hl, h]
theorem x_inseq {e d : D} {xs : List D} (h : sqOf S d = some xs) (h1 : flatD e = true) (h2 : xs.all flatD = true) (q : Q (.bl (inF e xs)) S) : W (inseqO e d S) Q := by
  refine ⟨_, _, ?_, q⟩
  unfold inseqO
  rw [h, Option.bind_some, if_pos ⟨h1, h2⟩]
end
/-! ### `{}`, to be changed; not in a list -/
section
variable {X : Cx} {pos : Pos} {K : PySem.W.Frag}
def dnewD : FE := fun _ S => some (.loc S.length, S ++ [.dct []])
theorem le_dnew : ∀ σ H Q, tD K dnewD σ H Q → tDNewK σ H Q := by
  rintro σ H Q ⟨ρ, δ, S, d, S', hS, hσ, e, q⟩
  cases e
  intro p hp
  refine q _ _ _ (Step.push hS hp) (hS.push hp ⟨[], upd_same, rfl, .nil⟩) (.loc ?_)
  show (ρ.pl ++ [p])[S.length]? = some p
  rw [← hS.len, List.getElem?_append_right (Nat.le_refl _), Nat.sub_self]
  rfl
theorem jd0 : JE X (.Dict [] [] pos) dnewD := PE.imp pe_dnewK le_dnew
def ninseqO : O2 := fun d e S => (sqOf S e).bind fun xs => if flatD d = true ∧ xs.all flatD = true then some (.bl (!inF d xs), S) else none
theorem opD_ninseq : OpD K (rIn K true) ninseqO := by
  intro x y H Q ρ S d e z S' hS rx ry eq q
  obtain ⟨xs, e1, eq⟩ := bnd eq
  split at eq
  · rename_i hf
    cases eq
    obtain ⟨a, vs, rfl, hq, rs⟩ := sqOf_sq hS ry e1
    refine ⟨a, vs, rfl, hq, flat_rv rx hf.1, flats_rv rs hf.2, ?_⟩
    rw [if_pos rfl, inF_rv rx hf.1 rs hf.2]
    exact q _ H ρ (Step.refl _ _) hS .bl
  · cases eq
variable {a b : Expr} {f g : FE}
theorem jninseq (ha : JE X a f) (hb : JE X b g) (hm : behindInMarks .NotIn b = false := by rfl) : JE X (.Compare a [.NotIn] [b] pos) (op2D ninseqO f g) := jcmpR op_notIn_seq opD_ninseq ha hb hm
theorem jtninseq (ha : JE X a f) (hb : JE X b g) (hm : behindInMarks .NotIn b = false := by rfl) : JT X (.Compare a [.NotIn] [b] pos) (tvD (op2D ninseqO f g)) := jtcmpR op_notIn_seq opD_ninseq ha hb hm
theorem x_ninseq {S : Sg} {Q : D → Sg → Prop} {e d : D} {xs : List D} (h : sqOf S d = some xs) (h1 : flatD e = true) (h2 : xs.all flatD = true) (q : Q (.bl (!inF e xs)) S) : W (ninseqO e d S) Q := by
  refine ⟨_, _, ?_, q⟩
  unfold ninseqO
  rw [h, Option.bind_some, if_pos ⟨h1, h2⟩]
theorem wl_dnew {A : Sg} {L : List Ob} {N : Nat} {δ : Dl} {Q : D → Sg → Prop} (hl : A.length = N) (q : Q (.loc (N + L.length)) (A ++ (L ++ [.dct []]))) : W (dnewD δ (A ++ L)) Q := by
  refine ⟨_, _, ?_, q⟩
  unfold dnewD
  rw [List.length_append, hl, List.append_assoc]
/-- `d[k] = v` at a place -/
theorem wl_dput {A : Sg} {L : List Ob} {N k : Nat} {δ : Dl} {fd fk fv : FE} {Q : Fl → Dl → Sg → Prop} (hl : A.length = N)
    (h : W (fv δ (A ++ L)) fun v S1 => W (fd δ S1) fun d S2 => W (fk δ S2) fun y S3 => ∃ (L3 : List Ob) (gs : List (Key × D)) (kk : Key), S3 = A ++ L3 ∧ d = .loc (N + k) ∧ L3[k]? = some (.dct gs) ∧ gs.length < 1000000 ∧ keyOf y = some kk ∧ Q .nx δ (A ++ L3.set k (.dct (putG gs kk v)))) : WS (dputS fd fk fv δ (A ++ L)) Q := by
  obtain ⟨v, S1, e1, d, S2, e2, y, S3, e3, L3, gs, kk, rfl, rfl, h1, h2, h3, q⟩ := h
  refine ⟨_, _, _, r_dput e1 e2 e3 (by rw [al_get hl]; exact h1) h2 h3, ?_⟩
  rw [al_set hl]
  exact q
end
end DL
end
noncomputable section
namespace DL
open PySem L2
/-! ### sorted(set(xs)), xs pairs of numbers, fewer than 64 -/
def nub {α : Type} [DecidableEq α] : List α → List α
  | [] => []
  | a :: r => if a ∈ r then nub r else a :: nub r
theorem mem_nub {α : Type} [DecidableEq α] {x : α} : ∀ {l : List α}, x ∈ nub l ↔ x ∈ l
  | [] => Iff.rfl
  | a :: r => by
    unfold nub
    split
    · rename_i h
      rw [mem_nub, List.mem_cons]
      exact ⟨.inr, fun q => q.elim (fun e => by rw [e]; exact h) id⟩
    · rw [List.mem_cons, List.mem_cons, mem_nub]
theorem nodup_nub {α : Type} [DecidableEq α] : ∀ l : List α, (nub l).Nodup
  | [] => List.nodup_nil
  | a :: r => by
    unfold nub
    split
    · exact nodup_nub r
    · rename_i h
      exact List.nodup_cons.mpr ⟨fun q => h (mem_nub.mp q), nodup_nub r⟩
theorem perm_mem {α : Type} [DecidableEq α] : ∀ {l r : List α}, l.Nodup → r.Nodup → (∀ a, a ∈ l ↔ a ∈ r) → l.Perm r
  | [], r, _, _, h => by
    cases r with
    | nil => exact .nil
    | cons b r => exact absurd ((h b).mpr (List.mem_cons_self ..)) List.not_mem_nil
  | a :: l, r, hl, hr, h => by
    have ha : a ∈ r := (h a).mp (List.mem_cons_self ..)
    obtain ⟨h1, h2⟩ := List.nodup_cons.mp hl
    have p := List.perm_cons_erase ha
    have hr' := (p.nodup_iff).mp hr
    obtain ⟨h3, h4⟩ := List.nodup_cons.mp hr'
    refine ((perm_mem h2 h4 fun b => ?_).cons a).trans p.symm
    constructor
    · intro hb
      have hne : b ≠ a := fun e => h1 (e ▸ hb)
      exact (List.mem_erase_of_ne hne).mpr ((h b).mp (List.mem_cons_of_mem _ hb))
    · intro hb
      have hne : b ≠ a := fun e => h3 (e ▸ hb)
      have := (h b).mpr ((List.mem_erase_of_ne hne).mp hb)
      exact (List.mem_cons.mp this).resolve_left hne
theorem srt_eq {α : Type} {R : α → α → Prop} : ∀ {l r : List α}, l.Perm r → l.Pairwise R → r.Pairwise R → (∀ a ∈ l, ∀ b ∈ l, R a b → R b a → a = b) → l = r
  | [], r, p, _, _, _ => by rw [List.nil_perm.mp p]
  | a :: l, r, p, hl, hr, anti => by
    cases r with
    | nil => exact absurd p.length_eq (by simp)
    | cons b r =>
      obtain ⟨l1, l2⟩ := List.pairwise_cons.mp hl
      obtain ⟨r1, r2⟩ := List.pairwise_cons.mp hr
      have hab : a = b := by
        have hb : b ∈ a :: l := p.mem_iff.mpr (List.mem_cons_self ..)
        have ha : a ∈ b :: r := p.mem_iff.mp (List.mem_cons_self ..)
        rcases List.mem_cons.mp hb with e | hb'
        · exact e.symm
        · rcases List.mem_cons.mp ha with e | ha'
          · exact e
          · exact anti a (List.mem_cons_self ..) b hb (l1 b hb') (r1 a ha')
      subst hab
      rw [srt_eq (List.perm_cons a |>.mp p) l2 r2 fun x hx y hy => anti x (List.mem_cons_of_mem _ hx) y (List.mem_cons_of_mem _ hy)]
def isPr (B : Int) (r : List Int) : Prop := r.length = 2 ∧ ∀ x ∈ r, 0 ≤ x ∧ x < B
def BP : Int := 100000000
theorem isPr_two {r : List Int} (h : isPr BP r) : ∃ x y, r = [x, y] ∧ 0 ≤ x ∧ 0 ≤ y ∧ x < BP ∧ y < BP := by
  obtain ⟨h1, h2⟩ := h
  match r, h1 with
  | [x, y], _ => exact ⟨x, y, rfl, (h2 x (by simp)).1, (h2 y (by simp)).1, (h2 x (by simp)).2, (h2 y (by simp)).2⟩
theorem codeP (x y : Int) : TS.code BP [x, y] = x * 100000000 + y := by
  have e1 : BP ^ 1 = 100000000 := by decide
  have e0 : BP ^ 0 = 1 := by decide
  show x * BP ^ 1 + (y * BP ^ 0 + 0) = x * 100000000 + y
  rw [e1, e0, Int.mul_one, Int.add_zero]
theorem rowLe_two (x y u v : Int) : rowLe [x, y] [u, v] = if x = u then (if y = v then true else decide (y < v)) else decide (x < u) := rfl
theorem code_row {q r : List Int} (hq : isPr BP q) (hr : isPr BP r) (h : TS.code BP q ≤ TS.code BP r) : rowLe q r = true := by
  obtain ⟨x, y, rfl, a1, a2, a3, a4⟩ := isPr_two hq
  obtain ⟨u, v, rfl, b1, b2, b3, b4⟩ := isPr_two hr
  rw [codeP, codeP] at h
  have e : BP = 100000000 := rfl
  rw [rowLe_two]
  by_cases h1 : x = u
  · rw [if_pos h1]
    by_cases h2 : y = v
    · rw [if_pos h2]
    · rw [if_neg h2]
      exact decide_eq_true (by omega)
  · rw [if_neg h1]
    exact decide_eq_true (by omega)
theorem row_code {q r : List Int} (hq : isPr BP q) (hr : isPr BP r) (h : rowLe q r = true) : TS.code BP q ≤ TS.code BP r := by
  obtain ⟨x, y, rfl, a1, a2, a3, a4⟩ := isPr_two hq
  obtain ⟨u, v, rfl, b1, b2, b3, b4⟩ := isPr_two hr
  rw [codeP, codeP]
  have e : BP = 100000000 := rfl
  rw [rowLe_two] at h
  split at h
  · rename_i h1
    split at h
    · omega
    · have := of_decide_eq_true h
      omega
  · have := of_decide_eq_true h
    omega
theorem code_inj {q r : List Int} (hq : isPr BP q) (hr : isPr BP r) (h1 : TS.code BP q ≤ TS.code BP r) (h2 : TS.code BP r ≤ TS.code BP q) : q = r := by
  obtain ⟨x, y, rfl, a1, a2, a3, a4⟩ := isPr_two hq
  obtain ⟨u, v, rfl, b1, b2, b3, b4⟩ := isPr_two hr
  rw [codeP, codeP] at h1 h2
  have e : BP = 100000000 := rfl
  rw [show x = u by omega, show y = v by omega]
theorem rowLe_tot : ∀ q r : List Int, (rowLe q r || rowLe r q) = true
  | [], _ => by simp [rowLe]
  | _ :: _, [] => by simp [rowLe]
  | x :: q, y :: r => by
    unfold rowLe
    by_cases h : x = y
    · rw [if_pos h, if_pos h.symm]
      exact rowLe_tot q r
    · rw [if_neg h, if_neg (Ne.symm h)]
      by_cases g : x < y
      · rw [decide_eq_true g]
        rfl
      · rw [decide_eq_true (show y < x by omega), Bool.or_true]
theorem rowLe_tr : ∀ p q r : List Int, rowLe p q = true → rowLe q r = true → rowLe p r = true
  | [], _, _, _, _ => by simp [rowLe]
  | _ :: _, [], _, h, _ => by simp [rowLe] at h
  | _ :: _, _ :: _, [], _, h => by simp [rowLe] at h
  | x :: p, y :: q, z :: r, h, k => by
    unfold rowLe at h k ⊢
    by_cases e1 : x = y
    · subst e1
      rw [if_pos rfl] at h
      by_cases e2 : x = z
      · rw [if_pos e2] at k ⊢
        exact rowLe_tr p q r h k
      · rw [if_neg e2] at k ⊢
        exact k
    · rw [if_neg e1] at h
      have h := of_decide_eq_true h
      by_cases e2 : y = z
      · subst e2
        rw [if_neg e1]
        exact decide_eq_true h
      · rw [if_neg e2] at k
        have k := of_decide_eq_true k
        rw [if_neg (by omega)]
        exact decide_eq_true (by omega)
/-- the one order of the pairs -/
theorem set_is {rows ls : List (List Int)} (hr : ∀ r ∈ rows, isPr BP r) (hn : ls.Nodup) (hm : ∀ r, r ∈ ls ↔ r ∈ rows) (hs : ls.Pairwise fun q r => TS.code BP q ≤ TS.code BP r) : ls = (nub rows).mergeSort rowLe := by
  have hp : ls.Perm ((nub rows).mergeSort rowLe) := (perm_mem hn (nodup_nub rows) fun a => (hm a).trans mem_nub.symm).trans (List.mergeSort_perm _ _).symm
  refine srt_eq hp hs ?_ fun a ha b hb h k => code_inj (hr a ((hm a).mp ha)) (hr b ((hm b).mp hb)) h k
  have h2 : ((nub rows).mergeSort rowLe).Pairwise fun q r => rowLe q r = true := List.pairwise_mergeSort rowLe_tr rowLe_tot _
  refine List.Pairwise.imp_of_mem (fun {a b} ha hb h => ?_) h2
  have ma : ∀ {a}, a ∈ (nub rows).mergeSort rowLe → isPr BP a := fun h => hr _ (mem_nub.mp (List.mem_mergeSort.mp h))
  exact row_code (ma ha) (ma hb) h
section
variable {K : PySem.W.Frag}
open Classical in
def srtSetO (f : FE) : FE := fun δ S => (f δ S).bind fun p => (lsOf p.2 p.1).bind fun xs => (rowsOf xs).bind fun rows => if rows.length < 64 ∧ ∀ r ∈ rows, isPr BP r then some (.lst (((nub rows).mergeSort rowLe).map rowT), p.2) else none
def adr : V → Addr
  | .ref a => a
  | _ => default
theorem le_srtSet {f : FE} {P : Program} {w : World} : ∀ σ H Q, tD K (srtSetO f) σ H Q → tCB (rSortedT K P w) (tCons (tCB (rSetOfT K P w) (tCons (tD K f) tNil)) tNil) σ H Q := by
  rintro σ H Q ⟨ρ, δ, S, d, S', hS, hσ, e, q⟩
  obtain ⟨⟨x, S1⟩, e1, e⟩ := bnd e
  obtain ⟨xs, e2, e⟩ := bnd e
  obtain ⟨rows, e3, e⟩ := bnd e
  dsimp only at e e2
  split at e
  · rename_i hc
    cases e
    refine ⟨ρ, δ, S, x, _, hS, hσ, e1, fun v H1 ρ1 s1 hS1 rv => ?_⟩
    obtain ⟨a, vs, rfl, hq, r⟩ := lsOf_sq hS1 rv e2
    obtain ⟨bs, rfl, rfl, hb⟩ := rows_pair r e3
    have hv : bs.map (·.1) = (bs.map fun b => (adr b.1, b.2)).map fun p => V.ref p.1 := by
      rw [List.map_map]
      refine List.map_congr_left fun b hbm => ?_
      obtain ⟨t, et, _⟩ := (hb b hbm).1
      show b.1 = V.ref (adr b.1)
      rw [et]
      rfl
    refine ⟨a, bs.map fun b => (adr b.1, b.2), rfl, by rw [← hv]; exact hq, fun p hp => ?_, by have := hc.1; rw [List.length_map] at this ⊢; exact this, fun s L hs hsub hall => ?_⟩
    · obtain ⟨b, hbm, rfl⟩ := List.mem_map.mp hp
      obtain ⟨t, et, hq2, _⟩ := (hb b hbm).1
      show SqT K H1 (adr b.1) _
      rw [et]
      exact hq2
    have st2 : Step ρ1 ρ1 H1 (upd H1 s (SetTO P w s L)) := Step.new hS1 hs
    have hS2 := hS1.new (o := SetTO P w s L) hs
    have hL : ∀ p ∈ L, ∃ b ∈ bs, p = (adr b.1, b.2) := fun p hp => by
      obtain ⟨b, hbm, e⟩ := List.mem_map.mp (hsub p hp)
      exact ⟨b, hbm, e.symm⟩
    have hLr : ∀ p ∈ L, RV K (upd H1 s (SetTO P w s L)) ρ1 (.ref p.1) (rowT p.2) := fun p hp => by
      obtain ⟨b, hbm, rfl⟩ := hL p hp
      have hr := (hb b hbm).2.mono st2
      obtain ⟨t, et, _⟩ := (hb b hbm).1
      show RV K _ ρ1 (.ref (adr b.1)) (rowT b.2)
      rw [et] at hr ⊢
      exact hr
    refine ⟨s, L, 2, BP, rfl, upd_same, fun p hp => ?_, by decide, fun p hp => ?_, fun L' p pm nd h64 hs' hp => ?_⟩
    · obtain ⟨t, ws, et, hq2, rw'⟩ := tpOf_sq (hLr p hp) (rfl : tpOf (rowT p.2) = some (p.2.map .int))
      rw [rvs_ints rw'] at hq2
      cases et
      exact hq2
    · obtain ⟨b, hbm, rfl⟩ := hL p hp
      obtain ⟨g1, g2⟩ := hc.2 b.2 (List.mem_map_of_mem hbm)
      exact ⟨g1, g2⟩
    have el : L'.map (·.2) = (nub (bs.map (·.2))).mergeSort rowLe := by
      refine set_is hc.2 nd (fun r => ?_) (List.pairwise_map.mpr hs')
      constructor
      · intro hm
        obtain ⟨p, hpm, rfl⟩ := List.mem_map.mp hm
        obtain ⟨b, hbm, rfl⟩ := hL p (pm.mem_iff.mp hpm)
        exact List.mem_map_of_mem hbm
      · intro hm
        obtain ⟨b, hbm, rfl⟩ := List.mem_map.mp hm
        have := hall (adr b.1, b.2) (List.mem_map_of_mem hbm)
        obtain ⟨p, hpm, e⟩ := List.mem_map.mp this
        rw [show b.2 = p.2 from e.symm]
        exact List.mem_map_of_mem (pm.mem_iff.mpr hpm)
    have rr : RVs K (upd H1 s (SetTO P w s L)) ρ1 (L'.map fun q => V.ref q.1) (((nub (bs.map (·.2))).mergeSort rowLe).map rowT) := by
      rw [← el, List.map_map]
      have : ∀ L' : List (Addr × List Int), (∀ p ∈ L', p ∈ L) → RVs K (upd H1 s (SetTO P w s L)) ρ1 (L'.map fun q => V.ref q.1) (L'.map (rowT ∘ fun q => q.2)) := fun L' => by
        induction L' with
        | nil => exact fun _ => .nil
        | cons p r ih => exact fun h => .cons (hLr p (h p (List.mem_cons_self ..))) (ih fun x hx => h x (List.mem_cons_of_mem _ hx))
      exact this L' fun p hp => pm.mem_iff.mp hp
    exact q _ _ ρ1 ((s1.trans st2).trans (Step.new hS2 hp)) (hS2.new hp) (rv_lst hS2 hp rr)
  · cases e
section
variable {X : Cx} {e : Expr} {f : FE} {p p2 pos pos2 : Pos}
theorem jsrtSet (hc : X.calm = true) (hu : X.A.units + 64 < cLine) (hg : Gl X "sorted") (hm : X.mg "sorted" = none) (hg2 : Gl X "set") (hm2 : X.mg "set" = none) (he : JE X e f)
    (na2 : starEach [e] X.env = (false, eval e X.env) :: starEach [] X.env := by rfl) (na : starEach [Expr.Call (.Name "set" p) [e] [] pos] X.env = (false, eval (Expr.Call (.Name "set" p) [e] [] pos) X.env) :: starEach [] X.env := by rfl) :
    JE X (.Call (.Name "sorted" p2) [.Call (.Name "set" p) [e] [] pos] [] pos2) (srtSetO f) :=
  PE.imp (pe_callB (cr_sortedT hc) hg hm PyProof.Rows.boot_sorted (pa_cons (pe_callTy (cr_setOfT hc hu) hg2 hm2 PyProof.Rows.boot_set (pa_cons he pa_nil na2) (he := na2)) pa_nil na) (he := na)) le_srtSet
end
variable {S : Sg} {Q : D → Sg → Prop}
theorem w_srtSet {δ : Dl} {f : FE} (h : W (f δ S) fun d S1 => ∃ rows : List (List Int), lsOf S1 d = some (rows.map rowT) ∧ rows.length < 64 ∧ (∀ r ∈ rows, isPr BP r) ∧ Q (.lst (((nub rows).mergeSort rowLe).map rowT)) S1) : W (srtSetO f δ S) Q := by
  obtain ⟨d, S1, e, rows, h1, h2, h3, q⟩ := h
  refine ⟨_, _, ?_, q⟩
  unfold srtSetO
  rw [e, Option.bind_some]
  dsimp only
  rw [h1, Option.bind_some, rowsOf_map rows fun r hr z => by have := (h3 r hr).1; rw [z] at this; cases this]
  rw [Option.bind_some, if_pos ⟨h2, h3⟩]
end
end DL
end
noncomputable section
namespace DL
open PySem L2
/-! ### d.update(e) of two dicts -/
def rUpdate : V → List V → Hp → VK → Prop := fun x vs H Q => ∃ (l b : Addr) (xs zs : List (Key × V)), x = .ref l ∧ vs = [.ref b] ∧ l ≠ b ∧ H l = some (.dK xs) ∧ Rd H b (.dK zs) ∧ xs.length + zs.length ≤ sizeLine ∧ Q .non (upd H l (.dK (mergeK xs zs)))
theorem mt_update {X : Cx} : MtM X "dict.update" rUpdate := by
  intro pins s σ H x vs v us Q I rx rv h
  obtain ⟨l, b, xs, zs, rfl, rfl, hne, hH, hB, hz, q⟩ := h
  cases rx
  obtain ⟨u, rfl, ru⟩ := rv.one
  cases ru
  obtain ⟨z1, g1, ws, rel, dd⟩ := dk_of I.hok hH
  obtain ⟨z2, g2, ws2, rel2, dd2⟩ := dk_rd I.hok hB
  refine call_meetsIn PySem.F.slot_dict_update dd.typeIs PySem.F.entry_dict_update (PySem.F.args_dict_update_2 _ _) (meets_dict_update (mixKind X.prog X.w) l b hne g2) ⟨ws, ws2, dd, dd2, by rw [← rel.length, ← rel2.length]; exact hz, fun h' dd' _ hs => ?_⟩
  have he : ∃ q, h'.get? l = some q := let ⟨q, _, _, hq, _⟩ := dd'; ⟨q, hq⟩
  have hl : (mergeK xs zs).length ≤ sizeLine := Nat.le_trans (length_mergeK zs xs) hz
  exact ⟨.non, _, d_write I (by rw [hH]; exact True.intro) hs he (dk_new hl g1 (rel2.merge rel) dd'), rfl, q⟩
def isDct (S : Sg) (d : D) : Bool := (dsOf S d).isSome
section
variable {K : PySem.W.Frag}
theorem isDct_ty {H : Hp} {ρ : Ro} {S : Sg} {v : V} {d : D} (hS : SR K H ρ S) (r : RV K H ρ v d) (h : isDct S d = true) : tyV K "dict" v H := by
  unfold isDct at h
  cases e : dsOf S d with
  | none => rw [e] at h; cases h
  | some gs =>
    obtain ⟨a, kvs, rfl, h1, _⟩ := dsOf_rd hS r e
    exact .inr (.inr (.inl ⟨rfl, .inl ⟨_, h1⟩⟩))
def updO : OM := fun d ds S => match d, ds with
  | .loc n, [.loc m] => if n = m then none else match S[n]?, S[m]? with
    | some (.dct gs), some (.dct more) => if Fits (gs.length + more.length) then some (.non, S.set n (.dct (mergeG gs more))) else none
    | _, _ => none
  | _, _ => none
theorem mtD_update : MtD K "dict" rUpdate updO isDct := by
  refine ⟨fun _ _ _ _ _ hS r h => isDct_ty hS r h, ?_⟩
  intro x xs H Q ρ S d ds z S' hS rx rs eq q
  unfold updO at eq
  split at eq
  · rename_i n m
    cases rs with | @cons vy _ _ _ ry rn => ?_
    cases rn
    cases rx with | @loc a _ hn => ?_
    cases ry with | @loc b _ hm => ?_
    split at eq
    · cases eq
    · rename_i hne
      split at eq
      · rename_i gs more hg hg2
        split at eq
        · rename_i hfit
          cases eq
          obtain ⟨fs, h1, h2, h3⟩ := hS.ob _ _ _ hn hg
          obtain ⟨fs2, k1, k2, k3⟩ := hS.ob _ _ _ hm hg2
          have dr : DR K H ρ fs gs := ⟨h2, h3⟩
          have dr2 : DR K H ρ fs2 more := ⟨k2, k3⟩
          have hab : a ≠ b := fun e => by
            subst e
            have hi := List.getElem?_eq_some_iff.mp hn
            have hj := List.getElem?_eq_some_iff.mp hm
            obtain ⟨i1, i2⟩ := hi
            obtain ⟨j1, j2⟩ := hj
            exact hne ((List.getElem_inj hS.nd).mp (i2.trans j2.symm))
          have st : Step ρ ρ H (upd H a (.dK (mergeK fs fs2))) := Step.write hn h1
          have dp := (DR.merge dr2 dr).mono st
          refine ⟨a, b, fs, fs2, rfl, rfl, hab, h1, .inl k1, by rw [dr.len, dr2.len]; exact Nat.le_of_lt hfit.lt, ?_⟩
          exact q _ _ ρ st (hS.write hn ⟨_, h1⟩ ⟨_, upd_same, dp.ks, dp.vs⟩) .non
        · cases eq
      · cases eq
  · cases eq
end
theorem wl_update {A : Sg} {L : List Ob} {N k j : Nat} {gs more : List (Key × D)} {Q : D → Sg → Prop} (hl : A.length = N) (h : L[k]? = some (.dct gs)) (h2 : L[j]? = some (.dct more)) (hne : k ≠ j) (l : gs.length + more.length < 1000000) (q : Q .non (A ++ L.set k (.dct (mergeG gs more)))) : W (updO (.loc (N + k)) [.loc (N + j)] (A ++ L)) Q := by
  refine ⟨_, _, ?_, q⟩
  unfold updO
  dsimp only
  rw [if_neg (by omega), al_get hl, al_get hl, h, h2]
  dsimp only
  rw [if_pos ((fits_iff _).mpr l), al_set hl]
end DL
end
noncomputable section
namespace DL
open PySem L2
/-! ### enumerate over a zip of two lists: the zip's own pair is never given back -/
section
open AutoSeq1 (wpAny_loadPart')
abbrev ZE (h : Heap) (z TI TO : Addr) (f0 : Value) (b : Bool) : Prop :=
  h.get? z = some { cls := .type "zip", dict := none, data := .fields #[f0, .bool b, .bool false, .ref TI, .ref TO], slots := #[] }
abbrev OwnFree := Builtin.SmallTypes.ownedTupleIsFree
abbrev NxtOf := Builtin.SmallTypes.nextOf
abbrev HandOut := Builtin.SmallTypes.ownedTupleHandOut
section
variable {prog : Program} {w : World} {A : Around} {E : Value → Shared → Prop} {s : Shared} {z TI TO i1 i2 l1 l2 : Addr} {f0 : Value} {b : Bool} {k1 k2 : Nat} {xs ys : Array Value}
theorem ze_look {a : Addr} {Q : Option Obj → Shared → Prop} (h : Q (s.heap.get? a) s) : wpAny (model prog w) A (loadIfAlive a) Q E s := fun _ _ _ => h
theorem ze_dead {T : Addr} {Q : Bool → Shared → Prop} (hz : ZE s.heap z TI TO (rawInt T) b) (hT : s.heap.get? T = none) (h : Q true s) : wpAny (model prog w) A (OwnFree (.ref z)) Q E s := by
  unfold OwnFree Builtin.SmallTypes.ownedTupleIsFree
  refine wpAny_bind (wpAny_field hz rfl (x := rawInt T) rfl ?_)
  show wpAny _ _ ((loadIfAlive ((T : Int).toNat)) >>= _) _ _ _
  rw [Int.toNat_natCast]
  refine wpAny_bind (ze_look ?_)
  rw [hT]
  exact wpAny_pure h
theorem ze_none {Q : Bool → Shared → Prop} (hz : ZE s.heap z TI TO .none b) (h : Q true s) : wpAny (model prog w) A (OwnFree (.ref z)) Q E s := by
  unfold OwnFree Builtin.SmallTypes.ownedTupleIsFree
  refine wpAny_bind (wpAny_field hz rfl (x := .none) rfl ?_)
  exact wpAny_pure h
/-- an item, where the pair may be written over -/
theorem ze_item {x y c d : Value} {Q : Value → Shared → Prop} (D : ZipApart z TI TO i1 i2 l1 l2) (hz : ZE s.heap z TI TO f0 b) (fr : ∀ (E' : Value → Shared → Prop) (Q : Bool → Shared → Prop), Q true s → wpAny (model prog w) A (OwnFree (.ref z)) Q E' s)
    (hTI : IsPair s.heap TI (.ref i1) (.ref i2)) (hTO : IsPair s.heap TO c d) (h1 : s.heap.IsListIter i1 l1 k1) (h2 : s.heap.IsListIter i2 l2 k2) (g1 : s.heap.IsList l1 xs) (g2 : s.heap.IsList l2 ys) (hx : xs[k1]? = some x) (hy : ys[k2]? = some y)
    (q : ∀ h', ZE h' z TI TO (rawInt s.heap.objs.size) false → IsPair h' TO x y → h'.IsListIter i1 l1 (k1 + 1) → h'.IsListIter i2 l2 (k2 + 1) → IsPair h' s.heap.objs.size x y → h'.objs.size = s.heap.objs.size + 1 →
      (∀ a o, a ≠ z → a ≠ TO → a ≠ i1 → a ≠ i2 → s.heap.get? a = some o → h'.get? a = some o) → Q (.ref s.heap.objs.size) { s with heap := h' }) :
    wpAny (model prog w) A (Builtin.«zip.__next__» ⟨[.ref z], []⟩) (fun fin s' => ∃ v, fin = .done (.ret v) ∧ Q v s') E s := by
  show wpAny _ _ ((field (.ref z) 2) >>= _) _ _ _
  refine wpAny_bind (wpAny_field hz rfl (x := .bool false) rfl ?_)
  show wpAny _ _ ((field (.ref z) 3) >>= _) _ _ _
  refine wpAny_bind (wpAny_field hz rfl (x := .ref TI) rfl ?_)
  refine wpAny_bind (wpAny_seqItems hTI rfl ?_)
  show wpAny _ _ ((OwnFree (.ref z)) >>= _) _ _ _
  refine wpAny_bind (fr _ _ ?_)
  simp only [if_true]
  refine wpAny_bind (wpAny_rule ?_)
  refine wpAny_bind (wpAny_field hz rfl (x := .ref TO) rfl ?_)
  refine wpAny_bind (wpAny_setField_rec hz (by simp) fun h3 z3 e3 => ?_)
  replace z3 : ZE h3 z TI TO .ellipsis b := z3
  refine wpAny_bind ?_
  simp only [List.zipIdx_cons, List.zipIdx_nil, List.forIn_cons, List.forIn_nil]
  refine wpAny_bind (wpAny_bind (wpAny_onRaise ?_))
  show wpAny _ _ ((NxtOf (.ref i1)) >>= _) _ _ _
  refine wpAny_bind (wpAny_nextOf_list_item (h1.extBut e3.extBut D.i1z) (g1.extBut e3.extBut D.l1z) hx fun h4 j1 e4 => wpAny_pure ?_)
  have t4 : IsPair h4 TO c d := e4.extBut _ _ D.TOi1 (e3.extBut _ _ D.TOz hTO)
  refine wpAny_bind (wpAny_seqItems t4 rfl ?_)
  refine wpAny_bind (wpAny_updateSeq_pair t4 fun h5 t5 e5 => ?_)
  replace t5 : IsPair h5 TO x d := t5
  refine wpAny_bind (wpAny_letGo (wpAny_pure ?_))
  refine wpAny_bind (wpAny_bind (wpAny_onRaise ?_))
  show wpAny _ _ ((NxtOf (.ref i2)) >>= _) _ _ _
  have j2 := ((h2.extBut e3.extBut D.i2z).extBut e4.extBut D.i12.symm).extBut e5.extBut D.TOi2.symm
  have m2 := ((g2.extBut e3.extBut D.l2z).extBut e4.extBut D.l2i1).extBut e5.extBut D.l2TO
  refine wpAny_bind (wpAny_nextOf_list_item j2 m2 hy fun h6 j6 e6 => wpAny_pure ?_)
  have t6 : IsPair h6 TO x d := e6.extBut _ _ D.TOi2 t5
  refine wpAny_bind (wpAny_seqItems t6 rfl ?_)
  refine wpAny_bind (wpAny_updateSeq_pair t6 fun h7 t7 e7 => ?_)
  replace t7 : IsPair h7 TO x y := t7
  refine wpAny_bind (wpAny_letGo (wpAny_pure (wpAny_pure ?_)))
  refine wpAny_bind (wpAny_seqItems t7 rfl ?_)
  refine wpAny_bind (wpAny_newTuple ?_)
  have sz : h7.objs.size = s.heap.objs.size := by rw [e7.1, e6.1, e5.1, e4.1, e3.1]
  have z7 : ZE h7 z TI TO .ellipsis b := e7.extBut _ _ (Ne.symm D.TOz) (e6.extBut _ _ (Ne.symm D.i2z) (e5.extBut _ _ (Ne.symm D.TOz) (e4.extBut _ _ (Ne.symm D.i1z) z3)))
  have kp : ∀ a o, a ≠ z → a ≠ TO → a ≠ i1 → a ≠ i2 → s.heap.get? a = some o → h7.get? a = some o := fun a o n1 n2 n3 n4 r => e7.extBut _ _ n2 (e6.extBut _ _ n4 (e5.extBut _ _ n2 (e4.extBut _ _ n3 (e3.extBut _ _ n1 r))))
  have u1 : h7.IsListIter i1 l1 (k1 + 1) := ((j1.extBut e5.extBut (Ne.symm D.TOi1)).extBut e6.extBut D.i12).extBut e7.extBut (Ne.symm D.TOi1)
  have u2 : h7.IsListIter i2 l2 (k2 + 1) := j6.extBut e7.extBut (Ne.symm D.TOi2)
  have zl : z < h7.objs.size := Heap.lt_size z7
  show wpAny _ _ ((HandOut (.ref z) (.ref h7.objs.size)) >>= _) _ _ _
  refine wpAny_bind ?_
  unfold HandOut Builtin.SmallTypes.ownedTupleHandOut
  have z8 : ZE (h7.push { cls := .type "tuple", data := .seq #[x, y] }) z TI TO .ellipsis b := Heap.get?_push_of_some _ z7
  refine wpAny_bind (wpAny_setField_rec z8 (by simp) fun h9 z9 e9 => ?_)
  replace z9 : ZE h9 z TI TO (rawInt h7.objs.size) b := z9
  refine wpAny_setField_rec z9 (by simp) fun hA zA eA => ?_
  replace zA : ZE hA z TI TO (rawInt h7.objs.size) false := zA
  have up : ∀ a o, a ≠ z → h7.get? a = some o → hA.get? a = some o := fun a o n1 r => eA.extBut _ _ n1 (e9.extBut _ _ n1 (Heap.get?_push_of_some _ r))
  have tA : IsPair hA h7.objs.size x y := eA.extBut _ _ (Nat.ne_of_gt zl) (e9.extBut _ _ (Nat.ne_of_gt zl) (Heap.get?_push_size _ rfl))
  have sA : hA.objs.size = h7.objs.size + 1 := by rw [eA.1, e9.1, Heap.size_push]
  rw [sz] at zA tA sA
  refine wpAny_pure ⟨_, rfl, ?_⟩
  show Q (.ref h7.objs.size) _
  rw [sz]
  exact q hA zA (up _ _ D.TOz t7) (u1.at fun o r => up _ o D.i1z r) (u2.at fun o r => up _ o D.i2z r) tA sA fun a o n1 n2 n3 n4 r => up a o n1 (kp a o n1 n2 n3 n4 r)
theorem ze_end {c d : Value} {Q : Fin → Shared → Prop} (hh : A.handled = none) (D : ZipApart z TI TO i1 i2 l1 l2) (hz : ZE s.heap z TI TO f0 b) (fr : ∀ (E' : Value → Shared → Prop) (Q : Bool → Shared → Prop), Q true s → wpAny (model prog w) A (OwnFree (.ref z)) Q E' s)
    (hTI : IsPair s.heap TI (.ref i1) (.ref i2)) (hTO : IsPair s.heap TO c d) (h1 : s.heap.IsListIter i1 l1 k1) (h2 : s.heap.IsListIter i2 l2 k2) (g1 : s.heap.IsList l1 xs) (g2 : s.heap.IsList l2 ys) (en : xs[k1]? = none ∨ ys[k2]? = none)
    (q : ∀ h' e, (∀ a o, a ≠ z → a ≠ TO → a ≠ i1 → a ≠ i2 → s.heap.get? a = some o → h'.get? a = some o) → (∃ o, h'.get? e = some o ∧ o.cls = .type "StopIteration") → E (.ref e) { s with heap := h' }) :
    wpAny (model prog w) A (Builtin.«zip.__next__» ⟨[.ref z], []⟩) Q E s := by
  show wpAny _ _ ((field (.ref z) 2) >>= _) _ _ _
  refine wpAny_bind (wpAny_field hz rfl (x := .bool false) rfl ?_)
  show wpAny _ _ ((field (.ref z) 3) >>= _) _ _ _
  refine wpAny_bind (wpAny_field hz rfl (x := .ref TI) rfl ?_)
  refine wpAny_bind (wpAny_seqItems hTI rfl ?_)
  show wpAny _ _ ((OwnFree (.ref z)) >>= _) _ _ _
  refine wpAny_bind (fr _ _ ?_)
  simp only [if_true]
  refine wpAny_bind (wpAny_rule ?_)
  refine wpAny_bind (wpAny_field hz rfl (x := .ref TO) rfl ?_)
  refine wpAny_bind (wpAny_setField_rec hz (by simp) fun h3 z3 e3 => ?_)
  replace z3 : ZE h3 z TI TO .ellipsis b := z3
  refine wpAny_bind ?_
  simp only [List.zipIdx_cons, List.zipIdx_nil, List.forIn_cons, List.forIn_nil]
  refine wpAny_bind (wpAny_bind (wpAny_onRaise ?_))
  show wpAny _ _ ((NxtOf (.ref i1)) >>= _) _ _ _
  have hne : ∀ {h' : Heap} {e : Addr} {oe : Obj}, ZE h' z TI TO .ellipsis b → h'.get? e = some oe → oe.cls = .type "StopIteration" → e ≠ z := fun z' oo oc r => by
    subst r
    rw [z'] at oo
    cases oo
    simp at oc
  cases hx : xs[k1]? with
  | none =>
    refine wpAny_bind (wpAny_nextOf_list_end hh (h1.extBut e3.extBut D.i1z) (g1.extBut e3.extBut D.l1z) hx fun h4 e e4 ho => ?_)
    obtain ⟨oe, oo, oc⟩ := ho
    have z4 : ZE h4 z TI TO .ellipsis b := e4 _ _ (Ne.symm D.i1z) z3
    refine wpAny_setField_rec z4 (by simp) fun h5 _ e5 => ?_
    exact q h5 e (fun a o n1 _ n3 _ r => e5.extBut _ _ n1 (e4 _ _ n3 (e3.extBut _ _ n1 r))) ⟨oe, e5.extBut _ _ (hne z4 oo oc) oo, oc⟩
  | some x =>
    have hy : ys[k2]? = none := en.resolve_left (fun r => by rw [hx] at r; cases r)
    refine wpAny_bind (wpAny_nextOf_list_item (h1.extBut e3.extBut D.i1z) (g1.extBut e3.extBut D.l1z) hx fun h4 j1 e4 => wpAny_pure ?_)
    have t4 : IsPair h4 TO c d := e4.extBut _ _ D.TOi1 (e3.extBut _ _ D.TOz hTO)
    refine wpAny_bind (wpAny_seqItems t4 rfl ?_)
    refine wpAny_bind (wpAny_updateSeq_pair t4 fun h5 t5 e5 => ?_)
    refine wpAny_bind (wpAny_letGo (wpAny_pure ?_))
    refine wpAny_bind (wpAny_bind (wpAny_onRaise ?_))
    show wpAny _ _ ((NxtOf (.ref i2)) >>= _) _ _ _
    have j2 := ((h2.extBut e3.extBut D.i2z).extBut e4.extBut D.i12.symm).extBut e5.extBut D.TOi2.symm
    have m2 := ((g2.extBut e3.extBut D.l2z).extBut e4.extBut D.l2i1).extBut e5.extBut D.l2TO
    refine wpAny_bind (wpAny_nextOf_list_end hh j2 m2 hy fun h6 e e6 ho => ?_)
    obtain ⟨oe, oo, oc⟩ := ho
    have z6 : ZE h6 z TI TO .ellipsis b := e6 _ _ (Ne.symm D.i2z) (e5.extBut _ _ (Ne.symm D.TOz) (e4.extBut _ _ (Ne.symm D.i1z) z3))
    refine wpAny_setField_rec z6 (by simp) fun h7 _ e7 => ?_
    exact q h7 e (fun a o n1 n2 n3 n4 r => e7.extBut _ _ n1 (e6 _ _ n4 (e5.extBut _ _ n2 (e4.extBut _ _ n3 (e3.extBut _ _ n1 r))))) ⟨oe, e7.extBut _ _ (hne z6 oo oc) oo, oc⟩
/-- the zip at turn i -/
structure ZS (h : Heap) (z TI TO i1 i2 l1 l2 : Addr) (i : Nat) : Prop where
  cell : ∃ (f0 : Value) (b : Bool), ZE h z TI TO f0 b ∧ ((f0 = .none ∧ b = false) ∨ ∃ T : Addr, f0 = rawInt T)
  ti : IsPair h TI (.ref i1) (.ref i2)
  to : ∃ c d, IsPair h TO c d
  a1 : h.IsListIter i1 l1 i
  a2 : h.IsListIter i2 l2 i
theorem ZS.keep {h h' : Heap} {i : Nat} (Z : ZS h z TI TO i1 i2 l1 l2 i) (k : ∀ a, (a = z ∨ a = TI ∨ a = TO ∨ a = i1 ∨ a = i2) → ∀ o, h.get? a = some o → h'.get? a = some o) : ZS h' z TI TO i1 i2 l1 l2 i := by
  obtain ⟨f0, b, hz, hf⟩ := Z.cell
  obtain ⟨c, d, hto⟩ := Z.to
  exact ⟨⟨f0, b, k z (.inl rfl) _ hz, hf⟩, k TI (.inr (.inl rfl)) _ Z.ti, ⟨c, d, k TO (.inr (.inr (.inl rfl))) _ hto⟩, Z.a1.at fun o r => k i1 (.inr (.inr (.inr (.inl rfl)))) o r, Z.a2.at fun o r => k i2 (.inr (.inr (.inr (.inr rfl)))) o r⟩
theorem ZS.type {h : Heap} {i : Nat} {s : Shared} (Z : ZS s.heap z TI TO i1 i2 l1 l2 i) : s.TypeIs (.ref z) "zip" := by
  obtain ⟨f0, b, hz, _⟩ := Z.cell
  exact ⟨_, hz, rfl⟩
theorem zs_item {i : Nat} {x y : Value} {Q : Value → Shared → Prop} (D : ZipApart z TI TO i1 i2 l1 l2) (Z : ZS s.heap z TI TO i1 i2 l1 l2 i) (g1 : s.heap.IsList l1 xs) (g2 : s.heap.IsList l2 ys) (hx : xs[i]? = some x) (hy : ys[i]? = some y)
    (q : ∀ h', ZS h' z TI TO i1 i2 l1 l2 (i + 1) → IsPair h' s.heap.objs.size x y → h'.objs.size = s.heap.objs.size + 1 → (∀ a o, a ≠ z → a ≠ TO → a ≠ i1 → a ≠ i2 → s.heap.get? a = some o → h'.get? a = some o) → Q (.ref s.heap.objs.size) { s with heap := h' }) :
    wpAny (model prog w) A (Builtin.«zip.__next__» ⟨[.ref z], []⟩) (fun fin s' => ∃ v, fin = .done (.ret v) ∧ Q v s') E s := by
  obtain ⟨f0, b, hz, hf⟩ := Z.cell
  obtain ⟨c, d, hto⟩ := Z.to
  have big : ∀ a, a = z ∨ a = TI ∨ a = TO ∨ a = i1 ∨ a = i2 → True := fun _ _ => trivial
  have gen : (∀ (E' : Value → Shared → Prop) (Q : Bool → Shared → Prop), Q true s → wpAny (model prog w) A (OwnFree (.ref z)) Q E' s) → wpAny (model prog w) A (Builtin.«zip.__next__» ⟨[.ref z], []⟩) (fun fin s' => ∃ v, fin = .done (.ret v) ∧ Q v s') E s := fun fr =>
    ze_item D hz fr Z.ti hto Z.a1 Z.a2 g1 g2 hx hy fun h' z' t' j1 j2 pT sz k => q h' ⟨⟨_, _, z', .inr ⟨_, rfl⟩⟩, k TI _ D.TIz D.TITO D.TIi1 D.TIi2 Z.ti, ⟨_, _, t'⟩, j1, j2⟩ pT sz k
  rcases hf with ⟨rfl, rfl⟩ | ⟨T, rfl⟩
  · exact gen fun E' Q' h => ze_none hz h
  · cases hT : s.heap.get? T with
    | none => exact gen fun E' Q' h => ze_dead hz hT h
    | some oT =>
      refine zip_next_item_held D hz hT Z.ti Z.a1 Z.a2 g1 g2 hx hy fun h' z' j1 j2 pT sz k => ?_
      exact q h' ⟨⟨_, _, z', .inr ⟨T, rfl⟩⟩, k TI _ D.TIz D.TIi1 D.TIi2 Z.ti, ⟨c, d, k TO _ D.TOz D.TOi1 D.TOi2 hto⟩, j1, j2⟩ pT sz fun a o n1 n2 n3 n4 r => k a o n1 n3 n4 r
theorem zs_end {i : Nat} {Q : Fin → Shared → Prop} (hh : A.handled = none) (D : ZipApart z TI TO i1 i2 l1 l2) (Z : ZS s.heap z TI TO i1 i2 l1 l2 i) (g1 : s.heap.IsList l1 xs) (g2 : s.heap.IsList l2 ys) (en : xs[i]? = none ∨ ys[i]? = none)
    (q : ∀ h' e, (∀ a o, a ≠ z → a ≠ TO → a ≠ i1 → a ≠ i2 → s.heap.get? a = some o → h'.get? a = some o) → (∃ o, h'.get? e = some o ∧ o.cls = .type "StopIteration") → E (.ref e) { s with heap := h' }) :
    wpAny (model prog w) A (Builtin.«zip.__next__» ⟨[.ref z], []⟩) Q E s := by
  obtain ⟨f0, b, hz, hf⟩ := Z.cell
  obtain ⟨c, d, hto⟩ := Z.to
  have gen : (∀ (E' : Value → Shared → Prop) (Q : Bool → Shared → Prop), Q true s → wpAny (model prog w) A (OwnFree (.ref z)) Q E' s) → wpAny (model prog w) A (Builtin.«zip.__next__» ⟨[.ref z], []⟩) Q E s := fun fr => ze_end hh D hz fr Z.ti hto Z.a1 Z.a2 g1 g2 en q
  rcases hf with ⟨rfl, rfl⟩ | ⟨T, rfl⟩
  · exact gen fun E' Q' h => ze_none hz h
  · cases hT : s.heap.get? T with
    | none => exact gen fun E' Q' h => ze_dead hz hT h
    | some oT => exact zip_next_end_held hh D hz hT Z.ti Z.a1 Z.a2 g1 g2 en fun h' e k he => q h' e (fun a o n1 n2 n3 n4 r => k a o n1 n3 n4 r) he
theorem zn_item {i : Nat} {x y : Value} {Q : Value → Shared → Prop} (D : ZipApart z TI TO i1 i2 l1 l2) (Z : ZS s.heap z TI TO i1 i2 l1 l2 i) (g1 : s.heap.IsList l1 xs) (g2 : s.heap.IsList l2 ys) (hx : xs[i]? = some x) (hy : ys[i]? = some y)
    (q : ∀ h', ZS h' z TI TO i1 i2 l1 l2 (i + 1) → IsPair h' s.heap.objs.size x y → h'.objs.size = s.heap.objs.size + 1 → (∀ a o, a ≠ z → a ≠ TO → a ≠ i1 → a ≠ i2 → s.heap.get? a = some o → h'.get? a = some o) → Q (.ref s.heap.objs.size) { s with heap := h' }) :
    wpAny (model prog w) A (NxtOf (.ref z)) Q E s := by
  have ty := Z.type (h := s.heap)
  unfold NxtOf Builtin.SmallTypes.nextOf
  refine wpAny_bind (wpAny_callSpecial?_slot (name := Str.ofString "__next__") ty F.slot_zip_next (wpAny_call_entry F.slot_zip_next ty F.entry_zip_next ?_ (F.args_zip_next_1 _)))
  exact zs_item D Z g1 g2 hx hy fun h' a b c d => wpAny_pure (q h' a b c d)
theorem zn_end {i : Nat} {Q : Value → Shared → Prop} (hh : A.handled = none) (D : ZipApart z TI TO i1 i2 l1 l2) (Z : ZS s.heap z TI TO i1 i2 l1 l2 i) (g1 : s.heap.IsList l1 xs) (g2 : s.heap.IsList l2 ys) (en : xs[i]? = none ∨ ys[i]? = none)
    (q : ∀ h' e, (∀ a o, a ≠ z → a ≠ TO → a ≠ i1 → a ≠ i2 → s.heap.get? a = some o → h'.get? a = some o) → (∃ o, h'.get? e = some o ∧ o.cls = .type "StopIteration") → E (.ref e) { s with heap := h' }) :
    wpAny (model prog w) A (NxtOf (.ref z)) Q E s := by
  have ty := Z.type (h := s.heap)
  unfold NxtOf Builtin.SmallTypes.nextOf
  refine wpAny_bind (wpAny_callSpecial?_slot (name := Str.ofString "__next__") ty F.slot_zip_next (wpAny_call_entry F.slot_zip_next ty F.entry_zip_next ?_ (F.args_zip_next_1 _)))
  exact zs_end hh D Z g1 g2 en q
/-- enumerate's item over such a zip: its own pair of a number and the zip's pair -/
theorem en_item {e : Addr} {i : Nat} {x y old : Value} {Q : Value → Shared → Prop} (D : ZipApart z TI TO i1 i2 l1 l2) (ne : e ≠ z ∧ e ≠ TI ∧ e ≠ TO ∧ e ≠ i1 ∧ e ≠ i2) (he : IsEnum s.heap e z ((i : Nat) : Int) old) (Z : ZS s.heap z TI TO i1 i2 l1 l2 i)
    (g1 : s.heap.IsList l1 xs) (g2 : s.heap.IsList l2 ys) (hx : xs[i]? = some x) (hy : ys[i]? = some y)
    (q : ∀ h1 h' tk, IsPair h1 s.heap.objs.size x y → h1.objs.size = s.heap.objs.size + 1 → (∀ a o, a ≠ z → a ≠ TO → a ≠ i1 → a ≠ i2 → s.heap.get? a = some o → h1.get? a = some o) → IsEnumOut h' e z (((i : Nat) : Int) + 1) (.ref s.heap.objs.size) (s.heap.objs.size + 1) → ZS h' z TI TO i1 i2 l1 l2 (i + 1) →
      h'.get? (s.heap.objs.size + 1) = some { cls := .type "tuple", data := .seq #[.int ((i : Nat) : Int) tk, .ref s.heap.objs.size] } → (∀ a o, a ≠ e → h1.get? a = some o → h'.get? a = some o) → Q (.ref (s.heap.objs.size + 1)) { s with heap := h', toks := tk + 1 }) :
    wpAny (model prog w) A (Builtin.«enumerate.__next__» ⟨[.ref e], []⟩) (fun fin s' => ∃ v, fin = .done (.ret v) ∧ Q v s') E s := by
  obtain ⟨hp, gn, dr, t0, os⟩ := s
  show wpAny _ _ ((field (.ref e) 2) >>= _) _ _ _
  refine wpAny_bind (wpAny_field he rfl (x := .ref z) rfl ?_)
  refine wpAny_bind (zn_item D Z g1 g2 hx hy fun h1 Z1 p1 s1 k1 => ?_)
  have he1 : IsEnum h1 e z ((i : Nat) : Int) old := k1 e _ ne.1 ne.2.2.1 ne.2.2.2.1 ne.2.2.2.2 he
  show wpAny _ _ ((field (.ref e) 3) >>= _) _ _ ⟨h1, gn, dr, t0, os⟩
  refine wpAny_bind (wpAny_field he1 rfl (x := rawInt ((i : Nat) : Int)) rfl ?_)
  show wpAny _ _ ((field (.ref e) 4) >>= _) _ _ ⟨h1, gn, dr, t0, os⟩
  refine wpAny_bind (wpAny_field he1 rfl (x := .none) rfl ?_)
  show wpAny _ _ ((mkInt ((i : Nat) : Int)) >>= _) _ _ ⟨h1, gn, dr, t0, os⟩
  refine wpAny_bind (wpAny_mkInt ?_)
  show wpAny _ _ ((setField (.ref e) 3 (rawInt (((i : Nat) : Int) + 1))) >>= _) _ _ ⟨h1, gn, dr, t0 + 1, os⟩
  refine wpAny_bind (wpAny_setField_rec he1 (by simp) fun h2 he2 e2 => ?_)
  replace e2 : Heap.SameBut e h1 h2 := e2
  replace he2 : IsEnum h2 e z (((i : Nat) : Int) + 1) old := he2
  show wpAny _ _ ((setField (.ref e) 4 .none) >>= _) _ _ ⟨h2, gn, dr, t0 + 1, os⟩
  refine wpAny_bind (wpAny_setField_rec he2 (by simp) fun h3 he3 e3 => ?_)
  replace e3 : Heap.SameBut e h2 h3 := e3
  replace he3 : IsEnum h3 e z (((i : Nat) : Int) + 1) old := he3
  show wpAny _ _ ((newTuple [.int ((i : Nat) : Int) t0, .ref hp.objs.size]) >>= _) _ _ ⟨h3, gn, dr, t0 + 1, os⟩
  refine wpAny_bind (wpAny_newTuple ?_)
  have s3 : h3.objs.size = hp.objs.size + 1 := by rw [e3.1, e2.1, s1]
  have he4 : IsEnum (h3.push { cls := .type "tuple", data := .seq #[.int ((i : Nat) : Int) t0, .ref hp.objs.size] }) e z (((i : Nat) : Int) + 1) old := Heap.get?_push_of_some _ he3
  generalize e4 : h3.push { cls := .type "tuple", data := .seq #[.int ((i : Nat) : Int) t0, .ref hp.objs.size] } = h4 at he4
  have t4 : h4.get? (hp.objs.size + 1) = some { cls := .type "tuple", data := .seq #[.int ((i : Nat) : Int) t0, .ref hp.objs.size] } := by
    rw [← e4, ← s3]
    exact Heap.get?_push_size _ rfl
  have el : e < hp.objs.size := Heap.lt_size he
  have k4 : ∀ a o, a ≠ e → h1.get? a = some o → h4.get? a = some o := fun a o n r => by
    rw [← e4]
    exact Heap.get?_push_of_some _ (e3.extBut a o n (e2.extBut a o n r))
  show wpAny _ _ ((OwnFree (.ref e)) >>= _) _ _ ⟨h4, gn, dr, t0 + 1, os⟩
  rw [s3]
  refine wpAny_bind ?_
  unfold OwnFree Builtin.SmallTypes.ownedTupleIsFree
  refine wpAny_bind (wpAny_field he4 rfl (x := .none) rfl (wpAny_pure ?_))
  simp only [if_true]
  refine wpAny_bind (wpAny_rule ?_)
  refine wpAny_bind (wpAny_field he4 rfl (x := old) rfl ?_)
  refine wpAny_bind (wpAny_setField_rec he4 (by simp) fun h5 he5 e5 => ?_)
  replace e5 : Heap.SameBut e h4 h5 := e5
  replace he5 : IsEnum h5 e z (((i : Nat) : Int) + 1) (.ref hp.objs.size) := he5
  show wpAny _ _ ((HandOut (.ref e) (.ref (hp.objs.size + 1))) >>= _) _ _ ⟨h5, gn, dr, t0 + 1, os⟩
  refine wpAny_bind ?_
  unfold HandOut Builtin.SmallTypes.ownedTupleHandOut
  refine wpAny_bind (wpAny_setField_rec he5 (by simp) fun h6 he6 e6 => ?_)
  replace e6 : Heap.SameBut e h5 h6 := e6
  replace he6 : IsEnumOut h6 e z (((i : Nat) : Int) + 1) (.ref hp.objs.size) (hp.objs.size + 1) := he6
  refine wpAny_setField_rec he6 (by simp) fun h7 he7 e7 => ?_
  replace e7 : Heap.SameBut e h6 h7 := e7
  replace he7 : IsEnumOut h7 e z (((i : Nat) : Int) + 1) (.ref hp.objs.size) (hp.objs.size + 1) := he7
  have k7 : ∀ a o, a ≠ e → h4.get? a = some o → h7.get? a = some o := fun a o n r => e7.extBut a o n (e6.extBut a o n (e5.extBut a o n r))
  refine wpAny_bind (wpAny_letGo (wpAny_pure ⟨_, rfl, q h1 h7 t0 p1 s1 k1 he7 ?_ ?_ fun a o n r => k7 a o n (k4 a o n r)⟩))
  · refine Z1.keep fun a ha o r => k7 a o ?_ (k4 a o ?_ r)
    all_goals
      rcases ha with rfl | rfl | rfl | rfl | rfl
      · exact Ne.symm ne.1
      · exact Ne.symm ne.2.1
      · exact Ne.symm ne.2.2.1
      · exact Ne.symm ne.2.2.2.1
      · exact Ne.symm ne.2.2.2.2
  · exact k7 _ _ (Nat.ne_of_gt (Nat.lt_succ_of_lt el)) t4
theorem pn_item {e : Addr} {i : Nat} {x y old : Value} {Q : Option Value → Shared → Prop} (D : ZipApart z TI TO i1 i2 l1 l2) (ne : e ≠ z ∧ e ≠ TI ∧ e ≠ TO ∧ e ≠ i1 ∧ e ≠ i2) (he : IsEnum s.heap e z ((i : Nat) : Int) old) (Z : ZS s.heap z TI TO i1 i2 l1 l2 i)
    (g1 : s.heap.IsList l1 xs) (g2 : s.heap.IsList l2 ys) (hx : xs[i]? = some x) (hy : ys[i]? = some y)
    (q : ∀ h1 h' tk, IsPair h1 s.heap.objs.size x y → h1.objs.size = s.heap.objs.size + 1 → (∀ a o, a ≠ z → a ≠ TO → a ≠ i1 → a ≠ i2 → s.heap.get? a = some o → h1.get? a = some o) → IsEnumOut h' e z (((i : Nat) : Int) + 1) (.ref s.heap.objs.size) (s.heap.objs.size + 1) → ZS h' z TI TO i1 i2 l1 l2 (i + 1) →
      h'.get? (s.heap.objs.size + 1) = some { cls := .type "tuple", data := .seq #[.int ((i : Nat) : Int) tk, .ref s.heap.objs.size] } → (∀ a o, a ≠ e → h1.get? a = some o → h'.get? a = some o) → Q (some (.ref (s.heap.objs.size + 1))) { s with heap := h', toks := tk + 1 }) :
    wpAny (model prog w) A (pyNext (.ref e)) Q E s := by
  have ty : s.TypeIs (.ref e) "enumerate" := ⟨_, he, rfl⟩
  unfold pyNext
  refine wpAny_bind (wpAny_attempt (wpAny_callSpecial?_slot (name := Str.ofString "__next__") ty F.slot_enumerate_next (wpAny_call_entry F.slot_enumerate_next ty F.entry_enumerate_next ?_ (F.args_enumerate_next_1 _))))
  exact en_item D ne he Z g1 g2 hx hy fun h1 h' tk a b c d e f k => wpAny_pure (q h1 h' tk a b c d e f k)
theorem pn_end {e : Addr} {i : Nat} {old : Value} {Q : Option Value → Shared → Prop} (hh : A.handled = none) (D : ZipApart z TI TO i1 i2 l1 l2) (he : IsEnum s.heap e z ((i : Nat) : Int) old) (Z : ZS s.heap z TI TO i1 i2 l1 l2 i)
    (g1 : s.heap.IsList l1 xs) (g2 : s.heap.IsList l2 ys) (en : xs[i]? = none ∨ ys[i]? = none)
    (q : ∀ h', (∀ a o, a ≠ z → a ≠ TO → a ≠ i1 → a ≠ i2 → s.heap.get? a = some o → h'.get? a = some o) → Q none { s with heap := h' }) : wpAny (model prog w) A (pyNext (.ref e)) Q E s := by
  have ty : s.TypeIs (.ref e) "enumerate" := ⟨_, he, rfl⟩
  unfold pyNext
  refine wpAny_bind (wpAny_attempt (wpAny_callSpecial?_slot (name := Str.ofString "__next__") ty F.slot_enumerate_next (wpAny_call_entry F.slot_enumerate_next ty F.entry_enumerate_next ?_ (F.args_enumerate_next_1 _))))
  show wpAny _ _ ((field (.ref e) 2) >>= _) _ _ _
  refine wpAny_bind (wpAny_field he rfl (x := .ref z) rfl ?_)
  refine wpAny_bind (zn_end hh D Z g1 g2 en fun h' x k ho => ?_)
  obtain ⟨o, oo, oc⟩ := ho
  refine wpAny_bind (wpAny_isInstance (T := "StopIteration") (b := true) ⟨o, oo, oc⟩ isSubtype_stop ?_)
  exact wpAny_pure (q _ k)
end
/-- a number, and the pair of both lists' items -/
def IteZ (K : PySem.W.Frag) (a b : Addr) : It :=
  ⟨fun i H => ∃ (xs ys : List V) (x y : V), SqL K H a xs ∧ SqL K H b ys ∧ xs[i]? = some x ∧ ys[i]? = some y,
    fun i H v H' => ∃ T U x y, v = .ref U ∧ H T = none ∧ upd H T (.tup [x, y]) U = none ∧ H' = upd (upd H T (.tup [x, y])) U (.tup [.int (i : Nat), .ref T]) ∧ (∀ xs, SqL K H a xs → xs[i]? = some x) ∧ ∀ ys, SqL K H b ys → ys[i]? = some y,
    fun i H => ∃ xs ys : List V, SqL K H a xs ∧ SqL K H b ys ∧ (xs.length ≤ i ∨ ys.length ≤ i)⟩
theorem turn_enumZ {P : Program} {w : World} {K : PySem.W.Frag} {elts : List Expr} {kk : Nat} {tpos : Pos} {a b e z TI TO i1 i2 : Addr} (D : ZipApart z TI TO i1 i2 a b) (ne : e ≠ z ∧ e ≠ TI ∧ e ≠ TO ∧ e ≠ i1 ∧ e ≠ i2) :
    Turn P w K (.Tuple elts kk tpos) (IteZ K a b) [e, z, TI, TO, i1, i2] e (fun i h => (∃ old, IsEnum h e z ((i : Nat) : Int) old) ∧ ZS h z TI TO i1 i2 a b i) where
  mem := by simp
  obj := fun i h st c hc => by
    obtain ⟨⟨old, he⟩, Z⟩ := st
    obtain ⟨f0, b, hz, _⟩ := Z.cell
    obtain ⟨c', d', hto⟩ := Z.to
    obtain ⟨o1, e1, _, d1⟩ := Z.a1
    obtain ⟨o2, e2, _, d2⟩ := Z.a2
    have e' : c = e ∨ c = z ∨ c = TI ∨ c = TO ∨ c = i1 ∨ c = i2 := by simpa using hc
    rcases e' with r | r | r | r | r | r
    · rw [r]; exact ⟨_, he, fun v q => nomatch q⟩
    · rw [r]; exact ⟨_, hz, fun v q => nomatch q⟩
    · rw [r]; exact ⟨_, Z.ti, fun v q => nomatch q⟩
    · rw [r]; exact ⟨_, hto, fun v q => nomatch q⟩
    · rw [r]; exact ⟨o1, e1, fun v q => by rw [d1] at q; cases q⟩
    · rw [r]; exact ⟨o2, e2, fun v q => by rw [d2] at q; cases q⟩
  keep := fun i h h' st k => by
    obtain ⟨⟨old, he⟩, Z⟩ := st
    exact ⟨⟨old, k e (by simp) _ he⟩, Z.keep fun a ha o r => k a (by rcases ha with rfl | rfl | rfl | rfl | rfl <;> simp) o r⟩
  item := by
    intro X hP hw hK hc i pins s σ H E I hf st hg
    subst hP hw hK
    obtain ⟨⟨old, he⟩, Z⟩ := st
    obtain ⟨xs, ys, x, y, hqx, hqy, hx, hy⟩ := hg
    obtain ⟨its, rv, p, _⟩ := I.list hqx
    obtain ⟨its2, rv2, p2, _⟩ := I.list hqy
    obtain ⟨u, hu, ru⟩ := rv.get hx
    obtain ⟨u2, hu2, ru2⟩ := rv2.get hy
    have fl : ∀ c ∈ [e, z, TI, TO, i1, i2], c < s.heap.objs.size := fun c hcm => by
      obtain ⟨f0, b, hz, _⟩ := Z.cell
      obtain ⟨c', d', hto⟩ := Z.to
      obtain ⟨o1, e1, _⟩ := Z.a1
      obtain ⟨o2, e2, _⟩ := Z.a2
      have e' : c = e ∨ c = z ∨ c = TI ∨ c = TO ∨ c = i1 ∨ c = i2 := by simpa using hcm
      rcases e' with r | r | r | r | r | r
      · rw [r]; exact Heap.lt_size he
      · rw [r]; exact Heap.lt_size hz
      · rw [r]; exact Heap.lt_size Z.ti
      · rw [r]; exact Heap.lt_size hto
      · rw [r]; exact Heap.lt_size e1
      · rw [r]; exact Heap.lt_size e2
    have el : e < s.heap.objs.size := fl e (by simp)
    refine pn_item D ne he Z p.isList p2.isList (x := u) (y := u2) (by simpa using hu) (by simpa using hu2) fun h1 h' tk p1 s1 k1 ho Z' t' k2 => ?_
    refine ⟨_, rfl, wpAny_letOwnedTupleGo_enum (s := { s with heap := h', toks := tk + 1 }) ho fun h'' he'' sb => ?_⟩
    have new1 : ObjOk X.prog X.w (upd H s.heap.objs.size (.tup [x, y])) h1 s.heap.objs.size (.tup [x, y]) :=
      ⟨by show 2 ≤ sizeLine; decide, [u, u2], .cons ru (.cons ru2 .nil), ⟨_, p1, rfl, _, rfl⟩⟩
    have I1 : Inv X pins σ (upd H s.heap.objs.size (.tup [x, y])) { s with heap := h1 } :=
      I.turnedNew (t' := s.toks) (ch := [e, z, TI, TO, i1, i2]) (fun c o hb q => k1 c o (fun r => hb (by simp [r])) (fun r => hb (by simp [r])) (fun r => hb (by simp [r])) (fun r => hb (by simp [r])) q) hf (Nat.le_refl _) new1
    have ht2 : h''.get? (s.heap.objs.size + 1) = some { cls := .type "tuple", data := .seq #[.int ((i : Nat) : Int) tk, .ref s.heap.objs.size] } := (sb.2 _ (Nat.ne_of_gt (Nat.lt_succ_of_lt el))).trans t'
    have new2 : ObjOk X.prog X.w (upd (upd H s.heap.objs.size (.tup [x, y])) (s.heap.objs.size + 1) (.tup [.int (i : Nat), .ref s.heap.objs.size])) h'' (s.heap.objs.size + 1) (.tup [.int (i : Nat), .ref s.heap.objs.size]) :=
      ⟨by show 2 ≤ sizeLine; decide, [.int ((i : Nat) : Int) tk, .ref s.heap.objs.size], .cons ⟨_, rfl⟩ (.cons rfl .nil), ⟨_, ht2, rfl, _, rfl⟩⟩
    have fe : ∀ c ∈ [e], FpOk X pins (upd H s.heap.objs.size (.tup [x, y])) c := fun c hcm => by
      rw [List.mem_singleton.mp hcm]
      obtain ⟨q1, q2⟩ := hf e (by simp)
      exact ⟨by rw [upd_ne (Nat.ne_of_lt el)]; exact q1, q2⟩
    have I2 := I1.turnedNew (h' := h'') (t' := tk + 1) (ch := [e]) (T := s.heap.objs.size + 1) (fun c o hb q => (sb.2 c (fun r => hb (by simp [r]))).trans (k2 c o (fun r => hb (by simp [r])) q)) fe (Nat.le_of_eq s1) new2
    refine ⟨.ref (s.heap.objs.size + 1), _, I2, rfl, ⟨_, _, x, y, rfl, I.hok.fresh (Nat.le_refl _), I1.hok.fresh (Nat.le_of_eq s1), rfl, fun l hl => by rw [I.list_inj hl hqx]; exact hx, fun l hl => by rw [I.list_inj hl hqy]; exact hy⟩, ⟨⟨.ref s.heap.objs.size, ?_⟩, Z'.keep fun c hcm o r => (sb.2 c ?_).trans r⟩, fun c hcm => ?_⟩
    · rw [show ((i + 1 : Nat) : Int) = ((i : Nat) : Int) + 1 by omega]
      exact he''
    · rcases hcm with rfl | rfl | rfl | rfl | rfl
      · exact Ne.symm ne.1
      · exact Ne.symm ne.2.1
      · exact Ne.symm ne.2.2.1
      · exact Ne.symm ne.2.2.2.1
      · exact Ne.symm ne.2.2.2.2
    · have lt := fl c hcm
      rw [upd_ne (Nat.ne_of_lt (Nat.lt_succ_of_lt lt)), upd_ne (Nat.ne_of_lt lt)]
      exact (hf c hcm).1
  done := by
    intro X hP hw hK hc i pins s σ H E I hf st hg
    subst hP hw hK
    obtain ⟨⟨old, he⟩, Z⟩ := st
    obtain ⟨xs, ys, hqx, hqy, hend⟩ := hg
    obtain ⟨its, rv, p, _⟩ := I.list hqx
    obtain ⟨its2, rv2, p2, _⟩ := I.list hqy
    have l1 := rv.length
    have l2 := rv2.length
    have hn : its.toArray[i]? = none ∨ its2.toArray[i]? = none := by
      rcases hend with q | q
      · exact .inl (by simp; omega)
      · exact .inr (by simp; omega)
    refine pn_end (I.ok.hd hc) D he Z p.isList p2.isList hn fun h' k => ⟨rfl, ?_⟩
    exact I.turnedL (t' := s.toks) (ch := [e, z, TI, TO, i1, i2]) (fun c o hb q => k c o (fun r => hb (by simp [r])) (fun r => hb (by simp [r])) (fun r => hb (by simp [r])) (fun r => hb (by simp [r])) q) hf
  self := fun A i s Q E st h => let ⟨⟨_, he⟩, _⟩ := st; wpAny_pyIter_enum he h
/-! the call -/
theorem meets_enumerate_newZ (z TI TO : Addr) :
    Meets (Builtin.«enumerate.__new__» ⟨[.type "enumerate", .ref z], []⟩) (fun _ R s => IsZip s.heap z TI TO .none ∧
      R (.ok (.ret (.ref s.heap.objs.size))) { s with heap := s.heap.push { cls := .type "enumerate", data := .fields #[.none, .bool false, .ref z, rawInt 0, .none, .none] } }) :=
  .of_wp fun prog w A R s h => by
    obtain ⟨hp, g, d, tk, os⟩ := s; obtain ⟨hl, h⟩ := h
    have hsub := sub_enumerate
    have hZ : IsZip (Shared.heap ⟨hp, g, d, tk, os⟩) z TI TO .none := hl
    wp_walk using wpAny_loadPart' hl
    refine wpAny_stack_any fun st => wpAny_pure ?_
    split
    · rename_i c _ _ _ _ _
      cases (c == Value.type "enumerate")
      · wp_walk using wpAny_loadPart' hl, wpAny_pyIter_zip hZ
        exact ⟨_, rfl, h⟩
      · wp_walk using wpAny_loadPart' hl, wpAny_pyIter_zip hZ
        exact ⟨_, rfl, h⟩
    · wp_walk using wpAny_loadPart' hl, wpAny_pyIter_zip hZ
      exact ⟨_, rfl, h⟩
theorem call_enumerate_zip {prog : Program} {w : World} {A : Around} {E : Value → Shared → Prop} {s : Shared} {z TI TO : Addr} {Q : Value → Shared → Prop} (hZ : IsZip s.heap z TI TO .none)
    (h : ∀ h', IsEnum h' s.heap.objs.size z 0 .none → h'.objs.size = s.heap.objs.size + 1 → (∀ b o, s.heap.get? b = some o → h'.get? b = some o) → Q (.ref s.heap.objs.size) { s with heap := h' }) :
    wpAny (model prog w) A (call (.type "enumerate") [.ref z]) Q E s := by
  refine callType_new F.called_enumerate (by decide) (F.typeCall_enumerate_1 _) (F.newCall_enumerate_1 _) (fun obj => F.args_object_init_2 obj _) F.entry_enumerate_new (meets_enumerate_newZ z TI TO) ⟨hZ, ?_⟩
  have he : IsEnum (s.heap.push { cls := .type "enumerate", data := .fields #[.none, .bool false, .ref z, rawInt 0, .none, .none] }) s.heap.objs.size z 0 .none := Heap.get?_push_size _ rfl
  exact ⟨⟨_, he, rfl⟩, h _ he (Heap.size_push ..) fun b o x => Heap.get?_push_of_some _ x⟩
def iEnumZ (K : PySem.W.Frag) (ta : TA) : TI := fun σ H R => ta σ H fun vs H1 => ∃ a b xs ys, vs = [.ref a, .ref b] ∧ SqL K H1 a xs ∧ SqL K H1 b ys ∧ R (IteZ K a b) H1
theorem pi_enumZ {X : Cx} {e e2 : Expr} {ta : TA} {p p2 pos pos2 tpos : Pos} {elts : List Expr} {kk : Nat} (hg : Gl X "enumerate") (hm : X.mg "enumerate" = none) (hg2 : Gl X "zip") (hm2 : X.mg "zip" = none) (ha : PA X [e, e2] ta)
    (hs : starEach [e, e2] X.env = (false, eval e X.env) :: starEach [e2] X.env := by rfl) (hpl : (backTo pos2 (starEach [e2] X.env)).any (·.1) = false := by rfl) :
    PI X (.Tuple elts kk tpos) (.Call (.Name "enumerate" p) [.Call (.Name "zip" p2) [e, e2] [] pos2] [] pos) (iEnumZ X.K ta) := by
  refine ⟨fun pins s σ H R I h => ?_⟩
  refine PyProof.Rows.Call_ (ld_blt I hg hm PyProof.Rows.boot_enumerate ?_)
  refine PyProof.Rows.callWith_type1 (PyProof.Rows.args_cons ?_ rfl) rfl rfl
  refine PyProof.Rows.Call_ (ld_blt I hg2 hm2 PyProof.Rows.boot_zip ?_)
  refine PyProof.Rows.callWith_type1 (thn (ha.run pos2 pins s σ H _ I h) fun us s1 ⟨vs, H1, I1, r1, q1⟩ => ?_) hs hpl
  obtain ⟨a, b, xs, ys, ex, hqx, hqy, q⟩ := q1
  subst ex
  cases r1 with
  | cons r rr =>
    cases rr with
    | cons r' rr =>
      cases rr
      cases r
      cases r'
      obtain ⟨its, rv, p1, _⟩ := I1.list hqx
      obtain ⟨its2, rv2, p2, _⟩ := I1.list hqy
      have n0 : ∀ c, s1.heap.objs.size ≤ c → FpOk X pins H1 c := fun c hle => I1.fpOk hle (I1.hok.fresh hle)
      refine call_zip_2 p1.isList p2.isList fun h' hz hTI hTO h1 h2 hsz hk => PyProof.Rows.args_nil ?_
      have I2 : L2.Inv X pins σ H1 { s1 with heap := h' } := I1.kept (t' := s1.toks) hk
      refine call_enumerate_zip (s := { s1 with heap := h' }) hz fun h'' he hsz2 hk2 => wpAny_pyIter_enum he ?_
      have I3 : L2.Inv X pins σ H1 { s1 with heap := h'' } := I2.kept (t' := s1.toks) hk2
      have es : h'.objs.size = s1.heap.objs.size + 5 := hsz
      have he' : IsEnum h'' (s1.heap.objs.size + 5) (s1.heap.objs.size + 4) 0 .none := by rw [← es]; exact he
      have fresh : ∀ c ∈ [s1.heap.objs.size + 5, s1.heap.objs.size + 4, s1.heap.objs.size + 2, s1.heap.objs.size + 3, s1.heap.objs.size, s1.heap.objs.size + 1], FpOk X pins H1 c := fun c hcm => by
        have e' : c = s1.heap.objs.size + 5 ∨ c = s1.heap.objs.size + 4 ∨ c = s1.heap.objs.size + 2 ∨ c = s1.heap.objs.size + 3 ∨ c = s1.heap.objs.size ∨ c = s1.heap.objs.size + 1 := by simpa using hcm
        refine n0 c ?_
        rcases e' with r | r | r | r | r | r
        · rw [r]; exact Nat.le_add_right _ _
        · rw [r]; exact Nat.le_add_right _ _
        · rw [r]; exact Nat.le_add_right _ _
        · rw [r]; exact Nat.le_add_right _ _
        · rw [r]; exact Nat.le_refl _
        · rw [r]; exact Nat.le_add_right _ _
      have nn : ∀ k, k < 5 → s1.heap.objs.size + 5 ≠ s1.heap.objs.size + k := fun k hk r => by have := Nat.add_left_cancel r; omega
      refine ⟨s1.heap.objs.size + 5, [s1.heap.objs.size + 5, s1.heap.objs.size + 4, s1.heap.objs.size + 2, s1.heap.objs.size + 3, s1.heap.objs.size, s1.heap.objs.size + 1], _, _, H1, by rw [← es], I3,
        turn_enumZ (PySem.W.ktu_apart s1.heap.objs.size a b p1.lt p2.lt) ⟨nn 4 (by decide), nn 2 (by decide), nn 3 (by decide), nn 0 (by decide), nn 1 (by decide)⟩, ⟨⟨.none, he'⟩, ?_⟩, fresh, q⟩
      exact ⟨⟨.none, false, hk2 _ _ hz, .inl ⟨rfl, rfl⟩⟩, hk2 _ _ hTI, ⟨_, _, hk2 _ _ hTO⟩, h1.at fun o r => hk2 _ o r, h2.at fun o r => hk2 _ o r⟩
section
variable {K : PySem.W.Frag}
def ezK : Ik := fun ds S => match ds with
  | [d, e] => (lsOf S d).bind fun xs => (lsOf S e).bind fun ys => if xs.length = ys.length then some (enumL (zipL xs ys)) else none
  | _ => none
theorem li_ez {f : FA} : LI K (iEnumZ K (tDA K f)) ezK f := by
  intro σ H R ρ δ S ds items S' hS hσ e ek q
  refine ⟨ρ, δ, S, ds, S', hS, hσ, e, fun vs H1 ρ1 s1 hS1 rvs => ?_⟩
  unfold ezK at ek
  split at ek
  · rename_i dA dB
    obtain ⟨xs, e1, ek⟩ := bnd ek
    obtain ⟨ys, e2, ek⟩ := bnd ek
    split at ek
    · rename_i hl
      cases ek
      cases rvs with | cons rv rn => cases rn with | cons rw' rn => cases rn with | nil =>
      obtain ⟨a, vs, rfl, hq, rs⟩ := lsOf_sq hS1 rv e1
      obtain ⟨b, ws, rfl, hq2, rs2⟩ := lsOf_sq hS1 rw' e2
      have again : ∀ S2, ezK [dA, dB] S2 = some (enumL (zipL xs ys)) → lsOf S2 dA = some xs ∧ lsOf S2 dB = some ys := fun S2 h => by
        obtain ⟨as, m1, h⟩ := bnd (o := lsOf S2 dA) h
        obtain ⟨bs, m2, h⟩ := bnd (o := lsOf S2 dB) h
        split at h
        · rename_i hl'
          obtain ⟨rfl, rfl⟩ := zipL_inj hl' hl (enumL_inj (Option.some.inj h))
          exact ⟨m1, m2⟩
        · cases h
      have ilen : (enumL (zipL xs ys)).length = xs.length := by rw [enumL_len, zipL_len, hl, Nat.min_self]
      refine ⟨a, b, vs, ws, rfl, hq, hq2, q _ H1 ρ1 [.ref a, .ref b] s1 hS1 (.cons rv (.cons rw' .nil)) ⟨?_, ?_, ?_⟩⟩
      · intro i H2 ρ2 S2 rvs hS2 k2 hi
        cases rvs with | cons rv2 rn2 => ?_
        cases rn2 with | cons rw2 rn2 => ?_
        obtain ⟨a', vs', e', hq', rs'⟩ := lsOf_sq hS2 rv2 (again _ k2).1
        cases e'
        obtain ⟨b', ws', e'', hq'', rs''⟩ := lsOf_sq hS2 rw2 (again _ k2).2
        cases e''
        rw [ilen] at hi
        obtain ⟨v, hv, _⟩ := rs'.get (List.getElem?_eq_getElem hi)
        obtain ⟨w, hw, _⟩ := rs''.get (List.getElem?_eq_getElem (show i < ys.length by omega))
        exact ⟨vs', ws', v, w, hq', hq'', hv, hw⟩
      · intro i H2 ρ2 S2 x H3 rvs hS2 k2 y hi
        cases rvs with | cons rv2 rn2 => ?_
        cases rn2 with | cons rw2 rn2 => ?_
        obtain ⟨T, U, x1, y1, rfl, hT, hU, rfl, z1, z2⟩ := y
        obtain ⟨a', vs', e', hq', rs'⟩ := lsOf_sq hS2 rv2 (again _ k2).1
        cases e'
        obtain ⟨b', ws', e'', hq'', rs''⟩ := lsOf_sq hS2 rw2 (again _ k2).2
        cases e''
        obtain ⟨d2, hd, rd⟩ := rs'.getV (z1 vs' hq')
        obtain ⟨d3, hd3, rd3⟩ := rs''.getV (z2 ws' hq'')
        have st := Step.new (o := .tup [x1, y1]) hS2 hT
        have hS3 := hS2.new (o := .tup [x1, y1]) hT
        exact ⟨st.trans (Step.new hS3 hU), hS3.new hU, _, enumL_get (zipL_get hd hd3), rv_tup hS3 hU (.cons .int (.cons (rv_tup hS2 hT (.cons rd (.cons rd3 .nil))) .nil))⟩
      · intro i H2 ρ2 S2 rvs hS2 k2 hi
        cases rvs with | cons rv2 rn2 => ?_
        cases rn2 with | cons rw2 rn2 => ?_
        obtain ⟨a', vs', e', hq', rs'⟩ := lsOf_sq hS2 rv2 (again _ k2).1
        cases e'
        obtain ⟨b', ws', e'', hq'', rs''⟩ := lsOf_sq hS2 rw2 (again _ k2).2
        cases e''
        rw [ilen] at hi
        exact ⟨vs', ws', hq', hq'', .inl (by rw [rs'.len]; exact hi)⟩
    · cases ek
  · cases ek
theorem k_ez {α β : Type} (xs : List α) (ys : List β) (e : α → D) (e' : β → D) (hl : xs.length = ys.length) (S : Sg) : ezK [.lst (xs.map e), .lst (ys.map e')] S = some ((xs.zip ys).zipIdx.map fun p => .tup [.int (p.2 : Int), .tup [e p.1.1, e' p.1.2]]) := by
  unfold ezK
  dsimp only
  rw [lsv_lst, Option.bind_some, lsv_lst, Option.bind_some, if_pos (by rw [List.length_map, List.length_map, hl]), enumL_zip]
  have hz : zipL (xs.map e) (ys.map e') = (xs.zip ys).map fun p => .tup [e p.1, e' p.2] := by
    have := k_zpl xs ys e e' hl S
    unfold zpK2 at this
    dsimp only at this
    rw [lsv_lst, Option.bind_some, lsv_lst, Option.bind_some, if_pos (by rw [List.length_map, List.length_map, hl])] at this
    exact Option.some.inj this
  rw [hz, List.zipIdx_map, List.map_map]
  rfl
end
end
end DL
end
noncomputable section
namespace DL
open PySem L2
/-! ### list.index of numbers; zip of two tuples of any lengths -/
section
variable {K : PySem.W.Frag}
def idxO : OM := fun d ds S => match ds with
  | [.int k] => (lsOf S d).bind fun xs => (intsOf xs).bind fun ns => if k ∈ ns then some (.int ((ns.idxOf k : Nat) : Int), S) else none
  | _ => none
def zuK : Ik := fun ds S => match ds with
  | [d, e] => (tpOf d).bind fun xs => (tpOf e).bind fun ys => some (zipL xs ys)
  | _ => none
theorem li_zu {f : FA} : LI K (RZ.iZipA K (tDA K f)) zuK f := by
  intro σ H R ρ δ S ds items S' hS hσ e ek q
  refine ⟨ρ, δ, S, ds, S', hS, hσ, e, fun vs H1 ρ1 s1 hS1 rvs => ?_⟩
  unfold zuK at ek
  split at ek
  · rename_i dA dB
    obtain ⟨xs, e1, ek⟩ := bnd ek
    obtain ⟨ys, e2, ek⟩ := bnd ek
    cases ek
    cases rvs with | cons rv rn => cases rn with | cons rw' rn => cases rn with | nil =>
    obtain ⟨a, vs, rfl, hq, rs⟩ := tpOf_sq rv e1
    obtain ⟨b, ws, rfl, hq2, rs2⟩ := tpOf_sq rw' e2
    refine ⟨a, b, vs, ws, rfl, .inr ⟨hq, hq2, q _ H1 ρ1 [.ref a, .ref b] s1 hS1 (.cons rv (.cons rw' .nil)) ⟨?_, ?_, ?_⟩⟩⟩
    · intro i H2 ρ2 S2 rvs hS2 k2 hi
      cases rvs with | cons rv2 rn2 => ?_
      cases rn2 with | cons rw2 rn2 => ?_
      obtain ⟨a', vs', e', hq', rs'⟩ := tpOf_sq rv2 e1
      cases e'
      obtain ⟨b', ws', e'', hq'', rs''⟩ := tpOf_sq rw2 e2
      cases e''
      rw [zipL_len] at hi
      obtain ⟨v, hv, _⟩ := rs'.get (List.getElem?_eq_getElem (show i < xs.length by omega))
      obtain ⟨w, hw, _⟩ := rs''.get (List.getElem?_eq_getElem (show i < ys.length by omega))
      exact ⟨vs', ws', v, w, hq', hq'', hv, hw⟩
    · intro i H2 ρ2 S2 x H3 rvs hS2 k2 y hi
      cases rvs with | cons rv2 rn2 => ?_
      cases rn2 with | cons rw2 rn2 => ?_
      obtain ⟨T, x1, y1, rfl, hT, rfl, z1, z2⟩ := y
      obtain ⟨a', vs', e', hq', rs'⟩ := tpOf_sq rv2 e1
      cases e'
      obtain ⟨b', ws', e'', hq'', rs''⟩ := tpOf_sq rw2 e2
      cases e''
      obtain ⟨d2, hd, rd⟩ := rs'.getV (z1 vs' hq')
      obtain ⟨d3, hd3, rd3⟩ := rs''.getV (z2 ws' hq'')
      exact ⟨Step.new hS2 hT, hS2.new hT, _, zipL_get hd hd3, rv_tup hS2 hT (.cons rd (.cons rd3 .nil))⟩
    · intro i H2 ρ2 S2 rvs hS2 k2 hi
      cases rvs with | cons rv2 rn2 => ?_
      cases rn2 with | cons rw2 rn2 => ?_
      obtain ⟨a', vs', e', hq', rs'⟩ := tpOf_sq rv2 e1
      cases e'
      obtain ⟨b', ws', e'', hq'', rs''⟩ := tpOf_sq rw2 e2
      cases e''
      rw [zipL_len] at hi
      refine ⟨vs', ws', hq', hq'', ?_⟩
      rw [rs'.len, rs''.len]
      omega
  · cases ek
theorem k_zu {α β : Type} (xs : List α) (ys : List β) (e : α → D) (e' : β → D) (S : Sg) : zuK [.tup (xs.map e), .tup (ys.map e')] S = some ((xs.zip ys).map fun p => .tup [e p.1, e' p.2]) := by
  show some (zipL (xs.map e) (ys.map e')) = _
  congr 1
  unfold zipL
  rw [List.zipWith_map, List.zip, List.map_zipWith]
theorem flat_ints : ∀ ns : List Int, (ns.map V.int).all flatV = true
  | [] => rfl
  | n :: r => by
    rw [List.map_cons, List.all_cons, flat_ints r]
    rfl
theorem mtD_idx : MtD K "list" (rIndex K) idxO isLoc := by
  refine ⟨fun _ _ _ _ _ hS r h => isLoc_ty hS r h, ?_⟩
  intro x xs H Q ρ S d ds z S' hS rx rs eq q
  unfold idxO at eq
  split at eq
  · rename_i k
    obtain ⟨ys, e1, eq⟩ := bnd eq
    obtain ⟨ns, e2, eq⟩ := bnd eq
    split at eq
    · rename_i hk
      cases eq
      cases rs with | cons ry rn => cases rn with | nil =>
      cases ry
      obtain ⟨a, vs, rfl, hq, r⟩ := lsOf_sq hS rx e1
      rw [intsOf_eq e2] at r
      have ev := rvs_ints r
      subst ev
      have hlt : ns.idxOf k < ns.length := List.idxOf_lt_length_iff.mpr hk
      refine ⟨a, ns.map V.int, .int k, ns.idxOf k, .int k, rfl, rfl, hq, rfl, flat_ints ns, ?_, ?_, fun m z' hm hz => ?_, q _ _ _ (Step.refl _ _) hS .int⟩
      · rw [List.getElem?_map, List.getElem?_eq_getElem hlt, List.getElem_idxOf hlt]
        rfl
      · show decide (k = k) = true
        exact decide_eq_true rfl
      · rw [List.getElem?_map] at hz
        obtain ⟨n, hn, rfl⟩ := Option.map_eq_some_iff.mp hz
        show decide (n = k) = false
        refine decide_eq_false fun e => ?_
        subst e
        obtain ⟨hm', e3⟩ := List.getElem?_eq_some_iff.mp hn
        have := List.not_of_lt_findIdx (p := fun x => x == n) (xs := ns) (i := m) hm
        rw [e3] at this
        simp at this
    · cases eq
  · cases eq
end
theorem x_idx {S : Sg} {Q : D → Sg → Prop} {ns : List Int} {k : Int} (hk : k ∈ ns) (q : Q (.int ((ns.idxOf k : Nat) : Int)) S) : W (idxO (.lst (ns.map .int)) [.int k] S) Q := by
  refine ⟨_, _, ?_, q⟩
  unfold idxO
  dsimp only
  rw [lsv_lst, Option.bind_some, intsOf_map, Option.bind_some, if_pos hk]
/-! t[lo:hi] of a tuple, the whole too -/
section
variable {K : PySem.W.Frag}
def slTAO : O3 := fun d lo hi S => (tpOf d).bind fun ds => some (.tup (cutD ds lo hi), S)
theorem slD_TA : SlD K (rSlA K) slTAO := by
  intro x lo hi H Q ρ S d z S' hS rx eq q
  obtain ⟨ds, e, eq⟩ := bnd eq
  cases eq
  obtain ⟨a, vs, rfl, h2, r⟩ := tpOf_sq rx e
  refine ⟨a, vs, rfl, h2, fun hw => ?_, fun hn p hp => q _ _ ρ (Step.new hS hp) (hS.new hp) (rv_tup hS hp (cut_rv r lo hi))⟩
  rw [r.len] at hw
  have hc : cutD ds lo hi = ds := by
    unfold cutD
    rw [hw.1, hw.2, List.drop_zero, Nat.sub_zero, List.take_length]
  have hd : d = .tup ds := by
    cases d <;> cases e
    rfl
  rw [hc, ← hd] at q
  exact q _ _ _ (Step.refl _ _) hS rx
end
end DL
end
noncomputable section
namespace DL
open PySem L2
/-! ### a list == [], whatever it holds -/
def rEqE (K : PySem.W.Frag) : R2 := fun x y H Q => ∃ (a b : Addr) (xs : List V), x = .ref a ∧ y = .ref b ∧ SqL K H a xs ∧ SqL K H b [] ∧ Q (.bl xs.isEmpty) H
theorem op_eqE {X : Cx} (hu : X.A.units < cLine) : OpR X (compareOp .Eq) (rEqE X.K) := by
  intro pins s σ H x y v u Q I rx ry h
  obtain ⟨a, b, xs, rfl, rfl, h1, h2, q⟩ := h
  cases rx
  cases ry
  obtain ⟨its, rv, p, _⟩ := I.list h1
  replace p := p.isList
  obtain ⟨its2, rv2, p2, _⟩ := I.list h2
  replace p2 := p2.isList
  cases rv2
  cases rv with
  | nil => exact SeqAt.eq_listAt (e := fun _ => true) p p2 rfl hu (fun j hj _ => absurd hj (Nat.not_lt_zero _)) ⟨.bl true, H, I, rfl, q⟩
  | cons r1 r2 => exact SeqAt.eq_list_lengthsAt p p2 (by simp) hu ⟨.bl false, H, I, rfl, q⟩
def eqEO : O2 := fun d e S => match e with
  | .lst [] => (lsOf S d).bind fun ds => some (.bl ds.isEmpty, S)
  | _ => none
section
variable {K : PySem.W.Frag}
theorem opD_eqE : OpD K (rEqE K) eqEO := by
  intro x y H Q ρ S d e z S' hS rx ry eq q
  unfold eqEO at eq
  split at eq
  · obtain ⟨ds, e1, eq⟩ := bnd eq
    cases eq
    obtain ⟨a, vs, rfl, h1, r1⟩ := lsOf_sq hS rx e1
    obtain ⟨b, ws, rfl, h2, r2⟩ := lsOf_sq (d := .lst []) hS ry rfl
    cases r2
    refine ⟨a, b, vs, rfl, rfl, h1, h2, ?_⟩
    cases r1 with
    | nil => exact q _ H ρ (Step.refl _ _) hS .bl
    | cons _ _ => exact q _ H ρ (Step.refl _ _) hS .bl
  · cases eq
end
section
variable {X : Cx} {a b : Expr} {pos : Pos} {f g : FE}
theorem jeqE (hu : X.A.units + 64 < cLine) (ha : JE X a f) (hb : JE X b g) : JE X (.Compare a [.Eq] [b] pos) (op2D eqEO f g) := jcmpR (op_eqE (by omega)) opD_eqE ha hb
theorem jteqE (hu : X.A.units + 64 < cLine) (ha : JE X a f) (hb : JE X b g) : JT X (.Compare a [.Eq] [b] pos) (tvD (op2D eqEO f g)) := jtcmpR (op_eqE (by omega)) opD_eqE ha hb
end
section
variable {S : Sg} {Q : D → Sg → Prop}
theorem x_eqE {d : D} {ds : List D} (h : lsOf S d = some ds) (q : Q (.bl ds.isEmpty) S) : W (eqEO d (.lst []) S) Q := by
  refine ⟨_, _, ?_, q⟩
  unfold eqEO
  dsimp only
  rw [h]
  rfl
end
end DL
end
noncomputable section
namespace DL
open PySem L2 PyProof.Rows
/-! ### what shows itself: repr and str of lists and tuples, in defs that are called where nothing is being shown -/
abbrev Gd (A : Around) : Prop := A.guards = some []
mutual
theorem Dp.plain {K : PySem.W.Frag} {H : Hp} : ∀ (d : PyData) (v : V), Dp K H v d → d.hasDict = false
  | .none, _, _ => by unfold PyData.hasDict; rfl
  | .bool _, _, _ => by unfold PyData.hasDict; rfl
  | .int _, _, _ => by unfold PyData.hasDict; rfl
  | .str _, _, _ => by unfold PyData.hasDict; rfl
  | .list ds, _, h => by
    cases h with
    | lst _ r => unfold PyData.hasDict; exact Dp.plainAll ds _ r
  | .tuple ds, _, h => by
    cases h with
    | tup _ r => unfold PyData.hasDict; exact Dp.plainAll ds _ r
  | .dict _, _, h => by cases h
theorem Dp.plainAll {K : PySem.W.Frag} {H : Hp} : ∀ (ds : List PyData) (vs : List V), DpAll K H vs ds → PyData.hasDictAll ds = false
  | [], _, _ => by unfold PyData.hasDictAll; rfl
  | d :: ds, _, h => by
    cases h with
    | cons h1 h2 =>
      unfold PyData.hasDictAll
      rw [Dp.plain d _ h1, Dp.plainAll ds _ h2]
      rfl
end
/-- it is a list or a tuple, not too deep, its text not too long -/
def ShowOk (d : PyData) : Prop := isDisplay d = true ∧ d.showable = true ∧ d.depth ≤ 50 ∧ d.shown.length ≤ sizeLine
def rShow (K : PySem.W.Frag) : List V → Hp → VK → Prop := fun xs H Q => ∃ x d, xs = [x] ∧ Dp K H x d ∧ ShowOk d ∧ Q (.str d.shown) H
section
variable {X : Cx}
theorem shown_run {pins : List (Addr × Obj)} {s : Shared} {σ : L2.St} {H : Hp} {x : V} {u : Value} {d : PyData} (I : Inv X pins σ H s) (hd : Dp X.K H x d) (ru : RelV x u) (ok : ShowOk d) : ∃ (a : Addr) (as : List Addr), u = .ref a ∧ Reads s.heap (.ref a) d as ∧ (d.hasDict = true → sysModules ∉ as) := by
  obtain ⟨as, r⟩ := Dp.reads I d x u hd ru
  obtain ⟨a, rfl⟩ := isRef_of_reads r ok.1
  exact ⟨a, as, rfl, r, PyData.noDict_hsm (Dp.plain d x hd)⟩
theorem call_reprG (hg : Gd X.A) (hu : X.A.units + 64 < cLine) : CallR X (.builtin "repr") (rShow X.K) := by
  intro pins s σ H xs us Q I r h
  obtain ⟨x, d, rfl, hd, ok, q⟩ := h
  cases r with
  | cons r1 rr =>
    cases rr
    obtain ⟨a, as, rfl, rd, nd⟩ := shown_run I hd r1 ok
    have h3 := ok.2.2.1
    exact repr_of_reads' rd ok.2.1 nd hg (by omega) (fun _ _ e => e) (fun h' t tk hk => ⟨.str d.shown, H, I.kept (t' := tk) hk, ⟨_, rfl⟩, q⟩) ok.2.2.2
theorem call_strG (hg : Gd X.A) (hu : X.A.units + 64 < cLine) : CallR X (.type "str") (rShow X.K) := by
  intro pins s σ H xs us Q I r h
  obtain ⟨x, d, rfl, hd, ok, q⟩ := h
  cases r with
  | cons r1 rr =>
    cases rr
    obtain ⟨a, as, rfl, rd, nd⟩ := shown_run I hd r1 ok
    have h3 := ok.2.2.1
    exact str_of_reads rd ok.2.1 nd hg (by omega) (fun _ _ e => e) (fun h' t tk hk => ⟨.str d.shown, H, I.kept (t' := tk) hk, ⟨_, rfl⟩, q⟩) ok.2.2.2
end
open Classical in
def showO : OC := fun ds S => match ds with
  | [d] => (pyT S d).bind fun p => if ShowOk p then some (.str p.shown, S) else none
  | _ => none
theorem cbD_show {K : PySem.W.Frag} : CbD K (rShow K) showO := by
  intro xs H Q ρ S ds z S' hS rs eq q
  unfold showO at eq
  split at eq
  · cases rs with | cons rx rn => ?_
    cases rn
    obtain ⟨p, e1, eq⟩ := bnd eq
    split at eq
    · rename_i ok
      cases eq
      exact ⟨_, p, rfl, pyT_dp hS rx e1, ok, q _ _ _ (Step.refl _ _) hS .str⟩
    · cases eq
  · cases eq
theorem x_show {S : Sg} {Q : D → Sg → Prop} {d : D} {p : PyData} (h : pyT S d = some p) (ok : ShowOk p) (q : Q (.str p.shown) S) : W (showO [d] S) Q := by
  refine ⟨_, _, ?_, q⟩
  unfold showO
  dsimp only
  rw [h, Option.bind_some, if_pos ok]
/-! ### xs.pop() -/
section
variable {K : PySem.W.Frag}
theorem RVs.dropLast {H : Hp} {ρ : Ro} : ∀ {vs : List V} {ds : List D}, RVs K H ρ vs ds → RVs K H ρ vs.dropLast ds.dropLast
  | _, _, .nil => .nil
  | _, _, .cons _ .nil => .nil
  | _, _, .cons h (.cons h2 r) => .cons h (RVs.dropLast (.cons h2 r))
def popO : OM := fun d ds S => match d, ds with
  | .loc n, [] => match S[n]? with
    | some (.lst xs) => (xs[xs.length - 1]?).bind fun y => some (y, S.set n (.lst xs.dropLast))
    | _ => none
  | _, _ => none
theorem mtD_pop : MtD K "list" rPop popO isLoc := by
  refine ⟨fun _ _ _ _ _ hS r h => isLoc_ty hS r h, ?_⟩
  intro x xs H Q ρ S d ds z S' hS rx rs eq q
  unfold popO at eq
  split at eq
  · rename_i n
    cases rs
    cases rx with | loc hn => ?_
    split at eq
    · rename_i ys hy
      obtain ⟨y, ey, eq⟩ := bnd eq
      cases eq
      obtain ⟨vs, h1, h2⟩ := hS.ob _ _ _ hn hy
      obtain ⟨v, hv, rv⟩ := h2.get ey
      refine ⟨_, vs, v, rfl, rfl, h1, by rw [h2.len]; exact hv, ?_⟩
      have st : Step ρ ρ H (upd H _ (.lst vs.dropLast)) := Step.write hn h1
      exact q _ _ ρ st (hS.write hn ⟨_, h1⟩ ⟨_, upd_same, h2.dropLast.mono st⟩) (rv.mono st)
    · cases eq
  · cases eq
theorem wl_pop {A : Sg} {L : List Ob} {N k : Nat} {Q : D → Sg → Prop} (hl : A.length = N) {xs : List D} {y : D} (h : L[k]? = some (.lst xs)) (hy : xs[xs.length - 1]? = some y) (q : Q y (A ++ L.set k (.lst xs.dropLast))) : W (popO (.loc (N + k)) [] (A ++ L)) Q := by
  refine ⟨_, _, ?_, q⟩
  unfold popO
  dsimp only
  rw [al_get hl, h]
  dsimp only
  rw [hy, Option.bind_some, al_set hl]
end
/-! ### defs that are called so -/
structure FnG (P : Program) (w : World) (K : PySem.W.Frag) (mg : Str → Option Value) (base : Heap) (k : Nat) (f : Addr) (fd : FuncData) (ps : List Str) (sp : Sp) : Prop where
  many : ∀ vs H Q E, sp vs H Q E → vs.length = ps.length
  go : ∀ (A : Around) (outer : List Env) (s : Shared) (H : Hp) (args : Args) (us : List Value) (vs : List V) (Q : VK) (E : XK), Room k A → Gd A → Env0 P w K mg base A outer s H →
    BindsTo s fd args (ps.zip us) → Vals vs us → sp vs H Q E → codeAny (model P w) A (.call (.ref f) args) (CR CX0 outer P w H s Q E) s
theorem FnG.of {P : Program} {w : World} {K : PySem.W.Frag} {mg : Str → Option Value} {base : Heap} {k : Nat} {f : Addr} {fd : FuncData} {ps : List Str} {sp : Sp} (F : FnOk P w K mg base CX0 k f fd ps sp) : FnG P w K mg base k f fd ps sp :=
  ⟨F.len, fun A outer s H args us vs Q E hr _ he hb hv hs => F.run A outer s H args us vs Q E hr he hb hv hs⟩
theorem FnG.imp {P : Program} {w : World} {K : PySem.W.Frag} {mg : Str → Option Value} {base : Heap} {k : Nat} {f : Addr} {fd : FuncData} {ps : List Str} {sp sp' : Sp} (F : FnG P w K mg base k f fd ps sp) (i : ∀ vs H Q E, sp' vs H Q E → sp vs H Q E) : FnG P w K mg base k f fd ps sp' :=
  ⟨fun vs H Q E q => F.many vs H Q E (i _ _ _ _ q), fun A outer s H args us vs Q E hr gd he hb hv hs => F.go A outer s H args us vs Q E hr gd he hb hv (i _ _ _ _ hs)⟩
section
variable {P : Program} {w : World} {K : PySem.W.Frag} {mg : Str → Option Value} {base : Heap}
theorem fnG_by {f : Addr} {k : Nat} {nm qn : Str} {prm : Arguments} {bd : List Stmt} {sc : Scope} {d0 d1 d2 d3 cv ct oc : Value} {an od : Option Addr} {sl : Array (Option Value)} {N ps : List Str} {sp : Sp}
    (at_ : K.lookup f = some ⟨oc, od, .func (PySem.W.fnOf nm qn prm bd sc d0 d1 d2 d3 an cv ct), sl⟩) (code : PySem.W.codeIn K cv qn = true) (fs : FnScope N ps sc) (many : ∀ vs H Q E, sp vs H Q E → vs.length = ps.length)
    (walk : ∀ (A : Around) (outer : List Env) (s : Shared) (H : Hp) (vs : List V) (Q : VK) (E : XK), Room k (A.deeper (envOfC qn sc s.heap.objs.size f cv)) → Gd (A.deeper (envOfC qn sc s.heap.objs.size f cv)) → sp vs H Q E →
      ∃ t, PSs (cxOf CX0 P w K mg base N qn sc f cv A outer s H E) bd t ∧ t ⟨fun _ H' => Q .non H', Q, fun _ _ => False, fun _ _ => False⟩ (start N vs) H) : FnG P w K mg base (k + 1) f (PySem.W.fnOf nm qn prm bd sc d0 d1 d2 d3 an cv ct) ps sp := by
  constructor
  · exact many
  intro A outer s H args us vs Q E room gd env bnds vals told
  have stays := fun (b : Addr) (o : Obj) (e : base.get? b = some o) => (env.bs b o e).1
  have kin : K.In s.heap := env.mod.kin.keeps stays
  have noLim : s.heap.NoLimit := env.mod.nolimit.keeps stays
  have kinds : ∀ y ∈ ps.zip us, sc.names.lookup y.1 = some .local ∨ (sc.names.lookup y.1 = some .cell ∧ ((cellsFrom (s.heap.objs.size + 1) sc.names []).lookup y.1).isSome = true) := by
    rintro ⟨n, v⟩ hy
    exact (fs.par n (List.of_mem_zip hy).1).imp id fun q => ⟨q, PySem.W.cellsFrom_some _ _ _ (.inl q)⟩
  refine codeAny_call_function room.depth (kin _ _ at_) rfl fs.co fs.gen rfl (PySem.W.codeRec_of kin code) (bnds _ _ _ _ ?_)
  refine wpAny_newFunctionEnv_cells fs.kind kinds fun env' eqn s1 made => ?_
  subst eqn
  refine ⟨noLim.keeps made.toInCall.keep, codeAny_func ?_⟩
  obtain ⟨t, drv, rest⟩ := walk A outer s H vs Q E (room.deeper _) gd told
  have inv := inv_start (CX := CX0) (E := E) fs room.hd env (many _ _ _ _ told) vals made
  refine wpAny_mono (drv.run [] s1 (start N vs) H _ inv rest) (fun out s' got => ?_) fun e s' bad => bad
  match out, got with
  | .ret u, ⟨v, _, H', J, rv, q⟩ => exact ⟨v, H', J.os, J.bare, J.base, J.hok, rv, q⟩
  | .next, ⟨_, H', J, q⟩ => exact ⟨V.non, H', J.os, J.bare, J.base, J.hok, rfl, q⟩
  | .brk, ⟨_, _, _, q⟩ => exact q.elim
  | .cont, ⟨_, _, _, q⟩ => exact q.elim
theorem fn_okG {φ : Nat → D → Sg → Option (D × Sg)} (hφ : FinOk K φ) {x qual : Str} {st : Stmt} {f : Addr} {fd : FuncData} {N ps : List Str} {k : Nat} {body : FS} (F : Fun K x qual st f fd) (sc : FnScope N ps (defScope st))
    (hb : ∀ (cdv : Value) (A : Around) (outer : List Env) (s : Shared) (H : Hp) (E : XK), Room k (A.deeper (PyProof.Rows.envOfC qual (defScope st) s.heap.objs.size f cdv)) → Gd (A.deeper (PyProof.Rows.envOfC qual (defScope st) s.heap.objs.size f cdv)) → JSs (cxOf CX0 P w K mg base N qual (defScope st) f cdv A outer s H E).nox (defBody st) body) :
    FnG P w K mg base (k + 1) f fd ps (spD K ps.length (bodyF φ N.length body)) := by
  obtain ⟨oc, od, kV, doc, pm, an, cdv, ct, osl, rfl, lk, hcd⟩ := F.ex
  exact fnG_by lk hcd sc (fun _ _ _ _ h => spD_len h) fun A outer s H vs Q E hr hg hsp => ⟨_, PSs.nox (hb cdv A outer s H E hr hg), body_ok hφ rfl hsp⟩
/-- such a def, known by its name -/
structure DG (P : Program) (w : World) (K : PySem.W.Frag) (mg : Str → Option Value) (base : Heap) (x : Str) (k : Nat) (ps : List Str) (F : Fn) : Prop where
  ex : ∃ (f : Addr) (fd : FuncData), FnG P w K mg base k f fd ps (spD K ps.length F) ∧ mg x = some (.ref f) ∧ PySem.W.keepIn K (.ref f) = true ∧ Binds K fd ps []
end
section
variable {X : Cx} {e : Expr} {es : List Expr} {fa : FA} {pos : Pos}
theorem pe_callG {f : Addr} {fd : FuncData} {ps : List Str} {sp : Sp} {k : Nat} {x : Str} {p : Pos} {t : TA} (F : FnG X.prog X.w X.K X.mg X.base k f fd ps sp) (room : Room k X.A) (gd : Gd X.A) (hg : Gl X x) (hm : X.mg x = some (.ref f)) (kp : PySem.W.keepIn X.K (.ref f) = true) (bd : Binds X.K fd ps [])
    (ha : PA X (e :: es) t) (hdb : (x == ("__debug__" : Str)) = false) (he : starEach (e :: es) X.env = (false, eval e X.env) :: starEach es X.env) (hpl : (backTo pos (starEach es X.env)).any (·.1) = false) :
    PE X (.Call (.Name x p) (e :: es) [] pos) (tCall sp [] E0 t) := by
  constructor
  intro pins s σ H Q I h
  have inner : ∀ us s1 vs H1, Inv X pins σ H1 s1 → Vals vs us → sp (vs ++ []) H1 Q E0 → wpAny (model X.prog X.w) X.A (call (.ref f) us) (EP X pins σ Q) X.xe s1 := fun us s1 vs H1 J r q => by
    rw [List.append_nil] at q
    have ln : us.length = ps.length := r.length.symm.trans (F.many _ _ _ _ q)
    have bd' := bd s1 us J.kIn (by rw [List.append_nil]; exact ln)
    rw [List.append_nil] at bd'
    refine wpAny_call (codeAny_mono (F.go X.A X.stack s1 H1 ⟨us, []⟩ us vs Q E0 room gd J.env0 bd' r q) fun out s' got => ?_)
    match out, got with
    | .error _, got => exact False.elim got
    | .ok (.ret u), got => exact J.after got
    | .ok .next, got => exact False.elim got
    | .ok .brk, got => exact False.elim got
    | .ok .cont, got => exact False.elim got
  exact wpAny_Call_Name_kw (ld_glob I hg hm (PySem.W.callWith_K (h₀ := X.base) I.ok.mod.kin kp (thn (ha.run pos pins s σ H _ I h) fun us s1 ⟨vs, H1, J, r, q⟩ => ⟨J.kIn, inner us s1 vs H1 J r q⟩) he hpl) hdb)
theorem jfnG {x : Str} {k : Nat} {ps : List Str} {F : Fn} {p : Pos} (Z : DG X.prog X.w X.K X.mg X.base x k ps F) (hr : Room k X.A) (gd : Gd X.A) (ha : JA X (e :: es) fa) (hn : NA ps.length fa := by repeat (first | exact na0 | apply na))
    (hg : Gl X x := by rfl) (hdb : (x == ("__debug__" : Str)) = false := by decide) (he : starEach (e :: es) X.env = (false, eval e X.env) :: starEach es X.env := by rfl) (hpl : (backTo pos (starEach es X.env)).any (·.1) = false := by rfl) :
    JE X (.Call (.Name x p) (e :: es) [] pos) (fnD F [] fa) := by
  obtain ⟨f, fd, Fk, hm, kp, b⟩ := Z.ex
  exact PE.imp (pe_callG Fk hr gd hg hm kp b ha hdb he hpl) (le_fn (fun _ _ => .nil) fun δ S ds S' q => by rw [List.append_nil]; exact hn δ S ds S' q)
end
/-! ### the end, for a law that shows things -/
theorem law_callG {P : Program} {w : World} {K : PySem.W.Frag} {mg mb : Str → Option Value} {k : Nat} {fa a : Addr} {fd : FuncData} {x : Str} {sp : Sp} {s₁ : Shared} {vs : List Value} {ns : List Int}
    (kin : K.In s₁.heap) (hns : s₁.heap.Ns mainGlobals mg) (hbn : s₁.heap.Ns builtinsNs mb) (hbb : ∀ x : Str, x ≠ "__name__" → mb x = bootBuiltins x) (hlim : s₁.heap.NoLimit) (hgens : s₁.gens = #[])
    (obj : s₁.heap.get? a = some { cls := .type "list", data := .seq vs.toArray }) (hi : IntsAre vs ns) (hl : ns.length ≤ sizeLine) (room : Room k callerA)
    (F : ∀ base : Heap, K.In base → base.Ns mainGlobals mg → FnG P w K mg base k fa fd [x] sp) (bnds : ∀ (s : Shared) (u : Value), BindsTo s fd ⟨[u], []⟩ [(x, u)])
    (told : ∀ H : Hp, SqL K H a (ns.map V.int) → sp [.ref a] H (fun v _ => v = .bl true) fun _ _ _ => False) :
    codeAny (model P w) callerA (.call (.ref fa) ⟨[.ref a], []⟩) (fun r s' => (r = .ok (.ret (.bool true))) ∧ (OldK s₁.heap s'.heap) ∧ (s'.os = s₁.os) ∧ (AllBare s'.gens)) s₁ := by
  have vals : Vals (ns.map V.int) vs := vals_ints hi
  have dec : K.lookup a = none ∨ ∃ o, K.lookup a = some o := by
    cases K.lookup a with
    | none => exact .inl rfl
    | some o => exact .inr ⟨o, rfl⟩
  -- H tells of the script at most
  have main : ∀ H : Hp, (∀ b u, H b = some u → b = a ∧ ∃ o xs, u = .frz o (.lst xs)) → SqL K H a (ns.map V.int) → HOk P w H s₁.heap → (∀ u, H a = some u → K.lookup a = none) →
      codeAny (model P w) callerA (.call (.ref fa) ⟨[.ref a], []⟩) (fun r s' => (r = .ok (.ret (.bool true))) ∧ (OldK s₁.heap s'.heap) ∧ (s'.os = s₁.os) ∧ (AllBare s'.gens)) s₁ := by
    intro H only sq hok noK
    have keep : ∀ b o, s₁.heap.get? b = some o → (∀ u, H b = some u → False) → (hidT s₁.heap H).get? b = some o := fun b o e n => hidT_get e (by
      cases z : H b with
      | none => rfl
      | some u => exact (n u z).elim)
    have dicts : ∀ {b : Addr} {m : Str → Option Value}, s₁.heap.Ns b m → (hidT s₁.heap H).Ns b m := by
      rintro b m ⟨o, es, ep, e, d, r⟩
      refine ⟨o, es, ep, keep b o e fun u z => ?_, d, r⟩
      obtain ⟨rfl, _⟩ := only b u z
      rw [obj] at e
      cases e
      exact absurd (show Data.seq vs.toArray _ = Data.dict es ep from d) nofun
    have kin' : K.In (hidT s₁.heap H) := fun b o e => keep b o (kin b o e) fun u z => by
      obtain ⟨rfl, _⟩ := only b u z
      rw [noK u z] at e
      cases e
    obtain ⟨mc, l1, l2⟩ := hlim
    have env : Env0 P w K mg (hidT s₁.heap H) callerA [] s₁ H := { frames := rfl, mod := ⟨kin', dicts hns, ⟨mb, dicts hbn, hbb⟩, ⟨mc, dicts l1, l2⟩⟩, bs := fun b o e => of_hidT e, bsz := Nat.le_of_eq (hidT_size _ _), funs := trivial, frf := (nofun), hok := hok, bare := .of_eq hgens }
    refine codeAny_mono ((F _ kin' (dicts hns)).go callerA [] s₁ H ⟨[.ref a], []⟩ [.ref a] [.ref a] _ _ room rfl env (bnds s₁ (.ref a)) (.cons rfl .nil) (told H sq)) fun r s' got => ?_
    match r, got with
    | .error _, got => exact False.elim got
    | .ok .next, got => exact False.elim got
    | .ok .brk, got => exact False.elim got
    | .ok .cont, got => exact False.elim got
    | .ok (.ret u), ⟨v, H', os, bare, un, hok', rel, qv⟩ =>
      have qv : v = .bl true := qv
      subst qv
      have eu : u = Value.bool true := rel
      subst eu
      refine ⟨rfl, OldK.of_keep fun b o e => ?_, os, bare⟩
      cases z : H b with
      | none => exact un.keep b o e z (nofun) (nofun)
      | some u =>
        obtain ⟨rfl, ob, xs, rfl⟩ := only b u z
        obtain ⟨e1, _⟩ := hok b _ z
        obtain ⟨e2, _⟩ := hok' b _ (un.frzs b ob _ z)
        rw [e] at e1
        cases e1
        exact e2
  rcases dec with hk | ⟨o, hk⟩
  · have one : ∀ b u, (if b = a then some (HO.frz { cls := .type "list", data := .seq vs.toArray } (.lst (ns.map V.int))) else none) = some u → b = a ∧ u = .frz { cls := .type "list", data := .seq vs.toArray } (.lst (ns.map V.int)) := fun b u z => by
      split at z
      · rename_i hb
        exact ⟨hb, (Option.some.inj z).symm⟩
      · cases z
    refine main (fun b => if b = a then some (.frz { cls := .type "list", data := .seq vs.toArray } (.lst (ns.map V.int))) else none) (fun b u z => ⟨(one b u z).1, _, _, (one b u z).2⟩) (.inl (.inr ⟨_, if_pos rfl⟩)) (fun b u z => ?_) fun _ _ => hk
    obtain ⟨rfl, rfl⟩ := one b u z
    exact ⟨obj, by rw [List.length_map]; exact hl, vs, _, vals, obj⟩
  · have same := kin a o hk
    rw [obj] at same
    cases same
    exact main (fun _ => none) nofun (.inr ⟨_, vs.toArray, _, hk, rfl, rfl, rfl, by rw [List.size_toArray, hi.length]; exact hl, by simpa using vals⟩) nofun nofun
theorem walk_G {l : PySem.W.OpenLaw} {n k : Nat} {q : Program} {loose : List Str} {XP : (Str → Option Value) → Heap → Prop} {YP : World → Heap → Prop} {d : DefRec} {K : Params → PySem.W.Frag} {sp : PySem.W.Frag → Sp} {x : Str}
    (most : l.most = some n) (fits : n ≤ sizeLine) (noDfl : d.params.defaults = []) (room : Room k callerA) (written : ∀ (w : World) (h : Heap), YP w h → (K w.params).In h)
    (F : ∀ (w : World) (mg : Str → Option Value) (fa : Addr) (h : Heap), (K w.params).In h → h.Ns mainGlobals mg → mg d.name = some (.ref fa) →
      ∃ fd : FuncData, (∀ (s : Shared) (u : Value), BindsTo s fd ⟨[u], []⟩ [(x, u)]) ∧ (∀ base : Heap, (K w.params).In base → base.Ns mainGlobals mg → FnG l.prog w (K w.params) mg base k fa fd [x] (sp (K w.params))))
    (told : ∀ (K : PySem.W.Frag) (H : Hp) (a : Addr) (ns : List Int), ns.length ≤ n → SqL K H a (ns.map V.int) → sp K [.ref a] H (fun v _ => v = .bl true) fun _ _ _ => False) :
    PySem.W.WalkO q loose XP YP l.row.toRowW d [] (fun f vs => PySem.call f vs) := by
  refine Att.attach_call most noDfl fun w s₀ s₁ mg mb fa o pm cd doc a vs ns G Y _ _ _ named obj intsA len gens => ?_
  have kin := written w _ Y
  obtain ⟨fd, bnds, run⟩ := F w mg fa _ kin G.T.g named
  exact law_callG kin G.T.g G.T.b G.T.builtins G.T.nolimit gens obj intsA (Nat.le_trans len fits) room run bnds fun H sq => told _ H a ns len sq
end DL
end
noncomputable section
namespace DL
open PySem L2
/-! ### o.f op= e, xs[i] op= e, the least of a list of int pairs -/
section
variable {K : PySem.W.Frag}
/-- o.f op= e -/
def fldaugS (C : Addr) (f : Str) (fa fv : FE) (o : O2) : FS := fun δ S => (fa δ S).bind fun p => (fsOf p.2 C p.1).bind fun gs => (gs.lookup f).bind fun x => (fv δ p.2).bind fun y => (o x y.1 y.2).bind fun z => match p.1 with
  | .loc n => match z.2[n]? with
    | some (.ins C' gs') => if C' = C ∧ gs'.length < 1000 then some (.nx, δ, z.2.set n (.ins C (putD f z.1 gs'))) else none
    | _ => none
  | _ => none
theorem ls_fldaug {C : Addr} {f : Str} {fa fv : FE} {t : R2} {o : O2} (h : OpD K t o) (c : Cls K C) (n : NoAttr K C f) : ∀ D σ H, tDS K (fldaugS C f fa fv o) D σ H → sFldAug K (tD K fa) (tD K fv) t f D σ H := by
  rintro D σ H ⟨ρ, δ, S, r, δ', S', hS, hσ, e, q⟩
  obtain ⟨⟨x, S1⟩, e1, e⟩ := bnd e
  obtain ⟨gs, e2, e⟩ := bnd e
  obtain ⟨d, e3, e⟩ := bnd e
  obtain ⟨⟨y, S2⟩, e4, e⟩ := bnd e
  obtain ⟨⟨z, S3⟩, e5, e⟩ := bnd e
  dsimp only at e
  split at e
  · split at e
    · rename_i C' gs' hg
      split at e
      · rename_i hc
        obtain ⟨rfl, hl⟩ := hc
        cases e
        refine ⟨ρ, δ, S, _, S1, hS, hσ, e1, fun v H1 ρ1 s1 hS1 rv => ?_⟩
        obtain ⟨a, dx, fs, rfl, h1, h2, h3⟩ := fsOf_sq hS1 rv e2
        obtain ⟨w, hw, rw'⟩ := look_rv h2 h3 e3
        refine ⟨a, C', dx, fs, w, rfl, h1, c, n, hw, ρ1, δ, S1, y, S2, hS1, hσ.mono s1, e4, fun u H2 ρ2 s2 hS2 ru => ?_⟩
        refine h _ _ _ _ _ _ _ _ _ _ hS2 (rw'.mono s2) ru e5 fun u3 H3 ρ3 s3 hS3 ru3 => ?_
        have rv3 := rv.mono (s2.trans s3)
        cases rv3 with
        | loc hn =>
          obtain ⟨dx', fs', k1, k2, k3⟩ := hS3.ob _ _ _ hn hg
          have hfl : fs'.length < 1000 := by
            have := congrArg List.length k2
            rw [List.length_map, List.length_map] at this
            omega
          refine ⟨dx', fs', k1, hfl, ?_⟩
          have st : Step ρ3 ρ3 H3 (upd H3 _ (.ins C' dx' (putF f u3 fs'))) := Step.write hn k1
          obtain ⟨p1, p2⟩ := put_rv (f := f) ru3 k2 k3
          have all := (s1.trans (s2.trans s3)).trans st
          exact q σ _ ρ3 all (hS3.write hn ⟨_, k1⟩ ⟨dx', _, upd_same, p1, p2.mono st⟩) (hσ.mono all)
      · cases e
    · cases e
  · cases e
theorem opD_addR : OpD K rAdd (int0 fun i j => .int (i + j)) := opD_ip (g := fun i j => i + j)
theorem opD_subR : OpD K rSub (int0 fun i j => .int (i - j)) := opD_ip (g := fun i j => i - j)
/-- xs[i] op= e -/
def ixLO : O2 := fun d e S => match e with
  | .int i => (lsOf S d).bind fun ds => (atI ds i).bind fun x => some (x, S)
  | _ => none
theorem opD_ixL : OpD K (rIxL K) ixLO := by
  intro x y H Q ρ S d e z S' hS rx ry eq q
  unfold ixLO at eq
  split at eq
  · rename_i i
    cases ry
    obtain ⟨ds, hds, eq⟩ := bnd eq
    obtain ⟨w, ew, eq⟩ := bnd eq
    cases eq
    obtain ⟨a, vs, rfl, hq, r⟩ := lsOf_sq hS rx hds
    obtain ⟨v, hv, rv⟩ := atI_rv r ew
    exact ⟨a, vs, i, v, rfl, rfl, hq, hv, q _ _ ρ (Step.refl _ _) hS rv⟩
  · cases eq
def augSubS (fo fi : FE) (g : O2) (fe : FE) (o : O2) (st : OSt) : FS := fun δ S => (fo δ S).bind fun p => (fi δ p.2).bind fun i => (g p.1 i.1 i.2).bind fun x => (fe δ x.2).bind fun y => (o x.1 y.1 y.2).bind fun z => (st p.1 i.1 z.1 z.2).bind fun S' => some (.nx, δ, S')
theorem ls_augS {fo fi fe : FE} {tg : R2} {g : O2} {ti : TIp} {o : O2} {ts : TSet} {st : OSt} (hg : OpD K tg g) (ho : OpD K ti o) (hs : StD K ts st) : ∀ D σ H, tDS K (augSubS fo fi g fe o st) D σ H → tAugS (tD K fo) (tD K fi) (tD K fe) tg ti ts D σ H := by
  rintro D σ H ⟨ρ, δ, S, r, δ', S', hS, hσ, e, q⟩
  obtain ⟨⟨x, S1⟩, e1, e⟩ := bnd e
  obtain ⟨⟨i, S2⟩, e2, e⟩ := bnd e
  obtain ⟨⟨old, S3⟩, e3, e⟩ := bnd e
  obtain ⟨⟨y, S4⟩, e4, e⟩ := bnd e
  obtain ⟨⟨z, S5⟩, e5, e⟩ := bnd e
  obtain ⟨S6, e6, e⟩ := bnd e
  cases e
  refine ⟨ρ, δ, S, x, S1, hS, hσ, e1, fun v H1 ρ1 s1 hS1 rv => ⟨ρ1, δ, S1, i, S2, hS1, hσ.mono s1, e2, fun w H2 ρ2 s2 hS2 rw' => ?_⟩⟩
  refine hg _ _ _ _ _ _ _ _ _ _ hS2 (rv.mono s2) rw' e3 fun u3 H3 ρ3 s3 hS3 r3 => ?_
  refine ⟨ρ3, δ, S3, y, S4, hS3, hσ.mono ((s1.trans s2).trans s3), e4, fun u4 H4 ρ4 s4 hS4 r4 => ?_⟩
  refine ho _ _ _ _ _ _ _ _ _ _ hS4 (r3.mono s4) r4 e5 fun u5 H5 ρ5 s5 hS5 r5 => ?_
  refine hs _ _ _ _ _ _ _ _ _ _ _ hS5 (rv.mono (((s2.trans s3).trans s4).trans s5)) (rw'.mono ((s3.trans s4).trans s5)) r5 e6 fun H6 s6 hS6 => ?_
  have all := ((((s1.trans s2).trans s3).trans s4).trans s5).trans s6
  exact q σ H6 ρ5 all hS6 (hσ.mono all)
end
section
variable {X : Cx}
theorem get_list : PGet X (rIxL X.K) := by
  intro pins s σ H x y v u Q I rx ry h
  obtain ⟨p, xs, i, z, rfl, rfl, hq, he, q⟩ := h
  cases rx
  obtain ⟨t, rfl⟩ := ry
  obtain ⟨its, r, pl, hz⟩ := I.list hq
  obtain ⟨j, h1, h2, h3, h4, h5⟩ := atI_get he
  obtain ⟨w, ew, rw'⟩ := r.get h2
  have hl := r.length
  have hn := line63
  have fin : EP X pins σ Q w s := ⟨z, H, I, rw', q⟩
  rcases Int.lt_or_le i 0 with h0 | h0
  · have hj : (i + (its.toArray.size : Int)).toNat = j := by
      rw [seqIndex_neg h0 h4] at h1
      rw [List.size_toArray, ← hl]
      exact Option.some.inj h1
    exact PySem.wpAny_getItem_list_neg pl.isList h0 (by rw [List.size_toArray] <;> omega) (by omega) (by rw [hj]; simpa using ew) fin
  · have hj : i.toNat = j := by
      rw [seqIndex_of h0 h5] at h1
      exact Option.some.inj h1
    exact PySem.wpAny_getItem_list pl.isList h0 (by omega) (by rw [hj]; simpa using ew) fin
end
/-! min of pairs -/
def prT (p : Int × Int) : D := .tup [.int p.1, .int p.2]
def prOf : D → Option (Int × Int)
  | .tup [.int a, .int b] => some (a, b)
  | _ => none
def prsOf : List D → Option (List (Int × Int))
  | [] => some []
  | d :: r => (prOf d).bind fun p => (prsOf r).bind fun q => some (p :: q)
theorem prOf_eq {d : D} {p : Int × Int} (h : prOf d = some p) : d = prT p := by
  unfold prOf at h
  split at h
  · cases h; rfl
  · cases h
theorem prsOf_eq : ∀ {ds : List D} {ps : List (Int × Int)}, prsOf ds = some ps → ds = ps.map prT
  | [], _, h => by cases h; rfl
  | d :: r, _, h => by
    obtain ⟨p, e1, h⟩ := bnd (o := prOf d) h
    obtain ⟨q, e2, h⟩ := bnd h
    cases h
    rw [prOf_eq e1, prsOf_eq e2]
    rfl
theorem prsOf_map : ∀ ps : List (Int × Int), prsOf (ps.map prT) = some ps
  | [] => rfl
  | p :: ps => by
    show (prOf (prT p)).bind _ = _
    rw [show prOf (prT p) = some p from rfl, Option.bind_some]
    show (prsOf (ps.map prT)).bind _ = _
    rw [prsOf_map ps]
    rfl
def rMinP (K : PySem.W.Frag) : List V → Hp → VK → Prop := fun vs H Q => ∃ (a : Addr) (xs : List V) (p : Int × Int) (ps : List (Int × Int)), vs = [V.ref a] ∧ SqL K H a xs ∧ DpAll K H xs ((p :: ps).map PySem.W.Datum.toD) ∧
  ∀ (i : Nat) (v : V), xs[i]? = some v → (p :: ps)[i]? = some (PySem.W.minOf p ps) → Q v H
theorem toD_inj {p q : Int × Int} (h : PySem.W.Datum.toD p = PySem.W.Datum.toD q) : p = q := by
  have h' : PyData.tuple [.int p.1, .int p.2] = PyData.tuple [.int q.1, .int q.2] := h
  injection h' with h1
  injection h1 with h2 h3
  injection h3 with h4 _
  injection h2 with h2
  injection h4 with h4
  exact Prod.ext h2 h4
theorem cr_minP {X : Cx} (hu : X.A.units + 8 < cLine) (hc : X.calm = true) : CallR X (.builtin "min") (rMinP X.K) := by
  intro pins s σ H vs us Q I r h
  obtain ⟨a, xs, p, ps, rfl, hs, hd, q⟩ := h
  obtain ⟨its, rv, hl, _⟩ := I.list hs
  rw [Vals.ref1 r]
  obtain ⟨as, ra⟩ := Dp.readsAll I _ _ _ hd rv
  have HA : PySem.W.HoldAll s.heap its.toArray.toList (p :: ps) := ⟨as, ra⟩
  refine PySem.W.min_list_datum (I.ok.hd hc) hl.isList HA (show X.A.units + 1 + 1 < cLine by omega) fun i v h' tk hi hv hk => ?_
  obtain ⟨y, hy, bs, ry⟩ := HA.at (i := i) (v := v) (by simpa using hi)
  obtain ⟨cs, rc⟩ := hv
  obtain ⟨e, _⟩ := PyProof.Rows.reads_det (fun b o e _ => hk b o e) ry rc
  have ey : PySem.W.minOf p ps = y := toD_inj e
  have hv : its[i]? = some v := by simpa using hi
  have hlt : i < xs.length := by rw [rv.length]; exact (List.getElem?_eq_some_iff.mp hv).1
  obtain ⟨u', hu', rx⟩ := rv.get (List.getElem?_eq_getElem hlt)
  obtain rfl : v = u' := Option.some.inj (hv.symm.trans hu')
  have hx : xs[i]? = some xs[i] := List.getElem?_eq_getElem hlt
  exact ⟨_, H, I.kept hk, rx, q i _ hx (by rw [hy, ey])⟩
def minPO : OC := fun ds S => match ds with
  | [d] => (lsOf S d).bind fun xs => (prsOf xs).bind fun ps => match ps with
    | p :: r => some (prT (PySem.W.minOf p r), S)
    | [] => none
  | _ => none
section
variable {K : PySem.W.Frag}
theorem prs_dp {H : Hp} {ρ : Ro} : ∀ {ps : List (Int × Int)} {vs : List V}, RVs K H ρ vs (ps.map prT) → DpAll K H vs (ps.map PySem.W.Datum.toD)
  | [], _, r => by cases r; exact .nil
  | p :: ps, _, r => by
    cases r with | cons r1 r2 => ?_
    obtain ⟨a, ws, rfl, hq, rw'⟩ := tpOf_sq r1 (rfl : tpOf (prT p) = some [.int p.1, .int p.2])
    cases rw' with | cons w1 rw' => ?_
    cases rw' with | cons w2 rw' => ?_
    cases rw'
    cases w1; cases w2
    exact .cons (.tup hq (.cons (.int _) (.cons (.int _) .nil))) (prs_dp r2)
theorem cbD_minP : CbD K (rMinP K) minPO := by
  intro xs H Q ρ S ds z S' hS rs eq q
  unfold minPO at eq
  split at eq
  · cases rs with | cons rx rn => ?_
    cases rn
    obtain ⟨ys, e1, eq⟩ := bnd eq
    obtain ⟨ps, e2, eq⟩ := bnd eq
    cases ps with
    | nil => cases eq
    | cons p r =>
      cases eq
      obtain rfl := prsOf_eq e2
      obtain ⟨a, vs, rfl, hq, rv⟩ := lsOf_sq hS rx e1
      refine ⟨a, vs, p, r, rfl, hq, prs_dp rv, fun i v hv hp => ?_⟩
      obtain ⟨w, hw, rw'⟩ := rv.getV hv
      rw [List.getElem?_map, hp] at hw
      cases hw
      exact q _ H ρ (Step.refl _ _) hS rw'
  · cases eq
theorem x_minP {S : Sg} {Q : D → Sg → Prop} {p : Int × Int} {r : List (Int × Int)} (q : Q (prT (PySem.W.minOf p r)) S) : W (minPO [.lst ((p :: r).map prT)] S) Q := by
  refine ⟨_, _, ?_, q⟩
  unfold minPO
  dsimp only
  rw [lsv_lst, Option.bind_some, prsOf_map]
  rfl
theorem minOf_spec : ∀ (r : List (Int × Int)) (p : Int × Int), PySem.W.minOf p r ∈ p :: r ∧ ∀ q ∈ p :: r, (PySem.W.minOf p r).1 < q.1 ∨ ((PySem.W.minOf p r).1 = q.1 ∧ (PySem.W.minOf p r).2 ≤ q.2)
  | [], p => ⟨by show p ∈ [p]; simp, fun q hq => by
      obtain rfl := List.mem_singleton.mp hq
      exact .inr ⟨rfl, Int.le_refl _⟩⟩
  | y :: r, p => by
    have step : PySem.W.minOf p (y :: r) = PySem.W.minOf (if PySem.W.DatumOrd.lt y p = true then y else p) r := rfl
    have hlt : PySem.W.DatumOrd.lt y p = if y.1 = p.1 then decide (y.2 < p.2) else decide (y.1 < p.1) := rfl
    rw [step]
    by_cases h : PySem.W.DatumOrd.lt y p = true
    · rw [if_pos h]
      obtain ⟨i1, i2⟩ := minOf_spec r y
      have hy := i2 y (List.mem_cons_self ..)
      refine ⟨List.mem_cons_of_mem _ i1, fun q hq => ?_⟩
      rcases List.mem_cons.mp hq with rfl | hq
      · rw [hlt] at h
        split at h
        · have := of_decide_eq_true h; omega
        · have := of_decide_eq_true h; omega
      · exact i2 q hq
    · rw [if_neg h]
      obtain ⟨i1, i2⟩ := minOf_spec r p
      have hp := i2 p (List.mem_cons_self ..)
      refine ⟨?_, fun q hq => ?_⟩
      · rcases List.mem_cons.mp i1 with e | e
        · rw [e]; exact List.mem_cons_self ..
        · exact List.mem_cons_of_mem _ (List.mem_cons_of_mem _ e)
      · rcases List.mem_cons.mp hq with rfl | hq
        · exact hp
        · rcases List.mem_cons.mp hq with rfl | hq
          · rw [hlt] at h
            split at h
            · have h' : ¬ q.2 < p.2 := fun k => h (decide_eq_true k)
              omega
            · have h' : ¬ q.1 < p.1 := fun k => h (decide_eq_true k)
              omega
          · exact i2 q (List.mem_cons_of_mem _ hq)
end
/-! derivations -/
section
variable {X : Cx} {a b e value : Expr} {f g h : FE} {pos tpos : Pos}
theorem jsfldaug {C : Addr} {fl : Str} {op : Operator} {rd : R2} {o : O2} (cl : Cls X.K C) (n : NoAttr X.K C fl) (ha : JE X a f) (hv : JE X value g) (hop : InOp X op rd) (hd : OpD X.K rd o) : JS X (.AugAssign (.Attribute a fl tpos) op value pos) (fldaugS C fl f g o) := PS.imp (ps_fldaug ha hv hop) (ls_fldaug hd cl n)
theorem jsaugs {op : Operator} {ti : TIp} {o : O2} (ha : JE X a f) (hb : JE X b g) (he : JE X e h) (ho : PIp X op ti) (hd : OpD X.K ti o) (hst : ∀ ov iv new, augStore b ov iv new = (do holding [new, ov, iv] (setItem ov iv new); release [new, ov, iv] []; pure .next) := by intros; rfl) :
    JS X (.AugAssign (.Subscript a b tpos) op e pos) (augSubS f g ixLO h o setLO) := PS.imp (ps_augS ha hb get_list he ho set_list hst) (ls_augS opD_ixL hd stD_L)
end
/-! walking -/
section
variable {δ : Dl} {S : Sg} {Q : Fl → Dl → Sg → Prop}
theorem w_fldaugS {C : Addr} {f : Str} {fa fv : FE} {o : O2} (h : W (fa δ S) fun d S1 => ∃ gs x, fsOf S1 C d = some gs ∧ gs.lookup f = some x ∧ W (fv δ S1) fun y S2 => W (o x y S2) fun z S3 => ∃ n gs', d = .loc n ∧ S3[n]? = some (.ins C gs') ∧ gs'.length < 1000 ∧ Q .nx δ (S3.set n (.ins C (putD f z gs')))) : WS (fldaugS C f fa fv o δ S) Q := by
  obtain ⟨d, S1, e1, gs, x, e2, e3, y, S2, e4, z, S3, e5, n, gs', rfl, e6, l, q⟩ := h
  refine ⟨_, _, _, ?_, q⟩
  unfold fldaugS
  rw [e1, Option.bind_some, e2, Option.bind_some, e3, Option.bind_some, e4, Option.bind_some, e5, Option.bind_some]
  dsimp only
  rw [e6]
  dsimp only
  rw [if_pos ⟨rfl, l⟩]
theorem w_augSubS {fo fi fe : FE} {g o : O2} {st : OSt} (h : W (fo δ S) fun d S1 => W (fi δ S1) fun i S2 => W (g d i S2) fun x S3 => W (fe δ S3) fun y S4 => W (o x y S4) fun z S5 => ∃ S6, st d i z S5 = some S6 ∧ Q .nx δ S6) : WS (augSubS fo fi g fe o st δ S) Q := by
  obtain ⟨d, S1, e1, i, S2, e2, x, S3, e3, y, S4, e4, z, S5, e5, S6, e6, q⟩ := h
  refine ⟨_, _, _, ?_, q⟩
  unfold augSubS
  rw [e1, Option.bind_some, e2, Option.bind_some, e3, Option.bind_some, e4, Option.bind_some, e5, Option.bind_some, e6]
  rfl
end
section
variable {A : Sg} {L : List Ob} {N k : Nat} {Q : D → Sg → Prop}
theorem wl_ixL (hl : A.length = N) {xs : List D} {i : Int} {y : D} (h : L[k]? = some (.lst xs)) (h2 : atI xs i = some y) (q : Q y (A ++ L)) : W (ixLO (.loc (N + k)) (.int i) (A ++ L)) Q := by
  refine ⟨_, _, ?_, q⟩
  unfold ixLO
  dsimp only
  have e : lsOf (A ++ L) (.loc (N + k)) = some xs := by
    unfold lsOf
    dsimp only
    rw [al_get hl, h]
  rw [e, Option.bind_some, h2]
  rfl
end
end DL
end
noncomputable section
namespace DL
open PySem L2
/-! ### the least of a list of int tuples -/
def tpI (r : List Int) : PySem.W.Tup Int := ⟨r⟩
def minR (r : List Int) (rs : List (List Int)) : List Int := (PySem.W.minOf (tpI r) (rs.map tpI)).items
def rMinR (K : PySem.W.Frag) : List V → Hp → VK → Prop := fun vs H Q => ∃ (a : Addr) (xs : List V) (p : List Int) (ps : List (List Int)), vs = [V.ref a] ∧ SqL K H a xs ∧ DpAll K H xs ((p :: ps).map fun r => PySem.W.Datum.toD (tpI r)) ∧
  ∀ (i : Nat) (v : V), xs[i]? = some v → (p :: ps)[i]? = some (minR p ps) → Q v H
theorem toD_ints : ∀ {p q : List Int}, p.map PySem.W.Datum.toD = q.map PySem.W.Datum.toD → p = q
  | [], [], _ => rfl
  | [], _ :: _, h => by cases h
  | _ :: _, [], h => by cases h
  | a :: p, b :: q, h => by
    rw [List.map_cons, List.map_cons] at h
    injection h with h1 h2
    have h1 : PyData.int a = PyData.int b := h1
    injection h1 with h1
    rw [h1, toD_ints h2]
theorem toD_tpI {p q : PySem.W.Tup Int} (h : PySem.W.Datum.toD p = PySem.W.Datum.toD q) : p = q := by
  have h' : PyData.tuple (p.items.map PySem.W.Datum.toD) = PyData.tuple (q.items.map PySem.W.Datum.toD) := h
  injection h' with h1
  have := toD_ints h1
  cases p
  cases q
  exact congrArg _ this
theorem cr_minR {X : Cx} (hu : X.A.units + 8 < cLine) (hc : X.calm = true) : CallR X (.builtin "min") (rMinR X.K) := by
  intro pins s σ H vs us Q I r h
  obtain ⟨a, xs, p, ps, rfl, hs, hd, q⟩ := h
  obtain ⟨its, rv, hl, _⟩ := I.list hs
  rw [Vals.ref1 r]
  have hd : DpAll X.K H xs ((tpI p :: ps.map tpI).map PySem.W.Datum.toD) := by
    rw [List.map_cons, List.map_map]
    exact hd
  obtain ⟨as, ra⟩ := Dp.readsAll I _ _ _ hd rv
  have HA : PySem.W.HoldAll s.heap its.toArray.toList (tpI p :: ps.map tpI) := ⟨as, ra⟩
  refine PySem.W.min_list_datum (I.ok.hd hc) hl.isList HA (show X.A.units + (1 + 0) + 1 < cLine by omega) fun i v h' tk hi hv hk => ?_
  obtain ⟨y, hy, bs, ry⟩ := HA.at (i := i) (v := v) (by simpa using hi)
  obtain ⟨cs, rc⟩ := hv
  obtain ⟨e, _⟩ := PyProof.Rows.reads_det (fun b o e _ => hk b o e) ry rc
  have ey : PySem.W.minOf (tpI p) (ps.map tpI) = y := toD_tpI e
  have hv : its[i]? = some v := by simpa using hi
  have hlt : i < xs.length := by rw [rv.length]; exact (List.getElem?_eq_some_iff.mp hv).1
  obtain ⟨u', hu', rx⟩ := rv.get (List.getElem?_eq_getElem hlt)
  obtain rfl : v = u' := Option.some.inj (hv.symm.trans hu')
  have hx : xs[i]? = some xs[i] := List.getElem?_eq_getElem hlt
  refine ⟨_, H, I.kept hk, rx, q i _ hx ?_⟩
  have hy : ((p :: ps).map tpI)[i]? = some y := hy
  rw [List.getElem?_map] at hy
  obtain ⟨z, hz, hzy⟩ := Option.map_eq_some_iff.mp hy
  rw [hz]
  unfold minR
  rw [ey, ← hzy]
  rfl
def minRO : OC := fun ds S => match ds with
  | [d] => (lsOf S d).bind fun xs => (rowsOf xs).bind fun ps => match ps with
    | p :: r => some (rowT (minR p r), S)
    | [] => none
  | _ => none
section
variable {K : PySem.W.Frag}
theorem ints_dp {H : Hp} : ∀ {ns : List Int}, DpAll K H (ns.map V.int) (ns.map PySem.W.Datum.toD)
  | [] => .nil
  | _ :: _ => .cons (.int _) ints_dp
theorem rows_dp {H : Hp} {ρ : Ro} : ∀ {ps : List (List Int)} {vs : List V}, RVs K H ρ vs (ps.map rowT) → DpAll K H vs (ps.map fun r => PySem.W.Datum.toD (tpI r))
  | [], _, r => by cases r; exact .nil
  | p :: ps, _, r => by
    cases r with | cons r1 r2 => ?_
    obtain ⟨a, ws, rfl, hq, rw'⟩ := tpOf_sq r1 (rfl : tpOf (rowT p) = some (p.map .int))
    rw [rvs_ints rw'] at hq
    exact .cons (.tup hq ints_dp) (rows_dp r2)
theorem rowsOf_eq : ∀ {ds : List D} {ps : List (List Int)}, rowsOf ds = some ps → ds = ps.map rowT
  | [], _, h => by cases h; rfl
  | d :: r, _, h => by
    obtain ⟨p, e1, h⟩ := bnd (o := rowOf d) h
    obtain ⟨q, e2, h⟩ := bnd h
    cases h
    rw [(rowOf_eq e1).1, rowsOf_eq e2]
    rfl
theorem cbD_minR : CbD K (rMinR K) minRO := by
  intro xs H Q ρ S ds z S' hS rs eq q
  unfold minRO at eq
  split at eq
  · cases rs with | cons rx rn => ?_
    cases rn
    obtain ⟨ys, e1, eq⟩ := bnd eq
    obtain ⟨ps, e2, eq⟩ := bnd eq
    cases ps with
    | nil => cases eq
    | cons p r =>
      cases eq
      obtain rfl := rowsOf_eq e2
      obtain ⟨a, vs, rfl, hq, rv⟩ := lsOf_sq hS rx e1
      refine ⟨a, vs, p, r, rfl, hq, rows_dp rv, fun i v hv hp => ?_⟩
      obtain ⟨w, hw, rw'⟩ := rv.getV hv
      rw [List.getElem?_map, hp] at hw
      cases hw
      exact q _ H ρ (Step.refl _ _) hS rw'
  · cases eq
theorem x_minR {S : Sg} {Q : D → Sg → Prop} {p : List Int} {r : List (List Int)} (h : ∀ x ∈ p :: r, x ≠ []) (q : Q (rowT (minR p r)) S) : W (minRO [.lst ((p :: r).map rowT)] S) Q := by
  refine ⟨_, _, ?_, q⟩
  unfold minRO
  dsimp only
  rw [lsv_lst, Option.bind_some, rowsOf_map _ h]
  rfl
theorem minR_nil (p : List Int) : minR p [] = p := rfl
theorem minR_cons (p y : List Int) (r : List (List Int)) : minR p (y :: r) = minR (if PySem.W.listLt y p = true then y else p) r := by
  unfold minR
  show (PySem.W.minOf (if PySem.W.DatumOrd.lt (tpI y) (tpI p) = true then tpI y else tpI p) (r.map tpI)).items = _
  have : PySem.W.DatumOrd.lt (tpI y) (tpI p) = PySem.W.listLt y p := rfl
  rw [this]
  split <;> rfl
theorem listLt3 (a b c d e f : Int) : PySem.W.listLt [a, b, c] [d, e, f] = decide (a < d ∨ (a = d ∧ (b < e ∨ (b = e ∧ c < f)))) := by
  unfold PySem.W.listLt
  by_cases h1 : a = d
  · rw [if_pos h1]
    unfold PySem.W.listLt
    by_cases h2 : b = e
    · rw [if_pos h2]
      unfold PySem.W.listLt
      by_cases h3 : c = f
      · rw [if_pos h3]
        show false = _
        exact (decide_eq_false (by omega)).symm
      · rw [if_neg h3]
        show decide (c < f) = _
        exact decide_eq_decide.mpr (by omega)
    · rw [if_neg h2]
      show decide (b < e) = _
      exact decide_eq_decide.mpr (by omega)
  · rw [if_neg h1]
    show decide (a < d) = _
    exact decide_eq_decide.mpr (by omega)
end
end DL
end
noncomputable section
namespace DL
open PySem L2
/-! ### sorted: tuples of two numbers and a pair of numbers -/
abbrev Nst := Int × Int × Int × Int
def encN (r : Nst) : PyData := .tuple [.int r.1, .int r.2.1, .tuple [.int r.2.2.1, .int r.2.2.2]]
def nstT (r : Nst) : D := .tup [.int r.1, .int r.2.1, .tup [.int r.2.2.1, .int r.2.2.2]]
def leN (p q : Nst) : Bool := PySem.W.dataLe false encN p q
theorem encN_alike (p q : Nst) : PySem.W.alike (encN p) (encN q) = true := by
  unfold encN
  simp only [PySem.W.alike, PySem.W.alikeAll, Bool.and_self]
theorem dataLt_i (a b : Int) : PySem.W.dataLt (.int a) (.int b) = decide (a < b) := PySem.W.dataLt_int a b
theorem alike_i (a b : Int) : PySem.W.alike (.int a) (.int b) = true := by simp only [PySem.W.alike]
theorem eqv_i (a b : Int) : PyData.eqv (.int a) (.int b) = decide (a = b) := PySem.W.Datum.eqv a b
/-- the first two numbers decide where they differ -/
theorem leN_ne {p q : Nst} (h : ¬ (p.1 = q.1 ∧ p.2.1 = q.2.1)) : leN p q = decide (p.1 < q.1 ∨ (p.1 = q.1 ∧ p.2.1 ≤ q.2.1)) := by
  show (!PySem.W.dataLt (encN q) (encN p)) = _
  unfold encN
  rw [PySem.W.dataLt_tuple, PySem.W.dataLt_cons (alike_i _ _), eqv_i]
  by_cases h1 : q.1 = p.1
  · rw [if_pos (decide_eq_true h1), PySem.W.dataLt_cons (alike_i _ _), eqv_i]
    have h2 : ¬ q.2.1 = p.2.1 := fun z => h ⟨h1.symm, z.symm⟩
    rw [if_neg (by rw [decide_eq_false h2]; exact Bool.false_ne_true), dataLt_i, Bool.eq_iff_iff, Bool.not_eq_true', decide_eq_false_iff_not, decide_eq_true_iff]
    omega
  · rw [if_neg (by rw [decide_eq_false h1]; exact Bool.false_ne_true), dataLt_i, Bool.eq_iff_iff, Bool.not_eq_true', decide_eq_false_iff_not, decide_eq_true_iff]
    omega
section
variable {X : Cx}
def IsNst (K : PySem.W.Frag) (H : Hp) (v : V) (r : Nst) : Prop := Dp K H v (encN r)
def rSortedN (K : PySem.W.Frag) : List V → Hp → VK → Prop := fun vs H Q => ∃ (a : Addr) (bs : List (V × Nst)), vs = [V.ref a] ∧ SqL K H a (bs.map (·.1)) ∧ DpAll K H (bs.map (·.1)) (bs.map fun b => encN b.2) ∧
  ∀ p, H p = none → Q (.ref p) (upd H p (.lst ((bs.mergeSort fun p q => leN p.2 q.2).map (·.1))))
theorem each_nst : ∀ {bs : List (V × Nst)} {us : List Value}, Vals (bs.map (·.1)) us → PySem.W.EachIs (fun u (b : V × Nst) => RelV b.1 u) us bs
  | [], _, h => by cases h; exact .nil
  | b :: bs, _, h => by
    rw [List.map_cons] at h
    cases h with
    | cons h1 h2 => exact .cons h1 (each_nst h2)
theorem vals_nst : ∀ {us : List Value} {bs : List (V × Nst)}, PySem.W.EachIs (fun u (b : V × Nst) => RelV b.1 u) us bs → Vals (bs.map (·.1)) us
  | _, _, .nil => .nil
  | _, _, .cons h t => .cons h (vals_nst t)
theorem cr_sortedN (hu : X.A.units + 8 < cLine) : CallR X (.builtin "sorted") (rSortedN X.K) := by
  intro pins s σ H vs us Q I r h
  obtain ⟨a, bs, rfl, hs, hd, q⟩ := h
  obtain ⟨its, rv, hl, hz⟩ := I.list hs
  rw [Vals.ref1 r]
  obtain ⟨as, ra⟩ := Dp.readsAll I _ _ _ hd rv
  have er : PySem.W.EachIs (fun v (b : V × Nst) => ∃ as, PySem.Reads s.heap v (encN b.2) as) its bs := PySem.W.readsAll_each (fun b : V × Nst => encN b.2) ra
  refine PySem.W.sorted_data (enc := fun b : V × Nst => encN b.2) hl.isList (each_nst rv) er (PySem.W.AllAlike.of fun b b' => encN_alike _ _) (.inl fun d hd => ?_) (by rw [List.length_map] at hz; exact hz) (fun b _ => ?_) fun out ho eo => ?_
  · obtain ⟨b, _, rfl⟩ := List.mem_map.mp hd
    exact ⟨_, _, rfl⟩
  · show X.A.units + 2 + (encN b.2).depth < cLine
    have : (encN b.2).depth ≤ 3 := by
      simp only [encN, PyData.depth, PyData.depthAll]
      omega
    omega
  · have hv := vals_nst eo
    obtain ⟨ep, he'⟩ := PyProof.Rows.sortedAll_at s.heap its (List.toArray out)
    have hlen : ((bs.mergeSort fun p q => leN p.2 q.2).map (·.1)).length ≤ sizeLine := by
      rw [List.length_map, List.length_mergeSort]
      rw [List.length_map] at hz
      exact hz
    exact ⟨.ref _, upd H (s.heap.objs.size + 1) (.lst ((bs.mergeSort fun p q => leN p.2 q.2).map (·.1))), I.laid (t' := s.toks) (fun _ _ => PyProof.Rows.sortedAll_old) (Nat.le_succ _) ⟨hlen, out, ep, hv, he'⟩, rfl, q _ (I.hok.fresh (Nat.le_succ _))⟩
end
section
variable {K : PySem.W.Frag}
def nstOf : D → Option Nst
  | .tup [.int a, .int b, .tup [.int c, .int d]] => some (a, b, c, d)
  | _ => none
def nstsOf : List D → Option (List Nst)
  | [] => some []
  | d :: r => (nstOf d).bind fun x => (nstsOf r).bind fun y => some (x :: y)
theorem nstOf_eq {d : D} {p : Nst} (h : nstOf d = some p) : d = nstT p := by
  unfold nstOf at h
  split at h
  · cases h; rfl
  · cases h
def sortNO : OC := fun ds S => match ds with
  | [d] => (lsOf S d).bind fun xs => (nstsOf xs).bind fun rows => some (.lst ((rows.mergeSort leN).map nstT), S)
  | _ => none
theorem nst_pair {H : Hp} {ρ : Ro} : ∀ {ds : List D} {vs : List V} {rows : List Nst}, RVs K H ρ vs ds → nstsOf ds = some rows → ∃ bs : List (V × Nst), vs = bs.map (·.1) ∧ rows = bs.map (·.2) ∧ DpAll K H (bs.map (·.1)) (bs.map fun b => encN b.2) ∧ ∀ b ∈ bs, RV K H ρ b.1 (nstT b.2)
  | _, _, _, .nil, h => by
    cases h
    exact ⟨[], rfl, rfl, .nil, fun b hb => by cases hb⟩
  | d :: ds, v :: vs, _, .cons r rs, h => by
    obtain ⟨ns, e1, h⟩ := bnd (o := nstOf d) h
    obtain ⟨rest, e2, h⟩ := bnd h
    cases h
    obtain ⟨bs, rfl, rfl, hd, hb⟩ := nst_pair rs e2
    obtain rfl := nstOf_eq e1
    refine ⟨(v, ns) :: bs, rfl, rfl, .cons (r.dp ?_) hd, fun b hbm => ?_⟩
    · unfold nstT pyD pyL pyD pyL pyD pyL pyD pyL pyD pyL pyD pyL
      rfl
    · rcases List.mem_cons.mp hbm with rfl | hbm
      · exact r
      · exact hb b hbm
theorem rvs_nst {H : Hp} {ρ : Ro} : ∀ {bs : List (V × Nst)}, (∀ b ∈ bs, RV K H ρ b.1 (nstT b.2)) → RVs K H ρ (bs.map (·.1)) (bs.map fun b => nstT b.2)
  | [], _ => .nil
  | b :: bs, h => .cons (h b (by simp)) (rvs_nst fun x hx => h x (by simp [hx]))
theorem ms_nst {bs : List (V × Nst)} : (bs.mergeSort fun p q => leN p.2 q.2).map (·.2) = (bs.map (·.2)).mergeSort leN :=
  List.map_mergeSort (r := fun p q : V × Nst => leN p.2 q.2) (s := leN) (f := (·.2)) (fun _ _ _ _ => rfl)
theorem cbD_sortN : CbD K (rSortedN K) sortNO := by
  intro xs H Q ρ S ds z S' hS rs eq q
  unfold sortNO at eq
  split at eq
  · cases rs with | cons rx rn => ?_
    cases rn
    obtain ⟨ys, e1, eq⟩ := bnd eq
    obtain ⟨rows, e2, eq⟩ := bnd eq
    cases eq
    obtain ⟨a, vs, rfl, hq, r⟩ := lsOf_sq hS rx e1
    obtain ⟨bs, rfl, rfl, hd, hb⟩ := nst_pair r e2
    refine ⟨a, bs, rfl, hq, hd, fun p hp => ?_⟩
    have rr : RVs K H ρ ((bs.mergeSort fun p q => leN p.2 q.2).map (·.1)) (((bs.map (·.2)).mergeSort leN).map nstT) := by
      rw [← ms_nst, List.map_map]
      exact rvs_nst fun b hbm => hb b (List.mem_mergeSort.mp hbm)
    exact q _ _ ρ (Step.new hS hp) (hS.new hp) (rv_lst hS hp rr)
  · cases eq
theorem nstsOf_map : ∀ (rows : List Nst), nstsOf (rows.map nstT) = some rows
  | [] => rfl
  | r :: rows => by
    rw [List.map_cons]
    unfold nstsOf
    rw [show nstOf (nstT r) = some r from rfl, Option.bind_some, nstsOf_map rows]
    rfl
theorem x_sortN {S : Sg} {Q : D → Sg → Prop} {rows : List Nst} (q : Q (.lst ((rows.mergeSort leN).map nstT)) S) : W (sortNO [.lst (rows.map nstT)] S) Q := by
  refine ⟨_, _, ?_, q⟩
  unfold sortNO
  dsimp only
  rw [lsv_lst, Option.bind_some, nstsOf_map]
  rfl
end
end DL
end
noncomputable section
namespace DL
open PySem L2
/-! ### d.get(k, x), xs.remove(int), xs[::-1], str(int) -/
section
variable {K : PySem.W.Frag}
/-- d.get(k, x) -/
def getXO (fd fe fx : FE) : FE := fun δ S => (fd δ S).bind fun p => if (dsOf p.2 p.1).isSome then (fe δ p.2).bind fun y => (fx δ y.2).bind fun z => (dsOf z.2 p.1).bind fun gs => (keyOf y.1).bind fun k => some ((valG gs k).getD z.1, z.2) else none
theorem le_getX {fd fe fx : FE} : ∀ σ H Q, tD K (getXO fd fe fx) σ H Q → tDGet2 (tD K fd) (tD K fe) (tD K fx) σ H Q := by
  rintro σ H Q ⟨ρ, δ, S, d, S', hS, hσ, e, q⟩
  obtain ⟨⟨x, S1⟩, e1, e⟩ := bnd e
  dsimp only at e
  split at e
  · rename_i hd
    obtain ⟨⟨y, S2⟩, e2, e⟩ := bnd e
    obtain ⟨⟨z, S3⟩, e3, e⟩ := bnd e
    obtain ⟨gs, e4, e⟩ := bnd e
    obtain ⟨k, e5, e⟩ := bnd e
    cases e
    refine ⟨ρ, δ, S, _, S1, hS, hσ, e1, fun v H1 ρ1 s1 hS1 rv => ?_⟩
    obtain ⟨gs0, e0⟩ := Option.isSome_iff_exists.mp hd
    obtain ⟨a, kvs0, rfl, h0, _⟩ := dsOf_rd hS1 rv e0
    refine ⟨a, rfl, .inl ⟨kvs0, .inl h0⟩, ρ1, δ, S1, _, S2, hS1, hσ.mono s1, e2, fun w H2 ρ2 s2 hS2 rw' => ⟨ρ2, δ, S2, _, _, hS2, hσ.mono (s1.trans s2), e3, fun u H3 ρ3 s3 hS3 ru => ?_⟩⟩
    obtain ⟨a', kvs, ea, h1, r⟩ := dsOf_rd hS3 (rv.mono (s2.trans s3)) e4
    cases ea
    obtain rfl := keyOf_rv (rw'.mono s3) e5
    refine ⟨valV kvs k, .inl ⟨kvs, k, .inl h1, rfl, rfl⟩, ?_⟩
    have all := s1.trans (s2.trans s3)
    cases hv : valG gs k with
    | some dd =>
      rw [hv] at q
      obtain ⟨v, e6, rv'⟩ := r.yes hv
      rw [e6]
      exact q _ _ _ all hS3 rv'
    | none =>
      rw [hv] at q
      rw [r.nope hv]
      exact q _ _ _ all hS3 ru
  · cases e
/-- xs.remove(k), xs a list of numbers that has it -/
def remO : O2 := fun d e S => match d with
  | .loc n => match e with
    | .int k => match S[n]? with
      | some (.lst ds) => (intsOf ds).bind fun ns => if k ∈ ns then some (.non, S.set n (.lst ((ns.erase k).map .int))) else none
      | _ => none
    | _ => none
  | _ => none
def remXO (fo fe : FE) : FE := fun δ S => (fo δ S).bind fun p => if isLoc p.2 p.1 then (fe δ p.2).bind fun y => remO p.1 y.1 y.2 else none
theorem remO_some {d e z : D} {S S' : Sg} (h : remO d e S = some (z, S')) : ∃ (n : Nat) (k : Int) (ns : List Int), d = .loc n ∧ e = .int k ∧ S[n]? = some (.lst (ns.map .int)) ∧ k ∈ ns ∧ z = .non ∧ S' = S.set n (.lst ((ns.erase k).map .int)) := by
  unfold remO at h
  split at h
  · rename_i n
    split at h
    · rename_i k
      split at h
      · rename_i ds hn
        obtain ⟨ns, e3, h⟩ := bnd h
        split at h
        · rename_i hk
          cases h
          exact ⟨n, k, ns, rfl, rfl, by rw [hn, intsOf_eq e3], hk, rfl, rfl⟩
        · cases h
      · cases h
    · cases h
  · cases h
theorem le_remX {fo fe : FE} {W : WX} : ∀ σ H Q, tD K (remXO fo fe) σ H Q → tRemX K W (tD K fo) (tD K fe) σ H Q := by
  rintro σ H Q ⟨ρ, δ, S, d, S', hS, hσ, e, q⟩
  obtain ⟨⟨x, S1⟩, e1, e⟩ := bnd e
  dsimp only at e
  split at e
  · rename_i hl
    obtain ⟨⟨y, S2⟩, e2, e⟩ := bnd e
    obtain ⟨n, k, ns, ex, ey, hn, hk, ez, eS⟩ := remO_some e
    dsimp only at ex ey hn eS
    subst ex ey ez eS
    refine ⟨ρ, δ, S, _, S1, hS, hσ, e1, fun v H1 ρ1 s1 hS1 rv => ⟨isLoc_ty hS1 rv hl, ρ1, δ, S1, _, S2, hS1, hσ.mono s1, e2, fun w H2 ρ2 s2 hS2 rw' => ?_⟩⟩
    cases rw'
    have rv2 := rv.mono s2
    cases rv2 with
    | loc hm =>
      obtain ⟨vs, h1, h2⟩ := hS2.ob _ _ _ hm hn
      have evs := rvs_ints h2
      subst evs
      refine ⟨_, ns, k, rfl, rfl, h1, fun _ => ?_, fun h => absurd hk h⟩
      have st : Step ρ2 ρ2 H2 (upd H2 _ (.lst ((ns.erase k).map V.int))) := Step.write hm h1
      exact q _ _ ρ2 ((s1.trans s2).trans st) (hS2.write hm ⟨_, h1⟩ ⟨_, upd_same, rvs_intsL _⟩) .non
  · cases e
/-- xs[::-1] -/
def rvLO (f : FE) : FE := fun δ S => (f δ S).bind fun p => (lsOf p.2 p.1).bind fun xs => some (.lst xs.reverse, p.2)
theorem RVs.reverse {ρ : Ro} {H : Hp} : ∀ {vs : List V} {ds : List D}, RVs K H ρ vs ds → RVs K H ρ vs.reverse ds.reverse
  | _, _, .nil => .nil
  | v :: vs, d :: ds, .cons r rs => by
    rw [List.reverse_cons, List.reverse_cons]
    exact (RVs.reverse rs).append (.cons r .nil)
theorem le_rvL {f : FE} : ∀ σ H Q, tD K (rvLO f) σ H Q → tRevL K (tD K f) σ H Q := by
  rintro σ H Q ⟨ρ, δ, S, d, S', hS, hσ, e, q⟩
  obtain ⟨⟨x, S1⟩, e1, e⟩ := bnd e
  obtain ⟨xs, e2, e⟩ := bnd e
  cases e
  refine ⟨ρ, δ, S, x, _, hS, hσ, e1, fun v H1 ρ1 s1 hS1 rv => ?_⟩
  obtain ⟨a, vs, rfl, hq, r⟩ := lsOf_sq hS1 rv e2
  exact ⟨a, vs, rfl, hq, fun p hp => q _ _ ρ1 (s1.trans (Step.new hS1 hp)) (hS1.new hp) (rv_lst hS1 hp r.reverse)⟩
/-- str(int) -/
def strIO : OC := fun ds S => match ds with
  | [.int i] => if i.natAbs.log2 < 1920 then some (.str (toString i), S) else none
  | _ => none
theorem cbD_strI : CbD K (fun xs H Q => ∃ i, xs = [.int i] ∧ i.natAbs.log2 < 1920 ∧ Q (.str (toString i)) H) strIO := by
  intro xs H Q ρ S ds z S' hS rs eq q
  unfold strIO at eq
  split at eq
  · cases rs with | cons rx rn => ?_
    cases rn; cases rx
    split at eq
    · cases eq
      exact ⟨_, rfl, ‹_›, q _ _ ρ (Step.refl _ _) hS .str⟩
    · cases eq
  · cases eq
end
section
variable {X : Cx} {o e f : Expr} {apos cpos p1 p2 p3 pos : Pos} {fo fe ff : FE} {k : Nat}
theorem jgetX (hu : X.A.units + 64 < cLine) (ho : JE X o fo) (he : JE X e fe) (hf : JE X f ff) (m : M2 X o "get" apos e f cpos := by exact ⟨rfl, rfl, rfl, rfl⟩) : JE X (.Call (.Attribute o "get" apos) [e, f] [] cpos) (getXO fo fe ff) := PE.imp (pe_dget2 (by omega) ho he hf m) le_getX
theorem takes_no {X : Cx} : Takes X (fun _ _ _ _ => False) := fun u s' ⟨_, _, _, _, _, _, _, _, _, _, _, _, _, _, _, _, w⟩ => w.elim
theorem jremX (hc : X.calm = true) (ho : JE X o fo) (he : JE X e fe) (hbase : attributeBase o "remove" X.env (eval o X.env) = eval o X.env := by rfl)
    (hfew : ((backTo cpos (starEach [e] X.env)).all (fun x => !x.1) && (backToKw cpos (keywordEach [] X.env)).all (fun x => x.1.isSome)
      && decide (([e] : List Expr).length + ([] : List Keyword).length + (if ([] : List Keyword).isEmpty then 0 else 1) < 30)) = true := by rfl)
    (hline : (apos.endLine == cpos.line) = true := by rfl) (hs : starEach [e] X.env = (false, eval e X.env) :: starEach [] X.env := by rfl) (hplain : (backTo cpos (starEach [] X.env)).any (·.1) = false := by rfl) : JE X (.Call (.Attribute o "remove" apos) [e] [] cpos) (remXO fo fe) := PE.imp (pe_remX hc takes_no ho he hbase hfew hline hs hplain) le_remX
theorem jrvL (he : JE X e fe) : JE X (.Subscript e (.Slice none none (some (.UnaryOp .USub (.Constant (.int 1) k p1) p2)) p3) pos) (rvLO fe) := PE.imp (pe_revL he) le_rvL
end
section
variable {δ : Dl} {S : Sg} {Q : D → Sg → Prop}
theorem w_getX {fd fe fx : FE} (h : W (fd δ S) fun d S1 => (dsOf S1 d).isSome = true ∧ W (fe δ S1) fun y S2 => W (fx δ S2) fun z S3 => ∃ gs k, dsOf S3 d = some gs ∧ keyOf y = some k ∧ Q ((valG gs k).getD z) S3) : W (getXO fd fe fx δ S) Q := by
  obtain ⟨d, S1, e1, hd, y, S2, e2, z, S3, e3, gs, k, e4, e5, q⟩ := h
  refine ⟨_, _, ?_, q⟩
  unfold getXO
  rw [e1, Option.bind_some]
  dsimp only
  rw [if_pos hd, e2, Option.bind_some, e3, Option.bind_some, e4, Option.bind_some, e5, Option.bind_some]
theorem w_rvL {f : FE} (h : W (f δ S) fun d S1 => ∃ xs, lsOf S1 d = some xs ∧ Q (.lst xs.reverse) S1) : W (rvLO f δ S) Q := by
  obtain ⟨d, S1, e1, xs, e2, q⟩ := h
  refine ⟨_, _, ?_, q⟩
  unfold rvLO
  rw [e1, Option.bind_some, e2, Option.bind_some]
theorem w_remX {fo fe : FE} (h : W (fo δ S) fun d S1 => isLoc S1 d = true ∧ W (fe δ S1) fun y S2 => W (remO d y S2) Q) : W (remXO fo fe δ S) Q := by
  obtain ⟨d, S1, e1, hd, y, S2, e2, z, S3, e3, q⟩ := h
  refine ⟨_, _, ?_, q⟩
  unfold remXO
  rw [e1, Option.bind_some]
  dsimp only
  rw [if_pos hd, e2, Option.bind_some]
  exact e3
theorem x_strI {i : Int} (h : i.natAbs.log2 < 1920) (q : Q (.str (toString i)) S) : W (strIO [.int i] S) Q := ⟨_, _, if_pos h, q⟩
theorem wl_rem {A : Sg} {L : List Ob} {N k : Nat} {ns : List Int} {x : Int} (hl : A.length = N) (h : L[k]? = some (.lst (ns.map .int))) (hx : x ∈ ns) (q : Q .non (A ++ L.set k (.lst ((ns.erase x).map .int)))) : W (remO (.loc (N + k)) (.int x) (A ++ L)) Q := by
  refine ⟨_, _, ?_, q⟩
  unfold remO
  dsimp only
  rw [al_get hl, h]
  dsimp only
  rw [intsOf_map, Option.bind_some, if_pos hx, al_set hl]
end
end DL
end
noncomputable section
namespace DL
open PySem L2 PySem.Spec PyProof.Rows
/-! ### set(xs), xs a list of numbers: a set that can be walked -/
section
variable {P : Program} {w : World} {A : Around} {E : Value → Shared → Prop} {s : Shared}
abbrev newS (w : World) : Obj := { cls := .type "set", dict := none, data := .set #[] 0 (.fresh 0 0 (!w.params.followText "set-order")) }
abbrev withS (w : World) (s : Shared) : Shared := { s with heap := s.heap.push (newS w) }
/-- what stands behind it -/
def SetMade (w : World) (s : Shared) (ns : List Int) (s2 : Shared) : Prop := ∃ (h2 : Heap) (tk c : Nat), s2 = { s with heap := h2, toks := tk } ∧ SetR w h2 s.heap.objs.size (fun j => decide (j ∈ ns)) c ∧ c ≤ ns.length ∧ ∀ b o, s.heap.get? b = some o → h2.get? b = some o
set_option maxHeartbeats 3200000 in
theorem set_init_ints {l : Addr} {xs : Array Value} {ns : List Int} (hh : A.handled = none) (hl : s.heap.IsList l xs) (hx : IntsAre xs.toList ns) (few : ns.length + 1 < scanBound) :
    codeAny (model P w) A.in1 (.call (.builtin "set.__init__") ⟨[.ref s.heap.objs.size, .ref l], []⟩) (wants (fun r s2 => r = .none ∧ SetMade w s ns s2) E) (withS w s) := by
  have at_ : (withS w s).heap.get? s.heap.objs.size = some (newS w) := Heap.get?_push_size _ rfl
  refine codeAny_call_builtin F.called_set.init.plain F.entry_set_init (check_set_init_1 ⟨_, at_, rfl⟩ ?_)
  have size_ : xs.size = ns.length := by
    have := IntsAre.length hx
    rwa [Array.length_toList] at this
  obtain ⟨ob, e1, e2, m, e3⟩ := hl
  obtain ⟨c1, c2, c3, c4⟩ := ob
  simp only at e2 e3
  subst e2
  subst e3
  have e4 : (withS w s).heap.get? l = some { cls := .type "list", dict := c2, data := .seq xs m, slots := c4 } := Heap.get?_push_of_some _ e1
  have l1 : (withS w s).heap.IsList l xs := ⟨_, e4, rfl, m, rfl⟩
  have below : l < s.heap.objs.size := Heap.lt_size e1
  have k1 := F.sub_list_set
  have k2 := F.sub_list_frozenset
  have k3 : (Value.type "list" == Value.type "dict") = false := by decide
  unfold Builtin.«set.__init__» noKeywords Builtin.Frozenset.updateFrom
  generalize hG : pyIter = G
  wp_walk
  subst hG
  refine wpAny_pyIter_list l1 ?_
  refine wpAny_bind (wpAny_runValue ?_)
  have calm3 : A.in1.in1.in1.handled = none := by simp [hh]
  have itn : (withS w s).heap.objs.size = s.heap.objs.size + 1 := Heap.size_push ..
  have n1 : l ≠ (withS w s).heap.objs.size := fun z => by
    rw [itn] at z
    exact absurd (z ▸ below) (Nat.not_lt_of_ge (Nat.le_succ _))
  have n2 : s.heap.objs.size ∉ [(withS w s).heap.objs.size, l] := by
    intro z
    rcases List.mem_cons.mp z with z | z
    · rw [itn] at z
      exact Nat.succ_ne_self _ z.symm
    · exact Nat.lt_irrefl _ (Nat.lt_of_le_of_lt (Nat.le_of_eq (List.mem_singleton.mp z)) below)
  have vals : ∀ (i : Nat) (v : Value), xs[i]? = some v → ∃ k t, ns[i]? = some k ∧ v = .int k t := fun i v hv => by
    have hi : i < ns.length := by
      rw [← size_]
      exact (Array.getElem?_eq_some_iff.mp hv).1
    obtain ⟨t, e⟩ := IntsAre.int_at hx i v (by rw [Array.getElem?_toList]; exact hv)
    rw [List.getD_eq_getElem?_getD, List.getElem?_eq_getElem hi] at e
    exact ⟨ns[i], t, List.getElem?_eq_getElem hi, e⟩
  refine set_update_ints ((Walks.list calm3 _ l n1 xs).toS) s.heap.objs.size n2 ns size_ few vals xs.size 0 _ rfl (Nat.zero_le _) ⟨⟨_, Heap.get?_push_size _ rfl, rfl, rfl⟩, l1.push _⟩ ⟨0, Nat.le_refl 0, setR_new_at (Heap.get?_push_of_some _ at_)⟩ fun s3 c3 mv hc made => ?_
  obtain ⟨h3, g3, d3, t3, o3⟩ := s3
  obtain rfl : g3 = s.gens := mv.gens
  obtain rfl : d3 = s.drawn := mv.drawn
  obtain rfl : o3 = s.os := mv.os
  refine wpAny_pure ?_
  refine wpAny_pure ⟨rfl, h3, t3, c3, rfl, made, by rw [← size_]; exact hc, fun b o hb => ?_⟩
  have hlt : b < s.heap.objs.size := Heap.lt_size hb
  refine mv.heap b o (fun z => ?_) (Heap.get?_push_of_some _ (Heap.get?_push_of_some _ hb))
  rcases List.mem_cons.mp z with z | z
  · exact Nat.lt_irrefl _ (z ▸ hlt)
  · have z := List.mem_singleton.mp z
    rw [itn] at z
    exact absurd (z ▸ hlt) (Nat.not_lt_of_ge (Nat.le_succ _))
set_option maxHeartbeats 3200000 in
theorem set_of_ints {l : Addr} {xs : Array Value} {ns : List Int} {Q : Value → Shared → Prop} (hh : A.handled = none) (hl : s.heap.IsList l xs) (hx : IntsAre xs.toList ns) (few : ns.length + 1 < scanBound)
    (q : ∀ s2, SetMade w s ns s2 → Q (.ref s.heap.objs.size) s2) : wpAny (model P w) A (call (.type "set") [.ref l]) Q E s := by
  obtain ⟨t1, t2, mro⟩ := F.called_set.mro
  have made := F.called_set.made
  have sub := F.called_set.sub
  have a1 := F.called_set.notType
  have a2 := F.called_set.canCreate
  have a3 := F.typeCall_set_1 (.ref l)
  refine wpAny_call (codeAny_of_tree ?_)
  change wpAny _ _ (callAny (.type "set") _) _ _ _
  refine wpAny_pure ⟨Code.quiet_builtin _ (by decide +kernel), codeAny_builtin F.entry_type_call ?_⟩
  rw [Around.under_plain (weight_type_call_type "set" [.ref l] []) rfl]
  repeat any_goals first | assumption | wp_step
  refine codeAny_mono (code_set_led1 (.ref l) (E := E) (Q₁ := fun x s1 => x = .ref s.heap.objs.size ∧ s1 = withS w s) ⟨rfl, rfl⟩) fun r s1 hr => ?_
  match r, hr with
  | .error e, hr => exact hr
  | .ok (.ret x), hr =>
    obtain ⟨rfl, rfl⟩ := hr
    have ty : (withS w s).TypeIs (.ref s.heap.objs.size) "set" := ⟨_, Heap.get?_push_size _ rfl, rfl⟩
    have i1 := F.called_set.init.lookup
    have i2 := F.called_set.init.bind (.ref s.heap.objs.size)
    repeat any_goals first | assumption | wp_step
    refine codeAny_mono (set_init_ints (E := E) hh hl hx few) fun r s2 hr => ?_
    match r, hr with
    | .error e, hr => exact hr
    | .ok (.ret y), hr =>
      obtain ⟨rfl, z⟩ := hr
      repeat any_goals first | assumption | wp_step
      exact q _ z
end
section
variable {X : Cx}
/-- set(xs) -/
def rSetI (K : PySem.W.Frag) (w : World) : List V → Hp → VK → Prop := fun xs H Q => ∃ (l : Addr) (ns : List Int), xs = [.ref l] ∧ SqL K H l (ns.map V.int) ∧ ns.length < 64 ∧
  ∀ p c, H p = none → c ≤ ns.length → Q (.ref p) (upd H p (SetO w p (fun j => decide (j ∈ ns)) c))
theorem cr_setI (hc : X.calm = true) : CallR X (.type "set") (rSetI X.K X.w) := by
  intro pins s σ H xs us Q I r h
  obtain ⟨l, ns, rfl, hq, h64, q⟩ := h
  rw [Vals.ref1 r]
  obtain ⟨its, rv, pl, hz⟩ := I.list hq
  refine set_of_ints (ns := ns) (I.ok.hd hc) pl.isList (by simpa using rv.ints) (by unfold scanBound; omega) fun s2 ⟨h2, tk, c, e, R, hc2, keep⟩ => ?_
  subst e
  exact ⟨.ref _, upd H s.heap.objs.size (SetO X.w s.heap.objs.size (fun j => decide (j ∈ ns)) c), I.laid (t' := tk) keep (Nat.le_refl _) (setO_new R), rfl, q _ c (I.hok.fresh (Nat.le_refl _)) hc2⟩
end
def leI (a b : Int) : Bool := decide (a ≤ b)
def setI (ns : List Int) : List Int := (nub ns).mergeSort leI
theorem setI_mem {ns : List Int} {k : Int} : k ∈ setI ns ↔ k ∈ ns := by
  unfold setI
  rw [List.mem_mergeSort, mem_nub]
theorem setI_lt (ns : List Int) : (setI ns).Pairwise (· < ·) := by
  have h1 : (setI ns).Pairwise fun a b => leI a b = true := List.pairwise_mergeSort (fun a b c h k => by
    unfold leI at *
    rw [decide_eq_true_iff] at *
    omega) (fun a b => by
    unfold leI
    rw [Bool.or_eq_true, decide_eq_true_iff, decide_eq_true_iff]
    omega) _
  have h2 : (setI ns).Nodup := (List.mergeSort_perm (nub ns) leI).nodup_iff.mpr (nodup_nub ns)
  refine (h1.and h2).imp fun {a b} ⟨h, k⟩ => ?_
  have := of_decide_eq_true h
  omega
theorem lt_uni : ∀ {l r : List Int}, l.Pairwise (· < ·) → r.Pairwise (· < ·) → (∀ k, k ∈ l ↔ k ∈ r) → l = r
  | [], [], _, _, _ => rfl
  | [], b :: r, _, _, h => absurd ((h b).mpr (List.mem_cons_self ..)) (by simp)
  | a :: l, [], _, _, h => absurd ((h a).mp (List.mem_cons_self ..)) (by simp)
  | a :: l, b :: r, hl, hr, h => by
    obtain ⟨l1, l2⟩ := List.pairwise_cons.mp hl
    obtain ⟨r1, r2⟩ := List.pairwise_cons.mp hr
    have e : a = b := by
      rcases List.mem_cons.mp ((h a).mp (List.mem_cons_self ..)) with e | e
      · exact e
      rcases List.mem_cons.mp ((h b).mpr (List.mem_cons_self ..)) with e2 | e2
      · exact e2.symm
      · have := l1 b e2
        have := r1 a e
        omega
    subst e
    rw [lt_uni l2 r2 fun k => ?_]
    constructor
    · intro hk
      rcases List.mem_cons.mp ((h k).mp (List.mem_cons_of_mem _ hk)) with e | e
      · have := l1 k hk
        omega
      · exact e
    · intro hk
      rcases List.mem_cons.mp ((h k).mpr (List.mem_cons_of_mem _ hk)) with e | e
      · have := r1 k hk
        omega
      · exact e
section
variable {K : PySem.W.Frag}
/-- sorted(set(xs)), fewer than 64 numbers -/
def srtSIO (f : FE) : FE := fun δ S => (f δ S).bind fun p => (lsOf p.2 p.1).bind fun xs => (intsOf xs).bind fun ns => if ns.length < 64 then some (.lst ((setI ns).map .int), p.2) else none
theorem le_srtSI {f : FE} {w : World} : ∀ σ H Q, tD K (srtSIO f) σ H Q → tCB (rSortedSet w) (tCons (tCB (rSetI K w) (tCons (tD K f) tNil)) tNil) σ H Q := by
  rintro σ H Q ⟨ρ, δ, S, d, S', hS, hσ, e, q⟩
  obtain ⟨⟨x, S1⟩, e1, e⟩ := bnd e
  obtain ⟨xs, e2, e⟩ := bnd e
  obtain ⟨ns, e3, e⟩ := bnd e
  dsimp only at e e2
  split at e
  · rename_i h64
    cases e
    refine ⟨ρ, δ, S, x, _, hS, hσ, e1, fun v H1 ρ1 s1 hS1 rv => ?_⟩
    obtain ⟨a, vs, rfl, hq, r⟩ := lsOf_sq hS1 rv e2
    have ei := intsOf_eq e3
    subst ei
    have ev := rvs_ints r
    subst ev
    refine ⟨a, ns, rfl, hq, h64, fun t c ht hc => ?_⟩
    have st2 : Step ρ1 ρ1 H1 (upd H1 t (SetO w t (fun j => decide (j ∈ ns)) c)) := Step.new hS1 ht
    have hS2 := hS1.new (o := SetO w t (fun j => decide (j ∈ ns)) c) ht
    refine ⟨t, _, c, rfl, upd_same, by omega, fun ms p hlt hm _ hp => ?_⟩
    have em : ms = setI ns := lt_uni hlt (setI_lt ns) fun k => by
      rw [hm, setI_mem]
      exact decide_eq_true_iff
    subst em
    exact q _ _ ρ1 ((s1.trans st2).trans (Step.new hS2 hp)) (hS2.new hp) (rv_lst hS2 hp (rvs_intsL _))
  · cases e
end
section
variable {X : Cx} {e : Expr} {f : FE} {p p2 pos pos2 : Pos}
theorem jsrtSI (hc : X.calm = true) (hg : Gl X "sorted") (hm : X.mg "sorted" = none) (hg2 : Gl X "set") (hm2 : X.mg "set" = none) (he : JE X e f)
    (na2 : starEach [e] X.env = (false, eval e X.env) :: starEach [] X.env := by rfl) (na : starEach [Expr.Call (.Name "set" p) [e] [] pos] X.env = (false, eval (Expr.Call (.Name "set" p) [e] [] pos) X.env) :: starEach [] X.env := by rfl) :
    JE X (.Call (.Name "sorted" p2) [.Call (.Name "set" p) [e] [] pos] [] pos2) (srtSIO f) :=
  PE.imp (pe_callB (cr_sortedSet hc) hg hm PyProof.Rows.boot_sorted (pa_cons (pe_callTy (cr_setI hc) hg2 hm2 PyProof.Rows.boot_set (pa_cons he pa_nil na2) (he := na2)) pa_nil na) (he := na)) le_srtSI
end
theorem w_srtSI {S : Sg} {Q : D → Sg → Prop} {δ : Dl} {f : FE} (h : W (f δ S) fun d S1 => ∃ ns : List Int, lsOf S1 d = some (ns.map .int) ∧ ns.length < 64 ∧ Q (.lst ((setI ns).map .int)) S1) : W (srtSIO f δ S) Q := by
  obtain ⟨d, S1, e, ns, h1, h2, q⟩ := h
  refine ⟨_, _, ?_, q⟩
  unfold srtSIO
  rw [e, Option.bind_some]
  dsimp only
  rw [h1, Option.bind_some, intsOf_map, Option.bind_some, if_pos h2]
end DL
end
noncomputable section
namespace DL
open PySem L2 PyProof.Rows
theorem le_nadd {a b n : Nat} (h : a ≤ b) : a ≤ Nat.add b n := Nat.le_trans h (Nat.le_add_right b n)
/-! ### repr of anything that is a tree: an atom, or a list or tuple -/
def reprAt : PyData → Option Str
  | .none => some "None"
  | .bool b => some (if b then "True" else "False")
  | .int i => if i.natAbs.log2 < 1920 then some (toString i) else none
  | .str s => if (reprText s).length ≤ sizeLine then some (reprText s) else none
  | _ => none
theorem reprAt_int {i : Int} {t : Str} (h : reprAt (.int i) = some t) : i.natAbs.log2 < 1920 ∧ t = (toString i : String) := by
  have h : (if i.natAbs.log2 < 1920 then some ((toString i : String) : Str) else none) = some t := h
  by_cases z : i.natAbs.log2 < 1920
  · rw [if_pos z] at h
    exact ⟨z, (Option.some.inj h).symm⟩
  · rw [if_neg z] at h
    cases h
theorem reprAt_str {s t : Str} (h : reprAt (.str s) = some t) : (reprText s).length ≤ sizeLine ∧ t = reprText s := by
  have h : (if (reprText s).length ≤ sizeLine then some (reprText s) else none) = some t := h
  by_cases z : (reprText s).length ≤ sizeLine
  · rw [if_pos z] at h
    exact ⟨z, (Option.some.inj h).symm⟩
  · rw [if_neg z] at h
    cases h
open Classical in
def repOf (p : PyData) : Option Str := if ShowOk p then some p.shown else reprAt p
def rRep (K : PySem.W.Frag) : List V → Hp → VK → Prop := fun xs H Q => ∃ x d t, xs = [x] ∧ Dp K H x d ∧ repOf d = some t ∧ Q (.str t) H
section
variable {X : Cx}
theorem call_repA (hg : Gd X.A) (hu : X.A.units + 64 < cLine) : CallR X (.builtin "repr") (rRep X.K) := by
  intro pins s σ H xs us Q I r h
  obtain ⟨x, d, t, rfl, hd, ok, q⟩ := h
  by_cases so : ShowOk d
  · unfold repOf at ok
    rw [if_pos so] at ok
    cases ok
    exact call_reprG hg hu pins s σ H _ us Q I r ⟨x, d, rfl, hd, so, q⟩
  · unfold repOf at ok
    rw [if_neg so] at ok
    cases r with | cons r1 rr => ?_
    cases rr
    cases hd with
    | non =>
      cases ok
      have r1 : _ = Value.none := r1
      subst r1
      exact PySem.P.repr_of_none ⟨.str _, H, I.tok _, ⟨_, rfl⟩, q⟩
    | bl b =>
      cases ok
      have r1 : _ = Value.bool b := r1
      subst r1
      exact PySem.P.repr_of_bool ⟨.str _, H, I.tok _, ⟨_, rfl⟩, q⟩
    | int i =>
      obtain ⟨hz, rfl⟩ := reprAt_int ok
      obtain ⟨t, rfl⟩ := r1
      exact PySem.P.repr_of_int hz ⟨.str _, H, I.tok _, ⟨_, rfl⟩, q⟩
    | str a =>
      obtain ⟨hz, rfl⟩ := reprAt_str ok
      obtain ⟨t, rfl⟩ := r1
      exact PySem.P.repr_of_str (hsz := hz) ⟨.str _, H, I.tok _, ⟨_, rfl⟩, q⟩
    | lst _ _ => cases ok
    | tup _ _ => cases ok
end
def rprO : OC := fun ds S => match ds with
  | [d] => (pyT S d).bind fun p => (repOf p).bind fun t => some (.str t, S)
  | _ => none
theorem cbD_rep {K : PySem.W.Frag} : CbD K (rRep K) rprO := by
  intro xs H Q ρ S ds z S' hS rs eq q
  unfold rprO at eq
  split at eq
  · cases rs with | cons rx rn => ?_
    cases rn
    obtain ⟨p, e1, eq⟩ := bnd eq
    obtain ⟨t, e2, eq⟩ := bnd eq
    cases eq
    exact ⟨_, p, t, rfl, pyT_dp hS rx e1, e2, q _ _ _ (Step.refl _ _) hS .str⟩
  · cases eq
theorem x_rpr {S : Sg} {Q : D → Sg → Prop} {d : D} {p : PyData} {t : Str} (h : pyT S d = some p) (ok : repOf p = some t) (q : Q (.str t) S) : W (rprO [d] S) Q := by
  refine ⟨_, _, ?_, q⟩
  unfold rprO
  dsimp only
  rw [h, Option.bind_some, ok, Option.bind_some]
end DL
end
noncomputable section
namespace DL
open PySem L2 PySem.Spec PyProof.Rows
/-! ### an exception that the suite keeps: it is tracked behind the try -/
def ExV (cls : Value) (d : Option Addr) (a : Addr) : HO := .ext fun h => ∃ (oe : Obj) (vs : Array Value), h.get? a = some oe ∧ oe.cls = cls ∧ oe.dict = d ∧ oe.data = .fields vs
theorem exV_ok {P : Program} {w : World} {H : Hp} {h : Heap} {cls : Value} {d : Option Addr} {a : Addr} {oe : Obj} {vs : Array Value} (e : h.get? a = some oe) (z : Zc cls d oe) (f : oe.data = .fields vs) : ObjOk P w H h a (ExV cls d a) := by
  unfold ExV
  refine ⟨⟨oe, vs, e, z.1, z.2, f⟩, ⟨oe, e⟩, ?_⟩
  rintro h1 h2 ⟨o1, v1, e1, q⟩ k
  exact ⟨o1, v1, k _ e1, q⟩
/-- what follows where the clause's suite ends: the exception, at a, is tracked -/
def endK (D : Ends) (i : Nat) (cls : Value) (d : Option Addr) (a : Addr) : Ends :=
  { nx := fun σ' H' => D.nx (σ'.set i none) (upd H' a (ExV cls d a)), rt := fun v H' => D.rt v (upd H' a (ExV cls d a)),
    bk := fun σ' H' => D.bk (σ'.set i none) (upd H' a (ExV cls d a)), ct := fun σ' H' => D.ct (σ'.set i none) (upd H' a (ExV cls d a)) }
/-- the exception's class is one of the clause's -/
def wKeep (m : Value → Prop) (i : Nat) (ts : Addr → Value → Option Addr → TS) (D : Ends) : WX := fun cls d σ H =>
  m cls ∧ ∀ a, H a = none → ts a cls d (endK D i cls d a) (σ.set i (some (.ref a))) H
/-- the clause's test: what it says of an exception at a, whose class is cls -/
def Clause (X : Cx) (t : Expr) (m : Value → Prop) : Prop := ∀ (a : Addr) (oe : Obj) (pn pins : List (Addr × Obj)) (σ : L2.St) (H : Hp) (s : Shared) (cls : Value) (Q : Bool → Shared → Prop) (E E' : Value → Shared → Prop),
  L2.Inv (X.suite a ((a, oe) :: pn)) pins σ H s → oe.cls = cls → m cls → Q true s →
  wpAny (model X.prog X.w) (X.A.mark (some (.ref a))) (eval t X.env) (fun c s₁ => wpAny (model X.prog X.w) (X.A.mark (some (.ref a))) (excMatches (.ref a) c) Q E s₁) E' s
theorem clause_name {X : Cx} {x : Str} {c : Value} {p : Pos} (hc : Names X x c) : Clause X (.Name x p) (fun cls => PySem.W.exmOne X.K cls c = some true) := by
  intro a oe pn pins σ H s cls Q E E' S hcl hm q
  obtain ⟨hg, hdbg, hv⟩ := hc
  have he : s.heap.get? a = some oe := (S.pin (a, oe) (List.mem_append_left _ List.mem_cons_self)).1
  have LT : PySem.W.Looks (model X.prog X.w) s.heap (typeOf (.ref a)) cls := fun A Q E s k q => wpAny_typeOf_ref (k a oe he) (by rw [hcl]; exact q)
  have LM := PySem.W.exm_one S.kIn LT hm
  rcases hv with hv | ⟨hv, hb, hn⟩
  · exact ld_glob (X := X.suite a ((a, oe) :: pn)) S hg hv (PySem.W.Looks.here LM q) hdbg
  · exact ld_blt (X := X.suite a ((a, oe) :: pn)) S hg hv hb (PySem.W.Looks.here LM q) hn hdbg
section
variable {X : Cx}
theorem inv_keep {pins : List (Addr × Obj)} {σ : L2.St} {H : Hp} {s : Shared} {a : Addr} {oe : Obj} {vs : Array Value} {cls : Value} {d : Option Addr} (J : L2.Inv X ((a, oe) :: pins) σ H s) (z : Zc cls d oe) (hd : oe.data = .fields vs)
    (hb : ∀ o, X.s_0.heap.get? a ≠ some o) (hp : ∀ p ∈ X.pn ++ pins, p.1 ≠ a) : L2.Inv X pins σ (upd H a (ExV cls d a)) s := by
  have hm : ∀ p ∈ X.pn ++ pins, p ∈ X.pn ++ (a, oe) :: pins := fun p h => by
    rcases List.mem_append.mp h with q | q
    · exact List.mem_append_left _ q
    · exact List.mem_append_right _ (List.mem_cons_of_mem _ q)
  obtain ⟨ea, na, nl, nf, nc⟩ := J.pin (a, oe) (List.mem_append_right _ List.mem_cons_self)
  have ea : s.heap.get? a = some oe := ea
  have na : H a = none := na
  refine ⟨J.ok, J.os, J.bare, ?_, J.loc, J.cell, ?_, ?_, ?_, ?_, J.len⟩
  · refine ⟨J.base.keep, J.base.slot, fun b o e h0 hx => ?_, J.base.there, fun b xs e => ?_, fun b o u e => ?_, fun b ps e => ?_⟩
    · rw [upd_ne (fun q => hb o (by rw [← q]; exact e))]
      exact J.base.free b o e h0 hx
    · have h1 := J.base.tups b xs e
      rw [upd_ne (ne_of_none h1 na)]
      exact h1
    · have h1 := J.base.frzs b o u e
      rw [upd_ne (ne_of_none h1 na)]
      exact h1
    · obtain ⟨more, h1⟩ := J.base.tbls b ps e
      refine ⟨more, ?_⟩
      rw [upd_ne (ne_of_none h1 na)]
      exact h1
  · rw [upd_ne (Ne.symm nl)]
    exact J.free
  · intro x c e
    have h1 := J.freeC x c e
    rw [upd_ne (fun q => ?_)]
    · exact h1
    · obtain ⟨v, sl, h2, h3⟩ := J.cell x c e
      rw [q, ea] at h2
      cases h2
      exact nc _ h3
  · intro p h
    obtain ⟨h1, h2, h3, h4, h5⟩ := J.pin p (hm p h)
    exact ⟨h1, by rw [upd_ne (hp p h)]; exact h2, h3, h4, h5⟩
  · intro b o e
    by_cases q : b = a
    · subst q
      rw [upd_same] at e
      cases e
      exact exV_ok ea z hd
    · rw [upd_ne q] at e
      refine ObjOk.stay (J.hok b o e) (fun c v x q => ?_) (fun c q => ?_) fun c xs q => ?_
      · first | exact q | exact x | assumption
      · rw [upd_ne (ne_of_none q na)]
        exact q
      · rw [upd_ne (ne_of_none q na)]
        exact q
theorem ps_try_keep {n : Str} {t : Expr} {m : Value → Prop} {i : Nat} {body suite : List Stmt} {b₀ : Stmt} {pos pos' : Pos} {tb : WX → TS} {ts : Addr → Value → Option Addr → TS}
    (hs : X.stack = X.env :: X.outer) (hf : X.env.frame = some X.env.locals) (hex : X.ex = []) (hN : X.N.Nodup) (hi : X.N[i]? = some n) (hln : X.env.kindOf n = some .local) (hc : Clause X t m)
    (hb : ∀ (W : WX) (pn : List (Addr × Obj)) (xe : Value → Shared → Prop), Takes (X.tr pn xe) W → PassesOwn (model X.prog X.w) X.A X.env xe → PSs (X.tr pn xe) body (tb W))
    (hsu : ∀ (a : Addr) (oe : Obj) (cls : Value) (d : Option Addr) (pn : List (Addr × Obj)), Zc cls d oe → (∃ vs, oe.data = .fields vs) → PSs (X.suite a ((a, oe) :: pn)) (b₀ :: suite) (ts a cls d)) :
    PS X (.Try body [.ExceptHandler (some t) (some n) (b₀ :: suite) pos'] [] [] pos) (fun D σ H => tb (wKeep m i ts D) D σ H) := by
  refine ⟨fun pins s σ H D I h => ?_⟩
  have ok := I.ok
  have hfr : X.A.frames = some (X.env :: X.outer) := by rw [ok.frames, hs]
  refine wpAny_Try_except (wpAny_mono ((hb (wKeep m i ts D) (X.pn ++ pins) _ ?tk PassesOwn.looking).run [] s σ H D (I.toTry _) h) ?nm fun e s1 he => he)
  case nm =>
    intro f s1 hsp
    cases f with
    | next =>
      obtain ⟨σ', H', J', q⟩ := hsp
      exact wpAny_execs_nil ⟨σ', H', J'.ofTry ok, q⟩
    | brk =>
      obtain ⟨σ', H', J', q⟩ := hsp
      exact ⟨σ', H', J'.ofTry ok, q⟩
    | cont =>
      obtain ⟨σ', H', J', q⟩ := hsp
      exact ⟨σ', H', J'.ofTry ok, q⟩
    | ret u =>
      obtain ⟨v, σ', H', J', r, q⟩ := hsp
      exact ⟨v, σ', H', J'.ofTry ok, r, q⟩
  case tk =>
    rintro u s' ⟨a, B, sI, pins', σ', H', cls, d, rfl, J', nb, up, sky, na, os, ag, hm, hyes⟩
    have J := J'.ofTry ok
    have sky' : Sky B (X.env :: X.outer) a (Zc cls d) X.env.locals s'.heap := by rw [← hs]; exact sky
    refine Sky.land Zc.steady hfr hf sky' fun h3 fl3 up3 => ?_
    have J3 := J.landed (s' := { heap := h3, gens := s'.gens, drawn := s'.drawn, toks := s'.toks, os := s'.os }) nb fl3.1 (up.trans up3) os ag
    obtain ⟨oe3, vs3, he3, hz3, hd3⟩ := HandSPX.FlyingZ.there fl3
    have nfr : a ∉ frs (X.env :: X.outer) := fun hm => by
      obtain ⟨_, o', e', hnf⟩ := Heap.FunFrames.mem fl3.2.2.1 hm
      rw [he3] at e'
      cases e'
      exact hnf vs3 hd3
    have nL : a ≠ X.env.locals := fun z => nfr (List.mem_filterMap.mpr ⟨X.env, List.mem_cons_self, by rw [hf, z]⟩)
    have nF : a ∉ X.fs := fun hm => by
      obtain ⟨e, he, q⟩ := List.mem_filterMap.mp hm
      exact nfr (List.mem_filterMap.mpr ⟨e, List.mem_cons_of_mem _ he, q⟩)
    have hbn : ∀ o, X.s_0.heap.get? a ≠ some o := fun o e => by
      obtain ⟨o', e'⟩ := J.base.there a o e (by rw [hex]; exact List.not_mem_nil)
      have := nb a o' e' (by
        show a ∉ frs X.stack
        rw [hs]
        exact nfr)
      rw [fl3.2.1] at this
      cases this
    have hpn : ∀ p ∈ X.pn ++ pins, p.1 ≠ a := fun p hp z => by
      obtain ⟨h1, h2, h3', h4, h5⟩ := J.pin p hp
      have := nb p.1 p.2 h1 (by
        show p.1 ∉ frs X.stack
        rw [z, hs]
        exact nfr)
      rw [z, fl3.2.1] at this
      cases this
    have S3 := J3.suite he3 hd3 na nL nF
    refine wpAny_handleBy_cons (codeAny_handlers_test (hc a oe3 (X.pn ++ pins) [] σ' H' _ cls _ _ _ S3 hz3.1 hm ?_)) (by intro q; cases q)
    show codeAny _ _ _ _ _
    refine codeAny_handlers_suite_as (HandSPX.lands_againZ fl3 fun h4 fl4 up4 => ?_)
    have J4 := J.landed (s' := { heap := h4, gens := s'.gens, drawn := s'.drawn, toks := s'.toks, os := s'.os }) nb fl4.1 ((up.trans up3).trans up4) os ag
    obtain ⟨oe4, vs4, he4, hz4, hd4⟩ := HandSPX.FlyingZ.there fl4
    have S4 := J4.suite he4 hd4 na nL nF
    refine store_ok (X := X.suite a ((a, oe4) :: (X.pn ++ pins))) (v := .ref a) S4 hN hi (Or.inl hln) rfl (fun s5 S5 => ?_) (Or.inr hln)
    refine wpAny_mono ((hsu a oe4 cls d (X.pn ++ pins) hz4 ⟨vs4, hd4⟩).run [] s5 _ H' (endK D i cls d a) S5 (hyes a na)) (fun f s6 hsp => ?_) fun x x1 z => z.elim
    have end_ : ∀ {σ6 : L2.St} {H6 : Hp} {Q : Unit → Shared → Prop}, L2.Inv (X.suite a ((a, oe4) :: (X.pn ++ pins))) [] σ6 H6 s6 → (∀ s7, L2.Inv X pins (σ6.set i none) (upd H6 a (ExV cls d a)) s7 → Q () s7) →
        wpAny (model X.prog X.w) X.A (do bindName X.env n Value.none; unbindBehindTheSuite X.env n pos') Q X.xe s6 := fun S6 hq => by
      have U := S6.unsuite ok
      have U2 : L2.Inv X ((a, oe4) :: pins) _ _ _ := ⟨U.ok, U.os, U.bare, U.base, U.loc, U.cell, U.free, U.freeC, fun p hp => S6.pin p (List.mem_append_left _ (by
        rcases List.mem_append.mp hp with q | q
        · exact List.mem_cons_of_mem _ (List.mem_append_left _ q)
        · rcases List.mem_cons.mp q with q | q
          · rw [q]
            exact List.mem_cons_self
          · exact List.mem_cons_of_mem _ (List.mem_append_right _ q))), U.hok, U.len⟩
      exact gone_ok U2 hN hi hln fun s7 J7 => hq s7 (inv_keep J7 hz4 hd4 hbn hpn)
    cases f with
    | next =>
      obtain ⟨σ6, H6, S6, q6⟩ := hsp
      exact end_ S6 fun s7 J7 => ⟨_, _, J7, q6⟩
    | brk =>
      obtain ⟨σ6, H6, S6, q6⟩ := hsp
      exact end_ S6 fun s7 J7 => ⟨_, _, J7, q6⟩
    | cont =>
      obtain ⟨σ6, H6, S6, q6⟩ := hsp
      exact end_ S6 fun s7 J7 => ⟨_, _, J7, q6⟩
    | ret u =>
      obtain ⟨v6, σ6, H6, S6, r6, q6⟩ := hsp
      exact end_ S6 fun s7 J7 => ⟨v6, _, _, J7, r6, q6⟩
end
end DL
end
noncomputable section
namespace DL
open PySem L2
/-! ### what may raise: flows, functions -/
inductive FlX where
  | nx | rt (d : D) | bk | ct
  | ex (C : Addr) (ns : List Str) (ds : List D)
inductive Rx where
  | vl (d : D)
  | ex (C : Addr) (ns : List Str) (ds : List D)
abbrev FEX := Dl → Sg → Option (Rx × Sg)
abbrev FSX := Dl → Sg → Option (FlX × Dl × Sg)
abbrev FnX := List D → Sg → Option (Rx × Sg)
section
variable (K : PySem.W.Frag)
/-- what must follow where an exception leaves an expression (slots σ), a statement -/
def ExE (W : WX) (ρ : Ro) (H : Hp) (σ : L2.St) (S' : Sg) (C : Addr) (ns : List Str) (ds : List D) : Prop :=
  ∀ dd fs H' ρ', Step ρ ρ' H H' → SR K H' ρ' S' → H' dd = some (.xd fs) → ρ'.out dd → fs.map (·.1) = ns → RVs K H' ρ' (fs.map (·.2)) ds → W (.ref C) (some dd) σ H'
def ExD (W : WX) (ρ : Ro) (H : Hp) (δ' : Dl) (S' : Sg) (C : Addr) (ns : List Str) (ds : List D) : Prop :=
  ∀ dd fs σ' H' ρ', Step ρ ρ' H H' → SR K H' ρ' S' → RS K H' ρ' σ' δ' → H' dd = some (.xd fs) → ρ'.out dd → fs.map (·.1) = ns → RVs K H' ρ' (fs.map (·.2)) ds → W (.ref C) (some dd) σ' H'
def tDX (W : WX) (f : FEX) : TE := fun σ H Q => ∃ ρ δ S r S', SR K H ρ S ∧ RS K H ρ σ δ ∧ f δ S = some (r, S') ∧ match r with
  | .vl d => ∀ v H' ρ', Step ρ ρ' H H' → SR K H' ρ' S' → RV K H' ρ' v d → Q v H'
  | .ex C ns ds => ExE K W ρ H σ S' C ns ds
def EndsX (W : WX) (D : Ends) (ρ : Ro) (H : Hp) (δ' : Dl) (S' : Sg) : FlX → Prop
  | .nx => EndsD K D ρ H δ' S' .nx
  | .rt d => EndsD K D ρ H δ' S' (.rt d)
  | .bk => EndsD K D ρ H δ' S' .bk
  | .ct => EndsD K D ρ H δ' S' .ct
  | .ex C ns ds => ExD K W ρ H δ' S' C ns ds
def tDSX (W : WX) (f : FSX) : TS := fun D σ H => ∃ ρ δ S r δ' S', SR K H ρ S ∧ RS K H ρ σ δ ∧ f δ S = some (r, δ', S') ∧ EndsX K W D ρ H δ' S' r
/-- a def that may raise -/
def spDX (n : Nat) (F : FnX) : Sp := fun vs H Q E => ∃ ρ S ds r S', vs.length = n ∧ SR K H ρ S ∧ RVs K H ρ vs ds ∧ F ds S = some (r, S') ∧ match r with
  | .vl d => ∀ v H' ρ', Step ρ ρ' H H' → SR K H' ρ' S' → RV K H' ρ' v d → Q v H'
  | .ex C ns xs => ∀ dd fs H' ρ', Step ρ ρ' H H' → SR K H' ρ' S' → H' dd = some (.xd fs) → ρ'.out dd → fs.map (·.1) = ns → RVs K H' ρ' (fs.map (·.2)) xs → E (.ref C) (some dd) H'
end
def JEX (X : Cx) (W : WX) (e : Expr) (f : FEX) : Prop := PE X e (tDX X.K W f)
def JSX (X : Cx) (W : WX) (s : Stmt) (f : FSX) : Prop := PS X s (tDSX X.K W f)
def JSsX (X : Cx) (W : WX) (ss : List Stmt) (f : FSX) : Prop := PSs X ss (tDSX X.K W f)
section
variable {K : PySem.W.Frag} {W : WX}
theorem ExD.mono {ρ ρ1 : Ro} {H H1 : Hp} {δ' : Dl} {S' : Sg} {C : Addr} {ns : List Str} {ds : List D} (s : Step ρ ρ1 H H1) (h : ExD K W ρ H δ' S' C ns ds) : ExD K W ρ1 H1 δ' S' C ns ds :=
  fun dd fs σ' H' ρ' t a b c d e f => h dd fs σ' H' ρ' (s.trans t) a b c d e f
theorem EndsX.mono {D : Ends} {ρ ρ1 : Ro} {H H1 : Hp} {δ' : Dl} {S' : Sg} (s : Step ρ ρ1 H H1) : ∀ {r : FlX}, EndsX K W D ρ H δ' S' r → EndsX K W D ρ1 H1 δ' S' r
  | .nx, h => fun σ' H' ρ' t a b => h σ' H' ρ' (s.trans t) a b
  | .rt _, h => fun σ' H' ρ' t a b => h σ' H' ρ' (s.trans t) a b
  | .bk, h => fun σ' H' ρ' t a b => h σ' H' ρ' (s.trans t) a b
  | .ct, h => fun σ' H' ρ' t a b => h σ' H' ρ' (s.trans t) a b
  | .ex _ _ _, h => ExD.mono s h
def upFl : Fl → FlX
  | .nx => .nx
  | .rt d => .rt d
  | .bk => .bk
  | .ct => .ct
/-- what raises nothing -/
def upS (f : FS) : FSX := fun δ S => (f δ S).bind fun r => some (upFl r.1, r.2)
def upE (f : FE) : FEX := fun δ S => (f δ S).bind fun p => some (.vl p.1, p.2)
theorem ls_up {f : FS} : ∀ D σ H, tDSX K W (upS f) D σ H → tDS K f D σ H := by
  rintro D σ H ⟨ρ, δ, S, r, δ', S', hS, hσ, e, q⟩
  obtain ⟨⟨r1, δ2, S2⟩, e1, e⟩ := bnd e
  have e := Option.some.inj e
  cases e
  refine ⟨ρ, δ, S, r1, _, _, hS, hσ, e1, ?_⟩
  cases r1 <;> exact q
theorem le_up {f : FE} : ∀ σ H Q, tDX K W (upE f) σ H Q → tD K f σ H Q := by
  rintro σ H Q ⟨ρ, δ, S, r, S', hS, hσ, e, q⟩
  obtain ⟨⟨d, S1⟩, e1, e⟩ := bnd e
  cases e
  exact ⟨ρ, δ, S, d, S1, hS, hσ, e1, q⟩
def seqX (f g : FSX) : FSX := fun δ S => (f δ S).bind fun r => match r.1 with
  | .nx => g r.2.1 r.2.2
  | x => some (x, r.2)
theorem ls_seqX {f g : FSX} : ∀ D σ H, tDSX K W (seqX f g) D σ H → tSeq (tDSX K W f) (tDSX K W g) D σ H := by
  rintro D σ H ⟨ρ, δ, S, r, δ', S', hS, hσ, e, q⟩
  obtain ⟨⟨r1, δ1, S1⟩, e1, e⟩ := bnd e
  refine ⟨ρ, δ, S, r1, δ1, S1, hS, hσ, e1, ?_⟩
  cases r1 with
  | nx => exact fun σ' H' ρ' s hS' hσ' => ⟨ρ', δ1, S1, r, δ', S', hS', hσ', e, q.mono s⟩
  | rt d => cases e; exact q
  | bk => cases e; exact q
  | ct => cases e; exact q
  | ex C ns ds => cases e; exact q
def ifX (c : FT) (f g : FSX) : FSX := fun δ S => (c δ S).bind fun r => if r.1 = true then f δ r.2 else g δ r.2
theorem ls_ifX {c : FT} {f g : FSX} : ∀ D σ H, tDSX K W (ifX c f g) D σ H → tIfS (tDT K c) (tDSX K W f) (tDSX K W g) D σ H := by
  rintro D σ H ⟨ρ, δ, S, r, δ', S', hS, hσ, e, q⟩
  obtain ⟨⟨b, S1⟩, e1, e⟩ := bnd e
  refine ⟨ρ, δ, S, b, S1, hS, hσ, e1, fun H1 ρ1 s1 hS1 => ?_⟩
  dsimp only at e
  cases b with
  | true => exact ⟨ρ1, δ, S1, r, δ', S', hS1, hσ.mono s1, e, q.mono s1⟩
  | false => exact ⟨ρ1, δ, S1, r, δ', S', hS1, hσ.mono s1, e, q.mono s1⟩
def retX (f : FEX) : FSX := fun δ S => (f δ S).bind fun p => match p.1 with
  | .vl d => some (.rt d, δ, p.2)
  | .ex C ns ds => some (.ex C ns ds, δ, p.2)
theorem ls_retX {f : FEX} : ∀ D σ H, tDSX K W (retX f) D σ H → tRet (tDX K W f) D σ H := by
  rintro D σ H ⟨ρ, δ, S, r, δ', S', hS, hσ, e, q⟩
  obtain ⟨⟨x, S1⟩, e1, e⟩ := bnd e
  refine ⟨ρ, δ, S, x, S1, hS, hσ, e1, ?_⟩
  cases x with
  | vl d => cases e; exact q
  | ex C ns ds => cases e; exact fun dd fs H' ρ' s a b c d g => q dd fs σ H' ρ' s a (hσ.mono s) b c d g
def setX (i : Nat) (f : FEX) : FSX := fun δ S => (f δ S).bind fun p => match p.1 with
  | .vl d => some (.nx, δ.set i (some d), p.2)
  | .ex C ns ds => some (.ex C ns ds, δ, p.2)
theorem ls_setX {i : Nat} {f : FEX} : ∀ D σ H, tDSX K W (setX i f) D σ H → tAsg (tDX K W f) (gName i) D σ H := by
  rintro D σ H ⟨ρ, δ, S, r, δ', S', hS, hσ, e, q⟩
  obtain ⟨⟨x, S1⟩, e1, e⟩ := bnd e
  refine ⟨ρ, δ, S, x, S1, hS, hσ, e1, ?_⟩
  cases x with
  | vl d => cases e; exact fun v H' ρ' s a b => q _ H' ρ' s a ((hσ.mono s).set i b)
  | ex C ns ds => cases e; exact fun dd fs H' ρ' s a b c d g => q dd fs σ H' ρ' s a (hσ.mono s) b c d g
def dropX (f : FEX) : FSX := fun δ S => (f δ S).bind fun p => match p.1 with
  | .vl _ => some (.nx, δ, p.2)
  | .ex C ns ds => some (.ex C ns ds, δ, p.2)
theorem ls_dropX {f : FEX} : ∀ D σ H, tDSX K W (dropX f) D σ H → tDrop (tDX K W f) D σ H := by
  rintro D σ H ⟨ρ, δ, S, r, δ', S', hS, hσ, e, q⟩
  obtain ⟨⟨x, S1⟩, e1, e⟩ := bnd e
  refine ⟨ρ, δ, S, x, S1, hS, hσ, e1, ?_⟩
  cases x with
  | vl d => cases e; exact fun v H' ρ' s a b => q σ H' ρ' s a (hσ.mono s)
  | ex C ns ds => cases e; exact fun dd fs H' ρ' s a b c d g => q dd fs σ H' ρ' s a (hσ.mono s) b c d g
def iteX (c : FT) (f g : FEX) : FEX := fun δ S => (c δ S).bind fun r => if r.1 = true then f δ r.2 else g δ r.2
/-! calls -/
def fnX (F : FnX) (dds : List D) (f : FA) : FEX := fun δ S => (f δ S).bind fun p => F (p.1 ++ dds) p.2
theorem le_fnX {n : Nat} {F : FnX} {dvs : List V} {dds : List D} {f : FA} (hd : ∀ H ρ, RVs K H ρ dvs dds) (hn : ∀ δ S ds S', f δ S = some (ds, S') → (ds ++ dds).length = n) : ∀ σ H Q, tDX K W (fnX F dds f) σ H Q → tCallSD (spDX K n F) dvs (WE W) (tDA K f) σ H Q := by
  rintro σ H Q ⟨ρ, δ, S, d, S', hS, hσ, e, q⟩
  obtain ⟨⟨x, S1⟩, e1, e⟩ := bnd e
  refine ⟨ρ, δ, S, x, S1, hS, hσ, e1, fun vs H1 ρ1 s1 hS1 rv => ?_⟩
  have r2 := rv.append (hd H1 ρ1)
  refine ⟨ρ1, S1, _, d, S', by rw [r2.len]; exact hn _ _ _ _ e1, hS1, r2, e, ?_⟩
  cases d with
  | vl d => exact fun v H2 ρ2 s2 hS2 rv => q v H2 ρ2 (s1.trans s2) hS2 rv
  | ex C ns ds => exact fun dd fs H2 ρ2 s2 a b c d g => q dd fs H2 ρ2 (s1.trans s2) a b c d g
theorem spDX_len {n : Nat} {F : FnX} {vs : List V} {H : Hp} {Q : VK} {E : XK} (h : spDX K n F vs H Q E) : vs.length = n := by
  obtain ⟨_, _, _, _, _, h, _⟩ := h
  exact h
/-- the store behind an exception: the places made since are forgotten -/
def cutX (n : Nat) (ds : List D) (S : Sg) : Option Sg := if oldL n ds = true ∧ (S.take n).all (oldO n) = true then some (S.take n) else none
theorem cutX_ok {ρ ρ' : Ro} {H H' : Hp} {S S' S'' : Sg} {ds : List D} (hS : SR K H ρ S) (st : Step ρ ρ' H H') (hS' : SR K H' ρ' S') (e : cutX S.length ds S' = some S'') :
    Step ρ (cut ρ' S.length) H H' ∧ SR K H' (cut ρ' S.length) S'' ∧ (∀ a, ρ'.out a → (cut ρ' S.length).out a) ∧ ∀ vs, RVs K H' ρ' vs ds → RVs K H' (cut ρ' S.length) vs ds := by
  unfold cutX at e
  split at e
  · rename_i ho
    cases e
    refine ⟨⟨⟨[], ?_, by simp⟩, st.bn, st.keep, st.dom⟩, hS'.cut ho.2, fun a h => ⟨fun z => h.1 (List.mem_of_mem_take z), h.2⟩, fun vs r => r.cut ho.1⟩
    obtain ⟨nw, e2, _⟩ := st.ext
    show ρ'.pl.take S.length = ρ.pl ++ []
    rw [e2, ← hS.len, List.take_left', List.append_nil]
    rfl
  · cases e
def bodyX (φ : Nat → D → Sg → Option (D × Sg)) (n : Nat) (body : FSX) : FnX := fun ds S => (body (ds.map some ++ List.replicate (n - ds.length) none) S).bind fun r => match r.1 with
  | .rt d => (φ S.length d r.2.2).bind fun p => some (.vl p.1, p.2)
  | .nx => (φ S.length .non r.2.2).bind fun p => some (.vl p.1, p.2)
  | .ex C ns xs => (cutX S.length xs r.2.2).bind fun S2 => some (.ex C ns xs, S2)
  | _ => none
theorem bodyX_ok {φ : Nat → D → Sg → Option (D × Sg)} (hφ : FinOk K φ) {N : List Str} {n m : Nat} {body : FSX} (hn : N.length = n) {vs : List V} {H : Hp} {Q : VK} {E : XK} (h : spDX K m (bodyX φ n body) vs H Q E) :
    tDSX K (fun cls d _ H => E cls d H) body { nx := fun _ H' => Q .non H', rt := Q } (start N vs) H := by
  obtain ⟨ρ, S, ds, d, S', hl, hS, hv, e, q⟩ := h
  obtain ⟨⟨r, δ', S1⟩, e1, e⟩ := bnd e
  refine ⟨ρ, _, S, r, δ', S1, hS, RS.start hv N n hn, e1, ?_⟩
  dsimp only at e
  cases r with
  | rt x =>
    obtain ⟨⟨y, S2⟩, e2, e⟩ := bnd e
    cases e
    intro v H' ρ' st hS' rv
    obtain ⟨ρ2, s2, hS2, r2⟩ := hφ _ _ _ _ _ _ _ _ _ _ hS st hS' rv e2
    exact q v H' ρ2 s2 hS2 r2
  | nx =>
    obtain ⟨⟨y, S2⟩, e2, e⟩ := bnd e
    cases e
    intro σ' H' ρ' st hS' _
    obtain ⟨ρ2, s2, hS2, r2⟩ := hφ _ _ _ _ _ _ _ _ _ _ hS st hS' .non e2
    exact q .non H' ρ2 s2 hS2 r2
  | bk => cases e
  | ct => cases e
  | ex C ns xs =>
    obtain ⟨S2, e2, e⟩ := bnd e
    cases e
    intro dd fs σ' H' ρ' st hS' _ hx ho hn' rv
    obtain ⟨s2, hS2, k, r2⟩ := cutX_ok hS st hS' e2
    exact q dd fs H' _ s2 hS2 hx (k dd ho) hn' (r2 _ rv)
/-- C(..), whose making may raise -/
def mkX (φ : Nat → D → Sg → Option (D × Sg)) (C : Addr) (F : FnX) (dds : List D) (f : FA) : FEX := fun δ S => (f δ S).bind fun p => (F (.loc p.2.length :: (p.1 ++ dds)) (p.2 ++ [.ins C []])).bind fun q => match q.1 with
  | .vl d => if isNoneB d = true then (φ p.2.length (.loc p.2.length) q.2).bind fun r => some (.vl r.1, r.2) else none
  | .ex C ns xs => (cutX p.2.length xs q.2).bind fun S2 => some (.ex C ns xs, S2)
def tMakeX (C : Addr) (sp : Sp) (dvs : List V) (E : L2.St → XK) (t : TA) : TE := fun σ H Q => t σ H fun vs H1 => ∀ (x dx : Addr), H1 x = none → H1 dx = none → dx ≠ x →
  sp (V.ref x :: (vs ++ dvs)) (upd (upd H1 dx (.own x)) x (.ins C dx [])) (fun v H2 => v = V.non ∧ Q (V.ref x) H2) (E σ)
theorem le_mkX {φ : Nat → D → Sg → Option (D × Sg)} (hφ : FinOk K φ) {C : Addr} {n : Nat} {F : FnX} {dvs : List V} {dds : List D} {f : FA} (hd : ∀ H ρ, RVs K H ρ dvs dds) (hn : ∀ δ S ds S', f δ S = some (ds, S') → (ds ++ dds).length + 1 = n) :
    ∀ σ H Q, tDX K W (mkX φ C F dds f) σ H Q → tMakeX C (spDX K n F) dvs (WE W) (tDA K f) σ H Q := by
  rintro σ H Q ⟨ρ, δ, S, d, S', hS, hσ, e, q⟩
  obtain ⟨⟨y, S1⟩, e1, e⟩ := bnd e
  obtain ⟨⟨w, S2⟩, e2, e⟩ := bnd e
  dsimp only at e
  refine ⟨ρ, δ, S, y, S1, hS, hσ, e1, fun vs H1 ρ1 s1 hS1 rvs x dx hx hdx ne => ?_⟩
  have hx2 : (upd H1 dx (.own x)) x = none := by rw [upd_ne (Ne.symm ne)]; exact hx
  have sA : Step ρ1 ρ1 H1 (upd H1 dx (.own x)) := Step.new hS1 hdx
  have hSA : SR K (upd H1 dx (.own x)) ρ1 S1 := hS1.new hdx
  have sB : Step ρ1 (ρ1.push x) (upd H1 dx (.own x)) (upd (upd H1 dx (.own x)) x (.ins C dx [])) := Step.push hSA hx2
  have hSB : SR K (upd (upd H1 dx (.own x)) x (.ins C dx [])) (ρ1.push x) (S1 ++ [.ins C []]) := hSA.push hx2 ⟨dx, [], upd_same, rfl, .nil⟩
  have rx : RV K (upd (upd H1 dx (.own x)) x (.ins C dx [])) (ρ1.push x) (.ref x) (.loc S1.length) := by
    refine .loc ?_
    show (ρ1.pl ++ [x])[S1.length]? = some x
    rw [← hS1.len, List.getElem?_append_right (Nat.le_refl _), Nat.sub_self]
    rfl
  have r2 : RVs K _ (ρ1.push x) (.ref x :: (vs ++ dvs)) (.loc S1.length :: (y ++ dds)) := .cons rx (((rvs.mono (sA.trans sB))).append (hd _ _))
  refine ⟨ρ1.push x, _, _, w, S2, by rw [r2.len]; exact hn _ _ _ _ e1, hSB, r2, e2, ?_⟩
  cases w with
  | vl w =>
    dsimp only at e
    split at e
    · rename_i hw
      obtain ⟨⟨z, S3⟩, e3, e⟩ := bnd e
      cases e
      intro v H2 ρ2 s2 hS2 rv
      have ew : w = .non := by cases w <;> first | rfl | cases hw
      subst ew
      cases rv
      refine ⟨rfl, ?_⟩
      obtain ⟨ρ3, s3, hS3, r3⟩ := hφ _ _ _ _ _ _ _ _ _ _ hS1 ((sA.trans sB).trans s2) hS2 (rx.mono s2) e3
      exact q _ H2 ρ3 (s1.trans s3) hS3 r3
    · cases e
  | ex C' ns xs =>
    dsimp only at e
    obtain ⟨S3, e3, e⟩ := bnd e
    cases e
    intro dd fs H2 ρ2 s2 hS2 h3 h4 h5 h6
    obtain ⟨s3, hS3, k, r3⟩ := cutX_ok hS1 ((sA.trans sB).trans s2) hS2 e3
    exact q dd fs H2 _ (s1.trans s3) hS3 h3 (k dd h4) h5 (r3 _ h6)
end
end DL
end
noncomputable section
namespace DL
open PySem L2 PyProof.Rows
/-! ### rules for what may raise -/
section
variable {X : Cx}
theorem run_makeX {CX : CXT} {k : Nat} {f C : Addr} {fd : FuncData} {ps : List Str} {sp : Sp} {dvs : List V} {ds : List Value} {E : XK} {pins : List (Addr × Obj)} {σ : L2.St} {H : Hp} {s : Shared} {Q : VK} {us : List Value} {vs : List V}
    (M : Mk X.K C f) (F : FnOk X.prog X.w X.K X.mg X.base CX k f fd ps sp) (hr : Room (k + 1) X.A) (hb : Binds X.K fd ps ds) (hd : Vals dvs ds) (hx : PassesAt CX X σ E) (I : L2.Inv X pins σ H s) (r : Vals vs us)
    (h : ∀ (x dx : Addr), H x = none → H dx = none → dx ≠ x → sp (V.ref x :: (vs ++ dvs)) (upd (upd H dx (.own x)) x (.ins C dx [])) (fun v H2 => v = V.non ∧ Q (V.ref x) H2) E) :
    wpAny (model X.prog X.w) X.A (call (.ref C) us) (EP X pins σ Q) X.xe s := by
  have hq := h (s.heap.objs.size + 1) s.heap.objs.size (HOk.fresh I.hok (Nat.le_succ _)) (HOk.fresh I.hok (Nat.le_refl _)) (Nat.ne_of_lt (Nat.lt_succ_self _))
  have I2 := Inv.made (C := C) I
  have r2 : Vals (V.ref (s.heap.objs.size + 1) :: (vs ++ dvs)) (Value.ref (s.heap.objs.size + 1) :: (us ++ ds)) := Paired.cons rfl (Vals.append r hd)
  have hl : ps.length = (Value.ref (s.heap.objs.size + 1) :: (us ++ ds)).length := by
    rw [← Vals.length r2]
    exact (F.len _ _ _ _ hq).symm
  refine wpAny_call (make_map I.kIn M.makes M.init (beq_iff_eq.mp M.fn) (codeAny_mono (F.run _ X.stack _ _ _ _ _ _ E (Room.make hr C us []) (Env0.make I2.env0 C us []) (hb _ _ I2.kIn hl.symm) r2 hq) fun r s' hq' => ?_))
  cases r with
  | error e => exact hx pins _ _ e s' I2 hq'
  | ok fl =>
    cases fl with
    | next => exact False.elim hq'
    | brk => exact False.elim hq'
    | cont => exact False.elim hq'
    | ret u =>
      obtain ⟨v, H', I3, rv, ev, q3⟩ := Inv.after I2 hq'
      subst ev
      exact ⟨rv, ⟨V.ref (s.heap.objs.size + 1), H', I3, rfl, q3⟩⟩
theorem pe_makeX {CX : CXT} {k : Nat} {f C : Addr} {fd : FuncData} {ps : List Str} {sp : Sp} {dvs : List V} {ds : List Value} {E : L2.St → XK} {x : Str} {p pos : Pos} {e : Expr} {es : List Expr} {t : TA}
    (M : Mk X.K C f) (F : FnOk X.prog X.w X.K X.mg X.base CX k f fd ps sp) (hr : Room (k + 1) X.A) (hg : Gl X x) (hm : X.mg x = some (.ref C)) (hb : Binds X.K fd ps ds) (hd : Vals dvs ds) (hx : ∀ σ, PassesAt CX X σ (E σ)) (ha : PA X (e :: es) t)
    (hdb : (x == ("__debug__" : Str)) = false := by decide) (he : starEach (e :: es) X.env = (false, eval e X.env) :: starEach es X.env := by rfl) (hpl : (backTo pos (starEach es X.env)).any (·.1) = false := by rfl) :
    PE X (.Call (.Name x p) (e :: es) [] pos) (tMakeX C sp dvs E t) := by
  refine ⟨fun pins s σ H Q I h => wpAny_Call_Name_kw (ld_glob I hg hm (PySem.W.callWith_K I.ok.mod.kin M.kp (thn (ha.run pos pins s σ H _ I h) fun us s1 hh => ?_) he hpl) hdb)⟩
  obtain ⟨vs, H1, I1, r, q⟩ := hh
  exact ⟨I1.kIn, run_makeX M F hr hb hd (hx σ) I1 r q⟩
/-! ### statements -/
variable {W : WX} {e : Expr} {es : List Expr} {pos : Pos} {f g : FEX} {fs gs : FSX} {ft : FT} {fa : FA} {c : Expr}
theorem jeup {f : FE} (h : JE X e f) : JEX X W e (upE f) := PE.imp h le_up
theorem jxup {s : Stmt} {f : FS} (h : JS X s f) : JSX X W s (upS f) := PS.imp h ls_up
theorem jxsup {s : List Stmt} {f : FS} (h : JSs X s f) : JSsX X W s (upS f) := PSs.imp h ls_up
theorem jxssone {st : Stmt} (q : JSX X W st fs) : JSsX X W [st] fs := pss_one q
theorem jxsscons {st : Stmt} {rest : List Stmt} (q : JSX X W st fs) (q2 : JSsX X W rest gs) : JSsX X W (st :: rest) (seqX fs gs) := PSs.imp (pss_cons q q2) ls_seqX
theorem jxif {sa sb : List Stmt} (hc : JT X c ft) (ha : JSsX X W sa fs) (hb : JSsX X W sb gs) : JSX X W (.If c sa sb pos) (ifX ft fs gs) := PS.imp (ps_if hc ha hb) ls_ifX
theorem jxret (he : JEX X W e f) : JSX X W (.Return (some e) pos) (retX f) := PS.imp (ps_ret he) ls_retX
theorem jxset {i : Nat} {x : Str} {pos' : Pos} (hN : X.N.Nodup) (hi : X.N[i]? = some x) (hx : Loc X.env.scope x) (he : JEX X W e f) (hs : swapsWith e (some (.Name x pos')) pos.line X.env = pure false := by rfl) (hf : X.fn x = true ∨ X.env.scope.names.lookup x = some .local := by first | exact .inl rfl | exact .inr rfl | assumption) :
    JSX X W (.Assign [.Name x pos'] e pos) (setX i f) := PS.imp (ps_set hN hi hx he hs hf) ls_setX
theorem jxexpr (he : JEX X W e f) (hs : swapsWith e none pos.line X.env = pure false := by rfl) : JSX X W (.Expr e pos) (dropX f) := PS.imp (ps_expr he hs) ls_dropX
/-! ### calls -/
/-- the def x does F, or raises -/
structure DfX (P : Program) (w : World) (K : PySem.W.Frag) (mg : Str → Option Value) (base : Heap) (x : Str) (k : Nat) (ps : List Str) (dvs : List V) (F : FnX) : Prop where
  ex : ∃ (f : Addr) (fd : FuncData) (ds : List Value), FnOk P w K mg base (CX P w) k f fd ps (spDX K ps.length F) ∧ mg x = some (.ref f) ∧ PySem.W.keepIn K (.ref f) = true ∧ Vals dvs ds ∧ Binds K fd ps ds
theorem jxfn {x : Str} {k : Nat} {ps : List Str} {dvs : List V} {dds : List D} {F : FnX} {p : Pos} (Z : DfX X.prog X.w X.K X.mg X.base x k ps dvs F) (hd : ∀ H ρ, RVs X.K H ρ dvs dds) (hr : Room k X.A) (tk : Takes X W) (ha : JA X (e :: es) fa) (hn : NA (ps.length - dds.length) fa := by repeat (first | exact na0 | apply na)) (hl : dds.length ≤ ps.length := by decide)
    (hg : Gl X x := by rfl) (hdb : (x == ("__debug__" : Str)) = false := by decide) (he : starEach (e :: es) X.env = (false, eval e X.env) :: starEach es X.env := by rfl) (hpl : (backTo pos (starEach es X.env)).any (·.1) = false := by rfl) :
    JEX X W (.Call (.Name x p) (e :: es) [] pos) (fnX F dds fa) := by
  obtain ⟨f, fd, ds, Fk, hm, kp, hv, b⟩ := Z.ex
  refine PE.imp (pe_callSD Fk hr hg hm kp b hv (fun σ => passAt tk σ) ha hdb he hpl) (le_fnX hd fun δ S ds S' q => ?_)
  rw [List.length_append, hn δ S ds S' q]
  omega
/-- a class whose making may raise -/
structure DkX (P : Program) (w : World) (K : PySem.W.Frag) (mg : Str → Option Value) (base : Heap) (x : Str) (C : Addr) (k : Nat) (ps : List Str) (dvs : List V) (F : FnX) : Prop where
  ex : ∃ (f : Addr) (fd : FuncData) (ds : List Value), Mk K C f ∧ FnOk P w K mg base (CX P w) k f fd ps (spDX K ps.length F) ∧ mg x = some (.ref C) ∧ Vals dvs ds ∧ Binds K fd ps ds
theorem jxmk {φ : Nat → D → Sg → Option (D × Sg)} {x : Str} {C : Addr} {k : Nat} {ps : List Str} {dvs : List V} {dds : List D} {F : FnX} {p : Pos} (hφ : FinOk X.K φ) (Z : DkX X.prog X.w X.K X.mg X.base x C k ps dvs F) (hd : ∀ H ρ, RVs X.K H ρ dvs dds) (hr : Room (k + 1) X.A) (tk : Takes X W) (ha : JA X (e :: es) fa) (hn : NA (ps.length - 1 - dds.length) fa := by repeat (first | exact na0 | apply na)) (hl : dds.length + 1 ≤ ps.length := by decide)
    (hg : Gl X x := by rfl) (hdb : (x == ("__debug__" : Str)) = false := by decide) (he : starEach (e :: es) X.env = (false, eval e X.env) :: starEach es X.env := by rfl) (hpl : (backTo pos (starEach es X.env)).any (·.1) = false := by rfl) :
    JEX X W (.Call (.Name x p) (e :: es) [] pos) (mkX φ C F dds fa) := by
  obtain ⟨f, fd, ds, M, Fk, hm, hv, b⟩ := Z.ex
  refine PE.imp (pe_makeX M Fk hr hg hm b hv (fun σ => passAt tk σ) ha hdb he hpl) (le_mkX hφ hd fun δ S ds S' q => ?_)
  rw [List.length_append, hn δ S ds S' q]
  omega
end
/-! ### a def's own promise -/
section
variable {P : Program} {w : World} {K : PySem.W.Frag} {mg : Str → Option Value} {base : Heap}
theorem fn_okX {φ : Nat → D → Sg → Option (D × Sg)} (hφ : FinOk K φ) {x qual : Str} {st : Stmt} {f : Addr} {fd : FuncData} {N ps : List Str} {k : Nat} {body : FSX} (F : Fun K x qual st f fd) (sc : FnScope N ps (defScope st))
    (hb : ∀ (cdv : Value) (A : Around) (outer : List Env) (s : Shared) (H : Hp) (E : XK), Room k (A.deeper (PyProof.Rows.envOfC qual (defScope st) s.heap.objs.size f cdv)) → JSsX (cxOf (CX P w) P w K mg base N qual (defScope st) f cdv A outer s H E) (fun cls d _ H => E cls d H) (defBody st) body) :
    FnOk P w K mg base (CX P w) (k + 1) f fd ps (spDX K ps.length (bodyX φ N.length body)) :=
  F.okX sc (fun _ _ _ _ h => spDX_len h) fun cdv A outer s H vs Q E hr h => ⟨_, hb cdv A outer s H E hr, bodyX_ok hφ rfl h⟩
theorem fn_okXD {φ : Nat → D → Sg → Option (D × Sg)} (hφ : FinOk K φ) {x qual : Str} {st : Stmt} {dvs : List V} {f : Addr} {fd : FuncData} {N ps : List Str} {k : Nat} {body : FSX} (F : FunD K x qual (defArgs st) (defBody st) (defScope st) dvs [] f fd) (sc : FnScope N ps (defScope st))
    (hb : ∀ (cdv : Value) (A : Around) (outer : List Env) (s : Shared) (H : Hp) (E : XK), Room k (A.deeper (PyProof.Rows.envOfC qual (defScope st) s.heap.objs.size f cdv)) → JSsX (cxOf (CX P w) P w K mg base N qual (defScope st) f cdv A outer s H E) (fun cls d _ H => E cls d H) (defBody st) body) :
    FnOk P w K mg base (CX P w) (k + 1) f fd ps (spDX K ps.length (bodyX φ N.length body)) :=
  F.ok sc (fun _ _ _ _ h => spDX_len h) fun cdv A outer s H vs Q E hr h => ⟨_, hb cdv A outer s H E hr, bodyX_ok hφ rfl h⟩
end
end DL
end
noncomputable section
namespace DL
open PySem L2 PyProof.Rows
/-! ### own exceptions over ValueError that keep what they are made with -/
/-- what the written part says of such a class -/
structure XcC (K : PySem.W.Frag) (C : Addr) : Prop where
  ox : OexC K C
  xf : XfC K C
  no : PySem.W.findIn K (.ref C) "what" = some none
  te : PySem.W.exmOne K (.ref C) (.ref C) = some true
  cl : (PySem.W.clsIn K C).isSome = true
  cc : PySem.W.findIn K (.ref C) "__class__" = some (some (.builtin "object.__class__"))
  mo : PySem.W.mroIn K C (.type "object") = some true
  sp : PySem.W.specialIn K (.builtin "object.__class__") "__get__" = some (some (.builtin "getset_descriptor.__get__"))
  ta : PySem.W.takesIn K (.builtin "object.__class__") = some true
/-- its __init__ -/
def spWhat (C : Addr) : Sp := fun vs H Q _ => ∃ (a : Addr) (v : V), vs = [.ref a, v] ∧ H a = some (exo a C none) ∧ ∀ dx, H dx = none → dx ≠ a → Q .non (upd (upd H dx (exd dx [("what", v)])) a (exo a C (some dx)))
theorem ok_what {P : Program} {w : World} {K : PySem.W.Frag} {mg : Str → Option Value} {base : Heap} {C : Addr} {q : Str} {s : Stmt} {f : Addr} {fd : FuncData} (F : Fun K "__init__" q s f fd) (T : XcC K C) (sc : FnScope ["self", "what"] ["self", "what"] (defScope s))
    (hb : ∀ (cdv : Value) (A : Around) (outer : List Env) (s' : Shared) (H : Hp) (E : XK), PSs (cxOf CX0 P w K mg base ["self", "what"] q (defScope s) f cdv A outer s' H E).nox (defBody s) (tOst K "what" (tVar 0) (tVar 1))) :
    FnOk P w K mg base CX0 1 f fd ["self", "what"] (spWhat C) := by
  refine F.ok (k := 0) sc (fun vs H Q E h => ?_) (fun cdv A outer s' H vs Q E hr h => ⟨_, hb cdv A outer s' H E, ?_⟩)
  · obtain ⟨a, v, rfl, _⟩ := h
    rfl
  · obtain ⟨a, v, rfl, ha, k⟩ := h
    exact ⟨v, rfl, .ref a, rfl, a, C, rfl, T.ox, T.no, .inl ⟨ha, fun dx h1 h2 => k dx h1 h2⟩⟩
/-- the class x at C may be raised -/
structure DxC (P : Program) (w : World) (K : PySem.W.Frag) (mg : Str → Option Value) (base : Heap) (x : Str) (C : Addr) : Prop where
  ex : ∃ (f : Addr) (fd : FuncData), XcC K C ∧ mg x = some (.ref C) ∧ PySem.W.findIn K (.ref C) "__init__" = some (some (.ref f)) ∧ PySem.W.typeIn K (.ref f) = some (.type "function") ∧ FnOk P w K mg base CX0 1 f fd ["self", "what"] (spWhat C) ∧ Binds K fd ["self", "what"] []
def raiseX (C : Addr) (f : FA) : FSX := fun δ S => (f δ S).bind fun p => match p.1 with
  | [d] => some (.ex C ["what"] [d], δ, p.2)
  | _ => none
section
variable {K : PySem.W.Frag} {W : WX}
theorem ls_raise {C : Addr} {f : FA} : ∀ D σ H, tDSX K W (raiseX C f) D σ H → tMkO C (spWhat C) [] (tDA K f) σ H fun cls d H' => W cls d σ H' := by
  rintro D σ H ⟨ρ, δ, S, r, δ', S', hS, hσ, e, q⟩
  obtain ⟨⟨ds, S1⟩, e1, e⟩ := bnd e
  refine ⟨ρ, δ, S, ds, S1, hS, hσ, e1, fun vs H1 ρ1 s1 hS1 rvs => ?_⟩
  dsimp only at e
  split at e
  · rename_i d
    cases e
    cases rvs with | cons rv rn => ?_
    rename_i v vs
    cases rn
    refine ⟨by show 1 ≤ 1000; decide, fun a ha => ⟨a, v, rfl, upd_same, fun dx hdx ne => ?_⟩⟩
    have h1 : H1 dx = none := by rw [upd_ne ne] at hdx; exact hdx
    refine ⟨rfl, dx, [("what", v)], upd_same, by rw [upd_ne ne, upd_same], h1, ?_⟩
    have eH : upd (del (upd (upd (upd H1 a (exo a C none)) dx (exd dx [("what", v)])) a (exo a C (some dx))) a) dx (.xd [("what", v)]) = upd H1 dx (.xd [("what", v)]) := by
      funext b
      by_cases hb : b = dx
      · rw [hb, upd_same, upd_same]
      · rw [upd_ne hb, upd_ne hb]
        by_cases hba : b = a
        · rw [hba, del_same, ha]
        · rw [del_ne hba, upd_ne hba, upd_ne hb, upd_ne hba]
    rw [eH]
    exact q dx [("what", v)] σ _ ρ1 (s1.trans (Step.new hS1 h1)) (hS1.new h1) (hσ.mono (s1.trans (Step.new hS1 h1))) upd_same (hS1.fresh h1) rfl (.cons (rv.mono (Step.new hS1 h1)) .nil)
  · cases e
end
section
variable {X : Cx} {W : WX} {e : Expr} {es : List Expr} {p pos pos2 : Pos} {fa : FA}
theorem jxraise {x : Str} {C : Addr} {k : Nat} (hc : X.calm = true) (Z : DxC X.prog X.w X.K X.mg X.base x C) (hr : Room k X.A) (hk : 2 ≤ k) (tk : Takes X W) (ha : JA X (e :: es) fa)
    (hg : Gl X x := by rfl) (hdb : (x == ("__debug__" : Str)) = false := by decide) (he : starEach (e :: es) X.env = (false, eval e X.env) :: starEach es X.env := by rfl) (hpl : (backTo pos (starEach es X.env)).any (·.1) = false := by rfl) :
    JSX X W (.Raise (some (.Call (.Name x p) (e :: es) [] pos)) none pos2) (raiseX C fa) := by
  obtain ⟨f, fd, T, hm, hi, ht, F, hb⟩ := Z.ex
  exact PS.imp (ps_raise hc tk (pmk_oex T.ox hi ht F (hr.mono hk) hb .nil pass0 hg hm ha hdb he hpl)) ls_raise
end
/-! ### try: .. except X as n: y = n -/
def tryKS (Cs : List Addr) (i j : Nat) (fb : FSX) : FS := fun δ S => (fb δ S).bind fun r => match r.1 with
  | .nx => some (.nx, r.2)
  | .rt d => some (.rt d, r.2)
  | .bk => some (.bk, r.2)
  | .ct => some (.ct, r.2)
  | .ex C ns ds => if C ∈ Cs ∧ i < r.2.1.length then some (.nx, ((r.2.1.set i none).set j (some (.exc C ns ds))).set i none, r.2.2) else none
theorem RS.length {K : PySem.W.Frag} {H : Hp} {ρ : Ro} : ∀ {σ : L2.St} {δ : Dl}, RS K H ρ σ δ → σ.length = δ.length
  | _, _, .nil => rfl
  | _, _, .no r => by rw [List.length_cons, List.length_cons, RS.length r]
  | _, _, .yes _ r => by rw [List.length_cons, List.length_cons, RS.length r]
theorem ls_tryK {K : PySem.W.Frag} {Cs : List Addr} {m : Value → Prop} {i j : Nat} {fb : FSX} (hm : ∀ C ∈ Cs, m (.ref C)) : ∀ D σ H, tDS K (tryKS Cs i j fb) D σ H → tDSX K (wKeep m i (fun _ _ _ => tAsg (tVar i) (gName j)) D) fb D σ H := by
  rintro D σ H ⟨ρ, δ, S, r, δ', S', hS, hσ, e, q⟩
  obtain ⟨⟨r1, δ2, S2⟩, e1, e⟩ := bnd e
  refine ⟨ρ, δ, S, r1, δ2, S2, hS, hσ, e1, ?_⟩
  cases r1 with
  | nx => cases e; exact q
  | rt d => cases e; exact q
  | bk => cases e; exact q
  | ct => cases e; exact q
  | ex C ns ds =>
    dsimp only at e
    split at e
    · rename_i hc
      cases e
      intro dd fs σ' H' ρ' s hS' hσ' hx ho hn rv
      refine ⟨hm C hc.1, fun a ha => ?_⟩
      have hl : i < σ'.length := by rw [RS.length hσ']; exact hc.2
      have ne : dd ≠ a := fun z => by rw [z, ha] at hx; cases hx
      have st : Step ρ' ρ' H' (upd H' a (ExV (.ref C) (some dd) a)) := Step.new hS' ha
      refine ⟨.ref a, by rw [List.getElem?_set_self hl], ?_⟩
      show D.nx _ _
      subst hn
      have rx : RV K (upd H' a (ExV (.ref C) (some dd) a)) ρ' (.ref a) (.exc C (fs.map (·.1)) ds) := .exc upd_same (by rw [upd_ne ne]; exact hx) (hS'.fresh ha) ho (RVs.mono st rv)
      exact q _ _ ρ' (s.trans st) (hS'.new ha) ((((hσ'.mono st).del i (some (.ref a))).set j rx).del i none)
    · cases e
theorem jstryK {X : Cx} {n y : Str} {t : Expr} {m : Value → Prop} {Cs : List Addr} {i j : Nat} {body : List Stmt} {pos pos' pn' py pz : Pos} {fb : FSX}
    (hs : X.stack = X.env :: X.outer) (hf : X.env.frame = some X.env.locals) (hex : X.ex = []) (hN : X.N.Nodup) (hi : X.N[i]? = some n) (hj : X.N[j]? = some y) (hln : X.env.kindOf n = some .local) (hc : Clause X t m) (hm : ∀ C ∈ Cs, m (.ref C))
    (hb : ∀ (W : WX) (pn : List (Addr × Obj)) (xe : Value → Shared → Prop), Takes (X.tr pn xe) W → PassesOwn (model X.prog X.w) X.A X.env xe → JSsX (X.tr pn xe) W body fb)
    (hsu : ∀ (a : Addr) (pn : List (Addr × Obj)), PSs (X.suite a pn) [.Assign [.Name y py] (.Name n pn') pz] (tAsg (tVar i) (gName j))) :
    JS X (.Try body [.ExceptHandler (some t) (some n) [.Assign [.Name y py] (.Name n pn') pz] pos'] [] [] pos) (tryKS Cs i j fb) :=
  PS.imp (ps_try_keep (tb := fun W => tDSX X.K W fb) hs hf hex hN hi hln hc hb fun a oe cls d pn _ _ => hsu a ((a, oe) :: pn)) (ls_tryK hm)
/-! ### an exception read -/
theorem pe_fldE {X : Cx} {e : Expr} {te : TE} {pos : Pos} {n : Str} (he : PE X e te) (hb : attributeBase e n X.env (eval e X.env) = eval e X.env := by rfl) :
    PE X (.Attribute e n pos) (fun σ H Q => te σ H fun x H1 => ∃ (a C dd : Addr) (fs : List (Str × V)) (v : V), x = .ref a ∧ XfC X.K C ∧ PySem.W.findIn X.K (.ref C) n = some none ∧ H1 a = some (ExV (.ref C) (some dd) a) ∧ H1 dd = some (.xd fs) ∧ fs.lookup n = some v ∧ Q v H1) := by
  refine ⟨fun pins s σ H Q I h => attr_of hb (thn (he.run pins s σ H _ I h) fun u s1 hh => ?_)⟩
  obtain ⟨x, H1, I1, rx, a, C, dd, fs, v, ex, T, hno, ea, ed, l, q⟩ := hh
  subst ex
  obtain rfl : u = Value.ref a := rx
  obtain ⟨⟨oe, vs, h1, h2, h3, h4⟩, _⟩ := I1.hok a _ ea
  obtain ⟨mA, hns, hr⟩ := I1.hok dd _ ed
  obtain ⟨od, ho, hl⟩ := lookIn_ns hns
  obtain ⟨u, hu, ru⟩ := RelO.some_of (v := v) (o := mA n) (by rw [← l]; exact hr n)
  have J : PySem.W.InstAt s1.heap a oe C (some od) := ⟨h1, h2, by unfold PySem.W.notCls; rw [h4] <;> rfl, by rw [h3]; exact ho⟩
  exact HandSPX.exc_get I1.kIn J T.ga T.gg T.exC (PySem.W.findObj_own T.hdC hno rfl (by rw [hl, hu])) (handed_of ru) ⟨v, H1, I1.tok _, ru, q⟩
def fldXD (C : Addr) (n : Str) (f : FE) : FE := fun δ S => (f δ S).bind fun p => match p.1 with
  | .exc C' ns ds => if C' = C then ((ns.zip ds).lookup n).bind fun x => some (x, p.2) else none
  | _ => none
theorem look_zip {K : PySem.W.Frag} {H : Hp} {ρ : Ro} {n : Str} {d : D} : ∀ {fs : List (Str × V)} {ds : List D}, RVs K H ρ (fs.map (·.2)) ds → ((fs.map (·.1)).zip ds).lookup n = some d → ∃ v, fs.lookup n = some v ∧ RV K H ρ v d
  | [], _, r, e => by cases r; cases e
  | (k, v) :: fs, _, .cons h r, e => by
    rw [List.map_cons, List.zip_cons_cons] at e
    by_cases hk : (n == k) = true
    · rw [List.lookup_cons, hk] at e
      cases e
      exact ⟨v, by rw [List.lookup_cons, hk], h⟩
    · have hk : (n == k) = false := by simpa using hk
      rw [List.lookup_cons, hk] at e
      obtain ⟨w, e2, r2⟩ := look_zip r e
      exact ⟨w, by rw [List.lookup_cons, hk]; exact e2, r2⟩
theorem jfldX {X : Cx} {e : Expr} {f : FE} {C : Addr} {n : Str} {pos : Pos} (T : XfC X.K C) (hno : PySem.W.findIn X.K (.ref C) n = some none) (he : JE X e f) (hb : attributeBase e n X.env (eval e X.env) = eval e X.env := by rfl) : JE X (.Attribute e n pos) (fldXD C n f) :=
  PE.imp (pe_fldE he hb) fun σ H Q h => by
    obtain ⟨ρ, δ, S, d, S', hS, hσ, e, q⟩ := h
    obtain ⟨⟨x, S1⟩, e1, e⟩ := bnd e
    refine ⟨ρ, δ, S, x, S1, hS, hσ, e1, fun v H1 ρ1 s1 hS1 rv => ?_⟩
    dsimp only at e
    split at e
    · split at e
      · rename_i hC
        obtain ⟨y, e2, e⟩ := bnd e
        cases e
        subst hC
        cases rv with | exc h hd hn hnd r => ?_
        obtain ⟨w, e3, r3⟩ := look_zip r e2
        exact ⟨_, _, _, _, w, rfl, T, hno, h, hd, e3, q w H1 ρ1 s1 hS1 r3⟩
      · cases e
    · cases e
/-! isinstance of an exception -/
def rIsiE (K : PySem.W.Frag) : List V → Hp → VK → Prop := fun xs H Q => ∃ (a C dd : Addr) (fs : List (Str × V)) (c : V) (u : Value) (b : Bool), xs = [.ref a, c] ∧ XcC K C ∧ H a = some (ExV (.ref C) (some dd) a) ∧ H dd = some (.xd fs) ∧ ClsV c u ∧ PySem.W.kitOne K (.ref C) u = some b ∧ Q (.bl b) H
def rIsiET (K : PySem.W.Frag) : List V → Hp → VK → Prop := fun xs H Q => ∃ (a C dd tp : Addr) (fs : List (Str × V)) (cs : List V) (us : List Value) (b : Bool), xs = [.ref a, .ref tp] ∧ H tp = some (.tup cs) ∧ XcC K C ∧ H a = some (ExV (.ref C) (some dd) a) ∧ H dd = some (.xd fs) ∧ Paired ClsV cs us ∧ PySem.W.kitAny K (.ref C) us = some b ∧ Q (.bl b) H
theorem inst_at {X : Cx} {pins : List (Addr × Obj)} {σ : L2.St} {H : Hp} {s : Shared} {a C dd : Addr} {fs : List (Str × V)} (I : L2.Inv X pins σ H s) (ea : H a = some (ExV (.ref C) (some dd) a)) (ed : H dd = some (.xd fs)) : ∃ oe od, PySem.W.InstAt s.heap a oe C od := by
  obtain ⟨⟨oe, vs, h1, h2, h3, h4⟩, _⟩ := I.hok a _ ea
  obtain ⟨mA, hns, hr⟩ := I.hok dd _ ed
  obtain ⟨od, ho, hl⟩ := lookIn_ns hns
  exact ⟨oe, some od, h1, h2, by unfold PySem.W.notCls; rw [h4] <;> rfl, by rw [h3]; exact ho⟩
theorem call_isiE {X : Cx} : CallR X (.builtin "isinstance") (rIsiE X.K) := by
  intro pins s σ H xs us Q I r h
  obtain ⟨a, C, dd, fs, c, u, b, rfl, T, ea, ed, k, e, q⟩ := h
  obtain ⟨u1, u2, rfl, r1, r2⟩ := vals2 r
  obtain rfl : u1 = Value.ref a := r1
  have e2 := ClsV.eq k r2
  subst e2
  obtain ⟨oe, od, hi⟩ := inst_at I ea ed
  exact PySem.W.kia_one (PySem.W.kitx_exc T.cl T.xf.ga T.xf.gg T.xf.exC T.cc T.sp T.ta T.mo) I.kIn hi e (fun z => by cases z) fun tk => ⟨V.bl b, H, I.tok tk, rfl, q⟩
theorem call_isiET {X : Cx} : CallR X (.builtin "isinstance") (rIsiET X.K) := by
  intro pins s σ H xs us Q I r h
  obtain ⟨a, C, dd, tp, fs, cs, ws, b, rfl, hT, T, ea, ed, k, e, q⟩ := h
  obtain ⟨u1, u2, rfl, r1, r2⟩ := vals2 r
  obtain rfl : u1 = Value.ref a := r1
  obtain rfl : u2 = Value.ref tp := r2
  obtain ⟨oe, od, hi⟩ := inst_at I ea ed
  obtain ⟨_, its, rv, o, h1, h2, n, h3⟩ := I.hok tp _ hT
  have e3 := ClsV.all k rv
  subst e3
  obtain ⟨oc, od', dt, sl⟩ := o
  have h2 : oc = .type "tuple" := h2
  have h3 : dt = .seq its.toArray n := h3
  subst h2 h3
  exact PySem.W.kia_tup (PySem.W.kitx_exc T.cl T.xf.ga T.xf.gg T.xf.exC T.cc T.sp T.ta T.mo) I.kIn hi h1 e (fun z => by cases z) fun tk => ⟨V.bl b, H, I.tok tk, rfl, q⟩
/-- of each class: which of Python's own it stands under -/
abbrev XTab := List (Addr × List (String × Bool))
def lookT (tab : XTab) (C : Addr) (T : String) : Option Bool := ((tab.find? fun p => decide (p.1 = C)).bind fun p => p.2.lookup T)
def anyT (tab : XTab) (C : Addr) : List String → Option Bool
  | [] => some false
  | T :: r => match lookT tab C T with
    | some true => some true
    | some false => anyT tab C r
    | none => none
def TabOk (K : PySem.W.Frag) (tab : XTab) : Prop := ∀ p ∈ tab, XcC K p.1 ∧ ∀ r ∈ p.2, PySem.W.kitOne K (.ref p.1) (.type r.1) = some r.2
theorem look_mem {T : String} {b : Bool} : ∀ {l : List (String × Bool)}, l.lookup T = some b → (T, b) ∈ l
  | (k, v) :: r, h => by
    by_cases hk : (T == k) = true
    · rw [List.lookup_cons, hk] at h
      cases h
      rw [eq_of_beq hk]
      exact List.mem_cons_self
    · have hk : (T == k) = false := by simpa using hk
      rw [List.lookup_cons, hk] at h
      exact List.mem_cons_of_mem _ (look_mem h)
theorem lookT_ok {K : PySem.W.Frag} {tab : XTab} (h : TabOk K tab) {C : Addr} {T : String} {b : Bool} (e : lookT tab C T = some b) : XcC K C ∧ PySem.W.kitOne K (.ref C) (.type T) = some b := by
  obtain ⟨p, e1, e2⟩ := bnd e
  have hm := List.mem_of_find?_eq_some e1
  have hC : p.1 = C := of_decide_eq_true (List.find?_some (p := fun p : Addr × List (String × Bool) => decide (p.1 = C)) e1)
  subst hC
  exact ⟨(h p hm).1, (h p hm).2 _ (look_mem e2)⟩
theorem anyT_ok {K : PySem.W.Frag} {tab : XTab} (h : TabOk K tab) {C : Addr} {b : Bool} : ∀ {Ts : List String}, anyT tab C Ts = some b → PySem.W.kitAny K (.ref C) (Ts.map Value.type) = some b
  | [], e => by cases e; exact kitAny_nil
  | T :: r, e => by
    unfold anyT at e
    rw [List.map_cons]
    split at e
    · rename_i e1
      cases e
      exact kitAny_cons (lookT_ok h e1).2 (fun z => by cases z) fun _ => rfl
    · rename_i e1
      exact kitAny_cons (lookT_ok h e1).2 (fun _ => anyT_ok h e) fun z => by cases z
    · cases e
def isiXO (tab : XTab) : OC := fun ds S => match ds with
  | [.exc C _ _, .ty T] => (lookT tab C T).bind fun b => some (.bl b, S)
  | _ => none
def isiXTO (tab : XTab) : OC := fun ds S => match ds with
  | [.exc C _ _, .tup cs] => (tysOf cs).bind fun Ts => if (tab.find? fun p => decide (p.1 = C)).isSome = true then (anyT tab C Ts).bind fun b => some (.bl b, S) else none
  | _ => none
theorem cbD_isiX {K : PySem.W.Frag} {tab : XTab} (h : TabOk K tab) : CbD K (rIsiE K) (isiXO tab) := by
  intro xs H Q ρ S ds z S' hS rx eq q
  unfold isiXO at eq
  split at eq
  · rename_i C ns vs T
    obtain ⟨b, e1, eq⟩ := bnd eq
    cases eq
    obtain ⟨hx, hk⟩ := lookT_ok h e1
    cases rx with | cons r1 rn => ?_
    cases rn with | cons r2 rn => ?_
    cases rn
    cases r2
    cases r1 with | exc ha hd n nd r => ?_
    exact ⟨_, C, _, _, _, _, b, rfl, hx, ha, hd, .ty T, hk, q _ H ρ (Step.refl _ _) hS .bl⟩
  · cases eq
theorem cbD_isiXT {K : PySem.W.Frag} {tab : XTab} (h : TabOk K tab) : CbD K (rIsiET K) (isiXTO tab) := by
  intro xs H Q ρ S ds z S' hS rx eq q
  unfold isiXTO at eq
  split at eq
  · rename_i C ns vs cs
    obtain ⟨Ts, e0, eq⟩ := bnd eq
    split at eq
    · rename_i hs
      obtain ⟨b, e1, eq⟩ := bnd eq
      cases eq
      obtain ⟨p, ep⟩ := Option.isSome_iff_exists.mp hs
      have hC : p.1 = C := of_decide_eq_true (List.find?_some (p := fun p : Addr × List (String × Bool) => decide (p.1 = C)) ep)
      have hx := (h p (List.mem_of_find?_eq_some ep)).1
      rw [hC] at hx
      cases rx with | cons r1 rn => ?_
      cases rn with | cons r2 rn => ?_
      cases rn
      cases r2 with | tup ht nt rt => ?_
      cases r1 with | exc ha hd n nd r => ?_
      exact ⟨_, C, _, _, _, _, _, b, rfl, ht, hx, ha, hd, tysOf_rv e0 rt, anyT_ok h e1, q _ H ρ (Step.refl _ _) hS .bl⟩
    · cases eq
  · cases eq
/-- the name x is the class at C -/
structure XnC (K : PySem.W.Frag) (mg : Str → Option Value) (x : Str) (C : Addr) : Prop where
  nm : mg x = some (.ref C)
  xc : XcC K C
theorem exm_own {K : PySem.W.Frag} {C : Addr} (h1 : PySem.W.subIn K (.ref C) (.type "BaseException") = some true) (h2 : (PySem.W.clsIn K C).isSome = true) (h3 : PySem.W.typeIn K (.ref C) = some (.type "type")) (h4 : PySem.W.subIn K (.ref C) (.ref C) = some true) : PySem.W.exmOne K (.ref C) (.ref C) = some true := by
  unfold PySem.W.exmOne
  rw [h1]
  unfold PySem.W.kitCls
  dsimp only
  have h2' : PySem.W.isClsIn K C = true := h2
  first
    | (rw [h2', h3, h4]; rfl)
    | (rw [h2, h3, h4]; rfl)
    | (simp only [h2, h2', h3, h4]; rfl)
theorem kit_own {K : PySem.W.Frag} {C : Addr} {T : String} {b : Bool} (hm : PySem.W.kitMeta T = true) (h : PySem.W.subIn K (.ref C) (.type T) = some b) : PySem.W.kitOne K (.ref C) (.type T) = some b := by
  have e : (Value.ref C == Value.type T) = false := beq_eq_false_iff_ne.mpr (by intro z; cases z)
  unfold PySem.W.kitOne
  rw [e]
  refine (if_neg (by decide)).trans ?_
  unfold PySem.W.kitCls
  dsimp only
  rw [if_pos hm]
  exact h
end DL
end
noncomputable section
namespace DL
open PySem L2
/-! ### classes made with keywords -/
def mkKD (φ : Nat → D → Sg → Option (D × Sg)) (C : Addr) (F : Fn) (src : List Sr) (dds : List D) (f g : FA) : FE := fun δ S => (f δ S).bind fun p => (g δ p.2).bind fun q =>
  (F (pickS src (.loc q.2.length :: p.1) q.1 dds) (q.2 ++ [.ins C []])).bind fun r => if isNoneB r.1 = true then φ q.2.length (.loc q.2.length) r.2 else none
section
variable {K : PySem.W.Frag}
theorem le_mkK {φ : Nat → D → Sg → Option (D × Sg)} (hφ : FinOk K φ) {C : Addr} {n m N : Nat} {F : Fn} {src : List Sr} {dvs : List V} {dds : List D} {E : XK} {f g : FA} (hd : ∀ H ρ, RVs K H ρ dvs dds) (hn : NA n f) (hm : NA m g) (hN : ∀ us ws : List V, us.length = n + 1 → ws.length = m → (pickS src us ws dvs).length = N) :
    ∀ σ H Q, tD K (mkKD φ C F src dds f g) σ H Q → tMakeN C n m (spD K N F) (fun vs zs => pickS src vs zs dvs) E (tDA K f) (tDA K g) σ H Q := by
  rintro σ H Q ⟨ρ, δ, S, d, S', hS, hσ, e, q⟩
  obtain ⟨⟨y, S1⟩, e1, e⟩ := bnd e
  obtain ⟨⟨z, S2⟩, e2, e⟩ := bnd e
  obtain ⟨⟨w, S3⟩, e3, e⟩ := bnd e
  dsimp only at e
  split at e
  · rename_i hw
    refine ⟨ρ, δ, S, y, S1, hS, hσ, e1, fun vs H1 ρ1 s1 hS1 rvs => ⟨ρ1, δ, S1, z, S2, hS1, hσ.mono s1, e2, fun zs H2 ρ2 s2 hS2 rz => ?_⟩⟩
    have l1 : vs.length = n := by rw [rvs.len]; exact hn _ _ _ _ e1
    have l2 : zs.length = m := by rw [rz.len]; exact hm _ _ _ _ e2
    refine ⟨l1, l2, fun x dx hx hdx ne => ?_⟩
    have hx2 : (upd H2 dx (.own x)) x = none := by rw [upd_ne (Ne.symm ne)]; exact hx
    have sA : Step ρ2 ρ2 H2 (upd H2 dx (.own x)) := Step.new hS2 hdx
    have hSA : SR K (upd H2 dx (.own x)) ρ2 S2 := hS2.new hdx
    have sB : Step ρ2 (ρ2.push x) (upd H2 dx (.own x)) (upd (upd H2 dx (.own x)) x (.ins C dx [])) := Step.push hSA hx2
    have hSB : SR K (upd (upd H2 dx (.own x)) x (.ins C dx [])) (ρ2.push x) (S2 ++ [.ins C []]) := hSA.push hx2 ⟨dx, [], upd_same, rfl, .nil⟩
    have rx : RV K (upd (upd H2 dx (.own x)) x (.ins C dx [])) (ρ2.push x) (.ref x) (.loc S2.length) := by
      refine .loc ?_
      show (ρ2.pl ++ [x])[S2.length]? = some x
      rw [← hS2.len, List.getElem?_append_right (Nat.le_refl _), Nat.sub_self]
      rfl
    refine ⟨ρ2.push x, _, _, w, S3, hN _ _ (by rw [List.length_cons, l1]) l2, hSB, rvs_pick (.cons rx ((rvs.mono s2).mono (sA.trans sB))) (rz.mono (sA.trans sB)) (hd _ _) src, e3, fun v H3 ρ3 s3 hS3 rv => ?_⟩
    have ew : w = .non := by cases w <;> first | rfl | cases hw
    subst ew
    cases rv
    refine ⟨rfl, ?_⟩
    obtain ⟨ρ4, s4, hS4, r4⟩ := hφ _ _ _ _ _ _ _ _ _ _ hS2 ((sA.trans sB).trans s3) hS3 (rx.mono s3) e
    exact q _ H3 ρ4 ((s1.trans s2).trans s4) hS4 r4
  · cases e
end
/-- a class made with n values and the keywords ks -/
structure DkN (P : Program) (w : World) (K : PySem.W.Frag) (mg : Str → Option Value) (base : Heap) (x : Str) (C : Addr) (k : Nat) (ps : List Str) (n : Nat) (ks : List Str) (src : List Sr) (dvs : List V) (F : Fn) : Prop where
  ex : ∃ (f : Addr) (fd : FuncData) (its : List Value), Mk K C f ∧ FnOk P w K mg base CX0 k f fd ps (spD K ps.length F) ∧ mg x = some (.ref C) ∧ Vals dvs its ∧ KBn K fd ps (n + 1) ks (fun us ws => pickS src us ws its) (fun vs zs => pickS src vs zs dvs)
section
variable {X : Cx} {e : Expr} {es : List Expr} {f g : FA} {pos : Pos}
theorem jmkK {φ : Nat → D → Sg → Option (D × Sg)} {x : Str} {C : Addr} {k n : Nat} {ps ks : List Str} {src : List Sr} {dvs : List V} {dds : List D} {F : Fn} {p : Pos} {kws : List Keyword} (hφ : FinOk X.K φ) (Z : DkN X.prog X.w X.K X.mg X.base x C k ps n ks src dvs F) (hd : ∀ H ρ, RVs X.K H ρ dvs dds) (hr : Room (k + 1) X.A) (ha : JA X (e :: es) f) (hk : PK X kws (tDA X.K g))
    (hN : ∀ us ws : List V, us.length = n + 1 → ws.length = ks.length → (pickS src us ws dvs).length = ps.length) (hn : NA n f := by repeat (first | exact na0 | apply na)) (hm : NA ks.length g := by repeat (first | exact na0 | apply na))
    (hall : (backToKw pos (keywordEach kws X.env)).all (·.1.isSome) = true := by rfl) (hks : (backToKw pos (keywordEach kws X.env)).filterMap (·.1) = ks := by rfl) (hg : Gl X x := by rfl) (hdb : (x == ("__debug__" : Str)) = false := by decide) (he : starEach (e :: es) X.env = (false, eval e X.env) :: starEach es X.env := by rfl)
    (hpl : ((backTo pos (starEach (e :: es) X.env)).any (·.1) || (backToKw pos (keywordEach kws X.env)).any (·.1.isNone)) = false := by rfl) :
    JE X (.Call (.Name x p) (e :: es) kws pos) (mkKD φ C F src dds f g) := by
  obtain ⟨fI, fd, its, M, Fk, hm', v, b⟩ := Z.ex
  exact PE.imp (pe_makeN M Fk hr hg hm' b pass0 ha hk hall hks hdb he hpl) (le_mkK hφ hd hn hm hN)
theorem jmkK0 {φ : Nat → D → Sg → Option (D × Sg)} {x : Str} {C : Addr} {k : Nat} {ps ks : List Str} {src : List Sr} {dvs : List V} {dds : List D} {F : Fn} {p : Pos} {kws : List Keyword} (hφ : FinOk X.K φ) (Z : DkN X.prog X.w X.K X.mg X.base x C k ps 0 ks src dvs F) (hd : ∀ H ρ, RVs X.K H ρ dvs dds) (hr : Room (k + 1) X.A) (hk : PK X kws (tDA X.K g))
    (hN : ∀ us ws : List V, us.length = 0 + 1 → ws.length = ks.length → (pickS src us ws dvs).length = ps.length) (hm : NA ks.length g := by repeat (first | exact na0 | apply na))
    (hall : (backToKw pos (keywordEach kws X.env)).all (·.1.isSome) = true := by rfl) (hks : (backToKw pos (keywordEach kws X.env)).filterMap (·.1) = ks := by rfl) (hg : Gl X x := by rfl) (hdb : (x == ("__debug__" : Str)) = false := by decide)
    (hpl : ((backTo pos (starEach [] X.env)).any (·.1) || (backToKw pos (keywordEach kws X.env)).any (·.1.isNone)) = false := by rfl) :
    JE X (.Call (.Name x p) [] kws pos) (mkKD φ C F src dds nilA g) := by
  obtain ⟨fI, fd, its, M, Fk, hm', v, b⟩ := Z.ex
  refine PE.imp ⟨fun pins s σ H Q I h => ?_⟩ (le_mkK (E := E0) hφ hd na0 hm hN)
  have h := le_nilA σ H _ h
  refine wpAny_Call_Name_kw (ld_glob I hg hm' ?_ hdb)
  refine PySem.W.callWith_KW0 (first := []) (h₀ := X.base) I.ok.mod.kin M.kp hall ?_ hpl
  refine thn (hk.run pos pins s σ H _ I h) fun ws s2 ⟨zs, H2, I2, rz, l1, l2, q2⟩ => ⟨I2.kIn, ?_⟩
  rw [hks]
  exact run_makeN (us := []) (vs := []) M Fk hr b pass0 I2 .nil rz rfl l2 q2
end
/-! ### W for what may raise -/
def WSX (o : Option (FlX × Dl × Sg)) (Q : FlX → Dl → Sg → Prop) : Prop := ∃ r δ' S', o = some (r, δ', S') ∧ Q r δ' S'
section
variable {δ : Dl} {S : Sg} {Q : FlX → Dl → Sg → Prop}
theorem wx_imp {o : Option (FlX × Dl × Sg)} {Q Q' : FlX → Dl → Sg → Prop} (h : WSX o Q') (k : ∀ r δ S, Q' r δ S → Q r δ S) : WSX o Q := by
  obtain ⟨r, δ', S', e, q⟩ := h
  exact ⟨r, δ', S', e, k _ _ _ q⟩
theorem wx_up {f : FS} (h : WS (f δ S) fun r δ1 S1 => Q (upFl r) δ1 S1) : WSX (upS f δ S) Q := by
  obtain ⟨r, δ', S', e, q⟩ := h
  exact ⟨_, _, _, by unfold upS; rw [e]; rfl, q⟩
theorem wx_upE {f : FE} {Q : Rx → Sg → Prop} (h : W (f δ S) fun d S1 => Q (.vl d) S1) : W (upE f δ S) Q := by
  obtain ⟨d, S', e, q⟩ := h
  exact ⟨_, _, by unfold upE; rw [e]; rfl, q⟩
def NxX (Q : FlX → Dl → Sg → Prop) (g : Dl → Sg → Prop) : FlX → Dl → Sg → Prop := fun r δ S => match r with
  | .nx => g δ S
  | x => Q x δ S
theorem nxx_nx {g : Dl → Sg → Prop} (h : g δ S) : NxX Q g .nx δ S := h
theorem nxx_rt {g : Dl → Sg → Prop} {d : D} (h : Q (.rt d) δ S) : NxX Q g (.rt d) δ S := h
theorem nxx_ex {g : Dl → Sg → Prop} {C : Addr} {ns : List Str} {ds : List D} (h : Q (.ex C ns ds) δ S) : NxX Q g (.ex C ns ds) δ S := h
theorem wx_seq {f g : FSX} (h : WSX (f δ S) (NxX Q fun δ1 S1 => WSX (g δ1 S1) Q)) : WSX (seqX f g δ S) Q := by
  obtain ⟨r, δ', S', e, q⟩ := h
  unfold seqX
  rw [e]
  cases r with
  | nx => exact q
  | rt d => exact ⟨_, _, _, rfl, q⟩
  | bk => exact ⟨_, _, _, rfl, q⟩
  | ct => exact ⟨_, _, _, rfl, q⟩
  | ex C ns ds => exact ⟨_, _, _, rfl, q⟩
theorem wx_if {c : FT} {f g : FSX} (h : W (c δ S) fun q S1 => Br q (WSX (f δ S1) Q) (WSX (g δ S1) Q)) : WSX (ifX c f g δ S) Q := by
  obtain ⟨q, S', e, h⟩ := h
  unfold ifX
  rw [e]
  cases q with
  | true => exact h.1 rfl
  | false => exact h.2 rfl
def RtX (i : Option Nat) (Q : FlX → Dl → Sg → Prop) (δ : Dl) : Rx → Sg → Prop := fun r S => match r with
  | .vl d => match i with
    | some i => Q .nx (δ.set i (some d)) S
    | none => Q (.rt d) δ S
  | .ex C ns ds => Q (.ex C ns ds) δ S
theorem wx_ret {f : FEX} (h : W (f δ S) (RtX none Q δ)) : WSX (retX f δ S) Q := by
  obtain ⟨r, S', e, q⟩ := h
  unfold retX
  rw [e]
  cases r with
  | vl d => exact ⟨_, _, _, rfl, q⟩
  | ex C ns ds => exact ⟨_, _, _, rfl, q⟩
theorem wx_set {i : Nat} {f : FEX} (h : W (f δ S) (RtX (some i) Q δ)) : WSX (setX i f δ S) Q := by
  obtain ⟨r, S', e, q⟩ := h
  unfold setX
  rw [e]
  cases r with
  | vl d => exact ⟨_, _, _, rfl, q⟩
  | ex C ns ds => exact ⟨_, _, _, rfl, q⟩
def DrX (Q : FlX → Dl → Sg → Prop) (δ : Dl) : Rx → Sg → Prop := fun r S => match r with
  | .vl _ => Q .nx δ S
  | .ex C ns ds => Q (.ex C ns ds) δ S
theorem wx_drop {f : FEX} (h : W (f δ S) (DrX Q δ)) : WSX (dropX f δ S) Q := by
  obtain ⟨r, S', e, q⟩ := h
  unfold dropX
  rw [e]
  cases r with
  | vl d => exact ⟨_, _, _, rfl, q⟩
  | ex C ns ds => exact ⟨_, _, _, rfl, q⟩
theorem wx_fn {F : FnX} {dds : List D} {f : FA} {Q : Rx → Sg → Prop} (h : Wd dds (f δ S) fun ds S1 => W (F ds S1) Q) : W (fnX F dds f δ S) Q := by
  obtain ⟨ds, S', e, h⟩ := h
  unfold fnX
  rw [e]
  exact h
theorem wx_raise {C : Addr} {f : FA} (h : W (f δ S) fun ds S1 => ∃ d, ds = [d] ∧ Q (.ex C ["what"] [d]) δ S1) : WSX (raiseX C f δ S) Q := by
  obtain ⟨ds, S', e, d, rfl, h⟩ := h
  unfold raiseX
  rw [e]
  exact ⟨_, _, _, rfl, h⟩
def TrK (Cs : List Addr) (i j : Nat) (Q : Fl → Dl → Sg → Prop) : FlX → Dl → Sg → Prop := fun r δ S => match r with
  | .nx => Q .nx δ S
  | .rt d => Q (.rt d) δ S
  | .bk => Q .bk δ S
  | .ct => Q .ct δ S
  | .ex C ns ds => C ∈ Cs ∧ i < δ.length ∧ Q .nx (((δ.set i none).set j (some (.exc C ns ds))).set i none) S
theorem w_tryK {Cs : List Addr} {i j : Nat} {f : FSX} {Q : Fl → Dl → Sg → Prop} (h : WSX (f δ S) (TrK Cs i j Q)) : WS (tryKS Cs i j f δ S) Q := by
  obtain ⟨r, δ', S', e, q⟩ := h
  unfold tryKS
  rw [e]
  cases r with
  | nx => exact ⟨_, _, _, rfl, q⟩
  | rt d => exact ⟨_, _, _, rfl, q⟩
  | bk => exact ⟨_, _, _, rfl, q⟩
  | ct => exact ⟨_, _, _, rfl, q⟩
  | ex C ns ds => exact ⟨_, _, _, if_pos ⟨q.1, q.2.1⟩, q.2.2⟩
def BdX (φ : Nat → D → Sg → Option (D × Sg)) (n : Nat) (Q : Rx → Sg → Prop) : FlX → Dl → Sg → Prop := fun r _ S1 => match r with
  | .rt d => W (φ n d S1) fun d S2 => Q (.vl d) S2
  | .nx => W (φ n .non S1) fun d S2 => Q (.vl d) S2
  | .ex C ns xs => ∃ S2, cutX n xs S1 = some S2 ∧ Q (.ex C ns xs) S2
  | _ => False
theorem wx_body {φ : Nat → D → Sg → Option (D × Sg)} {n : Nat} {body : FSX} {ds : List D} {S : Sg} {Q : Rx → Sg → Prop} (h : WSX (body (ds.map some ++ List.replicate (n - ds.length) none) S) (BdX φ S.length Q)) : W (bodyX φ n body ds S) Q := by
  obtain ⟨r, δ', S', e, q⟩ := h
  unfold bodyX
  rw [e]
  cases r with
  | nx =>
    obtain ⟨d, S2, e2, q⟩ := q
    exact ⟨.vl d, S2, by show (φ _ _ _).bind _ = _; rw [e2]; rfl, q⟩
  | rt d =>
    obtain ⟨d, S2, e2, q⟩ := q
    exact ⟨.vl d, S2, by show (φ _ _ _).bind _ = _; rw [e2]; rfl, q⟩
  | bk => exact q.elim
  | ct => exact q.elim
  | ex C ns ds =>
    obtain ⟨S2, e2, q⟩ := q
    exact ⟨.ex C ns ds, S2, by show (cutX _ _ _).bind _ = _; rw [e2]; rfl, q⟩
/-- C(..): what comes of it, by what its __init__ does with a new place -/
theorem wx_mk {φ : Nat → D → Sg → Option (D × Sg)} {C : Addr} {F : FnX} {dds : List D} {f : FA} {Q : Rx → Sg → Prop} (h : Wd dds (f δ S) fun ds S1 => W (F (.loc S1.length :: ds) (S1 ++ [.ins C []])) fun r S2 => match r with
    | .vl d => d = .non ∧ W (φ S1.length (.loc S1.length) S2) fun d S3 => Q (.vl d) S3
    | .ex X ns xs => ∃ S3, cutX S1.length xs S2 = some S3 ∧ Q (.ex X ns xs) S3) : W (mkX φ C F dds f δ S) Q := by
  obtain ⟨ds, S', e, r, S2, e2, h⟩ := h
  unfold mkX
  rw [e, Option.bind_some]
  dsimp only
  rw [e2, Option.bind_some]
  cases r with
  | vl d =>
    obtain ⟨rfl, d, S3, e3, q⟩ := h
    refine ⟨.vl d, S3, ?_, q⟩
    refine (if_pos rfl).trans ?_
    dsimp only
    rw [e3]
    rfl
  | ex X ns xs =>
    obtain ⟨S3, e3, q⟩ := h
    refine ⟨.ex X ns xs, S3, ?_, q⟩
    show (cutX _ _ _).bind _ = _
    rw [e3]
    rfl
theorem w_mkK {φ : Nat → D → Sg → Option (D × Sg)} {C : Addr} {F : Fn} {src : List Sr} {dds : List D} {f g : FA} {Q : D → Sg → Prop} (h : W (f δ S) fun ds S1 => W (g δ S1) fun es S2 => W (F (pickS src (.loc S2.length :: ds) es dds) (S2 ++ [.ins C []])) fun d S3 => d = .non ∧ W (φ S2.length (.loc S2.length) S3) Q) : W (mkKD φ C F src dds f g δ S) Q := by
  obtain ⟨ds, S1, e, es, S2, e2, d, S3, e3, rfl, d', S4, e4, q⟩ := h
  refine ⟨d', S4, ?_, q⟩
  unfold mkKD
  rw [e, Option.bind_some]
  dsimp only
  rw [e2, Option.bind_some]
  dsimp only
  rw [e3, Option.bind_some]
  exact (if_pos rfl).trans e4
theorem w_mk {φ : Nat → D → Sg → Option (D × Sg)} {C : Addr} {F : Fn} {dds : List D} {f : FA} {Q : D → Sg → Prop} (h : Wd dds (f δ S) fun ds S1 => W (F (.loc S1.length :: ds) (S1 ++ [.ins C []])) fun d S3 => d = .non ∧ W (φ S1.length (.loc S1.length) S3) Q) : W (mkD φ C F dds f δ S) Q := by
  obtain ⟨ds, S1, e, d, S3, e3, rfl, d', S4, e4, q⟩ := h
  refine ⟨d', S4, ?_, q⟩
  unfold mkD
  rw [e, Option.bind_some]
  dsimp only
  rw [e3, Option.bind_some]
  exact (if_pos rfl).trans e4
/-! an exception's reading -/
theorem w_fldX {C : Addr} {n : Str} {f : FE} {Q : D → Sg → Prop} (h : W (f δ S) fun d S1 => ∃ ns ds x, d = .exc C ns ds ∧ (ns.zip ds).lookup n = some x ∧ Q x S1) : W (fldXD C n f δ S) Q := by
  obtain ⟨d, S1, e, ns, ds, x, rfl, e2, q⟩ := h
  refine ⟨x, S1, ?_, q⟩
  unfold fldXD
  rw [e, Option.bind_some]
  dsimp only
  rw [if_pos rfl, e2]
  rfl
theorem x_isiX {tab : XTab} {C : Addr} {ns : List Str} {ds : List D} {T : String} {b : Bool} {Q : D → Sg → Prop} (h : lookT tab C T = some b) (q : Q (.bl b) S) : W (isiXO tab [.exc C ns ds, .ty T] S) Q := ⟨_, _, by unfold isiXO; dsimp only; rw [h]; rfl, q⟩
theorem x_isiXT {tab : XTab} {C : Addr} {ns : List Str} {ds cs : List D} {Ts : List String} {b : Bool} {Q : D → Sg → Prop} (h0 : tysOf cs = some Ts) (hs : (tab.find? fun p => decide (p.1 = C)).isSome = true) (h : anyT tab C Ts = some b) (q : Q (.bl b) S) : W (isiXTO tab [.exc C ns ds, .tup cs] S) Q :=
  ⟨_, _, by unfold isiXTO; dsimp only; rw [h0, Option.bind_some, if_pos hs, h]; rfl, q⟩
end
end DL
end
noncomputable section
namespace DL
open PySem L2 PyProof.Rows
/-! ### tuples joined, empty or not -/
section
variable {K : PySem.W.Frag}
def catAO : O2 := fun d e S => match d, e with
  | .tup xs, .tup ys => if Fits (xs.length + ys.length) then some (.tup (xs ++ ys), S) else none
  | _, _ => none
theorem opD_catA : OpD K (rCatA K) catAO := by
  intro x y H Q ρ S d e z S' hS rx ry eq q
  unfold catAO at eq
  split at eq
  · rename_i xs ys
    split at eq
    · rename_i hc
      cases eq
      obtain ⟨a, vs, rfl, h1, r1⟩ := tpOf_sq rx (show tpOf (.tup xs) = some xs from rfl)
      obtain ⟨b, ws, rfl, h2, r2⟩ := tpOf_sq ry (show tpOf (.tup ys) = some ys from rfl)
      refine ⟨a, b, vs, ws, rfl, rfl, h1, h2, by rw [r1.len, r2.len]; exact hc.le, fun z => ?_, fun _ z => ?_, fun _ _ p hp => ?_⟩
      · have n1 : xs = [] := List.eq_nil_of_length_eq_zero (by rw [← r1.len, z]; rfl)
        subst n1
        exact q _ _ ρ (Step.refl _ _) hS ry
      · have n2 : ys = [] := List.eq_nil_of_length_eq_zero (by rw [← r2.len, z]; rfl)
        subst n2
        rw [List.append_nil] at q
        exact q _ _ ρ (Step.refl _ _) hS rx
      · exact q _ _ ρ (Step.new hS hp) (hS.new hp) (rv_tup hS hp (r1.append r2))
    · cases eq
  · cases eq
section
variable {X : Cx} {a b : Expr} {pos : Pos} {f g : FE}
theorem jaddA (ha : JE X a f) (hb : JE X b g) : JE X (.BinOp a .Add b pos) (op2D catAO f g) := jop op_catA opD_catA ha hb
end
theorem x_catA {S : Sg} {xs ys : List D} {Q : D → Sg → Prop} (l : xs.length + ys.length < 1000000) (q : Q (.tup (xs ++ ys)) S) : W (catAO (.tup xs) (.tup ys) S) Q := by
  refine ⟨_, _, ?_, q⟩
  show (if Fits (xs.length + ys.length) then _ else none) = _
  rw [if_pos ((fits_iff _).mpr l)]
/-! ### xs.insert(i, y) -/
def insO : OM := fun d ds S => match d, ds with
  | .loc n, [.int i, y] => match S[n]? with
    | some (.lst xs) => if Fits xs.length ∧ 0 ≤ i ∧ R63 i then some (.non, S.set n (.lst (xs.take i.toNat ++ [y] ++ xs.drop i.toNat))) else none
    | _ => none
  | _, _ => none
theorem mtD_ins : MtD K "list" (fun x vs H Q => ∃ (l : Addr) (xs : List V) (i : Int) (y : V), x = .ref l ∧ vs = [.int i, y] ∧ H l = some (.lst xs) ∧ xs.length < sizeLine ∧ 0 ≤ i ∧ i < 2 ^ 63 ∧
    Q .non (upd H l (.lst (xs.take i.toNat ++ [y] ++ xs.drop i.toNat)))) insO isLoc := by
  refine ⟨fun _ _ _ _ _ hS r h => isLoc_ty hS r h, ?_⟩
  intro x xs H Q ρ S d ds z S' hS rx rs eq q
  unfold insO at eq
  split at eq
  · rename_i n i y
    cases rs with | cons ri rn => ?_
    cases rn with | cons ry rn => ?_
    cases rn; cases ri
    rename_i vy
    cases rx with | loc hn => ?_
    split at eq
    · rename_i ys hy
      split at eq
      · rename_i hc
        cases eq
        obtain ⟨vs, h1, h2⟩ := hS.ob _ _ _ hn hy
        have hr := (r63_iff i).mp hc.2.2
        refine ⟨_, vs, i, vy, rfl, rfl, h1, by rw [h2.len]; exact hc.1.lt, hc.2.1, by omega, ?_⟩
        have st : Step ρ ρ H (upd H _ (.lst (vs.take i.toNat ++ [vy] ++ vs.drop i.toNat))) := Step.write hn h1
        exact q _ _ ρ st (hS.write hn ⟨_, h1⟩ ⟨_, upd_same, (((h2.take _).append (.cons ry .nil)).append (h2.drop _)).mono st⟩) .non
      · cases eq
    · cases eq
  · cases eq
theorem wl_ins {A : Sg} {L : List Ob} {N k : Nat} {Q : D → Sg → Prop} (hl : A.length = N) {xs : List D} {i : Nat} {y : D} (h : L[k]? = some (.lst xs)) (l : xs.length < 1000000) (hi : (i : Int) < 1000000) (q : Q .non (A ++ L.set k (.lst (xs.take i ++ [y] ++ xs.drop i)))) : W (insO (.loc (N + k)) [.int (i : Int), y] (A ++ L)) Q := by
  refine ⟨_, _, ?_, q⟩
  unfold insO
  dsimp only
  rw [al_get hl, h]
  dsimp only
  rw [if_pos ⟨(fits_iff _).mpr l, by omega, (r63_iff _).mpr (by omega)⟩, al_set hl]
  rfl
/-! ### sorted(d) of a dict of texts -/
def leS (a b : Str) : Bool := decide (a.cps.toList ≤ b.cps.toList)
def srtS (zs : List Str) : List Str := zs.mergeSort leS
theorem leS_tot (a b : Str) : (leS a b || leS b a) = true := by
  unfold leS
  rw [Bool.or_eq_true, decide_eq_true_iff, decide_eq_true_iff]
  exact List.le_total _ _
theorem leS_tr (a b c : Str) (h : leS a b = true) (k : leS b c = true) : leS a c = true := by
  unfold leS at h k ⊢
  rw [decide_eq_true_iff] at h k ⊢
  exact List.le_trans h k
theorem leS_anti {a b : Str} (h : leS a b = true) (k : leS b a = true) : a = b := by
  unfold leS at h k
  rw [decide_eq_true_iff] at h k
  exact PySem.W.str_of_cps (List.le_antisymm h k)
theorem srt_one {α : Type} {le : α → α → Prop} (anti : ∀ a b, le a b → le b a → a = b) : ∀ {xs ys : List α}, xs.Perm ys → xs.Pairwise le → ys.Pairwise le → xs = ys
  | [], ys, p, _, _ => (List.nil_perm.mp p).symm ▸ rfl
  | x :: xs, [], p, _, _ => absurd (List.perm_nil.mp p) (by simp)
  | x :: xs, y :: ys, p, h, k => by
    have hxy : x = y := by
      rcases List.mem_cons.mp (p.mem_iff.mp (List.mem_cons_self ..)) with e | e
      · exact e
      · rcases List.mem_cons.mp (p.mem_iff.mpr (List.mem_cons_self ..)) with e2 | e2
        · exact e2.symm
        · exact anti _ _ (List.rel_of_pairwise_cons h e2) (List.rel_of_pairwise_cons k e)
    subst hxy
    rw [srt_one anti (List.Perm.cons_inv p) (List.pairwise_cons.mp h).2 (List.pairwise_cons.mp k).2]
theorem rising_pw : ∀ (p : Str) (l : List Str), risingS p l = true → (p :: l).Pairwise (fun a b => leS a b = true)
  | p, [], _ => by simp
  | p, x :: r, h => by
    have h : (!PySem.Spec.ltCps x.cps.toList p.cps.toList && risingS x r) = true := h
    rw [Bool.and_eq_true, ltCps_eq] at h
    have h1 : leS p x = true := by
      unfold leS
      have := h.1
      rw [Bool.not_eq_true', decide_eq_false_iff_not] at this
      exact decide_eq_true (List.not_lt.mp this)
    have h2 := rising_pw x r h.2
    refine List.pairwise_cons.mpr ⟨fun b hb => ?_, h2⟩
    rcases List.mem_cons.mp hb with rfl | hb
    · exact h1
    · exact leS_tr _ _ _ h1 (List.rel_of_pairwise_cons h2 hb)
theorem sortedS_pw {l : List Str} (h : sortedS l = true) : l.Pairwise (fun a b => leS a b = true) := by
  cases l with
  | nil => exact .nil
  | cons x r => exact rising_pw x r h
theorem srtS_pw (zs : List Str) : (srtS zs).Pairwise (fun a b => leS a b = true) := List.pairwise_mergeSort leS_tr leS_tot zs
theorem srtS_perm (zs : List Str) : (srtS zs).Perm zs := List.mergeSort_perm zs leS
theorem srtS_of {ys ks : List Str} (p : ys.Perm ks) (h : sortedS ys = true) : ys = srtS ks :=
  srt_one (fun _ _ => leS_anti) (p.trans (srtS_perm ks).symm) (sortedS_pw h) (srtS_pw ks)
def strKs : List (Key × D) → Option (List Str)
  | [] => some []
  | (.inr z, _) :: r => (strKs r).bind fun zs => some (z :: zs)
  | _ => none
theorem strKs_eq : ∀ {gs : List (Key × D)} {ks : List Str}, strKs gs = some ks → gs.map (·.1) = ks.map Sum.inr
  | [], _, h => by cases h; rfl
  | (.inr z, _) :: r, _, h => by
    obtain ⟨zs, e, h⟩ := bnd (o := strKs r) h
    cases h
    rw [List.map_cons, List.map_cons, strKs_eq e]
  | (.inl _, _) :: r, _, h => by cases h
def srtDO : OC := fun ds S => match ds with
  | [d] => (dsOf S d).bind fun gs => (strKs gs).bind fun ks => if ks.length < 64 then some (.lst ((srtS ks).map .str), S) else none
  | _ => none
theorem strs_rv {ρ : Ro} {H : Hp} (zs : List Str) : RVs K H ρ (zs.map V.str) (zs.map D.str) := by
  induction zs with
  | nil => exact .nil
  | cons z r ih => exact .cons .str ih
theorem cbD_srtD : CbD K (fun xs H Q => ∃ (a : Addr) (kvs : List (Key × V)) (ks : List Str), xs = [.ref a] ∧ Rd H a (.dK kvs) ∧ kvs.map (·.1) = ks.map Sum.inr ∧ ks.length < 64 ∧
    ∀ ys p, ys.Perm ks → sortedS ys = true → H p = none → Q (.ref p) (upd H p (.lst (ys.map V.str)))) srtDO := by
  intro xs H Q ρ S ds z S' hS rs eq q
  unfold srtDO at eq
  split at eq
  · cases rs with | cons rx rn => ?_
    cases rn
    obtain ⟨gs, e1, eq⟩ := bnd eq
    obtain ⟨ks, e2, eq⟩ := bnd eq
    split at eq
    · rename_i h64
      cases eq
      obtain ⟨a, kvs, rfl, ha, dr⟩ := dsOf_rd hS rx e1
      refine ⟨a, kvs, ks, rfl, .inl ha, by rw [dr.ks, strKs_eq e2], h64, fun ys p hp hs hn => ?_⟩
      rw [srtS_of hp hs]
      exact q _ _ ρ (Step.new hS hn) (hS.new hn) (rv_lst hS hn (strs_rv _))
    · cases eq
  · cases eq
theorem wl_srtD {A : Sg} {L : List Ob} {N k : Nat} {Q : D → Sg → Prop} (hl : A.length = N) {gs : List (Key × D)} {ks : List Str} (h : L[k]? = some (.dct gs)) (hk : strKs gs = some ks) (l : ks.length < 64) (q : Q (.lst ((srtS ks).map .str)) (A ++ L)) : W (srtDO [.loc (N + k)] (A ++ L)) Q := by
  refine ⟨_, _, ?_, q⟩
  unfold srtDO
  dsimp only
  rw [wl_ds hl h, Option.bind_some, hk, Option.bind_some, if_pos l]
/-! ### sorted(xs) of any data that are alike -/
def pyG (d : D) : PyData := (pyD d).getD .none
def srtOk (ds : List D) : Prop := (∀ d ∈ ds, (pyD d).isSome = true) ∧ PySem.W.AllAlike (ds.map pyG) ∧ PySem.W.Sortable (ds.map pyG) ∧ ∀ d ∈ ds, (pyG d).depth ≤ 60
open Classical in
def sortGO : OC := fun ds S => match ds with
  | [d] => (lsOf S d).bind fun xs => if srtOk xs then some (.lst (xs.mergeSort (PySem.W.dataLe false pyG)), S) else none
  | _ => none
def rSortedG (K : PySem.W.Frag) : List V → Hp → VK → Prop := fun vs H Q => ∃ (a : Addr) (bs : List (V × D)), vs = [V.ref a] ∧ SqL K H a (bs.map (·.1)) ∧ DpAll K H (bs.map (·.1)) (bs.map fun b => pyG b.2) ∧ srtOk (bs.map (·.2)) ∧
  ∀ p, H p = none → Q (.ref p) (upd H p (.lst ((bs.mergeSort (PySem.W.dataLe false fun b => pyG b.2)).map (·.1))))
section
variable {X : Cx}
theorem each_gd : ∀ {bs : List (V × D)} {us : List Value}, Vals (bs.map (·.1)) us → PySem.W.EachIs (fun u (b : V × D) => RelV b.1 u) us bs
  | [], _, h => by cases h; exact .nil
  | b :: bs, _, h => by
    rw [List.map_cons] at h
    cases h with
    | cons h1 h2 => exact .cons h1 (each_gd h2)
theorem vals_gd : ∀ {us : List Value} {bs : List (V × D)}, PySem.W.EachIs (fun u (b : V × D) => RelV b.1 u) us bs → Vals (bs.map (·.1)) us
  | _, _, .nil => .nil
  | _, _, .cons h t => .cons h (vals_gd t)
theorem cr_sortedG (hu : X.A.units + 64 < cLine) : CallR X (.builtin "sorted") (rSortedG X.K) := by
  intro pins s σ H vs us Q I r h
  obtain ⟨a, bs, rfl, hs, hd, ⟨_, hal, hso, hdp⟩, q⟩ := h
  obtain ⟨its, rv, hl, hz⟩ := I.list hs
  rw [Vals.ref1 r]
  obtain ⟨as, ra⟩ := Dp.readsAll I _ _ _ hd rv
  have er : PySem.W.EachIs (fun v (b : V × D) => ∃ as, PySem.Reads s.heap v (pyG b.2) as) its bs := PySem.W.readsAll_each (fun b : V × D => pyG b.2) ra
  have em : (bs.map (·.2)).map pyG = bs.map fun b => pyG b.2 := by rw [List.map_map]; rfl
  rw [em] at hal hso
  refine PySem.W.sorted_data (enc := fun b : V × D => pyG b.2) hl.isList (each_gd rv) er hal hso (by rw [List.length_map] at hz; exact hz) (fun b hb => ?_) fun out ho eo => ?_
  · show X.A.units + 2 + (pyG b.2).depth < cLine
    have := hdp b.2 (List.mem_map.mpr ⟨b, hb, rfl⟩)
    omega
  · have hv := vals_gd eo
    obtain ⟨ep, he'⟩ := PyProof.Rows.sortedAll_at s.heap its (List.toArray out)
    have hlen : ((bs.mergeSort (PySem.W.dataLe false fun b => pyG b.2)).map (·.1)).length ≤ sizeLine := by
      rw [List.length_map, List.length_mergeSort]
      rw [List.length_map] at hz
      exact hz
    exact ⟨.ref _, upd H (s.heap.objs.size + 1) (.lst ((bs.mergeSort (PySem.W.dataLe false fun b => pyG b.2)).map (·.1))), I.laid (t' := s.toks) (fun _ _ => PyProof.Rows.sortedAll_old) (Nat.le_succ _) ⟨hlen, out, ep, hv, he'⟩, rfl, q _ (I.hok.fresh (Nat.le_succ _))⟩
end
theorem gd_pair {H : Hp} {ρ : Ro} : ∀ {ds : List D} {vs : List V}, RVs K H ρ vs ds → (∀ d ∈ ds, (pyD d).isSome = true) → ∃ bs : List (V × D), vs = bs.map (·.1) ∧ ds = bs.map (·.2) ∧ DpAll K H (bs.map (·.1)) (bs.map fun b => pyG b.2) ∧ ∀ b ∈ bs, RV K H ρ b.1 b.2
  | _, _, .nil, _ => ⟨[], rfl, rfl, .nil, fun b hb => by cases hb⟩
  | d :: ds, v :: vs, .cons r rs, h => by
    obtain ⟨bs, rfl, rfl, hd, hb⟩ := gd_pair rs fun x hx => h x (List.mem_cons_of_mem _ hx)
    refine ⟨(v, d) :: bs, rfl, rfl, .cons (r.dp ?_) hd, fun b hbm => ?_⟩
    · obtain ⟨p, e⟩ := Option.isSome_iff_exists.mp (h d (List.mem_cons_self ..))
      show pyD d = some ((pyD d).getD .none)
      rw [e]
      rfl
    · rcases List.mem_cons.mp hbm with rfl | hbm
      · exact r
      · exact hb b hbm
theorem rvs_gd {H : Hp} {ρ : Ro} : ∀ {bs : List (V × D)}, (∀ b ∈ bs, RV K H ρ b.1 b.2) → RVs K H ρ (bs.map (·.1)) (bs.map (·.2))
  | [], _ => .nil
  | b :: bs, h => .cons (h b (by simp)) (rvs_gd fun x hx => h x (by simp [hx]))
theorem ms_gd {bs : List (V × D)} : (bs.mergeSort (PySem.W.dataLe false fun b => pyG b.2)).map (·.2) = (bs.map (·.2)).mergeSort (PySem.W.dataLe false pyG) :=
  List.map_mergeSort (r := PySem.W.dataLe false fun b : V × D => pyG b.2) (s := PySem.W.dataLe false pyG) (f := (·.2)) (fun _ _ _ _ => rfl)
theorem cbD_sortG : CbD K (rSortedG K) sortGO := by
  intro xs H Q ρ S ds z S' hS rs eq q
  unfold sortGO at eq
  split at eq
  · cases rs with | cons rx rn => ?_
    cases rn
    obtain ⟨ys, e1, eq⟩ := bnd eq
    split at eq
    · rename_i ok
      cases eq
      obtain ⟨a, vs, rfl, hq, r⟩ := lsOf_sq hS rx e1
      obtain ⟨bs, rfl, rfl, hd, hb⟩ := gd_pair r ok.1
      refine ⟨a, bs, rfl, hq, hd, ok, fun p hp => ?_⟩
      have rr : RVs K H ρ ((bs.mergeSort (PySem.W.dataLe false fun b => pyG b.2)).map (·.1)) ((bs.map (·.2)).mergeSort (PySem.W.dataLe false pyG)) := by
        rw [← ms_gd]
        exact rvs_gd fun b hbm => hb b (List.mem_mergeSort.mp hbm)
      exact q _ _ ρ (Step.new hS hp) (hS.new hp) (rv_lst hS hp rr)
    · cases eq
  · cases eq
theorem x_sortG {S : Sg} {Q : D → Sg → Prop} {xs : List D} {d : D} (h : lsOf S d = some xs) (ok : srtOk xs) (q : Q (.lst (xs.mergeSort (PySem.W.dataLe false pyG))) S) : W (sortGO [d] S) Q := by
  refine ⟨_, _, ?_, q⟩
  unfold sortGO
  dsimp only
  rw [h, Option.bind_some, if_pos ok]
end
end DL
end
noncomputable section
namespace DL
open PySem L2
/-! ### a dict made by a comprehension -/
open Classical in
def dcGo (k : Ik) (ds items : List D) (g : FG) (c : FT) (fk fv : FE) (δ : Dl) : List D → List (Key × D) → Sg → Option (List (Key × D) × Sg)
  | [], acc, S => if k ds S = some items then some (acc, S) else none
  | d :: r, acc, S => if k ds S = some items then (g d δ S).bind fun p => (c p.1 p.2).bind fun b => if b.1 = true then (fk p.1 b.2).bind fun y => (fv p.1 y.2).bind fun z => (keyOf y.1).bind fun kk => dcGo k ds items g c fk fv δ r (putG acc kk z.1) z.2 else dcGo k ds items g c fk fv δ r acc b.2
    else none
def dcD (k : Ik) (fa : FA) (g : FG) (c : FT) (fk fv : FE) (vs : List Nat) : FE := fun δ S => (fa δ S).bind fun p => (k p.1 p.2).bind fun items => if Fits (items.length) then
  (dcGo k p.1 items g c fk fv (wipeD δ vs) items [] p.2).bind fun r => some (.loc r.2.length, r.2 ++ [.dct r.1]) else none
section
variable {K : PySem.W.Frag}
theorem putG_len (gs : List (Key × D)) (k : Key) (d : D) : (putG gs k d).length ≤ gs.length + 1 := by
  unfold putG
  split
  · rw [List.length_map]; omega
  · rw [List.length_append]; exact Nat.le_refl _
theorem DR.banned {ρ : Ro} {H : Hp} {p : Addr} {o : HO} (m : p ∈ ρ.bn) {kvs : List (Key × V)} {gs : List (Key × D)} (r : DR K H ρ kvs gs) : DR K (upd H p o) ρ kvs gs := ⟨r.ks, r.vs.banned m⟩
theorem DR.banPush {ρ : Ro} {H : Hp} {p : Addr} {kvs : List (Key × V)} {gs : List (Key × D)} (r : DR K H (ρ.ban p) kvs gs) : DR K H (ρ.push p) kvs gs := ⟨r.ks, r.vs.banPush⟩
theorem le_dc {wi : TI} {k : Ik} {fa : FA} {g : TG} {o : FG} {c : FT} {fk fv : FE} {vs : List Nat} (hi : LI K wi k fa) (hg : LGW K g o vs) :
    ∀ σ H Q, tD K (dcD k fa o c fk fv vs) σ H Q → tDc wi g (tDT K c) (tD K fk) (tD K fv) vs σ H Q := by
  rintro σ H Q ⟨ρ, δ, S, dd, S', hS, hσ, e, q⟩
  obtain ⟨⟨ds, S1⟩, e1, e⟩ := bnd e
  obtain ⟨items, e2, e⟩ := bnd e
  dsimp only at e2 e
  split at e
  · rename_i hlim
    obtain ⟨⟨out', Sf⟩, e3, e⟩ := bnd e
    dsimp only at e
    cases e
    refine hi _ _ _ _ _ _ _ _ _ hS hσ e1 e2 fun J H1 ρ1 vs0 s1 hS1 rvs0 wk => fun L hL => ?_
    have hw : RS K H1 ρ1 (wipe σ vs) (wipeD δ vs) := (hσ.mono s1).wipe vs
    let N : Nat → Hp → Prop := fun i H2 => ∃ ρ2 S2 acc vacc, acc.length ≤ i ∧ Step ρ1 ρ2 H1 H2 ∧ SR K H2 (ρ2.ban L) S2 ∧ H2 L = some (.dK vacc) ∧ L ∉ ρ2.pl ∧ DR K H2 (ρ2.ban L) vacc acc ∧ RVs K H2 (ρ2.ban L) vs0 ds ∧ RS K H2 (ρ2.ban L) (wipe σ vs) (wipeD δ vs) ∧
        dcGo k ds items o c fk fv (wipeD δ vs) (items.drop i) acc S2 = some (out', Sf)
    refine ⟨fun i m H2 => m = items.length - i ∧ i ≤ items.length ∧ N i H2, ⟨items.length, rfl, Nat.zero_le _, ρ1, S1, [], [], Nat.zero_le _, Step.new hS1 hL, hS1.ban hL, upd_same, hS1.freshP hL, ⟨rfl, .nil⟩, rvs0.ban hL, hw.ban hL, e3⟩, ?_⟩
    rintro i m H2 ⟨rfl, hil, ρ2, S2, acc, vacc, hal, s2, hS2, hacc, nL, racc, rv0, hw2, e4⟩
    by_cases hlt : i < items.length
    · rw [List.drop_eq_getElem_cons hlt] at e4
      unfold dcGo at e4
      split at e4
      · rename_i hk
        obtain ⟨⟨δ3, S3⟩, e5, e6⟩ := bnd e4
        obtain ⟨⟨b, S4⟩, e7, e8⟩ := bnd e6
        dsimp only at e7 e8
        refine .inr ⟨wk.go i H2 _ S2 rv0 hS2 hk hlt, N (i + 1), fun H' n => ⟨items.length - (i + 1), by omega, rfl, hlt, n⟩, fun x H3 y => ?_⟩
        obtain ⟨st, hS3, d, hd, rd⟩ := wk.yld i H2 _ S2 x H3 rv0 hS2 hk y hlt
        have ed : items[i] = d := by rw [List.getElem?_eq_getElem hlt] at hd; exact Option.some.inj hd
        rw [ed] at e5
        refine hg.gw _ _ _ _ (hg.lg _ _ _ _ _ _ _ _ _ _ hS3 (hw2.mono st) rd e5 fun σ4 H4 ρ4 s4 hS4 hσ4 w4 => ⟨w4.trans (wipe_wipe σ vs), ?_⟩)
        refine ⟨ρ4, δ3, S3, b, S4, hS4, hσ4, e7, fun H5 ρ5 s5 hS5 => ?_⟩
        have sb := (st.trans s4).trans s5
        cases b with
        | false =>
          have eb := ban_bn sb
          rw [eb] at sb hS5
          refine ⟨_, S4, acc, vacc, by omega, s2.trans sb.unban, hS5, sb.keep _ _ hacc nL, sb.ninP hacc nL, racc.mono sb, rv0.mono sb, hw2.mono sb, e8⟩
        | true =>
          obtain ⟨⟨y, S6⟩, e9, e10⟩ := bnd (o := fk δ3 S4) e8
          refine ⟨ρ5, δ3, S4, y, S6, hS5, hσ4.mono s5, e9, fun v H6 ρ6 s6 hS6 rv => ?_⟩
          obtain ⟨⟨z, S7⟩, e11, e12⟩ := bnd e10
          dsimp only at e11 e12
          obtain ⟨kk, e13, e14⟩ := bnd e12
          refine ⟨ρ6, δ3, S6, z, S7, hS6, (hσ4.mono s5).mono s6, e11, fun v2 H7 ρ7 s7 hS7 rv2 => ?_⟩
          have sc := (sb.trans s6).trans s7
          have ec := ban_bn sc
          rw [ec] at sc hS7 rv2
          have nL6 : L ∉ ρ7.pl := sc.ninP hacc nL
          have bL : L ∈ ((⟨ρ7.pl, ρ2.bn⟩ : Ro).ban L).bn := List.mem_cons_self
          have ev := keyOf_rv rv e13
          refine ⟨vacc, kk, ev, sc.keep _ _ hacc nL, by rw [racc.len]; exact Nat.lt_of_le_of_lt hal (Nat.lt_trans hlt hlim.lt), ?_⟩
          refine ⟨_, S7, putG acc kk z, putK vacc kk v2, Nat.le_trans (putG_len _ _ _) (Nat.add_le_add_right hal 1), (s2.trans sc.unban).skip hL, hS7.banned bL nL6, upd_same, nL6, ((racc.mono sc).put rv2).banned bL, (rv0.mono sc).banned bL, (hw2.mono sc).banned bL, e14⟩
      · cases e4
    · have ei : i = items.length := by omega
      subst ei
      rw [List.drop_length] at e4
      unfold dcGo at e4
      split at e4
      · cases e4
        rename_i hk
        refine .inl ⟨wk.stop _ H2 _ _ rv0 hS2 hk (Nat.le_refl _), ?_⟩
        have nB : L ∉ ρ2.bn := fun m => by
          rw [s2.bn] at m
          exact hS1.bn L m hL
        have hp := SR.unbanPush (ob := .dct out') hS2 nL nB ⟨vacc, hacc, racc.ks, racc.vs.banPush⟩
        have sA := s1.trans s2
        have st : Step ρ (ρ2.push L) H H2 := by
          obtain ⟨nw, en, hf⟩ := sA.ext
          refine ⟨⟨nw ++ [L], by show ρ2.pl ++ [L] = _; rw [en, List.append_assoc], fun a m => ?_⟩, sA.bn, sA.keep, sA.dom⟩
          rcases List.mem_append.mp m with m | m
          · exact hf a m
          · rw [List.mem_singleton.mp m]; exact s1.dom L hL
        refine q _ H2 _ st hp (.loc ?_)
        show (ρ2.pl ++ [L])[Sf.length]? = some L
        rw [← show ρ2.pl.length = Sf.length from hS2.len, List.getElem?_append_right (Nat.le_refl _), Nat.sub_self]
        rfl
      · cases e4
  · cases e
theorem jdc {X : Cx} {ft : FT} {fk fv : FE} {fa : FA} {pos : Pos} {kx vx tg iter : Expr} {ifs : List Expr} {scope : Scope} {own : List (Str × Nat)} {wi : TI} {k : Ik} {gr : TG} {o : FG} (hc : X.calm = true) (hN : X.N.Nodup) (hi : PI X tg iter wi) (li : LI X.K wi k fa) (ok : BlkOk X.N X.env.scope scope own)
    (hg : ∀ (s : Shared) (H : Hp) (C : Addr) (cl : List (Str × Addr)) (fp : List Addr), PG (X.blk s H scope (compEnvC scope cl C X.env) fp) tg gr) (lg : LGW X.K gr o (own.map (·.2))) (ht : ∀ (s : Shared) (H : Hp) (C : Addr) (cl : List (Str × Addr)) (fp : List Addr), PTs (X.blk s H scope (compEnvC scope cl C X.env) fp) ifs (tDT X.K ft))
    (hk : ∀ (s : Shared) (H : Hp) (C : Addr) (cl : List (Str × Addr)) (fp : List Addr), JE (X.blk s H scope (compEnvC scope cl C X.env) fp) kx fk)
    (he : ∀ (s : Shared) (H : Hp) (C : Addr) (cl : List (Str × Addr)) (fp : List Addr), JE (X.blk s H scope (compEnvC scope cl C X.env) fp) vx fv) (hs : ∀ x, foldedSetIterable iter X.env x = pure x := by intro _; rfl) :
    JE X (.DictComp kx vx [⟨tg, iter, ifs, 0⟩] scope pos) (dcD k fa o ft fk fv (own.map (·.2))) := PE.imp (pe_dc (tk := tD X.K fk) (tv := tD X.K fv) hc hN hi ok hg ht hk he hs) (le_dc li lg)
end
/-- a dict of all items -/
theorem w_dcA {α : Type} {δ : Dl} {S S1 : Sg} {k : Ik} {fa : FA} {g : FG} {fk fv : FE} {vs : List Nat} {Q : D → Sg → Prop} {ds : List D} (xs : List α) (e : α → D) (kf : α → Key) (vf : α → D)
    (hf : W (fa δ S) fun ds' S1' => ds' = ds ∧ S1' = S1) (hk : k ds S1 = some (xs.map e)) (hl : xs.length < 1000000)
    (hs : ∀ x ∈ xs, WG (g (e x) (wipeD δ vs) S1) fun δ1 S2 => W (fk δ1 S2) fun d S3 => keyOf d = some (kf x) ∧ W (fv δ1 S3) fun y S4 => y = vf x ∧ S4 = S1)
    (hq : Q (.loc S1.length) (S1 ++ [.dct (xs.foldl (fun acc x => putG acc (kf x) (vf x)) [])])) : W (dcD k fa g yesT fk fv vs δ S) Q := by
  obtain ⟨ds', S1', hf, eds, eS⟩ := hf
  rw [eds, eS] at hf
  have main : ∀ (r : List α) (acc : List (Key × D)), (∀ x ∈ r, x ∈ xs) → dcGo k ds (xs.map e) g yesT fk fv (wipeD δ vs) (r.map e) acc S1 = some (r.foldl (fun acc x => putG acc (kf x) (vf x)) acc, S1) := by
    intro r
    induction r with
    | nil =>
      intro acc _
      rw [List.map_nil]
      unfold dcGo
      rw [if_pos hk]
      rfl
    | cons x r ih =>
      intro acc hr
      rw [List.map_cons]
      unfold dcGo
      rw [if_pos hk]
      obtain ⟨δ1, S2, h1, d, S3, h2, h3, y, S4, h4, rfl, rfl⟩ := hs x (hr x (List.mem_cons_self ..))
      rw [h1, Option.bind_some]
      dsimp only
      rw [show yesT δ1 S2 = some (true, S2) from rfl, Option.bind_some]
      dsimp only
      rw [if_pos rfl, h2, Option.bind_some]
      dsimp only
      rw [h4, Option.bind_some, h3, Option.bind_some]
      dsimp only
      rw [ih _ fun z hz => hr z (List.mem_cons_of_mem _ hz), List.foldl_cons]
  refine ⟨_, _, ?_, hq⟩
  unfold dcD
  rw [hf, Option.bind_some]
  dsimp only
  rw [hk, Option.bind_some, if_pos ((fits_iff _).mpr (by rw [List.length_map]; exact hl)), main xs [] fun _ h => h]
  rfl
end DL
end
noncomputable section
namespace DL
open PySem L2
/-! ### {k: v}, to be changed -/
def dic1 (fk fv : FE) : FE := fun δ S => (fk δ S).bind fun p => (fv δ p.2).bind fun q => (keyOf p.1).bind fun k => some (.loc q.2.length, q.2 ++ [.dct [(k, q.1)]])
section
variable {K : PySem.W.Frag}
theorem le_dic1 {fk fv : FE} : ∀ σ H Q, tD K (dic1 fk fv) σ H Q → tDisp [(tD K fk, tD K fv)] σ H Q := by
  rintro σ H Q ⟨ρ, δ, S, d, S', hS, hσ, e, q⟩
  obtain ⟨⟨x, S0⟩, e1, e⟩ := bnd e
  obtain ⟨⟨y, S1⟩, e2, e⟩ := bnd e
  obtain ⟨k, e3, e⟩ := bnd e
  dsimp only at e2 e3
  cases e
  intro p hp
  have np : p ∉ ρ.pl := hS.freshP hp
  have nb : p ∉ ρ.bn := fun m => hS.bn p m hp
  refine ⟨ρ.ban p, δ, S, x, S0, hS.ban (o := .dK []) hp, hσ.ban hp, e1, fun vx Hx ρx sx hSx rvx => ?_⟩
  refine ⟨ρx, δ, S0, y, S1, hSx, (hσ.ban hp).mono sx, e2, fun vy H2 ρ2 sy hS2 rvy => ?_⟩
  have ev := keyOf_rv rvx e3
  have s2 := sx.trans sy
  obtain ⟨pl2, bn2⟩ := ρ2
  have hb2 : bn2 = p :: ρ.bn := s2.bn
  subst hb2
  have hkeep : H2 p = some (.dK []) := s2.keep p _ upd_same np
  have np2 : p ∉ pl2 := s2.ninP (upd_same (H := H) (a := p) (o := .dK [])) np
  refine ⟨hkeep, [(k, vy)], by rw [ev]; rfl, by show 1 ≤ 15; decide, ?_⟩
  have em : mergeK [] [(k, vy)] = [(k, vy)] := rfl
  rw [em]
  have mp : p ∈ ((⟨pl2, ρ.bn⟩ : Ro).ban p).bn := List.mem_cons_self ..
  have hS3 : SR K (upd H2 p (.dK [(k, vy)])) ((⟨pl2, ρ.bn⟩ : Ro).ban p) S1 := SR.banned hS2 mp np2
  have rv3 : RV K (upd H2 p (.dK [(k, vy)])) ((⟨pl2, ρ.bn⟩ : Ro).ban p) vy y := RV.banned mp rvy
  have hpush := SR.unbanPush (ρ2 := ⟨pl2, ρ.bn⟩) (ob := .dct [(k, y)]) hS3 np2 nb ⟨_, upd_same, rfl, .cons rv3.banPush .nil⟩
  have st : Step ρ ((⟨pl2, ρ.bn⟩ : Ro).push p) H (upd H2 p (.dK [(k, vy)])) := by
    obtain ⟨nw, en, hf⟩ := s2.ext
    have en : pl2 = ρ.pl ++ nw := en
    refine ⟨⟨nw ++ [p], by show pl2 ++ [p] = _; rw [en, List.append_assoc], fun a m => ?_⟩, rfl, fun a o h1 h2 => ?_, fun a h1 => ?_⟩
    · rcases List.mem_append.mp m with m | m
      · have := hf a m
        by_cases c : a = p
        · rw [c]; exact hp
        · rw [upd_ne c] at this; exact this
      · rw [List.mem_singleton.mp m]; exact hp
    · have hap : a ≠ p := ne_of_none h1 hp
      rw [upd_ne hap]
      exact s2.keep a o (by rw [upd_ne hap]; exact h1) h2
    · by_cases c : a = p
      · rw [c]; exact hp
      · rw [upd_ne c] at h1
        have := s2.dom a h1
        rw [upd_ne c] at this
        exact this
  refine q _ _ _ st hpush (.loc ?_)
  show (pl2 ++ [p])[S1.length]? = some p
  have hl2 : pl2.length = S1.length := hS2.len
  rw [← hl2, List.getElem?_append_right (Nat.le_refl _), Nat.sub_self]
  rfl
theorem jd1 {X : Cx} {pos : Pos} {k v : Expr} {fk fv : FE} (hk : JE X k fk) (hv : JE X v fv) : JE X (.Dict [some k] [v] pos) (dic1 fk fv) := PE.imp (pe_disp (pps_cons hk hv pps_nil) rfl rfl (by simp) (by show 1 ≤ 15; decide)) le_dic1
end
theorem wl_dic1 {δ : Dl} {fk fv : FE} {S : Sg} {Q : D → Sg → Prop} (h : W (fk δ S) fun x S0 => W (fv δ S0) fun y S1 => ∃ (A : Sg) (L : List Ob) (N : Nat) (k : Key), S1 = A ++ L ∧ A.length = N ∧ keyOf x = some k ∧ Q (.loc (N + L.length)) (A ++ (L ++ [.dct [(k, y)]]))) : W (dic1 fk fv δ S) Q := by
  obtain ⟨x, S0, e, y, S1, e2, A, L, N, k, rfl, hN, hk, q⟩ := h
  refine ⟨.loc (N + L.length), A ++ (L ++ [.dct [(k, y)]]), ?_, q⟩
  unfold dic1
  rw [e, Option.bind_some]
  dsimp only
  rw [e2, Option.bind_some, hk, Option.bind_some]
  dsimp only
  rw [List.length_append, hN, List.append_assoc]
end DL
end
namespace HP
open PySem L2 DL
def top (i : Nat) : Stmt := PySem.Challenge.pw_hotpass_k61_what_follows.main.body.getD i (.Pass ⟨0, 0, 0, 0⟩)
structure Cs where
  own : Unit := ()
structure Txt (mg : Str → Option Value) : Prop where
  ok : True
  z_abs : mg "abs" = none
  z_all : mg "all" = none
  z_bool : mg "bool" = none
  z_enumerate : mg "enumerate" = none
  z_int : mg "int" = none
  z_isinstance : mg "isinstance" = none
  z_len : mg "len" = none
  z_list : mg "list" = none
  z_max : mg "max" = none
  z_min : mg "min" = none
  z_range : mg "range" = none
  z_repr : mg "repr" = none
  z_sorted : mg "sorted" = none
  z_str : mg "str" = none
  z_sum : mg "sum" = none
  z_tuple : mg "tuple" = none
  z_zip : mg "zip" = none
  g_OUTSIDE : ∃ t, mg "OUTSIDE" = some (.str (Str.ofString "") t)

structure Cz (K : PySem.W.Frag) (c : Cs) : Prop where
  ok : True

/-! ### _law_tape -/
abbrev s_Ltape : Stmt := top 13
theorem sc_Ltape : FnScope ["_law_script", "_law_k", "_law_cell"] ["_law_script", "_law_k"] (defScope s_Ltape) := ⟨rfl, rfl, rfl, by decide +kernel, rfl, by decide +kernel, by decide +kernel⟩
noncomputable def B_Ltape (c : Cs) : FS := (seqS (setS 2 (iteV (tvD (op2D (cmpO fun i j => decide (i < j)) (varD 1) (cbD lenO (consA (varD 0) nilA)))) (op2D ixO (varD 0) (varD 1)) (cD (.int 0))))
    (retS (newD (consA (op2D mulO (cbD absO (consA (varD 2) nilA)) (cbD int1O (consA (op2D (cmpO fun i j => decide (j ≤ i)) (cbD absO (consA (varD 2) nilA)) (op2D powO (cD (.int 10)) (cD (.int 18)))) nilA))) (consA (op2D addO (op2D addO (op2D modO (varD 2) (cD (.int 2305843009213693951))) (op2D mulO (cD (.int 39373)) (varD 1))) (cD (.int 17))) (consA (cD (.int 0)) nilA))))))
noncomputable def F_Ltape (c : Cs) : Fn := bodyF finK 3 (B_Ltape c)
section
variable {P : Program} {w : World} {K : PySem.W.Frag} {mg : Str → Option Value} {base : Heap} {c : Cs}
theorem ok_Ltape {f : Addr} {fd : FuncData} (F : Fun K "_law_tape" "_law_tape" s_Ltape f fd) (T : Txt mg) (Z : Cz K c) : FnOk P w K mg base CX0 1 f fd ["_law_script", "_law_k"] (spD K 2 (F_Ltape c)) :=
  fn_ok finK_ok F sc_Ltape fun cdv A outer s H E hr =>
    (show JSs _ _ (B_Ltape c) from (jsscons (jsset (i := 2) sc_Ltape.nd rfl (Or.inl rfl) (jif (jtcmp (jlt (jv (pv 1)) (jcb call_len cbD_len T.z_len (by decide +kernel) (jacons (jv (pv 0)) janil)))) (jix (jv (pv 0)) (jv (pv 1))) ji))
    (jssone (jsret (jnew (jacons (jmul (jcb call_abs cbD_abs T.z_abs (by decide +kernel) (jacons (jv (pv 2)) janil)) (jct call_int1 cbD_int1 T.z_int (by decide +kernel) (jacons (jcmp (jge (jcb call_abs cbD_abs T.z_abs (by decide +kernel) (jacons (jv (pv 2)) janil)) (jpow ji ji))) janil))) (jacons (jadd (jadd (jmod (jv (pv 2)) ji) (jmul ji (jv (pv 1)))) ji) (jacons ji janil))))))))
end

/-! ### _law_draw -/
abbrev s_Ldraw : Stmt := top 14
theorem sc_Ldraw : FnScope ["_law_tape_here", "_law_many", "_law_found", "_law_once", "_law_twice", "_law_wide"] ["_law_tape_here", "_law_many"] (defScope s_Ldraw) := ⟨rfl, rfl, rfl, by decide +kernel, rfl, by decide +kernel, by decide +kernel⟩
noncomputable def B_Ldraw (c : Cs) : FS := (seqS (ifS (tvD (op2D (cmpO fun i j => decide (j < i)) (op2D ixO (varD 0) (cD (.int 0))) (cD (.int 0)))) (seqS (setS 2 (op2D modO (op2D ixO (varD 0) (cD (.int 0))) (varD 1)))
    (seqS (asgS (op2D fdivO (op2D ixO (varD 0) (cD (.int 0))) (varD 1)) (subG setLO (varD 0) (cD (.int 0))))
    (retS (varD 2)))) nextS)
    (seqS (asgS (op2D addO (op2D ixO (varD 0) (cD (.int 2))) (cD (.int 1))) (subG setLO (varD 0) (cD (.int 2))))
    (seqS (setS 3 (op2D modO (op2D powO (op2D addO (op2D ixO (varD 0) (cD (.int 1))) (op2D mulO (cD (.int 39373)) (op2D ixO (varD 0) (cD (.int 2))))) (cD (.int 5))) (cD (.int 2147483647))))
    (seqS (setS 4 (op2D modO (op2D mulO (op2D addO (varD 3) (op2D ixO (varD 0) (cD (.int 2)))) (op2D addO (op2D addO (op2D modO (varD 3) (cD (.int 40009))) (cD (.int 7))) (op2D ixO (varD 0) (cD (.int 2))))) (cD (.int 2147483629))))
    (seqS (setS 5 (op2D modO (op2D addO (op2D addO (op2D fdivO (op2D ixO (varD 0) (cD (.int 1))) (cD (.int 2147483647))) (op2D mulO (varD 4) (cD (.int 40009)))) (op2D ixO (varD 0) (cD (.int 2)))) (cD (.int 2305843009213693951))))
    (retS (op2D modO (op2D fdivO (op2D modO (op2D addO (op2D addO (op2D mulO (varD 4) (cD (.int 48271))) (op2D mulO (varD 5) (cD (.int 39373)))) (varD 3)) (cD (.int 2305843009213693921))) (cD (.int 64))) (varD 1))))))))
noncomputable def F_Ldraw (c : Cs) : Fn := bodyF fin 6 (B_Ldraw c)
section
variable {P : Program} {w : World} {K : PySem.W.Frag} {mg : Str → Option Value} {base : Heap} {c : Cs}
theorem ok_Ldraw {f : Addr} {fd : FuncData} (F : Fun K "_law_draw" "_law_draw" s_Ldraw f fd) (T : Txt mg) (Z : Cz K c) : FnOk P w K mg base CX0 1 f fd ["_law_tape_here", "_law_many"] (spD K 2 (F_Ldraw c)) :=
  fn_ok fin_ok F sc_Ldraw fun cdv A outer s H E hr =>
    (show JSs _ _ (B_Ldraw c) from (jsscons (jsif (jtcmp (jgt (jix (jv (pv 0)) ji) ji)) (jsscons (jsset (i := 2) sc_Ldraw.nd rfl (Or.inl rfl) (jmod (jix (jv (pv 0)) ji) (jv (pv 1))))
    (jsscons (jsasg (jfdiv (jix (jv (pv 0)) ji) (jv (pv 1))) (pg_sub (jv (pv 0)) ji set_list) (lg_sub stD_L))
    (jssone (jsret (jv (pv 2)))))) jssnil)
    (jsscons (jsasg (jadd (jix (jv (pv 0)) ji) ji) (pg_sub (jv (pv 0)) ji set_list) (lg_sub stD_L))
    (jsscons (jsset (i := 3) sc_Ldraw.nd rfl (Or.inl rfl) (jmod (jpow (jadd (jix (jv (pv 0)) ji) (jmul ji (jix (jv (pv 0)) ji))) ji) ji))
    (jsscons (jsset (i := 4) sc_Ldraw.nd rfl (Or.inl rfl) (jmod (jmul (jadd (jv (pv 3)) (jix (jv (pv 0)) ji)) (jadd (jadd (jmod (jv (pv 3)) ji) ji) (jix (jv (pv 0)) ji))) ji))
    (jsscons (jsset (i := 5) sc_Ldraw.nd rfl (Or.inl rfl) (jmod (jadd (jadd (jfdiv (jix (jv (pv 0)) ji) ji) (jmul (jv (pv 4)) ji)) (jix (jv (pv 0)) ji)) ji))
    (jssone (jsret (jmod (jfdiv (jmod (jadd (jadd (jmul (jv (pv 4)) ji) (jmul (jv (pv 5)) ji)) (jv (pv 3))) ji) ji) (jv (pv 1)))))))))))
end

/-! ### _law_names -/
abbrev s_Lnames : Stmt := top 15
theorem sc_Lnames : FnScope ["_law_tape_here", "_law_many", "_law_letters", "_law_shift", "_law_stem", "_law_at", "_law_step", "_law_found", "_law_head", "_law_tail", "_law_k", "_law_way", "_law_sign"] ["_law_tape_here", "_law_many"] (defScope s_Lnames) := ⟨rfl, rfl, rfl, by decide +kernel, rfl, by decide +kernel, by decide +kernel⟩
noncomputable def B_Lnames (c : Cs) : FS := (seqS (asgS (tupD (consA (cD (.str "abcdefghijklmnopqrstuvwxyz")) (consA (fnD (F_Ldraw c) [] (consA (varD 0) (consA (cD (.int 26)) nilA))) nilA))) (tupAG 2 (consG (nmG 2) (consG (nmG 3) nilG))))
    (seqS (setS 4 (bmD isStr joinO (cD (.str "")) (consA (lcD r1K (consA (fnD (F_Ldraw c) [] (consA (varD 0) (consA (cD (.int 8)) nilA))) nilA) (nmG 10) yesT (op2D ixO (varD 2) (fnD (F_Ldraw c) [] (consA (varD 0) (consA (cD (.int 26)) nilA)))) [10]) nilA)))
    (seqS (parS3 5 6 7 (consA (fnD (F_Ldraw c) [] (consA (varD 0) (consA (op2D addO (cbD lenO (consA (varD 4) nilA)) (cD (.int 1))) nilA))) (consA (op2D ixO (lstD (consA (cD (.int 1)) (consA (cD (.int 7)) (consA (cD (.int 25)) nilA)))) (fnD (F_Ldraw c) [] (consA (varD 0) (consA (cD (.int 3)) nilA)))) (consA (newD nilA) nilA))))
    (seqS (parS 8 9 (consA (slD slO (varD 4) noO (someO (varD 5))) (consA (slD slO (varD 4) (someO (varD 5)) noO) nilA)))
    (seqS (forS r1K (consA (varD 1) nilA) (nmG 10)
    (seqS (setS 11 (op2D mulO (op2D modO (op2D addO (op2D addO (varD 3) (varD 5)) (cbD lenO (consA (varD 4) nilA))) (cD (.int 3))) (cbD int1O (consA (op2D neO (varD 9) (cD (.str ""))) nilA))))
    (seqS (setS 12 (op2D ixO (varD 2) (op2D modO (op2D addO (varD 3) (op2D mulO (varD 6) (op2D ixO (lstD (consA (varD 10) (consA (op2D fdivO (varD 10) (cD (.int 2))) (consA (varD 10) nilA)))) (varD 11)))) (cD (.int 26)))))
    (dropS (bmD isLoc appO (varD 7) (consA (op2D addO (op2D addO (varD 8) (varD 12)) (op2D ixO (lstD (consA (varD 9) (consA (op2D mulTO (varD 9) (op2D modO (varD 10) (cD (.int 2)))) (consA (slD slO (varD 9) noO (someO (op2D modO (varD 10) (op2D addO (cbD lenO (consA (varD 9) nilA)) (cD (.int 1)))))) nilA)))) (varD 11))) nilA))))))
    (retS (varD 7)))))))
noncomputable def F_Lnames (c : Cs) : Fn := bodyF fin 13 (B_Lnames c)
section
variable {P : Program} {w : World} {K : PySem.W.Frag} {mg : Str → Option Value} {base : Heap} {c : Cs}
theorem ok_Lnames {f : Addr} {fd : FuncData} (F : Fun K "_law_names" "_law_names" s_Lnames f fd) (T : Txt mg) (Z : Cz K c)
    (D_Ldraw : Df P w K mg base "_law_draw" 1 ["_law_tape_here", "_law_many"] (F_Ldraw c)) : FnOk P w K mg base CX0 2 f fd ["_law_tape_here", "_law_many"] (spD K 2 (F_Lnames c)) :=
  fn_ok fin_ok F sc_Lnames fun cdv A outer s H E hr =>
    (show JSs _ _ (B_Lnames c) from (jsscons (jsasg (jtup (jacons js (jacons (jfn D_Ldraw (hr.mono (by omega)) (jacons (jv (pv 0)) (jacons ji janil))) janil))) (pg_unA rfl (pgs_cons (pg_name (i := 2) sc_Lnames.nd rfl (Or.inr rfl)) (pgs_cons (pg_name (i := 3) sc_Lnames.nd rfl (Or.inl rfl)) pgs_nil))) (lg_unA (lg_cons lg_nm (lg_cons lg_nm lg_nil))))
    (jsscons (jsset (i := 4) sc_Lnames.nd rfl (Or.inl rfl) (jbm PySem.F.plainAttrs_str PySem.F.slot_str_join PySem.F.type_str_join mt_join mtD_join js (jacons (jlc (own := [("_law_k", 10)]) (gr := (gName 10)) (ft := yesT) (f := (op2D ixO (varD 2) (fnD (F_Ldraw c) [] (consA (varD 0) (consA (cD (.int 26)) nilA))))) (by rfl) sc_Lnames.nd (pi_range1 (by rfl) T.z_range (jacons (jfn D_Ldraw (hr.mono (by omega)) (jacons (jv (pv 0)) (jacons ji janil))) janil)) li_r1 (blkOk_by (own := [("_law_k", 10)]) (N := ["_law_tape_here", "_law_many", "_law_letters", "_law_shift", "_law_stem", "_law_at", "_law_step", "_law_found", "_law_head", "_law_tail", "_law_k", "_law_way", "_law_sign"]) (sc := defScope s_Lnames) (by decide +kernel)) (fun _ _ _ _ _ => (pg_name (i := 10) sc_Lnames.nd rfl (Or.inl rfl))) lw_nm (fun _ _ _ _ _ => jtsnil) (fun _ _ _ _ _ => (jix (jv (pv 2)) (jfn D_Ldraw (hr.mono (by omega)) (jacons (jv (pv 0)) (jacons ji janil)))))) janil)))
    (jsscons (jspar3 (i := 5) (j := 6) (l := 7) (by rfl) sc_Lnames.nd rfl rfl rfl (by decide) (by decide) (by decide) rfl rfl rfl (jacons (jfn D_Ldraw (hr.mono (by omega)) (jacons (jv (pv 0)) (jacons (jadd (jcb call_len cbD_len T.z_len (by decide +kernel) (jacons (jv (pv 4)) janil)) ji) janil))) (jacons (jix (jlst (jacons ji (jacons ji (jacons ji janil)))) (jfn D_Ldraw (hr.mono (by omega)) (jacons (jv (pv 0)) (jacons ji janil)))) (jacons (jnew janil) janil))) (by rfl))
    (jsscons (jspar (i := 8) (j := 9) (by rfl) sc_Lnames.nd rfl rfl (by decide) rfl rfl (jacons (jsl sl_any slD_any (jv (pv 4)) jonone (josome (jv (pv 5)))) (jacons (jsl sl_any slD_any (jv (pv 4)) (josome (jv (pv 5))) jonone) janil)) (by rfl))
    (jsscons (jsfor PassesOwn.never rfl (pi_range1 (by rfl) T.z_range (jacons (jv (pv 1)) janil)) li_r1 (pg_name (i := 10) sc_Lnames.nd rfl (Or.inl rfl)) lg_nm
    (jsscons (jsset (i := 11) sc_Lnames.nd rfl (Or.inl rfl) (jmul (jmod (jadd (jadd (jv (pv 3)) (jv (pv 5))) (jcb call_len cbD_len T.z_len (by decide +kernel) (jacons (jv (pv 4)) janil))) ji) (jct call_int1 cbD_int1 T.z_int (by decide +kernel) (jacons (jne (jv (pv 9)) js) janil))))
    (jsscons (jsset (i := 12) sc_Lnames.nd rfl (Or.inl rfl) (jix (jv (pv 2)) (jmod (jadd (jv (pv 3)) (jmul (jv (pv 6)) (jix (jlst (jacons (jv (pv 10)) (jacons (jfdiv (jv (pv 10)) ji) (jacons (jv (pv 10)) janil)))) (jv (pv 11))))) ji)))
    (jssone (jsexpr (jbm PySem.F.plainAttrs_list PySem.F.slot_list_append PySem.F.type_list_append mt_append mtD_app (jv (pv 7)) (jacons (jadd (jadd (jv (pv 8)) (jv (pv 12))) (jix (jlst (jacons (jv (pv 9)) (jacons (jmulT (jv (pv 9)) (jmod (jv (pv 10)) ji)) (jacons (jsl sl_any slD_any (jv (pv 9)) jonone (josome (jmod (jv (pv 10)) (jadd (jcb call_len cbD_len T.z_len (by decide +kernel) (jacons (jv (pv 9)) janil)) ji)))) janil)))) (jv (pv 11)))) janil)))))))
    (jssone (jsret (jv (pv 7))))))))))
end

/-! ### _law_lines -/
abbrev s_Llines : Stmt := top 17
theorem sc_Llines : FnScope ["_law_tape_here", "_law_names_here", "_law_many", "_law_most", "_law_found", "_law_turn", "_law_one", "_law_other", "_law_place"] ["_law_tape_here", "_law_names_here", "_law_many", "_law_most"] (defScope s_Llines) := ⟨rfl, rfl, rfl, by decide +kernel, rfl, by decide +kernel, by decide +kernel⟩
noncomputable def B_Llines (c : Cs) : FS := (seqS (setS 4 (newD nilA))
    (seqS (forS r1K (consA (varD 2) nilA) (nmG 5)
    (seqS (setS 6 (op2D ixO (varD 1) (fnD (F_Ldraw c) [] (consA (varD 0) (consA (cbD lenO (consA (varD 1) nilA)) nilA)))))
    (seqS (setS 7 (op2D ixO (lcD sqK (oneA (varD 1)) (nmG 8) (tvD (op2D neO (varD 8) (varD 6))) (varD 8) [8]) (fnD (F_Ldraw c) [] (consA (varD 0) (consA (op2D subO (cbD lenO (consA (varD 1) nilA)) (cD (.int 1))) nilA)))))
    (seqS (ifS (andD (tvD (op2D neDO (varD 4) (lstD nilA))) (tvD (op2D eqO (fnD (F_Ldraw c) [] (consA (varD 0) (consA (cD (.int 6)) nilA))) (cD (.int 0))))) (seqS (asgS (slD slTAO (op2D ixO (varD 4) (fnD (F_Ldraw c) [] (consA (varD 0) (consA (cbD lenO (consA (varD 4) nilA)) nilA)))) noO (someO (cD (.int 2)))) (tupAG 2 (consG (nmG 6) (consG (nmG 7) nilG))))
    (asgS (op2D ixO (lstD (consA (tupD (consA (varD 6) (consA (varD 7) nilA))) (consA (tupD (consA (varD 7) (consA (varD 6) nilA))) nilA))) (fnD (F_Ldraw c) [] (consA (varD 0) (consA (cD (.int 2)) nilA)))) (tupAG 2 (consG (nmG 6) (consG (nmG 7) nilG))))) nextS)
    (dropS (bmD isLoc appO (varD 4) (consA (tupD (consA (varD 6) (consA (varD 7) (consA (fnD (F_Ldraw c) [] (consA (varD 0) (consA (op2D addO (varD 3) (cD (.int 1))) nilA))) nilA)))) nilA)))))))
    (retS (varD 4))))
noncomputable def F_Llines (c : Cs) : Fn := bodyF fin 9 (B_Llines c)
section
variable {P : Program} {w : World} {K : PySem.W.Frag} {mg : Str → Option Value} {base : Heap} {c : Cs}
theorem ok_Llines {f : Addr} {fd : FuncData} (F : Fun K "_law_lines" "_law_lines" s_Llines f fd) (T : Txt mg) (Z : Cz K c)
    (D_Ldraw : Df P w K mg base "_law_draw" 1 ["_law_tape_here", "_law_many"] (F_Ldraw c)) : FnOk P w K mg base CX0 2 f fd ["_law_tape_here", "_law_names_here", "_law_many", "_law_most"] (spD K 4 (F_Llines c)) :=
  fn_ok fin_ok F sc_Llines fun cdv A outer s H E hr =>
    (show JSs _ _ (B_Llines c) from (jsscons (jsset (i := 4) sc_Llines.nd rfl (Or.inl rfl) (jnew janil))
    (jsscons (jsfor PassesOwn.never rfl (pi_range1 (by rfl) T.z_range (jacons (jv (pv 2)) janil)) li_r1 (pg_name (i := 5) sc_Llines.nd rfl (Or.inl rfl)) lg_nm
    (jsscons (jsset (i := 6) sc_Llines.nd rfl (Or.inr rfl) (jix (jv (pv 1)) (jfn D_Ldraw (hr.mono (by omega)) (jacons (jv (pv 0)) (jacons (jcb call_len cbD_len T.z_len (by decide +kernel) (jacons (jv (pv 1)) janil)) janil)))))
    (jsscons (jsset (i := 7) sc_Llines.nd rfl (Or.inl rfl) (jix (jlc (own := [("_law_place", 8)]) (gr := (gName 8)) (ft := (tvD (op2D neO (varD 8) (varD 6)))) (f := (varD 8)) (by rfl) sc_Llines.nd (pi_sq (jv (pv 1))) li_sq (blkOk_by (own := [("_law_place", 8)]) (N := ["_law_tape_here", "_law_names_here", "_law_many", "_law_most", "_law_found", "_law_turn", "_law_one", "_law_other", "_law_place"]) (sc := defScope s_Llines) (by decide +kernel)) (fun _ _ _ _ _ => (pg_name (i := 8) sc_Llines.nd rfl (Or.inl rfl))) lw_nm (fun _ _ _ _ _ => (jtsone (jtne (jv (pv 8)) (jv (pv 6))))) (fun _ _ _ _ _ => (jv (pv 8)))) (jfn D_Ldraw (hr.mono (by omega)) (jacons (jv (pv 0)) (jacons (jsub (jcb call_len cbD_len T.z_len (by decide +kernel) (jacons (jv (pv 1)) janil)) ji) janil)))))
    (jsscons (jsif (jwt (jwand (jtneD (un64 hr) (jv (pv 4)) (jlst janil)) (jwand1 (jteq (jfn D_Ldraw (hr.mono (by omega)) (jacons (jv (pv 0)) (jacons ji janil))) ji)))) (jsscons (jsasg (jsl sl_tupA slD_TA (jix (jv (pv 4)) (jfn D_Ldraw (hr.mono (by omega)) (jacons (jv (pv 0)) (jacons (jcb call_len cbD_len T.z_len (by decide +kernel) (jacons (jv (pv 4)) janil)) janil)))) jonone (josome ji)) (pg_unA rfl (pgs_cons (pg_name (i := 6) sc_Llines.nd rfl (Or.inr rfl)) (pgs_cons (pg_name (i := 7) sc_Llines.nd rfl (Or.inl rfl)) pgs_nil))) (lg_unA (lg_cons lg_nm (lg_cons lg_nm lg_nil))))
    (jssone (jsasg (jix (jlst (jacons (jtup (jacons (jv (pv 6)) (jacons (jv (pv 7)) janil))) (jacons (jtup (jacons (jv (pv 7)) (jacons (jv (pv 6)) janil))) janil))) (jfn D_Ldraw (hr.mono (by omega)) (jacons (jv (pv 0)) (jacons ji janil)))) (pg_unA rfl (pgs_cons (pg_name (i := 6) sc_Llines.nd rfl (Or.inr rfl)) (pgs_cons (pg_name (i := 7) sc_Llines.nd rfl (Or.inl rfl)) pgs_nil))) (lg_unA (lg_cons lg_nm (lg_cons lg_nm lg_nil)))))) jssnil)
    (jssone (jsexpr (jbm PySem.F.plainAttrs_list PySem.F.slot_list_append PySem.F.type_list_append mt_append mtD_app (jv (pv 4)) (jacons (jtup (jacons (jv (pv 6)) (jacons (jv (pv 7)) (jacons (jfn D_Ldraw (hr.mono (by omega)) (jacons (jv (pv 0)) (jacons (jadd (jv (pv 3)) ji) janil))) janil)))) janil))))))))
    (jssone (jsret (jv (pv 4)))))))
end

/-! ### _law_hidden -/
abbrev s_Lhidden : Stmt := top 20
theorem sc_Lhidden : FnScope ["_law_tape_here", "_law_lines_here", "_law_odd", "_law_real", "_law_some", "_law_one", "_law_other", "_law_many", "_law_gone"] ["_law_tape_here", "_law_lines_here"] (defScope s_Lhidden) := ⟨rfl, rfl, rfl, by decide +kernel, rfl, by decide +kernel, by decide +kernel⟩
noncomputable def B_Lhidden (c : Cs) : FS := (seqS (parS3 2 3 4 (consA (op2D ixO (lstD (consA (cD (.int 0)) (consA (cD (.int 1)) (consA (cD (.int 2)) (consA (cD (.int 3)) (consA (cD (.int 4)) nilA)))))) (fnD (F_Ldraw c) [] (consA (varD 0) (consA (cD (.int 5)) nilA)))) (consA (newD nilA) (consA (newD nilA) nilA))))
    (seqS (forS sqK (oneA (varD 1)) (tupAG 3 (consG (nmG 5) (consG (nmG 6) (consG (nmG 7) nilG))))
    (seqS (setS 8 (op2D (cmpO fun i j => decide (i < j)) (fnD (F_Ldraw c) [] (consA (varD 0) (consA (cD (.int 4)) nilA))) (varD 2)))
    (seqS (setS 7 (iteV (andD (tvD (varD 8)) (tvD (op2D eqO (fnD (F_Ldraw c) [] (consA (varD 0) (consA (cD (.int 3)) nilA))) (cD (.int 0))))) (op2D subO (cD (.int 0)) (varD 7)) (varD 7)))
    (seqS (dropS (bmD isLoc appO (varD 3) (consA (tupD (consA (varD 5) (consA (varD 6) (consA (varD 7) nilA)))) nilA)))
    (dropS (bmD isLoc appO (varD 4) (consA (tupD (consA (varD 5) (consA (varD 6) (consA (iteV (tvD (varD 8)) (cD .non) (varD 7)) nilA)))) nilA)))))))
    (retS (tupD (consA (varD 3) (consA (varD 4) nilA))))))
noncomputable def F_Lhidden (c : Cs) : Fn := bodyF fin 9 (B_Lhidden c)
section
variable {P : Program} {w : World} {K : PySem.W.Frag} {mg : Str → Option Value} {base : Heap} {c : Cs}
theorem ok_Lhidden {f : Addr} {fd : FuncData} (F : Fun K "_law_hidden" "_law_hidden" s_Lhidden f fd) (T : Txt mg) (Z : Cz K c)
    (D_Ldraw : Df P w K mg base "_law_draw" 1 ["_law_tape_here", "_law_many"] (F_Ldraw c)) : FnOk P w K mg base CX0 2 f fd ["_law_tape_here", "_law_lines_here"] (spD K 2 (F_Lhidden c)) :=
  fn_ok fin_ok F sc_Lhidden fun cdv A outer s H E hr =>
    (show JSs _ _ (B_Lhidden c) from (jsscons (jspar3 (i := 2) (j := 3) (l := 4) (by rfl) sc_Lhidden.nd rfl rfl rfl (by decide) (by decide) (by decide) rfl rfl rfl (jacons (jix (jlst (jacons ji (jacons ji (jacons ji (jacons ji (jacons ji janil)))))) (jfn D_Ldraw (hr.mono (by omega)) (jacons (jv (pv 0)) (jacons ji janil)))) (jacons (jnew janil) (jacons (jnew janil) janil))) (by rfl))
    (jsscons (jsfor PassesOwn.never rfl (pi_sq (jv (pv 1))) li_sq (pg_unA rfl (pgs_cons (pg_name (i := 5) sc_Lhidden.nd rfl (Or.inl rfl)) (pgs_cons (pg_name (i := 6) sc_Lhidden.nd rfl (Or.inl rfl)) (pgs_cons (pg_name (i := 7) sc_Lhidden.nd rfl (Or.inl rfl)) pgs_nil)))) (lg_unA (lg_cons lg_nm (lg_cons lg_nm (lg_cons lg_nm lg_nil))))
    (jsscons (jsset (i := 8) sc_Lhidden.nd rfl (Or.inl rfl) (jcmp (jlt (jfn D_Ldraw (hr.mono (by omega)) (jacons (jv (pv 0)) (jacons ji janil))) (jv (pv 2)))))
    (jsscons (jsset (i := 7) sc_Lhidden.nd rfl (Or.inl rfl) (jif (jwt (jwand (jtv (jv (pv 8))) (jwand1 (jteq (jfn D_Ldraw (hr.mono (by omega)) (jacons (jv (pv 0)) (jacons ji janil))) ji)))) (jsub ji (jv (pv 7))) (jv (pv 7))))
    (jsscons (jsexpr (jbm PySem.F.plainAttrs_list PySem.F.slot_list_append PySem.F.type_list_append mt_append mtD_app (jv (pv 3)) (jacons (jtup (jacons (jv (pv 5)) (jacons (jv (pv 6)) (jacons (jv (pv 7)) janil)))) janil)))
    (jssone (jsexpr (jbm PySem.F.plainAttrs_list PySem.F.slot_list_append PySem.F.type_list_append mt_append mtD_app (jv (pv 4)) (jacons (jtup (jacons (jv (pv 5)) (jacons (jv (pv 6)) (jacons (jif (jtv (jv (pv 8))) jn (jv (pv 7))) janil)))) janil))))))))
    (jssone (jsret (jtup (jacons (jv (pv 3)) (jacons (jv (pv 4)) janil))))))))
end

/-! ### _law_more -/
abbrev s_Lmore : Stmt := top 18
theorem sc_Lmore : FnScope ["_law_lines_here", "_law_place", "_law_one", "_law_other", "_law_many"] ["_law_lines_here", "_law_place"] (defScope s_Lmore) := ⟨rfl, rfl, rfl, by decide +kernel, rfl, by decide +kernel, by decide +kernel⟩
noncomputable def B_Lmore (c : Cs) : FS := (retS (cbD sumO (consA (lcD sqK (oneA (varD 0)) (tupAG 3 (consG (nmG 2) (consG (nmG 3) (consG (nmG 4) nilG)))) yesT (op2D mulO (varD 4) (op2D subO (cbD int1O (consA (op2D eqO (varD 3) (varD 1)) nilA)) (cbD int1O (consA (op2D eqO (varD 2) (varD 1)) nilA)))) [2, 3, 4]) nilA)))
noncomputable def F_Lmore (c : Cs) : Fn := bodyF fin 5 (B_Lmore c)
section
variable {P : Program} {w : World} {K : PySem.W.Frag} {mg : Str → Option Value} {base : Heap} {c : Cs}
theorem ok_Lmore {f : Addr} {fd : FuncData} (F : Fun K "_law_more" "_law_more" s_Lmore f fd) (T : Txt mg) (Z : Cz K c) : FnOk P w K mg base CX0 1 f fd ["_law_lines_here", "_law_place"] (spD K 2 (F_Lmore c)) :=
  fn_ok fin_ok F sc_Lmore fun cdv A outer s H E hr =>
    (show JSs _ _ (B_Lmore c) from (jssone (jsret (jcb (cr_sum2 rfl) cbD_sum T.z_sum (by decide +kernel) (jacons (jlc (own := [("_law_one", 2), ("_law_other", 3), ("_law_many", 4)]) (gr := (gUnA K 3 (gCons (gName 2) (gCons (gName 3) (gCons (gName 4) gNil))))) (ft := yesT) (f := (op2D mulO (varD 4) (op2D subO (cbD int1O (consA (op2D eqO (varD 3) (varD 1)) nilA)) (cbD int1O (consA (op2D eqO (varD 2) (varD 1)) nilA))))) (by rfl) sc_Lmore.nd (pi_sq (jv (pv 0))) li_sq (blkOk_by (own := [("_law_one", 2), ("_law_other", 3), ("_law_many", 4)]) (N := ["_law_lines_here", "_law_place", "_law_one", "_law_other", "_law_many"]) (sc := defScope s_Lmore) (by decide +kernel)) (fun _ _ _ _ _ => (pg_unA rfl (pgs_cons (pg_name (i := 2) sc_Lmore.nd rfl (Or.inl rfl)) (pgs_cons (pg_name (i := 3) sc_Lmore.nd rfl (Or.inl rfl)) (pgs_cons (pg_name (i := 4) sc_Lmore.nd rfl (Or.inl rfl)) pgs_nil))))) (lw_unA (lw_cons lw_nm (lw_cons lw_nm (lw_cons lw_nm lw_nil)))) (fun _ _ _ _ _ => jtsnil) (fun _ _ _ _ _ => (jmul (jv (pv 4)) (jsub (jct call_int1 cbD_int1 T.z_int (by decide +kernel) (jacons (jeq (jv (pv 3)) (jv (pv 1))) janil)) (jct call_int1 cbD_int1 T.z_int (by decide +kernel) (jacons (jeq (jv (pv 2)) (jv (pv 1))) janil)))))) janil)))))
end

/-! ### _law_counted -/
abbrev s_Lcounted : Stmt := top 19
theorem sc_Lcounted : FnScope ["_law_tape_here", "_law_names_here", "_law_lines_here", "_law_rare", "_law_found", "_law_place"] ["_law_tape_here", "_law_names_here", "_law_lines_here"] (defScope s_Lcounted) := ⟨rfl, rfl, rfl, by decide +kernel, rfl, by decide +kernel, by decide +kernel⟩
noncomputable def B_Lcounted (c : Cs) : FS := (seqS (parS 3 4 (consA (op2D ixO (lstD (consA (cD (.int 1)) (consA (cD (.int 3)) (consA (cD (.int 9)) nilA)))) (fnD (F_Ldraw c) [] (consA (varD 0) (consA (cD (.int 3)) nilA)))) (consA (newD nilA) nilA)))
    (seqS (forS sqK (oneA (varD 1)) (nmG 5)
    (ifS (orD (tvD (op2D eqO (varD 3) (cD (.int 1)))) (tvD (op2D (cmpO fun i j => decide (j < i)) (fnD (F_Ldraw c) [] (consA (varD 0) (consA (varD 3) nilA))) (cD (.int 0))))) (dropS (bmD isLoc insO (varD 4) (consA (fnD (F_Ldraw c) [] (consA (varD 0) (consA (op2D addO (cbD lenO (consA (varD 4) nilA)) (cD (.int 1))) nilA))) (consA (tupD (consA (varD 5) (consA (fnD (F_Lmore c) [] (consA (varD 2) (consA (varD 5) nilA))) nilA))) nilA)))) nextS))
    (retS (varD 4))))
noncomputable def F_Lcounted (c : Cs) : Fn := bodyF fin 6 (B_Lcounted c)
section
variable {P : Program} {w : World} {K : PySem.W.Frag} {mg : Str → Option Value} {base : Heap} {c : Cs}
theorem ok_Lcounted {f : Addr} {fd : FuncData} (F : Fun K "_law_counted" "_law_counted" s_Lcounted f fd) (T : Txt mg) (Z : Cz K c)
    (D_Ldraw : Df P w K mg base "_law_draw" 1 ["_law_tape_here", "_law_many"] (F_Ldraw c))
    (D_Lmore : Df P w K mg base "_law_more" 1 ["_law_lines_here", "_law_place"] (F_Lmore c)) : FnOk P w K mg base CX0 2 f fd ["_law_tape_here", "_law_names_here", "_law_lines_here"] (spD K 3 (F_Lcounted c)) :=
  fn_ok fin_ok F sc_Lcounted fun cdv A outer s H E hr =>
    (show JSs _ _ (B_Lcounted c) from (jsscons (jspar (i := 3) (j := 4) (by rfl) sc_Lcounted.nd rfl rfl (by decide) rfl rfl (jacons (jix (jlst (jacons ji (jacons ji (jacons ji janil)))) (jfn D_Ldraw (hr.mono (by omega)) (jacons (jv (pv 0)) (jacons ji janil)))) (jacons (jnew janil) janil)) (by rfl))
    (jsscons (jsfor PassesOwn.never rfl (pi_sq (jv (pv 1))) li_sq (pg_name (i := 5) sc_Lcounted.nd rfl (Or.inl rfl)) lg_nm
    (jssone (jsif (jwt (jwor (jteq (jv (pv 3)) ji) (jwor1 (jtcmp (jgt (jfn D_Ldraw (hr.mono (by omega)) (jacons (jv (pv 0)) (jacons (jv (pv 3)) janil))) ji))))) (jssone (jsexpr (jbm PySem.F.plainAttrs_list PySem.F.slot_list_insert PySem.F.type_list_insert mt_insert mtD_ins (jv (pv 4)) (jacons (jfn D_Ldraw (hr.mono (by omega)) (jacons (jv (pv 0)) (jacons (jadd (jcb call_len cbD_len T.z_len (by decide +kernel) (jacons (jv (pv 4)) janil)) ji) janil))) (jacons (jtup (jacons (jv (pv 5)) (jacons (jfn D_Lmore (hr.mono (by omega)) (jacons (jv (pv 2)) (jacons (jv (pv 5)) janil))) janil))) janil))))) jssnil)))
    (jssone (jsret (jv (pv 4)))))))
end

/-! ### _law_case -/
abbrev s_Lcase : Stmt := top 22
theorem sc_Lcase : FnScope ["_law_tape_here", "_law_names_here", "_law_lines_here", "_law_some"] ["_law_tape_here"] (defScope s_Lcase) := ⟨rfl, rfl, rfl, by decide +kernel, rfl, by decide +kernel, by decide +kernel⟩
noncomputable def B_Lcase (c : Cs) : FS := (seqS (setS 1 (fnD (F_Lnames c) [] (consA (varD 0) (consA (op2D addO (cD (.int 2)) (fnD (F_Ldraw c) [] (consA (varD 0) (consA (cD (.int 6)) nilA)))) nilA))))
    (seqS (setS 2 (fnD (F_Llines c) [] (consA (varD 0) (consA (varD 1) (consA (fnD (F_Ldraw c) [] (consA (varD 0) (consA (cD (.int 15)) nilA))) (consA (op2D ixO (lstD (consA (cD (.int 3)) (consA (cD (.int 60)) (consA (op2D mulO (cD (.int 5)) (op2D powO (cD (.int 10)) (cD (.int 7)))) nilA)))) (fnD (F_Ldraw c) [] (consA (varD 0) (consA (cD (.int 3)) nilA)))) nilA))))))
    (seqS (asgS (fnD (F_Lhidden c) [] (consA (varD 0) (consA (varD 2) nilA))) (tupAG 2 (consG (nmG 2) (consG (nmG 3) nilG))))
    (retS (tupD (consA (varD 2) (consA (varD 3) (consA (fnD (F_Lcounted c) [] (consA (varD 0) (consA (varD 1) (consA (varD 2) nilA)))) nilA))))))))
noncomputable def F_Lcase (c : Cs) : Fn := bodyF fin 4 (B_Lcase c)
section
variable {P : Program} {w : World} {K : PySem.W.Frag} {mg : Str → Option Value} {base : Heap} {c : Cs}
theorem ok_Lcase {f : Addr} {fd : FuncData} (F : Fun K "_law_case" "_law_case" s_Lcase f fd) (T : Txt mg) (Z : Cz K c)
    (D_Lnames : Df P w K mg base "_law_names" 2 ["_law_tape_here", "_law_many"] (F_Lnames c))
    (D_Llines : Df P w K mg base "_law_lines" 2 ["_law_tape_here", "_law_names_here", "_law_many", "_law_most"] (F_Llines c))
    (D_Lhidden : Df P w K mg base "_law_hidden" 2 ["_law_tape_here", "_law_lines_here"] (F_Lhidden c))
    (D_Ldraw : Df P w K mg base "_law_draw" 1 ["_law_tape_here", "_law_many"] (F_Ldraw c))
    (D_Lcounted : Df P w K mg base "_law_counted" 2 ["_law_tape_here", "_law_names_here", "_law_lines_here"] (F_Lcounted c)) : FnOk P w K mg base CX0 3 f fd ["_law_tape_here"] (spD K 1 (F_Lcase c)) :=
  fn_ok fin_ok F sc_Lcase fun cdv A outer s H E hr =>
    (show JSs _ _ (B_Lcase c) from (jsscons (jsset (i := 1) sc_Lcase.nd rfl (Or.inl rfl) (jfn D_Lnames (hr.mono (by omega)) (jacons (jv (pv 0)) (jacons (jadd ji (jfn D_Ldraw (hr.mono (by omega)) (jacons (jv (pv 0)) (jacons ji janil)))) janil))))
    (jsscons (jsset (i := 2) sc_Lcase.nd rfl (Or.inl rfl) (jfn D_Llines (hr.mono (by omega)) (jacons (jv (pv 0)) (jacons (jv (pv 1)) (jacons (jfn D_Ldraw (hr.mono (by omega)) (jacons (jv (pv 0)) (jacons ji janil))) (jacons (jix (jlst (jacons ji (jacons ji (jacons (jmul ji (jpow ji ji)) janil)))) (jfn D_Ldraw (hr.mono (by omega)) (jacons (jv (pv 0)) (jacons ji janil)))) janil))))))
    (jsscons (jsasg (jfn D_Lhidden (hr.mono (by omega)) (jacons (jv (pv 0)) (jacons (jv (pv 2)) janil))) (pg_unA rfl (pgs_cons (pg_name (i := 2) sc_Lcase.nd rfl (Or.inl rfl)) (pgs_cons (pg_name (i := 3) sc_Lcase.nd rfl (Or.inl rfl)) pgs_nil))) (lg_unA (lg_cons lg_nm (lg_cons lg_nm lg_nil))))
    (jssone (jsret (jtup (jacons (jv (pv 2)) (jacons (jv (pv 3)) (jacons (jfn D_Lcounted (hr.mono (by omega)) (jacons (jv (pv 0)) (jacons (jv (pv 1)) (jacons (jv (pv 2)) janil)))) janil))))))))))
end

/-! ### surplus -/
abbrev s_surplus : Stmt := top 7
theorem sc_surplus : FnScope ["sheet", "places", "lines", "counted", "many_more", "one", "other", "many", "place", "more"] ["sheet", "places"] (defScope s_surplus) := ⟨rfl, rfl, rfl, by decide +kernel, rfl, by decide +kernel, by decide +kernel⟩
noncomputable def B_surplus (c : Cs) : FS := (seqS (asgS (varD 0) (tupAG 2 (consG (nmG 2) (consG (nmG 3) nilG))))
    (seqS (setS 4 (op1D negO (cbD sumO (consA (lcD sqK (oneA (varD 3)) (tupAG 2 (consG (nmG 8) (consG (nmG 9) nilG))) (tvD (op2D inseqO (varD 8) (varD 1))) (varD 9) [8, 9]) nilA))))
    (seqS (forS sqK (oneA (varD 2)) (tupAG 3 (consG (nmG 5) (consG (nmG 6) (consG (nmG 7) nilG))))
    (seqS (ifS (orD (tvD (op1D (isNO false) (varD 7))) (tvD (op2D eqO (op2D inseqO (varD 5) (varD 1)) (op2D inseqO (varD 6) (varD 1))))) contS nextS)
    (augS 4 (iteV (tvD (op2D inseqO (varD 6) (varD 1))) (varD 7) (op1D negO (varD 7))) (int0 fun i j => .int (i + j)))))
    (retS (varD 4)))))
noncomputable def F_surplus (c : Cs) : Fn := bodyF fin 10 (B_surplus c)
section
variable {P : Program} {w : World} {K : PySem.W.Frag} {mg : Str → Option Value} {base : Heap} {c : Cs}
theorem ok_surplus {f : Addr} {fd : FuncData} (F : Fun K "surplus" "surplus" s_surplus f fd) (T : Txt mg) (Z : Cz K c) : FnOk P w K mg base CX0 1 f fd ["sheet", "places"] (spD K 2 (F_surplus c)) :=
  fn_ok fin_ok F sc_surplus fun cdv A outer s H E hr =>
    (show JSs _ _ (B_surplus c) from (jsscons (jsasg (jv (pv 0)) (pg_unA rfl (pgs_cons (pg_name (i := 2) sc_surplus.nd rfl (Or.inl rfl)) (pgs_cons (pg_name (i := 3) sc_surplus.nd rfl (Or.inl rfl)) pgs_nil))) (lg_unA (lg_cons lg_nm (lg_cons lg_nm lg_nil))))
    (jsscons (jsset (i := 4) sc_surplus.nd rfl (Or.inl rfl) (jneg (jcb (cr_sum2 rfl) cbD_sum T.z_sum (by decide +kernel) (jacons (jlc (own := [("place", 8), ("more", 9)]) (gr := (gUnA K 2 (gCons (gName 8) (gCons (gName 9) gNil)))) (ft := (tvD (op2D inseqO (varD 8) (varD 1)))) (f := (varD 9)) (by rfl) sc_surplus.nd (pi_sq (jv (pv 3))) li_sq (blkOk_by (own := [("place", 8), ("more", 9)]) (N := ["sheet", "places", "lines", "counted", "many_more", "one", "other", "many", "place", "more"]) (sc := defScope s_surplus) (by decide +kernel)) (fun _ _ _ _ _ => (pg_unA rfl (pgs_cons (pg_name (i := 8) sc_surplus.nd rfl (Or.inl rfl)) (pgs_cons (pg_name (i := 9) sc_surplus.nd rfl (Or.inl rfl)) pgs_nil)))) (lw_unA (lw_cons lw_nm (lw_cons lw_nm lw_nil))) (fun _ _ _ _ _ => (jtsone (jtinseq (jv (pv 8)) (jv (pv 1))))) (fun _ _ _ _ _ => (jv (pv 9)))) janil))))
    (jsscons (jsfor PassesOwn.never rfl (pi_sq (jv (pv 2))) li_sq (pg_unA rfl (pgs_cons (pg_name (i := 5) sc_surplus.nd rfl (Or.inl rfl)) (pgs_cons (pg_name (i := 6) sc_surplus.nd rfl (Or.inl rfl)) (pgs_cons (pg_name (i := 7) sc_surplus.nd rfl (Or.inl rfl)) pgs_nil)))) (lg_unA (lg_cons lg_nm (lg_cons lg_nm (lg_cons lg_nm lg_nil))))
    (jsscons (jsif (jwt (jwor (jtcmp (jisN (jv (pv 7)))) (jwor1 (jteq (jinseq (jv (pv 5)) (jv (pv 1))) (jinseq (jv (pv 6)) (jv (pv 1))))))) (jssone jscont) jssnil)
    (jssone (jsaug (i := 4) sc_surplus.nd rfl (Or.inl rfl) (jif (jtinseq (jv (pv 6)) (jv (pv 1))) (jv (pv 7)) (jneg (jv (pv 7)))) ip_add opD_ip))))
    (jssone (jsret (jv (pv 4))))))))
end

/-! ### ends_of -/
abbrev s_ends_of : Stmt := top 4
theorem sc_ends_of : FnScope ["sheet", "lines", "counted", "inside", "place", "more", "one", "other", "many"] ["sheet"] (defScope s_ends_of) := ⟨rfl, rfl, rfl, by decide +kernel, rfl, by decide +kernel, by decide +kernel⟩
noncomputable def B_ends_of (c : Cs) : FS := (seqS (asgS (varD 0) (tupAG 2 (consG (nmG 1) (consG (nmG 2) nilG))))
    (seqS (setS 3 (dcD sqK (oneA (varD 2)) (tupAG 2 (consG (nmG 4) (consG (nmG 5) nilG))) yesT (varD 4) (cD (.bl true)) [4, 5]))
    (retS (lcD sqK (oneA (varD 1)) (tupAG 3 (consG (nmG 6) (consG (nmG 7) (consG (nmG 8) nilG)))) yesT (tupD (consA (iteV (tvD (op2D (inKO false) (varD 6) (varD 3))) (varD 6) (cD (.str (Str.ofString "")))) (consA (iteV (tvD (op2D (inKO false) (varD 7) (varD 3))) (varD 7) (cD (.str (Str.ofString "")))) nilA))) [6, 7, 8]))))
noncomputable def F_ends_of (c : Cs) : Fn := bodyF fin 9 (B_ends_of c)
section
variable {P : Program} {w : World} {K : PySem.W.Frag} {mg : Str → Option Value} {base : Heap} {c : Cs}
theorem ok_ends_of {f : Addr} {fd : FuncData} (F : Fun K "ends_of" "ends_of" s_ends_of f fd) (T : Txt mg) (Z : Cz K c) : FnOk P w K mg base CX0 1 f fd ["sheet"] (spD K 1 (F_ends_of c)) :=
  fn_ok fin_ok F sc_ends_of fun cdv A outer s H E hr =>
    (show JSs _ _ (B_ends_of c) from (jsscons (jsasg (jv (pv 0)) (pg_unA rfl (pgs_cons (pg_name (i := 1) sc_ends_of.nd rfl (Or.inl rfl)) (pgs_cons (pg_name (i := 2) sc_ends_of.nd rfl (Or.inl rfl)) pgs_nil))) (lg_unA (lg_cons lg_nm (lg_cons lg_nm lg_nil))))
    (jsscons (jsset (i := 3) sc_ends_of.nd rfl (Or.inr rfl) (jdc (own := [("place", 4), ("more", 5)]) (gr := (gUnA K 2 (gCons (gName 4) (gCons (gName 5) gNil)))) (ft := yesT) (fk := (varD 4)) (fv := (cD (.bl true))) (by rfl) sc_ends_of.nd (pi_sq (jv (pv 2))) li_sq (blkOk_by (own := [("place", 4), ("more", 5)]) (N := ["sheet", "lines", "counted", "inside", "place", "more", "one", "other", "many"]) (sc := defScope s_ends_of) (by decide +kernel)) (fun _ _ _ _ _ => (pg_unA rfl (pgs_cons (pg_name (i := 4) sc_ends_of.nd rfl (Or.inl rfl)) (pgs_cons (pg_name (i := 5) sc_ends_of.nd rfl (Or.inl rfl)) pgs_nil)))) (lw_unA (lw_cons lw_nm (lw_cons lw_nm lw_nil))) (fun _ _ _ _ _ => jtsnil) (fun _ _ _ _ _ => (jv (pv 4))) (fun _ _ _ _ _ => jb)))
    (jssone (jsret (jlc (own := [("one", 6), ("other", 7), ("many", 8)]) (gr := (gUnA K 3 (gCons (gName 6) (gCons (gName 7) (gCons (gName 8) gNil))))) (ft := yesT) (f := (tupD (consA (iteV (tvD (op2D (inKO false) (varD 6) (varD 3))) (varD 6) (cD (.str (Str.ofString "")))) (consA (iteV (tvD (op2D (inKO false) (varD 7) (varD 3))) (varD 7) (cD (.str (Str.ofString "")))) nilA)))) (by rfl) sc_ends_of.nd (pi_sq (jv (pv 1))) li_sq (blkOk_by (own := [("one", 6), ("other", 7), ("many", 8)]) (N := ["sheet", "lines", "counted", "inside", "place", "more", "one", "other", "many"]) (sc := defScope s_ends_of) (by decide +kernel)) (fun _ _ _ _ _ => (pg_unA rfl (pgs_cons (pg_name (i := 6) sc_ends_of.nd rfl (Or.inl rfl)) (pgs_cons (pg_name (i := 7) sc_ends_of.nd rfl (Or.inl rfl)) (pgs_cons (pg_name (i := 8) sc_ends_of.nd rfl (Or.inl rfl)) pgs_nil))))) (lw_unA (lw_cons lw_nm (lw_cons lw_nm (lw_cons lw_nm lw_nil)))) (fun _ _ _ _ _ => jtsnil) (fun _ _ _ _ _ => (jtup (jacons (jif (jtcmp (jinK (un1 hr) (jv (pv 6)) (jv (pv 3)))) (jv (pv 6)) (jgs T.g_OUTSIDE)) (jacons (jif (jtcmp (jinK (un1 hr) (jv (pv 7)) (jv (pv 3)))) (jv (pv 7)) (jgs T.g_OUTSIDE)) janil))))))))))
end

/-! ### untold -/
abbrev s_untold : Stmt := top 5
theorem sc_untold : FnScope ["sheet", "number", "one", "other", "many"] ["sheet"] (defScope s_untold) := ⟨rfl, rfl, rfl, by decide +kernel, rfl, by decide +kernel, by decide +kernel⟩
noncomputable def B_untold (c : Cs) : FS := (retS (lcD enAK (consA (op2D ixO (varD 0) (cD (.int 0))) nilA) (tupAG 2 (consG (nmG 1) (consG (tupAG 3 (consG (nmG 2) (consG (nmG 3) (consG (nmG 4) nilG)))) nilG))) (tvD (op1D (isNO false) (varD 4))) (varD 1) [1, 2, 3, 4]))
noncomputable def F_untold (c : Cs) : Fn := bodyF fin 5 (B_untold c)
section
variable {P : Program} {w : World} {K : PySem.W.Frag} {mg : Str → Option Value} {base : Heap} {c : Cs}
theorem ok_untold {f : Addr} {fd : FuncData} (F : Fun K "untold" "untold" s_untold f fd) (T : Txt mg) (Z : Cz K c) : FnOk P w K mg base CX0 1 f fd ["sheet"] (spD K 1 (F_untold c)) :=
  fn_ok fin_ok F sc_untold fun cdv A outer s H E hr =>
    (show JSs _ _ (B_untold c) from (jssone (jsret (jlc (own := [("number", 1), ("one", 2), ("other", 3), ("many", 4)]) (gr := (gUnA K 2 (gCons (gName 1) (gCons (gUnA K 3 (gCons (gName 2) (gCons (gName 3) (gCons (gName 4) gNil)))) gNil)))) (ft := (tvD (op1D (isNO false) (varD 4)))) (f := (varD 1)) (by rfl) sc_untold.nd (pi_enumA (by rfl) T.z_enumerate (jacons (jix (jv (pv 0)) ji) janil)) li_enA (blkOk_by (own := [("number", 1), ("one", 2), ("other", 3), ("many", 4)]) (N := ["sheet", "number", "one", "other", "many"]) (sc := defScope s_untold) (by decide +kernel)) (fun _ _ _ _ _ => (pg_unA rfl (pgs_cons (pg_name (i := 1) sc_untold.nd rfl (Or.inl rfl)) (pgs_cons (pg_unA rfl (pgs_cons (pg_name (i := 2) sc_untold.nd rfl (Or.inl rfl)) (pgs_cons (pg_name (i := 3) sc_untold.nd rfl (Or.inl rfl)) (pgs_cons (pg_name (i := 4) sc_untold.nd rfl (Or.inl rfl)) pgs_nil)))) pgs_nil)))) (lw_unA (lw_cons lw_nm (lw_cons (lw_unA (lw_cons lw_nm (lw_cons lw_nm (lw_cons lw_nm lw_nil)))) lw_nil))) (fun _ _ _ _ _ => (jtsone (jtcmp (jisN (jv (pv 4)))))) (fun _ _ _ _ _ => (jv (pv 1)))))))
end

/-! ### ways_from -/
abbrev s_ways_from : Stmt := top 6
theorem sc_ways_from : FnScope ["sheet", "start", "left_out", "ends", "numbers", "came_by", "waiting", "place", "number", "one", "other", "beyond"] ["sheet", "start", "left_out"] (defScope s_ways_from) := ⟨rfl, rfl, rfl, by decide +kernel, rfl, by decide +kernel, by decide +kernel⟩
noncomputable def B_ways_from (c : Cs) : FS := (seqS (setS 3 (fnD (F_ends_of c) [] (consA (varD 0) nilA)))
    (seqS (setS 4 (lcD sqK (oneA (fnD (F_untold c) [] (consA (varD 0) nilA))) (nmG 8) (tvD (op2D neO (varD 8) (varD 2))) (varD 8) [8]))
    (seqS (setS 5 (dic1 (varD 1) (cD .non)))
    (seqS (setS 6 (newD (consA (varD 1) nilA)))
    (seqS (whileS (truD (varD 6)) (seqS (setS 7 (bmD isLoc popO (varD 6) nilA))
    (forS sqK (oneA (varD 4)) (nmG 8)
    (seqS (ifS (tvD (op2D ninseqO (varD 7) (op2D ixO (varD 3) (varD 8)))) contS nextS)
    (seqS (asgS (op2D ixO (varD 3) (varD 8)) (tupAG 2 (consG (nmG 9) (consG (nmG 10) nilG))))
    (seqS (setS 11 (iteV (tvD (op2D eqO (varD 7) (varD 9))) (varD 10) (varD 9)))
    (ifS (tvD (op2D (inKO true) (varD 11) (varD 5))) (seqS (dputS (varD 5) (varD 11) (varD 8))
    (dropS (bmD isLoc appO (varD 6) (consA (varD 11) nilA)))) nextS)))))))
    (retS (varD 5)))))))
noncomputable def F_ways_from (c : Cs) : Fn := bodyF finK 12 (B_ways_from c)
section
variable {P : Program} {w : World} {K : PySem.W.Frag} {mg : Str → Option Value} {base : Heap} {c : Cs}
theorem ok_ways_from {f : Addr} {fd : FuncData} {dvs : List V} (F : FunD K "ways_from" "ways_from" (defArgs s_ways_from) (defBody s_ways_from) (defScope s_ways_from) dvs [] f fd) (T : Txt mg) (Z : Cz K c)
    (D_ends_of : Df P w K mg base "ends_of" 1 ["sheet"] (F_ends_of c))
    (D_untold : Df P w K mg base "untold" 1 ["sheet"] (F_untold c)) : FnOk P w K mg base CX0 2 f fd ["sheet", "start", "left_out"] (spD K 3 (F_ways_from c)) :=
  fn_okD finK_ok F sc_ways_from fun cdv A outer s H E hr =>
    (show JSs _ _ (B_ways_from c) from (jsscons (jsset (i := 3) sc_ways_from.nd rfl (Or.inl rfl) (jfn D_ends_of (hr.mono (by omega)) (jacons (jv (pv 0)) janil)))
    (jsscons (jssetLc (i := 4) (own := [("number", 8)]) (gr := (gName 8)) (ft := (tvD (op2D neO (varD 8) (varD 2)))) (f := (varD 8)) (by rfl) sc_ways_from.nd rfl rfl (sw_true rfl rfl rfl (by decide +kernel)) (pi_sq (jfn D_untold (hr.mono (by omega)) (jacons (jv (pv 0)) janil))) li_sq (blkOk_by (own := [("number", 8)]) (N := ["sheet", "start", "left_out", "ends", "numbers", "came_by", "waiting", "place", "number", "one", "other", "beyond"]) (sc := defScope s_ways_from) (by decide +kernel)) (fun _ _ _ _ _ => (pg_name (i := 8) sc_ways_from.nd rfl (Or.inl rfl))) lw_nm (fun _ _ _ _ _ => (jtsone (jtne (jv (pv 8)) (jv (pv 2))))) (fun _ _ _ _ _ => (jv (pv 8))))
    (jsscons (jsset (i := 5) sc_ways_from.nd rfl (Or.inl rfl) (jd1 (jv (pv 1)) jn))
    (jsscons (jsset (i := 6) sc_ways_from.nd rfl (Or.inl rfl) (jnew (jacons (jv (pv 1)) janil)))
    (jsscons (jswhile PassesOwn.never (jtruth (jv (pv 6))) (jsscons (jsset (i := 7) sc_ways_from.nd rfl (Or.inl rfl) (jbm0 PySem.F.plainAttrs_list PySem.F.slot_list_pop PySem.F.type_list_pop mt_pop mtD_pop (jv (pv 6))))
    (jssone (jsfor PassesOwn.never rfl (pi_sq (jv (pv 4))) li_sq (pg_name (i := 8) sc_ways_from.nd rfl (Or.inl rfl)) lg_nm
    (jsscons (jsif (jtninseq (jv (pv 7)) (jix (jv (pv 3)) (jv (pv 8)))) (jssone jscont) jssnil)
    (jsscons (jsasg (jix (jv (pv 3)) (jv (pv 8))) (pg_unA rfl (pgs_cons (pg_name (i := 9) sc_ways_from.nd rfl (Or.inl rfl)) (pgs_cons (pg_name (i := 10) sc_ways_from.nd rfl (Or.inl rfl)) pgs_nil))) (lg_unA (lg_cons lg_nm (lg_cons lg_nm lg_nil))))
    (jsscons (jsset (i := 11) sc_ways_from.nd rfl (Or.inl rfl) (jif (jteq (jv (pv 7)) (jv (pv 9))) (jv (pv 10)) (jv (pv 9))))
    (jssone (jsif (jtcmp (jninK (un1 hr) (jv (pv 11)) (jv (pv 5)))) (jsscons (jsdput (un1 hr) (jv (pv 5)) (jv (pv 11)) (jv (pv 8)))
    (jssone (jsexpr (jbm PySem.F.plainAttrs_list PySem.F.slot_list_append PySem.F.type_list_append mt_append mtD_app (jv (pv 6)) (jacons (jv (pv 11)) janil))))) jssnil)))))))))
    (jssone (jsret (jv (pv 5))))))))))
end

/-! ### lack_of -/
abbrev s_lack_of : Stmt := top 8
theorem sc_lack_of : FnScope ["sheet", "found", "place", "more", "places", "many", "size"] ["sheet"] (defScope s_lack_of) := ⟨rfl, rfl, rfl, by decide +kernel, rfl, by decide +kernel, by decide +kernel⟩
noncomputable def B_lack_of (c : Cs) : FS := (seqS (setS 1 (newD nilA))
    (seqS (forS sqK (oneA (op2D ixO (varD 0) (cD (.int 1)))) (tupAG 2 (consG (nmG 2) (consG (nmG 3) nilG)))
    (seqS (setS 4 (cbD tupleO (consA (cbD srtDO (consA (fnD (F_ways_from c) [.non] (consA (varD 0) (consA (varD 2) nilA))) nilA)) nilA)))
    (seqS (ifS (tvD (op2D inseqO (cD (.str (Str.ofString ""))) (varD 4))) contS nextS)
    (seqS (setS 5 (fnD (F_surplus c) [] (consA (varD 0) (consA (varD 4) nilA))))
    (ifS (tvD (op2D neO (varD 5) (cD (.int 0)))) (dropS (bmD isLoc appO (varD 1) (consA (tupD (consA (cbD lenO (consA (varD 4) nilA)) (consA (varD 4) (consA (varD 5) nilA)))) nilA))) nextS)))))
    (seqS (ifS (notD (truD (varD 1))) (retS (cD .non)) nextS)
    (seqS (asgS (cbD minRO (consA (varD 1) nilA)) (tupAG 3 (consG (nmG 6) (consG (nmG 4) (consG (nmG 5) nilG)))))
    (retS (tupD (consA (varD 4) (consA (varD 5) nilA))))))))
noncomputable def F_lack_of (c : Cs) : Fn := bodyF fin 7 (B_lack_of c)
section
variable {P : Program} {w : World} {K : PySem.W.Frag} {mg : Str → Option Value} {base : Heap} {c : Cs}
theorem ok_lack_of {f : Addr} {fd : FuncData} (F : Fun K "lack_of" "lack_of" s_lack_of f fd) (T : Txt mg) (Z : Cz K c)
    (D_surplus : Df P w K mg base "surplus" 1 ["sheet", "places"] (F_surplus c))
    (D_ways_from_1 : DfD P w K mg base "ways_from" 2 ["sheet", "start", "left_out"] [.non] (F_ways_from c)) : FnOk P w K mg base CX0 3 f fd ["sheet"] (spD K 1 (F_lack_of c)) :=
  fn_ok fin_ok F sc_lack_of fun cdv A outer s H E hr =>
    (show JSs _ _ (B_lack_of c) from (jsscons (jsset (i := 1) sc_lack_of.nd rfl (Or.inl rfl) (jnew janil))
    (jsscons (jsfor PassesOwn.never rfl (pi_sq (jix (jv (pv 0)) ji)) li_sq (pg_unA rfl (pgs_cons (pg_name (i := 2) sc_lack_of.nd rfl (Or.inl rfl)) (pgs_cons (pg_name (i := 3) sc_lack_of.nd rfl (Or.inl rfl)) pgs_nil))) (lg_unA (lg_cons lg_nm (lg_cons lg_nm lg_nil)))
    (jsscons (jsset (i := 4) sc_lack_of.nd rfl (Or.inl rfl) (jct call_tuple_of cbD_tuple T.z_tuple (by decide +kernel) (jacons (jcb (call_sortedD (by rfl)) cbD_srtD T.z_sorted (by decide +kernel) (jacons (jfnD D_ways_from_1 (fun _ _ => (.cons .non .nil)) (hr.mono (by omega)) (jacons (jv (pv 0)) (jacons (jv (pv 2)) janil))) janil)) janil)))
    (jsscons (jsif (jtinseq (jgs T.g_OUTSIDE) (jv (pv 4))) (jssone jscont) jssnil)
    (jsscons (jsset (i := 5) sc_lack_of.nd rfl (Or.inl rfl) (jfn D_surplus (hr.mono (by omega)) (jacons (jv (pv 0)) (jacons (jv (pv 4)) janil))))
    (jssone (jsif (jtne (jv (pv 5)) ji) (jssone (jsexpr (jbm PySem.F.plainAttrs_list PySem.F.slot_list_append PySem.F.type_list_append mt_append mtD_app (jv (pv 1)) (jacons (jtup (jacons (jcb call_len cbD_len T.z_len (by decide +kernel) (jacons (jv (pv 4)) janil)) (jacons (jv (pv 4)) (jacons (jv (pv 5)) janil)))) janil)))) jssnil))))))
    (jsscons (jsif (jtnot (jtruth (jv (pv 1)))) (jssone (jsret jn)) jssnil)
    (jsscons (jsasg (jcb (cr_minR (un8 hr) rfl) cbD_minR T.z_min (by decide +kernel) (jacons (jv (pv 1)) janil)) (pg_unA rfl (pgs_cons (pg_name (i := 6) sc_lack_of.nd rfl (Or.inl rfl)) (pgs_cons (pg_name (i := 4) sc_lack_of.nd rfl (Or.inl rfl)) (pgs_cons (pg_name (i := 5) sc_lack_of.nd rfl (Or.inl rfl)) pgs_nil)))) (lg_unA (lg_cons lg_nm (lg_cons lg_nm (lg_cons lg_nm lg_nil)))))
    (jssone (jsret (jtup (jacons (jv (pv 4)) (jacons (jv (pv 5)) janil))))))))))
end

/-! ### side_of -/
abbrev s_side_of : Stmt := top 9
theorem sc_side_of : FnScope ["sheet", "line", "one", "other", "start", "end", "places"] ["sheet", "line"] (defScope s_side_of) := ⟨rfl, rfl, rfl, by decide +kernel, rfl, by decide +kernel, by decide +kernel⟩
noncomputable def B_side_of (c : Cs) : FS := (seqS (asgS (op2D ixO (fnD (F_ends_of c) [] (consA (varD 0) nilA)) (varD 1)) (tupAG 2 (consG (nmG 2) (consG (nmG 3) nilG))))
    (seqS (forS sqK (oneA (tupD (consA (tupD (consA (varD 2) (consA (varD 3) nilA))) (consA (tupD (consA (varD 3) (consA (varD 2) nilA))) nilA)))) (tupAG 2 (consG (nmG 4) (consG (nmG 5) nilG)))
    (seqS (setS 6 (cbD srtDO (consA (fnD (F_ways_from c) [] (consA (varD 0) (consA (varD 4) (consA (varD 1) nilA)))) nilA)))
    (seqS (ifS (tvD (op2D inseqO (varD 5) (varD 6))) (retS (cD .non)) nextS)
    (ifS (tvD (op2D ninseqO (cD (.str (Str.ofString ""))) (varD 6))) (retS (cbD tupleO (consA (varD 6) nilA))) nextS))))
    (retS (cD .non))))
noncomputable def F_side_of (c : Cs) : Fn := bodyF fin 7 (B_side_of c)
section
variable {P : Program} {w : World} {K : PySem.W.Frag} {mg : Str → Option Value} {base : Heap} {c : Cs}
theorem ok_side_of {f : Addr} {fd : FuncData} (F : Fun K "side_of" "side_of" s_side_of f fd) (T : Txt mg) (Z : Cz K c)
    (D_ends_of : Df P w K mg base "ends_of" 1 ["sheet"] (F_ends_of c))
    (D_ways_from : Df P w K mg base "ways_from" 2 ["sheet", "start", "left_out"] (F_ways_from c)) : FnOk P w K mg base CX0 3 f fd ["sheet", "line"] (spD K 2 (F_side_of c)) :=
  fn_ok fin_ok F sc_side_of fun cdv A outer s H E hr =>
    (show JSs _ _ (B_side_of c) from (jsscons (jsasg (jix (jfn D_ends_of (hr.mono (by omega)) (jacons (jv (pv 0)) janil)) (jv (pv 1))) (pg_unA rfl (pgs_cons (pg_name (i := 2) sc_side_of.nd rfl (Or.inl rfl)) (pgs_cons (pg_name (i := 3) sc_side_of.nd rfl (Or.inl rfl)) pgs_nil))) (lg_unA (lg_cons lg_nm (lg_cons lg_nm lg_nil))))
    (jsscons (jsfor PassesOwn.never rfl (pi_sq (jtup (jacons (jtup (jacons (jv (pv 2)) (jacons (jv (pv 3)) janil))) (jacons (jtup (jacons (jv (pv 3)) (jacons (jv (pv 2)) janil))) janil)))) li_sq (pg_unA rfl (pgs_cons (pg_name (i := 4) sc_side_of.nd rfl (Or.inl rfl)) (pgs_cons (pg_name (i := 5) sc_side_of.nd rfl (Or.inl rfl)) pgs_nil))) (lg_unA (lg_cons lg_nm (lg_cons lg_nm lg_nil)))
    (jsscons (jsset (i := 6) sc_side_of.nd rfl (Or.inl rfl) (jcb (call_sortedD (by rfl)) cbD_srtD T.z_sorted (by decide +kernel) (jacons (jfn D_ways_from (hr.mono (by omega)) (jacons (jv (pv 0)) (jacons (jv (pv 4)) (jacons (jv (pv 1)) janil)))) janil)))
    (jsscons (jsif (jtinseq (jv (pv 5)) (jv (pv 6))) (jssone (jsret jn)) jssnil)
    (jssone (jsif (jtninseq (jgs T.g_OUTSIDE) (jv (pv 6))) (jssone (jsret (jct call_tuple_of cbD_tuple T.z_tuple (by decide +kernel) (jacons (jv (pv 6)) janil)))) jssnil)))))
    (jssone (jsret jn)))))
end

/-! ### number_of -/
abbrev s_number_of : Stmt := top 10
theorem sc_number_of : FnScope ["sheet", "line", "one", "other", "many", "places"] ["sheet", "line"] (defScope s_number_of) := ⟨rfl, rfl, rfl, by decide +kernel, rfl, by decide +kernel, by decide +kernel⟩
noncomputable def B_number_of (c : Cs) : FS := (seqS (asgS (op2D ixO (op2D ixO (varD 0) (cD (.int 0))) (varD 1)) (tupAG 3 (consG (nmG 2) (consG (nmG 3) (consG (nmG 4) nilG)))))
    (seqS (ifS (tvD (op1D (isNO true) (varD 4))) (retS (varD 4)) nextS)
    (seqS (setS 5 (fnD (F_side_of c) [] (consA (varD 0) (consA (varD 1) nilA))))
    (seqS (ifS (tvD (op1D (isNO false) (varD 5))) (retS (cD .non)) nextS)
    (retS (iteV (tvD (op2D inseqO (varD 3) (varD 5))) (op1D negO (fnD (F_surplus c) [] (consA (varD 0) (consA (varD 5) nilA)))) (fnD (F_surplus c) [] (consA (varD 0) (consA (varD 5) nilA)))))))))
noncomputable def F_number_of (c : Cs) : Fn := bodyF fin 6 (B_number_of c)
section
variable {P : Program} {w : World} {K : PySem.W.Frag} {mg : Str → Option Value} {base : Heap} {c : Cs}
theorem ok_number_of {f : Addr} {fd : FuncData} (F : Fun K "number_of" "number_of" s_number_of f fd) (T : Txt mg) (Z : Cz K c)
    (D_side_of : Df P w K mg base "side_of" 3 ["sheet", "line"] (F_side_of c))
    (D_surplus : Df P w K mg base "surplus" 1 ["sheet", "places"] (F_surplus c)) : FnOk P w K mg base CX0 4 f fd ["sheet", "line"] (spD K 2 (F_number_of c)) :=
  fn_ok fin_ok F sc_number_of fun cdv A outer s H E hr =>
    (show JSs _ _ (B_number_of c) from (jsscons (jsasg (jix (jix (jv (pv 0)) ji) (jv (pv 1))) (pg_unA rfl (pgs_cons (pg_name (i := 2) sc_number_of.nd rfl (Or.inl rfl)) (pgs_cons (pg_name (i := 3) sc_number_of.nd rfl (Or.inl rfl)) (pgs_cons (pg_name (i := 4) sc_number_of.nd rfl (Or.inl rfl)) pgs_nil)))) (lg_unA (lg_cons lg_nm (lg_cons lg_nm (lg_cons lg_nm lg_nil)))))
    (jsscons (jsif (jtcmp (jnotN (jv (pv 4)))) (jssone (jsret (jv (pv 4)))) jssnil)
    (jsscons (jsset (i := 5) sc_number_of.nd rfl (Or.inl rfl) (jfn D_side_of (hr.mono (by omega)) (jacons (jv (pv 0)) (jacons (jv (pv 1)) janil))))
    (jsscons (jsif (jtcmp (jisN (jv (pv 5)))) (jssone (jsret jn)) jssnil)
    (jssone (jsret (jif (jtinseq (jv (pv 3)) (jv (pv 5))) (jneg (jfn D_surplus (hr.mono (by omega)) (jacons (jv (pv 0)) (jacons (jv (pv 5)) janil)))) (jfn D_surplus (hr.mono (by omega)) (jacons (jv (pv 0)) (jacons (jv (pv 5)) janil)))))))))))
end

/-! ### follows -/
abbrev s_follows : Stmt := top 11
theorem sc_follows : FnScope ["sheet", "lack", "line"] ["sheet"] (defScope s_follows) := ⟨rfl, rfl, rfl, by decide +kernel, rfl, by decide +kernel, by decide +kernel⟩
noncomputable def B_follows (c : Cs) : FS := (seqS (setS 1 (fnD (F_lack_of c) [] (consA (varD 0) nilA)))
    (seqS (ifS (tvD (op1D (isNO true) (varD 1))) neverS nextS)
    (retS (lcDN r1K (consA (cbD lenO (consA (op2D ixO (varD 0) (cD (.int 0))) nilA)) nilA) (nmG 2) yesT (fnD (F_number_of c) [] (consA (varD 0) (consA (varD 2) nilA))) [2]))))
noncomputable def F_follows (c : Cs) : Fn := bodyF finK 3 (B_follows c)
section
variable {P : Program} {w : World} {K : PySem.W.Frag} {mg : Str → Option Value} {base : Heap} {c : Cs}
theorem ok_follows {f : Addr} {fd : FuncData} (F : Fun K "follows" "follows" s_follows f fd) (T : Txt mg) (Z : Cz K c)
    (D_lack_of : Df P w K mg base "lack_of" 3 ["sheet"] (F_lack_of c))
    (D_number_of : Df P w K mg base "number_of" 4 ["sheet", "line"] (F_number_of c)) : FnOk P w K mg base CX0 5 f fd ["sheet"] (spD K 1 (F_follows c)) :=
  fn_ok finK_ok F sc_follows fun cdv A outer s H E hr =>
    (show JSs _ _ (B_follows c) from (jsscons (jsset (i := 1) sc_follows.nd rfl (Or.inl rfl) (jfn D_lack_of (hr.mono (by omega)) (jacons (jv (pv 0)) janil)))
    (jsscons (jsif (jtcmp (jnotN (jv (pv 1)))) (jssone jsnever) jssnil)
    (jssone (jsret (jlcN (own := [("line", 2)]) (gr := (gName 2)) (ft := yesT) (f := (fnD (F_number_of c) [] (consA (varD 0) (consA (varD 2) nilA)))) (by rfl) sc_follows.nd (pi_range1 (by rfl) T.z_range (jacons (jcb call_len cbD_len T.z_len (by decide +kernel) (jacons (jix (jv (pv 0)) ji) janil)) janil)) li_r1 (blkOk_by (own := [("line", 2)]) (N := ["sheet", "lack", "line"]) (sc := defScope s_follows) (by decide +kernel)) (fun _ _ _ _ _ => (pg_name (i := 2) sc_follows.nd rfl (Or.inl rfl))) lw_nm (fun _ _ _ _ _ => jtsnil) (fun _ _ _ _ _ => (jfn D_number_of (hr.mono (by omega)) (jacons (jv (pv 0)) (jacons (jv (pv 2)) janil))))))))))
end

/-! ### _law_sets -/
abbrev s_Lsets : Stmt := top 21
theorem sc_Lsets : FnScope ["_law_a_sheet", "_law_rows", "_law_place", "_law_more_here", "_law_found", "_law_row", "_law_across", "_law_many", "_law_number", "_law_one", "_law_other", "_law_went"] ["_law_a_sheet"] (defScope s_Lsets) := ⟨rfl, rfl, rfl, by decide +kernel, rfl, by decide +kernel, by decide +kernel⟩
noncomputable def B_Lsets (c : Cs) : FS := (seqS (setS 1 (lstD (consA (tupD nilA) nilA)))
    (seqS (forS sqK (oneA (cbD sortGO (consA (op2D ixO (varD 0) (cD (.int 1))) nilA))) (tupAG 2 (consG (nmG 2) (consG (nmG 3) nilG)))
    (setS 1 (op2D addO (varD 1) (lcD sqK (oneA (varD 1)) (nmG 5) yesT (op2D catAO (varD 5) (tupD (consA (varD 2) nilA))) [5]))))
    (seqS (setS 4 (newD nilA))
    (seqS (forS sqK (oneA (slD slO (varD 1) (someO (cD (.int 1))) noO)) (nmG 5)
    (seqS (parS 6 7 (consA (lstD nilA) (consA (op1D negO (cbD sumO (consA (lcD sqK (oneA (op2D ixO (varD 0) (cD (.int 1)))) (tupAG 2 (consG (nmG 2) (consG (nmG 3) nilG))) (tvD (op2D inseqO (varD 2) (varD 5))) (varD 3) [2, 3]) nilA))) nilA)))
    (seqS (forS enAK (consA (op2D ixO (varD 0) (cD (.int 0))) nilA) (tupAG 2 (consG (nmG 8) (consG (tupAG 3 (consG (nmG 9) (consG (nmG 10) (consG (nmG 11) nilG)))) nilG)))
    (ifS (tvD (op2D neO (op2D inseqO (varD 9) (varD 5)) (op2D inseqO (varD 10) (varD 5)))) (seqS (setS 6 (op2D addO (varD 6) (op2D mulO (lstD (consA (varD 8) nilA)) (cbD int1O (consA (op1D (isNO false) (varD 11)) nilA)))))
    (setS 7 (op2D addO (varD 7) (op2D mulO (iteV (tvD (op1D (isNO false) (varD 11))) (cD (.int 0)) (varD 11)) (iteV (tvD (op2D inseqO (varD 10) (varD 5))) (cD (.int 1)) (op1D negO (cD (.int 1)))))))) nextS))
    (dropS (bmD isLoc appO (varD 4) (consA (tupD (consA (varD 5) (consA (varD 6) (consA (varD 7) nilA)))) nilA))))))
    (retS (varD 4))))))
noncomputable def F_Lsets (c : Cs) : Fn := bodyF fin 12 (B_Lsets c)
section
variable {P : Program} {w : World} {K : PySem.W.Frag} {mg : Str → Option Value} {base : Heap} {c : Cs}
theorem ok_Lsets {f : Addr} {fd : FuncData} (F : Fun K "_law_sets" "_law_sets" s_Lsets f fd) (T : Txt mg) (Z : Cz K c) : FnOk P w K mg base CX0 1 f fd ["_law_a_sheet"] (spD K 1 (F_Lsets c)) :=
  fn_ok fin_ok F sc_Lsets fun cdv A outer s H E hr =>
    (show JSs _ _ (B_Lsets c) from (jsscons (jsset (i := 1) sc_Lsets.nd rfl (Or.inl rfl) (jlst (jacons (jtup janil) janil)))
    (jsscons (jsfor PassesOwn.never rfl (pi_sq (jcb (cr_sortedG (un64 hr)) cbD_sortG T.z_sorted (by decide +kernel) (jacons (jix (jv (pv 0)) ji) janil))) li_sq (pg_unA rfl (pgs_cons (pg_name (i := 2) sc_Lsets.nd rfl (Or.inr rfl)) (pgs_cons (pg_name (i := 3) sc_Lsets.nd rfl (Or.inl rfl)) pgs_nil))) (lg_unA (lg_cons lg_nm (lg_cons lg_nm lg_nil)))
    (jssone (jsset (i := 1) sc_Lsets.nd rfl (Or.inl rfl) (jadd (jv (pv 1)) (jlc (own := [("_law_row", 5)]) (gr := (gName 5)) (ft := yesT) (f := (op2D catAO (varD 5) (tupD (consA (varD 2) nilA)))) (by rfl) sc_Lsets.nd (pi_sq (jv (pv 1))) li_sq (blkOk_by (own := [("_law_row", 5)]) (N := ["_law_a_sheet", "_law_rows", "_law_place", "_law_more_here", "_law_found", "_law_row", "_law_across", "_law_many", "_law_number", "_law_one", "_law_other", "_law_went"]) (sc := defScope s_Lsets) (by decide +kernel)) (fun _ _ _ _ _ => (pg_name (i := 5) sc_Lsets.nd rfl (Or.inl rfl))) lw_nm (fun _ _ _ _ _ => jtsnil) (fun _ _ _ _ _ => (jaddA (jv (pv 5)) (jtup (jacons (jv (pv 2)) janil)))))))))
    (jsscons (jsset (i := 4) sc_Lsets.nd rfl (Or.inl rfl) (jnew janil))
    (jsscons (jsfor PassesOwn.never rfl (pi_sq (jsl sl_any slD_any (jv (pv 1)) (josome ji) jonone)) li_sq (pg_name (i := 5) sc_Lsets.nd rfl (Or.inr rfl)) lg_nm
    (jsscons (jspar (i := 6) (j := 7) (by rfl) sc_Lsets.nd rfl rfl (by decide) rfl rfl (jacons (jlst janil) (jacons (jneg (jcb (cr_sum2 rfl) cbD_sum T.z_sum (by decide +kernel) (jacons (jlc (own := [("_law_place", 2), ("_law_more_here", 3)]) (gr := (gUnA K 2 (gCons (gName 2) (gCons (gName 3) gNil)))) (ft := (tvD (op2D inseqO (varD 2) (varD 5)))) (f := (varD 3)) (by rfl) sc_Lsets.nd (pi_sq (jix (jv (pv 0)) ji)) li_sq (blkOk_by (own := [("_law_place", 2), ("_law_more_here", 3)]) (N := ["_law_a_sheet", "_law_rows", "_law_place", "_law_more_here", "_law_found", "_law_row", "_law_across", "_law_many", "_law_number", "_law_one", "_law_other", "_law_went"]) (sc := defScope s_Lsets) (by decide +kernel)) (fun _ _ _ _ _ => (pg_unA rfl (pgs_cons (pg_name (i := 2) sc_Lsets.nd rfl (Or.inl rfl)) (pgs_cons (pg_name (i := 3) sc_Lsets.nd rfl (Or.inl rfl)) pgs_nil)))) (lw_unA (lw_cons lw_nm (lw_cons lw_nm lw_nil))) (fun _ _ _ _ _ => (jtsone (jtinseq (jv (pv 2)) (jv (pv 5))))) (fun _ _ _ _ _ => (jv (pv 3)))) janil))) janil)) (by rfl))
    (jsscons (jsfor PassesOwn.never rfl (pi_enumA (by rfl) T.z_enumerate (jacons (jix (jv (pv 0)) ji) janil)) li_enA (pg_unA rfl (pgs_cons (pg_name (i := 8) sc_Lsets.nd rfl (Or.inl rfl)) (pgs_cons (pg_unA rfl (pgs_cons (pg_name (i := 9) sc_Lsets.nd rfl (Or.inl rfl)) (pgs_cons (pg_name (i := 10) sc_Lsets.nd rfl (Or.inl rfl)) (pgs_cons (pg_name (i := 11) sc_Lsets.nd rfl (Or.inl rfl)) pgs_nil)))) pgs_nil))) (lg_unA (lg_cons lg_nm (lg_cons (lg_unA (lg_cons lg_nm (lg_cons lg_nm (lg_cons lg_nm lg_nil)))) lg_nil)))
    (jssone (jsif (jtne (jinseq (jv (pv 9)) (jv (pv 5))) (jinseq (jv (pv 10)) (jv (pv 5)))) (jsscons (jsset (i := 6) sc_Lsets.nd rfl (Or.inl rfl) (jadd (jv (pv 6)) (jmul (jlst (jacons (jv (pv 8)) janil)) (jct call_int1 cbD_int1 T.z_int (by decide +kernel) (jacons (jcmp (jisN (jv (pv 11)))) janil)))))
    (jssone (jsset (i := 7) sc_Lsets.nd rfl (Or.inl rfl) (jadd (jv (pv 7)) (jmul (jif (jtcmp (jisN (jv (pv 11)))) ji (jv (pv 11))) (jif (jtinseq (jv (pv 10)) (jv (pv 5))) ji (jneg ji))))))) jssnil)))
    (jssone (jsexpr (jbm PySem.F.plainAttrs_list PySem.F.slot_list_append PySem.F.type_list_append mt_append mtD_app (jv (pv 4)) (jacons (jtup (jacons (jv (pv 5)) (jacons (jv (pv 6)) (jacons (jv (pv 7)) janil)))) janil)))))))
    (jssone (jsret (jv (pv 4)))))))))
end

/-! ### _law_numbers -/
abbrev s_Lnumbers : Stmt := top 23
theorem sc_Lnumbers : FnScope ["_law_a_sheet", "_law_sets_here", "_law_found", "_law_number", "_law_one", "_law_other", "_law_many", "_law_some", "_law_told", "_law_row", "_law_across", "_law_much"] ["_law_a_sheet"] (defScope s_Lnumbers) := ⟨rfl, rfl, rfl, by decide +kernel, rfl, by decide +kernel, by decide +kernel⟩
noncomputable def B_Lnumbers (c : Cs) : FS := (seqS (parS 1 2 (consA (fnD (F_Lsets c) [] (consA (varD 0) nilA)) (consA (newD nilA) nilA)))
    (seqS (forS enAK (consA (op2D ixO (varD 0) (cD (.int 0))) nilA) (tupAG 2 (consG (nmG 3) (consG (tupAG 3 (consG (nmG 4) (consG (nmG 5) (consG (nmG 6) nilG)))) nilG)))
    (seqS (setS 7 (lcD sqK (oneA (varD 1)) (tupAG 3 (consG (nmG 9) (consG (nmG 10) (consG (nmG 11) nilG)))) (tvD (op2D eqDO (varD 10) (lstD (consA (varD 3) nilA)))) (tupD (consA (varD 9) (consA (varD 11) nilA))) [9, 10, 11]))
    (seqS (setS 8 (lcD sqK (oneA (varD 7)) (tupAG 2 (consG (nmG 9) (consG (nmG 11) nilG))) yesT (iteV (tvD (op2D inseqO (varD 5) (varD 9))) (op2D subO (cD (.int 0)) (varD 11)) (varD 11)) [9, 11]))
    (ifS (orD (tvD (op1D (isNO true) (varD 6))) (tvD (op2D eqEO (varD 7) (lstD nilA)))) (dropS (bmD isLoc appO (varD 2) (consA (varD 6) nilA))) (dropS (bmD isLoc appO (varD 2) (consA (iteV (tvD (op2D eqDO (varD 8) (op2D mulO (lstD (consA (op2D ixO (varD 8) (cD (.int 0))) nilA)) (cbD lenO (consA (varD 8) nilA))))) (op2D ixO (varD 8) (cD (.int 0))) (cD (.str "two"))) nilA)))))))
    (retS (varD 2))))
noncomputable def F_Lnumbers (c : Cs) : Fn := bodyF fin 12 (B_Lnumbers c)
section
variable {P : Program} {w : World} {K : PySem.W.Frag} {mg : Str → Option Value} {base : Heap} {c : Cs}
theorem ok_Lnumbers {f : Addr} {fd : FuncData} (F : Fun K "_law_numbers" "_law_numbers" s_Lnumbers f fd) (T : Txt mg) (Z : Cz K c)
    (D_Lsets : Df P w K mg base "_law_sets" 1 ["_law_a_sheet"] (F_Lsets c)) : FnOk P w K mg base CX0 2 f fd ["_law_a_sheet"] (spD K 1 (F_Lnumbers c)) :=
  fn_ok fin_ok F sc_Lnumbers fun cdv A outer s H E hr =>
    (show JSs _ _ (B_Lnumbers c) from (jsscons (jspar (i := 1) (j := 2) (by rfl) sc_Lnumbers.nd rfl rfl (by decide) rfl rfl (jacons (jfn D_Lsets (hr.mono (by omega)) (jacons (jv (pv 0)) janil)) (jacons (jnew janil) janil)) (by rfl))
    (jsscons (jsfor PassesOwn.never rfl (pi_enumA (by rfl) T.z_enumerate (jacons (jix (jv (pv 0)) ji) janil)) li_enA (pg_unA rfl (pgs_cons (pg_name (i := 3) sc_Lnumbers.nd rfl (Or.inr rfl)) (pgs_cons (pg_unA rfl (pgs_cons (pg_name (i := 4) sc_Lnumbers.nd rfl (Or.inl rfl)) (pgs_cons (pg_name (i := 5) sc_Lnumbers.nd rfl (Or.inr rfl)) (pgs_cons (pg_name (i := 6) sc_Lnumbers.nd rfl (Or.inl rfl)) pgs_nil)))) pgs_nil))) (lg_unA (lg_cons lg_nm (lg_cons (lg_unA (lg_cons lg_nm (lg_cons lg_nm (lg_cons lg_nm lg_nil)))) lg_nil)))
    (jsscons (jssetLc (i := 7) (own := [("_law_row", 9), ("_law_across", 10), ("_law_much", 11)]) (gr := (gUnA K 3 (gCons (gName 9) (gCons (gName 10) (gCons (gName 11) gNil))))) (ft := (tvD (op2D eqDO (varD 10) (lstD (consA (varD 3) nilA))))) (f := (tupD (consA (varD 9) (consA (varD 11) nilA)))) (by rfl) sc_Lnumbers.nd rfl rfl (sw_true rfl rfl rfl (by decide +kernel)) (pi_sq (jv (pv 1))) li_sq (blkOk_by (own := [("_law_row", 9), ("_law_across", 10), ("_law_much", 11)]) (N := ["_law_a_sheet", "_law_sets_here", "_law_found", "_law_number", "_law_one", "_law_other", "_law_many", "_law_some", "_law_told", "_law_row", "_law_across", "_law_much"]) (sc := defScope s_Lnumbers) (by decide +kernel)) (fun _ _ _ _ _ => (pg_unA rfl (pgs_cons (pg_name (i := 9) sc_Lnumbers.nd rfl (Or.inl rfl)) (pgs_cons (pg_name (i := 10) sc_Lnumbers.nd rfl (Or.inl rfl)) (pgs_cons (pg_name (i := 11) sc_Lnumbers.nd rfl (Or.inl rfl)) pgs_nil))))) (lw_unA (lw_cons lw_nm (lw_cons lw_nm (lw_cons lw_nm lw_nil)))) (fun _ _ _ _ _ => (jtsone (jteqD (un64 hr) (jv (pv 10)) (jlst (jacons (jv (pv 3)) janil))))) (fun _ _ _ _ _ => (jtup (jacons (jv (pv 9)) (jacons (jv (pv 11)) janil)))))
    (jsscons (jssetLc (i := 8) (own := [("_law_row", 9), ("_law_much", 11)]) (gr := (gUnA K 2 (gCons (gName 9) (gCons (gName 11) gNil)))) (ft := yesT) (f := (iteV (tvD (op2D inseqO (varD 5) (varD 9))) (op2D subO (cD (.int 0)) (varD 11)) (varD 11))) (by rfl) sc_Lnumbers.nd rfl rfl (sw_true rfl rfl rfl (by decide +kernel)) (pi_sq (jv (pv 7))) li_sq (blkOk_by (own := [("_law_row", 9), ("_law_much", 11)]) (N := ["_law_a_sheet", "_law_sets_here", "_law_found", "_law_number", "_law_one", "_law_other", "_law_many", "_law_some", "_law_told", "_law_row", "_law_across", "_law_much"]) (sc := defScope s_Lnumbers) (by decide +kernel)) (fun _ _ _ _ _ => (pg_unA rfl (pgs_cons (pg_name (i := 9) sc_Lnumbers.nd rfl (Or.inl rfl)) (pgs_cons (pg_name (i := 11) sc_Lnumbers.nd rfl (Or.inl rfl)) pgs_nil)))) (lw_unA (lw_cons lw_nm (lw_cons lw_nm lw_nil))) (fun _ _ _ _ _ => jtsnil) (fun _ _ _ _ _ => (jif (jtinseq (jv (pv 5)) (jv (pv 9))) (jsub ji (jv (pv 11))) (jv (pv 11)))))
    (jssone (jsif (jwt (jwor (jtcmp (jnotN (jv (pv 6)))) (jwor1 (jteqE (un64 hr) (jv (pv 7)) (jlst janil))))) (jssone (jsexpr (jbm PySem.F.plainAttrs_list PySem.F.slot_list_append PySem.F.type_list_append mt_append mtD_app (jv (pv 2)) (jacons (jv (pv 6)) janil)))) (jssone (jsexpr (jbm PySem.F.plainAttrs_list PySem.F.slot_list_append PySem.F.type_list_append mt_append mtD_app (jv (pv 2)) (jacons (jif (jteqD (un64 hr) (jv (pv 8)) (jmul (jlst (jacons (jix (jv (pv 8)) ji) janil)) (jcb call_len cbD_len T.z_len (by decide +kernel) (jacons (jv (pv 8)) janil)))) (jix (jv (pv 8)) ji) js) janil)))))))))
    (jssone (jsret (jv (pv 2)))))))
end

/-! ### _law_same -/
abbrev s_Lsame : Stmt := top 16
theorem sc_Lsame : FnScope ["_law_found", "_law_due", "_law_one", "_law_other"] ["_law_found", "_law_due"] (defScope s_Lsame) := ⟨rfl, rfl, rfl, by decide +kernel, rfl, by decide +kernel, by decide +kernel⟩
noncomputable def F_Lsame (c : Cs) : Nat → Fn
  | 0 => fun _ _ => none
  | n + 1 => bodyF fin 4 (seqS (ifS (tvD (cbD isiTO (consA (varD 1) (consA (tupD (consA (cD (.ty "list")) (consA (cD (.ty "tuple")) nilA))) nilA)))) (seqS (ifS (orD (tvD (op2D neO (cbD isiO (consA (varD 0) (consA (cD (.ty "list")) nilA))) (cbD isiO (consA (varD 1) (consA (cD (.ty "list")) nilA))))) (tvD (op2D neO (cbD isiO (consA (varD 0) (consA (cD (.ty "tuple")) nilA))) (cbD isiO (consA (varD 1) (consA (cD (.ty "tuple")) nilA)))))) (retS (cD (.bl false))) nextS)
    (retS (andV (op2D eqO (cbD lenO (consA (varD 0) nilA)) (cbD lenO (consA (varD 1) nilA))) (cbD allO (consA (lcD zpK2 (consA (varD 0) (consA (varD 1) nilA)) (tupAG 2 (consG (nmG 2) (consG (nmG 3) nilG))) yesT (fnD (F_Lsame c n) [] (consA (varD 2) (consA (varD 3) nilA))) [2, 3]) nilA))))) nextS)
    (seqS (ifS (orD (tvD (op1D (isNO false) (varD 1))) (tvD (cbD isiTO (consA (varD 1) (consA (tupD (consA (cD (.ty "str")) (consA (cD (.ty "bool")) nilA))) nilA))))) (retS (andV (op2D eqO (cbD isiO (consA (varD 0) (consA (cD (.ty "bool")) nilA))) (cbD isiO (consA (varD 1) (consA (cD (.ty "bool")) nilA)))) (op2D eqO (varD 0) (varD 1)))) nextS)
    (retS (andV (cbD isiO (consA (varD 0) (consA (cD (.ty "int")) nilA))) (andV (notV (cbD isiO (consA (varD 0) (consA (cD (.ty "bool")) nilA)))) (op2D eqO (varD 0) (varD 1)))))))
section
variable {P : Program} {w : World} {K : PySem.W.Frag} {mg : Str → Option Value} {base : Heap} {c : Cs}
theorem ok_Lsame {f : Addr} {fd : FuncData} (F : Fun K "_law_same" "_law_same" s_Lsame f fd) (T : Txt mg) (Z : Cz K c) (hm : mg "_law_same" = some (.ref f)) (hb : Binds K fd ["_law_found", "_law_due"] []) :
    ∀ n : Nat, FnOk P w K mg base CX0 (1 + n) f fd ["_law_found", "_law_due"] (spD K 2 (F_Lsame c n))
  | 0 => ⟨fun _ _ _ _ h => spD_len h, fun _ _ _ _ _ _ _ _ _ _ _ _ _ h => by obtain ⟨_, _, _, _, _, _, _, _, e, _⟩ := h; cases e⟩
  | n + 1 => by
    have D_Lsame : Df P w K mg base "_law_same" (1 + n) ["_law_found", "_law_due"] (F_Lsame c n) := ⟨⟨_, _, ok_Lsame F T Z hm hb n, hm, F.kp, hb⟩⟩
    exact fn_ok fin_ok F sc_Lsame fun cdv A outer s H E hr => (jsscons (jsif (jtv (jcb call_isiT cbD_isiT T.z_isinstance (by decide +kernel) (jacons (jv (pv 1)) (jacons (jtup (jacons (jty T.z_list (by decide +kernel)) (jacons (jty T.z_tuple (by decide +kernel)) janil))) janil)))) (jsscons (jsif (jwt (jwor (jtne (jcb call_isi cbD_isi T.z_isinstance (by decide +kernel) (jacons (jv (pv 0)) (jacons (jty T.z_list (by decide +kernel)) janil))) (jcb call_isi cbD_isi T.z_isinstance (by decide +kernel) (jacons (jv (pv 1)) (jacons (jty T.z_list (by decide +kernel)) janil)))) (jwor1 (jtne (jcb call_isi cbD_isi T.z_isinstance (by decide +kernel) (jacons (jv (pv 0)) (jacons (jty T.z_tuple (by decide +kernel)) janil))) (jcb call_isi cbD_isi T.z_isinstance (by decide +kernel) (jacons (jv (pv 1)) (jacons (jty T.z_tuple (by decide +kernel)) janil))))))) (jssone (jsret jb)) jssnil)
    (jssone (jsret (jand (jeq (jcb call_len cbD_len T.z_len (by decide +kernel) (jacons (jv (pv 0)) janil)) (jcb call_len cbD_len T.z_len (by decide +kernel) (jacons (jv (pv 1)) janil))) (jone (jcb (cr_all rfl) cbD_all T.z_all (by decide +kernel) (jacons (jlc (own := [("_law_one", 2), ("_law_other", 3)]) (gr := (gUnA K 2 (gCons (gName 2) (gCons (gName 3) gNil)))) (ft := yesT) (f := (fnD (F_Lsame c n) [] (consA (varD 2) (consA (varD 3) nilA)))) (by rfl) sc_Lsame.nd (RZ.pi_zipA (by rfl) T.z_zip (jacons (jv (pv 0)) (jacons (jv (pv 1)) janil))) li_zp (blkOk_by (own := [("_law_one", 2), ("_law_other", 3)]) (N := ["_law_found", "_law_due", "_law_one", "_law_other"]) (sc := defScope s_Lsame) (by decide +kernel)) (fun _ _ _ _ _ => (pg_unA rfl (pgs_cons (pg_name (i := 2) sc_Lsame.nd rfl (Or.inl rfl)) (pgs_cons (pg_name (i := 3) sc_Lsame.nd rfl (Or.inl rfl)) pgs_nil)))) (lw_unA (lw_cons lw_nm (lw_cons lw_nm lw_nil))) (fun _ _ _ _ _ => jtsnil) (fun _ _ _ _ _ => (jfn D_Lsame (hr.mono (Nat.le_refl _)) (jacons (jv (pv 2)) (jacons (jv (pv 3)) janil))))) janil))))))) jssnil)
    (jsscons (jsif (jwt (jwor (jtcmp (jisN (jv (pv 1)))) (jwor1 (jtv (jcb call_isiT cbD_isiT T.z_isinstance (by decide +kernel) (jacons (jv (pv 1)) (jacons (jtup (jacons (jty T.z_str (by decide +kernel)) (jacons (jty T.z_bool (by decide +kernel)) janil))) janil))))))) (jssone (jsret (jand (jeq (jcb call_isi cbD_isi T.z_isinstance (by decide +kernel) (jacons (jv (pv 0)) (jacons (jty T.z_bool (by decide +kernel)) janil))) (jcb call_isi cbD_isi T.z_isinstance (by decide +kernel) (jacons (jv (pv 1)) (jacons (jty T.z_bool (by decide +kernel)) janil)))) (jone (jeq (jv (pv 0)) (jv (pv 1))))))) jssnil)
    (jssone (jsret (jand (jcb call_isi cbD_isi T.z_isinstance (by decide +kernel) (jacons (jv (pv 0)) (jacons (jty T.z_int (by decide +kernel)) janil))) (jand (jnot (jcb call_isi cbD_isi T.z_isinstance (by decide +kernel) (jacons (jv (pv 0)) (jacons (jty T.z_bool (by decide +kernel)) janil)))) (jone (jeq (jv (pv 0)) (jv (pv 1))))))))))
end

/-! ### law -/
abbrev s_law : Stmt := top 24
theorem sc_law : FnScope ["_law_script", "_law_k", "_law_tape_here", "_law_turn", "_law_lines_here", "_law_some", "_law_counted_here", "_law_a_sheet", "_law_due", "_law_kept", "_law_found", "_law_handed", "_law_seen", "_law_one", "_law_line"] ["_law_script"] (defScope s_law) := ⟨rfl, rfl, rfl, by decide +kernel, rfl, by decide +kernel, by decide +kernel⟩
noncomputable def B_law (c : Cs) : FS := (seqS (forS r1K (consA (cbD max2O (consA (cD (.int 2)) (consA (cbD min2O (consA (cbD lenO (consA (varD 0) nilA)) (consA (cD (.int 3)) nilA))) nilA))) nilA) (nmG 1)
    (seqS (setS 2 (fnD (F_Ltape c) [] (consA (varD 0) (consA (varD 1) nilA))))
    (forS r1K (consA (cD (.int 4)) nilA) (nmG 3)
    (seqS (asgS (fnD (F_Lcase c) [] (consA (varD 2) nilA)) (tupAG 3 (consG (nmG 4) (consG (nmG 5) (consG (nmG 6) nilG)))))
    (seqS (setS 7 (tupD (consA (varD 5) (consA (varD 6) nilA))))
    (seqS (parS 8 9 (consA (fnD (F_Lnumbers c) [] (consA (varD 7) nilA)) (consA (cbD showO (consA (varD 7) nilA)) nilA)))
    (seqS (ifS (notD (tvD (cbD allO (consA (lcD zpK2 (consA (varD 8) (consA (varD 4) nilA)) (tupAG 2 (consG (nmG 13) (consG (nmG 14) nilG))) yesT (orV (op1D (isNO false) (varD 13)) (op2D eqO (varD 13) (op2D ixO (varD 14) (cD (.int 2))))) [13, 14]) nilA)))) (retS (cD (.bl false))) nextS)
    (seqS (setS 10 (fnD (F_follows c) [] (consA (varD 7) nilA)))
    (seqS (ifS (notD (tvD (fnD (F_Lsame c 8) [] (consA (varD 10) (consA (varD 8) nilA))))) (retS (cD (.bl false))) nextS)
    (seqS (dropS (bmD isLoc appO (varD 10) (consA (cD (.int 7)) nilA)))
    (seqS (dropS (bmD isLoc revO (varD 10) nilA))
    (seqS (ifS (orD (notD (tvD (fnD (F_Lsame c 8) [] (consA (fnK (F_follows c) [.k 0] [] nilA (consA (tupD (consA (cbD tupleO (consA (varD 5) nilA)) (consA (cbD tupleO (consA (varD 6) nilA)) nilA))) nilA)) (consA (varD 8) nilA))))) (tvD (op2D neO (cbD showO (consA (varD 7) nilA)) (varD 9)))) (retS (cD (.bl false))) nextS)
    (seqS (setS 11 (lstD (consA (lcD sqK (oneA (varD 5)) (nmG 13) yesT (cbD listO (consA (varD 13) nilA)) [13]) (consA (lcD sqK (oneA (varD 6)) (nmG 13) yesT (cbD listO (consA (varD 13) nilA)) [13]) nilA))))
    (seqS (setS 12 (cbD showO (consA (varD 11) nilA)))
    (seqS (ifS (orD (notD (tvD (fnD (F_Lsame c 8) [] (consA (fnD (F_follows c) [] (consA (varD 11) nilA)) (consA (varD 8) nilA))))) (tvD (op2D neO (cbD showO (consA (varD 11) nilA)) (varD 12)))) (retS (cD (.bl false))) nextS)
    (ifS (notD (tvD (fnD (F_Lsame c 8) [] (consA (fnD (F_follows c) [] (consA (lstD (consA (varD 5) (consA (varD 6) nilA))) nilA)) (consA (varD 8) nilA))))) (retS (cD (.bl false))) nextS))))))))))))))))
    (retS (cD (.bl true))))
noncomputable def F_law (c : Cs) : Fn := bodyF fin 15 (B_law c)
section
variable {P : Program} {w : World} {K : PySem.W.Frag} {mg : Str → Option Value} {base : Heap} {c : Cs}
theorem ok_law {f : Addr} {fd : FuncData} (F : Fun K "law" "law" s_law f fd) (T : Txt mg) (Z : Cz K c)
    (D_Ltape : Df P w K mg base "_law_tape" 1 ["_law_script", "_law_k"] (F_Ltape c))
    (D_Lcase : Df P w K mg base "_law_case" 3 ["_law_tape_here"] (F_Lcase c))
    (D_follows : Df P w K mg base "follows" 5 ["sheet"] (F_follows c))
    (D_Lnumbers : Df P w K mg base "_law_numbers" 2 ["_law_a_sheet"] (F_Lnumbers c))
    (D_Lsame : Df P w K mg base "_law_same" 9 ["_law_found", "_law_due"] (F_Lsame c 8))
    (D_follows_K0_sheet : DfN P w K mg base "follows" 5 ["sheet"] 0 ["sheet"] [.k 0] [] (F_follows c)) : FnG P w K mg base 10 f fd ["_law_script"] (spD K 1 (F_law c)) :=
  fn_okG fin_ok F sc_law fun cdv A outer s H E hr gd =>
    (show JSs _ _ (B_law c) from (jsscons (jsfor PassesOwn.never rfl (pi_range1 (by rfl) T.z_range (jacons (jcb (call_max2 rfl) cbD_max2 T.z_max (by decide +kernel) (jacons ji (jacons (jcb (call_min2 rfl) cbD_min2 T.z_min (by decide +kernel) (jacons (jcb call_len cbD_len T.z_len (by decide +kernel) (jacons (jv (pv 0)) janil)) (jacons ji janil))) janil))) janil)) li_r1 (pg_name (i := 1) sc_law.nd rfl (Or.inl rfl)) lg_nm
    (jsscons (jsset (i := 2) sc_law.nd rfl (Or.inl rfl) (jfn D_Ltape (hr.mono (by omega)) (jacons (jv (pv 0)) (jacons (jv (pv 1)) janil))))
    (jssone (jsfor PassesOwn.never rfl (pi_range1 (by rfl) T.z_range (jacons ji janil)) li_r1 (pg_name (i := 3) sc_law.nd rfl (Or.inl rfl)) lg_nm
    (jsscons (jsasg (jfn D_Lcase (hr.mono (by omega)) (jacons (jv (pv 2)) janil)) (pg_unA rfl (pgs_cons (pg_name (i := 4) sc_law.nd rfl (Or.inl rfl)) (pgs_cons (pg_name (i := 5) sc_law.nd rfl (Or.inl rfl)) (pgs_cons (pg_name (i := 6) sc_law.nd rfl (Or.inl rfl)) pgs_nil)))) (lg_unA (lg_cons lg_nm (lg_cons lg_nm (lg_cons lg_nm lg_nil)))))
    (jsscons (jsset (i := 7) sc_law.nd rfl (Or.inl rfl) (jtup (jacons (jv (pv 5)) (jacons (jv (pv 6)) janil))))
    (jsscons (jspar (i := 8) (j := 9) (by rfl) sc_law.nd rfl rfl (by decide) rfl rfl (jacons (jfn D_Lnumbers (hr.mono (by omega)) (jacons (jv (pv 7)) janil)) (jacons (jcb (call_reprG gd (un64 hr)) cbD_show T.z_repr (by decide +kernel) (jacons (jv (pv 7)) janil)) janil)) (by rfl))
    (jsscons (jsif (jtnot (jtv (jcb (cr_all rfl) cbD_all T.z_all (by decide +kernel) (jacons (jlc (own := [("_law_one", 13), ("_law_line", 14)]) (gr := (gUnA K 2 (gCons (gName 13) (gCons (gName 14) gNil)))) (ft := yesT) (f := (orV (op1D (isNO false) (varD 13)) (op2D eqO (varD 13) (op2D ixO (varD 14) (cD (.int 2)))))) (by rfl) sc_law.nd (RZ.pi_zipA (by rfl) T.z_zip (jacons (jv (pv 8)) (jacons (jv (pv 4)) janil))) li_zp (blkOk_by (own := [("_law_one", 13), ("_law_line", 14)]) (N := ["_law_script", "_law_k", "_law_tape_here", "_law_turn", "_law_lines_here", "_law_some", "_law_counted_here", "_law_a_sheet", "_law_due", "_law_kept", "_law_found", "_law_handed", "_law_seen", "_law_one", "_law_line"]) (sc := defScope s_law) (by decide +kernel)) (fun _ _ _ _ _ => (pg_unA rfl (pgs_cons (pg_name (i := 13) sc_law.nd rfl (Or.inl rfl)) (pgs_cons (pg_name (i := 14) sc_law.nd rfl (Or.inl rfl)) pgs_nil)))) (lw_unA (lw_cons lw_nm (lw_cons lw_nm lw_nil))) (fun _ _ _ _ _ => jtsnil) (fun _ _ _ _ _ => (jor (jcmp (jisN (jv (pv 13)))) (jone (jeq (jv (pv 13)) (jix (jv (pv 14)) ji)))))) janil)))) (jssone (jsret jb)) jssnil)
    (jsscons (jsset (i := 10) sc_law.nd rfl (Or.inl rfl) (jfn D_follows (hr.mono (by omega)) (jacons (jv (pv 7)) janil)))
    (jsscons (jsif (jtnot (jtv (jfn D_Lsame (hr.mono (by omega)) (jacons (jv (pv 10)) (jacons (jv (pv 8)) janil))))) (jssone (jsret jb)) jssnil)
    (jsscons (jsexpr (jbm PySem.F.plainAttrs_list PySem.F.slot_list_append PySem.F.type_list_append mt_append mtD_app (jv (pv 10)) (jacons ji janil)))
    (jsscons (jsexpr (jbm0 PySem.F.plainAttrs_list PySem.F.slot_list_reverse PySem.F.type_list_reverse mt_reverse mtD_rev (jv (pv 10))))
    (jsscons (jsif (jwt (jwor (jtnot (jtv (jfn D_Lsame (hr.mono (by omega)) (jacons (jfnK0 D_follows_K0_sheet (fun _ _ => .nil) (hr.mono (by omega)) (jkcons (jtup (jacons (jct call_tuple_of cbD_tuple T.z_tuple (by decide +kernel) (jacons (jv (pv 5)) janil)) (jacons (jct call_tuple_of cbD_tuple T.z_tuple (by decide +kernel) (jacons (jv (pv 6)) janil)) janil))) jknil) (fun ws h => match ws, h with | [_], _ => rfl)) (jacons (jv (pv 8)) janil))))) (jwor1 (jtne (jcb (call_reprG gd (un64 hr)) cbD_show T.z_repr (by decide +kernel) (jacons (jv (pv 7)) janil)) (jv (pv 9)))))) (jssone (jsret jb)) jssnil)
    (jsscons (jsset (i := 11) sc_law.nd rfl (Or.inl rfl) (jlst (jacons (jlc (own := [("_law_one", 13)]) (gr := (gName 13)) (ft := yesT) (f := (cbD listO (consA (varD 13) nilA))) (by rfl) sc_law.nd (pi_sq (jv (pv 5))) li_sq (blkOk_by (own := [("_law_one", 13)]) (N := ["_law_script", "_law_k", "_law_tape_here", "_law_turn", "_law_lines_here", "_law_some", "_law_counted_here", "_law_a_sheet", "_law_due", "_law_kept", "_law_found", "_law_handed", "_law_seen", "_law_one", "_law_line"]) (sc := defScope s_law) (by decide +kernel)) (fun _ _ _ _ _ => (pg_name (i := 13) sc_law.nd rfl (Or.inl rfl))) lw_nm (fun _ _ _ _ _ => jtsnil) (fun _ _ _ _ _ => (jct call_list_of cbD_list T.z_list (by decide +kernel) (jacons (jv (pv 13)) janil)))) (jacons (jlc (own := [("_law_one", 13)]) (gr := (gName 13)) (ft := yesT) (f := (cbD listO (consA (varD 13) nilA))) (by rfl) sc_law.nd (pi_sq (jv (pv 6))) li_sq (blkOk_by (own := [("_law_one", 13)]) (N := ["_law_script", "_law_k", "_law_tape_here", "_law_turn", "_law_lines_here", "_law_some", "_law_counted_here", "_law_a_sheet", "_law_due", "_law_kept", "_law_found", "_law_handed", "_law_seen", "_law_one", "_law_line"]) (sc := defScope s_law) (by decide +kernel)) (fun _ _ _ _ _ => (pg_name (i := 13) sc_law.nd rfl (Or.inl rfl))) lw_nm (fun _ _ _ _ _ => jtsnil) (fun _ _ _ _ _ => (jct call_list_of cbD_list T.z_list (by decide +kernel) (jacons (jv (pv 13)) janil)))) janil))))
    (jsscons (jsset (i := 12) sc_law.nd rfl (Or.inl rfl) (jcb (call_reprG gd (un64 hr)) cbD_show T.z_repr (by decide +kernel) (jacons (jv (pv 11)) janil)))
    (jsscons (jsif (jwt (jwor (jtnot (jtv (jfn D_Lsame (hr.mono (by omega)) (jacons (jfn D_follows (hr.mono (by omega)) (jacons (jv (pv 11)) janil)) (jacons (jv (pv 8)) janil))))) (jwor1 (jtne (jcb (call_reprG gd (un64 hr)) cbD_show T.z_repr (by decide +kernel) (jacons (jv (pv 11)) janil)) (jv (pv 12)))))) (jssone (jsret jb)) jssnil)
    (jssone (jsif (jtnot (jtv (jfn D_Lsame (hr.mono (by omega)) (jacons (jfn D_follows (hr.mono (by omega)) (jacons (jlst (jacons (jv (pv 5)) (jacons (jv (pv 6)) janil))) janil)) (jacons (jv (pv 8)) janil))))) (jssone (jsret jb)) jssnil))))))))))))))))))
    (jssone (jsret jb))))
end

end HP
namespace HP
open PySem L2 DL
local macro_rules | `(tactic| walk_at "ev") => `(tactic| simp only [fits_iff, varD_ap, cD_ap, op2D_ap, op1D_ap, tvD_ap, truD_ap, notD_ap, andD_ap, orD_ap, andV_ap, orV_ap, notV_ap, iteV_ap, chainD_ap, nilA_ap, consA_ap, oneA_ap, tupD_ap, lstD_ap, newD_ap, noO_ap, someO_ap, slD_ap, cbD_ap, fnD_ap, methD_ap, mkD_ap, bmD_ap, fldD_ap, nextS_ap, onNx_nx, onNx_rt, onNx_bk, onNx_ct, seqS_ap, ifS_ap, retS_ap, retNS_ap, dropS_ap, asgS_ap, setS_ap, parS_ap, parS3_ap, augS_ap, fldS_ap, nmG_ap, nilG_ap, consG_ap, tupG_ap, subG_ap, forS_ap, lcD_ap, lcDN_ap, bodyF_ap, endB_rt, endB_nx, finK_ap, isB_bl, isI_int, cmpO_int, int0_int, addO_int, subO_int, mulO_int, modO_int, fdivO_int, powO_int, obL_lst, obI_ins, ixv_lst, ixv_rol, ixv_tup, ixv_str, isStrv, lsv_lst, lsv_rol, lsv_tup, lsv_loc, plv_lst, plv_loc, tpv_tup, sqv_lst, sqv_rol, sqv_tup, sqv_loc, ixv_loc, setL_loc, app_loc, isLoc_loc, fsv_loc, fsv_ins, tyv_loc, tyv_non, tyv_bl, tyv_int, tyv_str, tyv_tup, tyv_lst, truv_loc, isNv_non, isNv_int, isNv_lst, isNv_loc, isNv_tup, isNv_rol, sqK_1, enK_1, r1K_1, r2K_1, lenv_lst, lenv_rol, lenv_tup, lenv_loc, lenv_str, absv, max2v, min2v, int1v_i, int1v_b, tuplev_lst, tuplev_tup, eqv_int, eqv_str, eqv_bl, nev_int, nev_bl, isN_ap, isiv, isiTv, allv, anyv, sortv, addv_ll, addv_cl, addv_str, mulv_li, slv_lst, slv_loc, atI_0,
  bd_some, bd_none, Option.bind_some, Option.bind_none, List.map_cons, List.map_nil, List.cons_append, List.nil_append, List.append_nil, List.length_cons, List.length_nil, List.replicate_succ, List.replicate_zero, Nat.reduceAdd, Nat.reduceSub, List.getElem?_cons_succ, List.getElem?_cons_zero, List.set_cons_succ, List.set_cons_zero, List.set_nil, List.isEmpty_nil, List.isEmpty_cons, Bool.and_true, Bool.and_false, Bool.true_and, Bool.false_and, false_and, and_false, if_true, if_false, decide_true, decide_false, Bool.false_eq_true, reduceIte, ite_true, ite_false, Nat.reduceLeDiff, Nat.reduceLT, Nat.zero_add, Option.isSome_some, Bool.not_true, Bool.not_false, and_self, true_and, and_true, or_true, true_or, not_true, not_false_eq_true])
local macro_rules | `(tactic| walk_at "ev*") => `(tactic| simp only [fits_iff, varD_ap, cD_ap, op2D_ap, op1D_ap, tvD_ap, truD_ap, notD_ap, andD_ap, orD_ap, andV_ap, orV_ap, notV_ap, iteV_ap, chainD_ap, nilA_ap, consA_ap, oneA_ap, tupD_ap, lstD_ap, newD_ap, noO_ap, someO_ap, slD_ap, cbD_ap, fnD_ap, methD_ap, mkD_ap, bmD_ap, fldD_ap, nextS_ap, onNx_nx, onNx_rt, onNx_bk, onNx_ct, seqS_ap, ifS_ap, retS_ap, retNS_ap, dropS_ap, asgS_ap, setS_ap, parS_ap, parS3_ap, augS_ap, fldS_ap, nmG_ap, nilG_ap, consG_ap, tupG_ap, subG_ap, forS_ap, lcD_ap, lcDN_ap, bodyF_ap, endB_rt, endB_nx, finK_ap, isB_bl, isI_int, cmpO_int, int0_int, addO_int, subO_int, mulO_int, modO_int, fdivO_int, powO_int, obL_lst, obI_ins, ixv_lst, ixv_rol, ixv_tup, ixv_str, isStrv, lsv_lst, lsv_rol, lsv_tup, lsv_loc, plv_lst, plv_loc, tpv_tup, sqv_lst, sqv_rol, sqv_tup, sqv_loc, ixv_loc, setL_loc, app_loc, isLoc_loc, fsv_loc, fsv_ins, tyv_loc, tyv_non, tyv_bl, tyv_int, tyv_str, tyv_tup, tyv_lst, truv_loc, isNv_non, isNv_int, isNv_lst, isNv_loc, isNv_tup, isNv_rol, sqK_1, enK_1, r1K_1, r2K_1, lenv_lst, lenv_rol, lenv_tup, lenv_loc, lenv_str, absv, max2v, min2v, int1v_i, int1v_b, tuplev_lst, tuplev_tup, eqv_int, eqv_str, eqv_bl, nev_int, nev_bl, isN_ap, isiv, isiTv, allv, anyv, sortv, addv_ll, addv_cl, addv_str, mulv_li, slv_lst, slv_loc, atI_0,
  bd_some, bd_none, Option.bind_some, Option.bind_none, List.map_cons, List.map_nil, List.cons_append, List.nil_append, List.append_nil, List.length_cons, List.length_nil, List.replicate_succ, List.replicate_zero, Nat.reduceAdd, Nat.reduceSub, List.getElem?_cons_succ, List.getElem?_cons_zero, List.set_cons_succ, List.set_cons_zero, List.set_nil, List.isEmpty_nil, List.isEmpty_cons, Bool.and_true, Bool.and_false, Bool.true_and, Bool.false_and, false_and, and_false, if_true, if_false, decide_true, decide_false, Bool.false_eq_true, reduceIte, ite_true, ite_false, Nat.reduceLeDiff, Nat.reduceLT, Nat.zero_add, Option.isSome_some, Bool.not_true, Bool.not_false, and_self, true_and, and_true, or_true, true_or, not_true, not_false_eq_true, *])
/-! ### a tape at a place -/
def TapeD (a b k : Int) : Ob := .lst [.int a, .int b, .int k]
structure TapeOk (a b k n : Int) : Prop where
  a0 : 0 ≤ a
  b0 : 0 ≤ b
  b1 : b ≤ 2305843009300000000
  k0 : 0 ≤ k
  k1 : k ≤ n
theorem draw_ok (c : Cs) {S : Sg} {t : Nat} {a b k n many : Int} (h : S[t]? = some (TapeD a b k)) (T : TapeOk a b k n) (hn : n ≤ 1000000) (hm : 0 < many) (hm2 : many ≤ 10000000000000) :
    ∃ r a' k', F_Ldraw c [.loc t, .int many] S = some (.int r, S.set t (TapeD a' b k')) ∧ 0 ≤ r ∧ r < many ∧ TapeOk a' b k' (n + 1) := by
  obtain ⟨a0, b0, b1, k0, k1⟩ := T
  unfold TapeD at h ⊢
  have ht : t < S.length := (List.getElem?_eq_some_iff.mp h).1
  have hm3 : DivB many := divP (by omega)
  have e1 : ∀ x y z : D, atI [x, y, z] 1 = some y := fun _ _ _ => rfl
  have e2 : ∀ x y z : D, atI [x, y, z] 2 = some z := fun _ _ _ => rfl
  have i0 : ixN 3 0 = some 0 := rfl
  have i2 : ixN 3 2 = some 2 := rfl
  have l3 : ∀ (x : Ob), (S.set t x).length = S.length := fun x => List.length_set
  have g3 : ∀ x, (S.set t x)[t]? = some x := fun x => List.getElem?_set_self ht
  by_cases ca : 0 < a
  · refine ⟨a % many, a / many, k, ?_, Int.emod_nonneg _ (by omega), Int.emod_lt_of_pos _ hm, ⟨Int.ediv_nonneg a0 (by omega), b0, b1, k0, by omega⟩⟩
    unfold F_Ldraw B_Ldraw
    walk_at "ev*"
    exact fin_eq _ _ (l3 _)
  · have cb : decide (0 < a) = false := decide_eq_false ca
    unfold F_Ldraw B_Ldraw
    have p1 : PowB (b + 39373 * (k + 1)) 5 := powP (by omega)
    have p2 : MulB 39373 (k + 1) := mulL (by omega)
    have p3 : (0 : Int) < 2147483647 ∧ (0 : Int) < 40009 ∧ (0 : Int) < 2147483629 ∧ (0 : Int) < 2305843009213693951 ∧ (0 : Int) < 2305843009213693921 ∧ (0 : Int) < 64 := by omega
    obtain ⟨q1, q2, q3, q4, q5, q6⟩ := p3
    have p4 : ∀ x y : Int, MulB (x % 2147483647 + (k + 1)) y := fun x y => mulL (by omega)
    have p5 : ∀ x : Int, MulB (x % 2147483629) 40009 := fun x => mulR (by omega)
    have p6 : ∀ x : Int, MulB (x % 2147483629) 48271 := fun x => mulR (by omega)
    have p7 : ∀ x : Int, MulB (x % 2305843009213693951) 39373 := fun x => mulR (by omega)
    have p8 : DivB 2147483647 := divP (by omega)
    have p9 : DivB 64 := divP (by omega)
    walk_at "ev*"
    exact ⟨_, a, k + 1, fin_eq _ _ (l3 _), Int.emod_nonneg _ (by omega), Int.emod_lt_of_pos _ hm, ⟨a0, b0, b1, by omega, by omega⟩⟩
theorem map_at {ns : List Int} {k : Int} (h0 : 0 ≤ k) (h1 : k < ((ns.map D.int).length : Int)) : ∃ z, atI (ns.map D.int) k = some (D.int z) := by
  obtain ⟨j, rfl⟩ := Int.eq_ofNat_of_zero_le h0
  rw [List.length_map] at h1
  refine ⟨ns[j]'(by omega), ?_⟩
  rw [atI_ofNat, List.getElem?_map, List.getElem?_eq_getElem (show j < ns.length by omega)]
  rfl
theorem kb1 : kitB "int" "int" = some true := by decide +kernel
theorem kb2 : kitB "int" "bool" = some false := by decide +kernel
theorem kb3 : kitB "list" "list" = some true := by decide +kernel
theorem kb4 : kitB "tuple" "list" = some false := by decide +kernel
theorem kb5 : kitB "tuple" "tuple" = some true := by decide +kernel
theorem kb6 : kitB "str" "str" = some true := by decide +kernel
theorem kl1 : kitL "list" ["list", "tuple"] = some true := by decide +kernel
theorem kl2 : kitL "tuple" ["list", "tuple"] = some true := by decide +kernel
theorem ty2 : tysOf [.ty "list", .ty "tuple"] = some ["list", "tuple"] := rfl
theorem enum_at {ds : List D} {i : Nat} {x : D} (h : (enumL ds)[i]? = some x) : ∃ d, ds[i]? = some d ∧ x = .tup [.int (i : Int), d] := by
  have hi : i < ds.length := by
    have := (List.getElem?_eq_some_iff.mp h).1
    rwa [enumL_len] at this
  refine ⟨ds[i], List.getElem?_eq_getElem hi, ?_⟩
  rw [enumL_get (List.getElem?_eq_getElem hi)] at h
  exact (Option.some.inj h).symm
theorem set_self {α : Type} {S : List α} {n : Nat} {x : α} (h : S[n]? = some x) : S.set n x = S := by
  obtain ⟨hn, e⟩ := List.getElem?_eq_some_iff.mp h
  refine List.ext_getElem? fun i => ?_
  by_cases hi : n = i
  · subst hi; rw [List.getElem?_set_self hn, h]
  · rw [List.getElem?_set_ne hi]
def lifeD : Option Int → D
  | none => .non
  | some l => .int l
theorem oldL_ints (n : Nat) : ∀ ns : List Int, oldL n (ns.map .int) = true
  | [] => rfl
  | x :: ns => by show (old n (.int x) && oldL n (ns.map .int)) = true; rw [oldL_ints n ns]; rfl
def Cl (S : Sg) : Prop := S.all (oldO S.length) = true
theorem Cl.set {S : Sg} (h : Cl S) (n : Nat) {o : Ob} (ho : oldO S.length o = true) : Cl (S.set n o) := by
  unfold Cl at h ⊢
  rw [List.all_eq_true] at h ⊢
  rw [List.length_set]
  intro x hx
  rcases List.mem_or_eq_of_mem_set hx with hx | rfl
  · exact h x hx
  · exact ho
theorem fin_cut {S : Sg} {d d' : D} {o : List Ob} (ho : o ≠ []) (hf : frz (S ++ o) S.length d = some d') (hc : Cl S) : fin S.length d (S ++ o) = some (d', S) := by
  unfold fin
  rw [if_neg (by intro h; rw [List.length_append] at h; exact ho (List.length_eq_zero_iff.mp (by omega))), hf]
  show (if ((S ++ o).take S.length).all (oldO S.length) = true then some (d', (S ++ o).take S.length) else none) = _
  rw [List.take_left' rfl, if_pos (show S.all (oldO S.length) = true from hc)]
/-! ### pieces passed -/
mutual
theorem old_mono {n m : Nat} (h : n ≤ m) : ∀ d : D, old n d = true → old m d = true
  | .tup ds, q => by unfold old at q ⊢; exact oldL_mono h ds q
  | .lst ds, q => by unfold old at q ⊢; exact oldL_mono h ds q
  | .rol ds, q => by unfold old at q ⊢; exact oldL_mono h ds q
  | .ins _ _ ds, q => by unfold old at q ⊢; exact oldL_mono h ds q
  | .dic _ ds, q => by unfold old at q ⊢; exact oldL_mono h ds q
  | .exc _ _ ds, q => by unfold old at q ⊢; exact oldL_mono h ds q
  | .loc k, q => by
    unfold old at q ⊢
    have := of_decide_eq_true q
    exact decide_eq_true (by omega)
  | .non, _ => rfl
  | .bl _, _ => rfl
  | .int _, _ => rfl
  | .str _, _ => rfl
  | .ty _, _ => rfl
theorem oldL_mono {n m : Nat} (h : n ≤ m) : ∀ ds : List D, oldL n ds = true → oldL m ds = true
  | [], _ => rfl
  | d :: ds, q => by
    unfold oldL at q ⊢
    rw [Bool.and_eq_true] at q ⊢
    exact ⟨old_mono h d q.1, oldL_mono h ds q.2⟩
end
theorem oldO_mono {n m : Nat} (h : n ≤ m) (o : Ob) (q : oldO n o = true) : oldO m o = true := by
  cases o with
  | lst ds => exact oldL_mono h ds q
  | ins C gs => exact oldL_mono h _ q
  | dct gs => exact oldL_mono h _ q
theorem Cl.append {S : Sg} (h : Cl S) {o : List Ob} (ho : ∀ x ∈ o, oldO (S.length + o.length) x = true) : Cl (S ++ o) := by
  unfold Cl at h ⊢
  rw [List.all_eq_true] at h ⊢
  rw [List.length_append]
  intro x hx
  rcases List.mem_append.mp hx with hx | hx
  · exact oldO_mono (by omega) x (h x hx)
  · exact ho x hx
/-! ### texts of letters -/
abbrev lettersS : Str := Str.ofString "abcdefghijklmnopqrstuvwxyz"
theorem letters_len : lettersS.cps.toList.length = 26 := by decide +kernel
theorem letters_size : lettersS.length ≤ sizeLine := by decide +kernel
theorem letters_all : lettersS.cps.toList.all (fun c => decide (97 ≤ c ∧ c ≤ 122)) = true := by decide +kernel
theorem letters_has : (List.range 26).all (fun i => decide ((97 + i) ∈ lettersS.cps.toList)) = true := by decide +kernel
def Lets (z : Str) : Prop := ∀ c ∈ z.cps.toList, 97 ≤ c ∧ c ≤ 122
theorem letter_at {i : Int} (h0 : 0 ≤ i) (h1 : i < 26) : ∃ c, atI lettersS.cps.toList i = some c ∧ 97 ≤ c ∧ c ≤ 122 := by
  obtain ⟨j, rfl⟩ := Int.eq_ofNat_of_zero_le h0
  have hl : j < lettersS.cps.toList.length := by rw [letters_len]; omega
  refine ⟨lettersS.cps.toList[j], by rw [atI_ofNat, List.getElem?_eq_getElem hl], ?_⟩
  exact of_decide_eq_true (List.all_eq_true.mp letters_all _ (List.getElem_mem hl))
theorem letter_in {c : Nat} (h : 97 ≤ c ∧ c ≤ 122) : c ∈ lettersS.cps.toList := by
  have := List.all_eq_true.mp letters_has (c - 97) (List.mem_range.mpr (by omega))
  have := of_decide_eq_true this
  rw [show 97 + (c - 97) = c by omega] at this
  exact this
theorem Lets.one {c : Nat} (h : 97 ≤ c ∧ c ≤ 122) : Lets ⟨#[c]⟩ := fun d hd => by
  have : d = c := by simpa using hd
  rw [this]
  exact h
theorem len_cps (z : Str) : z.length = z.cps.toList.length := by rw [Array.length_toList]; rfl
theorem fold_mem (sep : Str) : ∀ (rest : List Str) (acc : Array Nat) (c : Nat), c ∈ (rest.foldl (fun acc p => acc ++ sep.cps ++ p.cps) acc).toList → c ∈ acc.toList ∨ c ∈ sep.cps.toList ∨ ∃ p ∈ rest, c ∈ p.cps.toList
  | [], acc, c, h => .inl h
  | q :: rest, acc, c, h => by
    rcases fold_mem sep rest _ c h with h | h | ⟨p, hp, h⟩
    · rw [Array.toList_append, Array.toList_append] at h
      rcases List.mem_append.mp h with h | h
      · rcases List.mem_append.mp h with h | h
        · exact .inl h
        · exact .inr (.inl h)
      · exact .inr (.inr ⟨q, List.mem_cons_self, h⟩)
    · exact .inr (.inl h)
    · exact .inr (.inr ⟨p, List.mem_cons_of_mem _ hp, h⟩)
theorem sum_ones : ∀ zs : List Str, (∀ z ∈ zs, z.length = 1) → (zs.map (·.length)).sum = zs.length
  | [], _ => rfl
  | z :: zs, h => by
    rw [List.map_cons, List.sum_cons, h z List.mem_cons_self, sum_ones zs fun y hy => h y (List.mem_cons_of_mem _ hy), List.length_cons]
    omega
/-- letters one by one, glued -/
theorem join_lets {sep : Str} (hs : sep.cps = #[]) (zs : List Str) (h : ∀ z ∈ zs, Lets z ∧ z.length = 1) : Lets (Txt.join sep zs) ∧ (Txt.join sep zs).length = zs.length := by
  have hsl : sep.length = 0 := by show sep.cps.size = 0; rw [hs]; rfl
  refine ⟨fun c hc => ?_, ?_⟩
  · cases zs with
    | nil => cases hc
    | cons z zs =>
      have hc' : c ∈ (zs.foldl (fun acc p => acc ++ sep.cps ++ p.cps) z.cps).toList := hc
      rcases fold_mem sep zs z.cps c hc' with h' | h' | ⟨p, hp, h'⟩
      · exact (h z List.mem_cons_self).1 c h'
      · rw [hs] at h'; cases h'
      · exact (h p (List.mem_cons_of_mem _ hp)).1 c h'
  · have := PySem.size_glued sep zs
    rw [hsl, Nat.mul_zero, Nat.add_zero, sum_ones zs fun z hz => (h z hz).2] at this
    exact this
def GoodName (z : Str) : Prop := 1 ≤ z.length ∧ z.length ≤ 8 ∧ Lets z
/-! ### reckoning step by step: rows that tell a piece's answer from its parts' -/
section
variable {δ δ1 : Dl} {S S1 S2 : Sg}
theorem e_c {d : D} : cD d δ S = some (d, S) := rfl
theorem e_v {i : Nat} {d : D} (h : δ[i]? = some (some d)) : varD i δ S = some (d, S) := by rw [varD_ap, h]; rfl
theorem a_nil : nilA δ S = some ([], S) := rfl
theorem a_cons {f : FE} {g : FA} {d : D} {ds : List D} (h : f δ S = some (d, S1)) (h2 : g δ S1 = some (ds, S2)) : consA f g δ S = some (d :: ds, S2) := by
  rw [consA_ap, h, bd_some, h2]; rfl
theorem e_tup {f : FA} {ds : List D} (h : f δ S = some (ds, S1)) (l : ds.length < 1000000) : tupD f δ S = some (.tup ds, S1) := by
  rw [tupD_ap, h, bd_some, if_pos ((fits_iff _).mpr l)]
theorem e_lst {f : FA} {ds : List D} (h : f δ S = some (ds, S1)) (l : ds.length < 1000000) : lstD f δ S = some (.lst ds, S1) := by
  rw [lstD_ap, h, bd_some, if_pos ((fits_iff _).mpr l)]
theorem e_new {f : FA} {ds : List D} (h : f δ S = some (ds, S1)) (l : ds.length < 1000000) : newD f δ S = some (.loc S1.length, S1 ++ [.lst ds]) := by
  rw [newD_ap, h, bd_some, if_pos ((fits_iff _).mpr l)]
theorem e_app {fa : FE} {f : FA} {n : Nat} {y : D} {x0 xs : List D} (h : fa δ S = some (.loc n, S1)) (h1 : S1[n]? = some (.lst x0)) (h2 : f δ S1 = some ([y], S2)) (h3 : S2[n]? = some (.lst xs)) (l : xs.length < 1000000) :
    bmD isLoc appO fa f δ S = some (.non, S2.set n (.lst (xs ++ [y]))) := by
  rw [bmD_ap, h, bd_some]
  dsimp only
  rw [isLoc_loc, h1, show ((some (Ob.lst x0)).bd obL).isSome = true from rfl, if_pos rfl, h2, bd_some, app_loc, h3]
  show (if Fits (xs.length) then _ else none) = _
  rw [if_pos ((fits_iff _).mpr l)]
theorem e_addll {f g : FE} {xs ys : List D} (h : f δ S = some (.lst xs, S1)) (h2 : g δ S1 = some (.lst ys, S2)) (l : xs.length + ys.length < 1000000) : op2D addO f g δ S = some (.lst (xs ++ ys), S2) := by
  rw [op2D_ap, h, bd_some, h2, bd_some]
  dsimp only
  rw [addv_ll, if_pos ((fits_iff _).mpr l)]
theorem e_addcl {f g : FE} {n : Nat} {xs ys : List D} (h : f δ S = some (.loc n, S1)) (h2 : g δ S1 = some (.lst ys, S2)) (h3 : S2[n]? = some (.lst xs)) (l : xs.length + ys.length < 1000000) : op2D addO f g δ S = some (.lst (xs ++ ys), S2) := by
  rw [op2D_ap, h, bd_some, h2, bd_some]
  dsimp only
  rw [addv_cl, h3]
  show (if Fits (xs.length + ys.length) then _ else none) = _
  rw [if_pos ((fits_iff _).mpr l)]
theorem e_addN {f g : FE} {n : Nat} {xs ys : List D} (h : f δ S = some (.loc n, S1)) (h2 : g δ S1 = some (.lst ys, S2)) (h3 : S2[n]? = some (.lst xs)) (l : xs.length + ys.length < 1000000) : op2D addNO f g δ S = some (.loc S2.length, S2 ++ [.lst (xs ++ ys)]) := by
  rw [op2D_ap, h, bd_some, h2, bd_some]
  unfold addNO
  dsimp only
  rw [plv_loc, h3]
  show (if Fits (xs.length + ys.length) then _ else none) = _
  rw [if_pos ((fits_iff _).mpr l)]
theorem s_seq {f g : FS} {r : Option (Fl × Dl × Sg)} (h : f δ S = some (.nx, δ1, S1)) (h2 : g δ1 S1 = r) : seqS f g δ S = r := by
  rw [seqS_ap, h, bd_some, onNx_nx, h2]
theorem s_drop {f : FE} {d : D} (h : f δ S = some (d, S1)) : dropS f δ S = some (.nx, δ, S1) := by
  rw [dropS_ap, h]; rfl
theorem s_set {i : Nat} {f : FE} {d : D} {δ' : Dl} (h : f δ S = some (d, S1)) (e : δ.set i (some d) = δ') : setS i f δ S = some (.nx, δ', S1) := by
  rw [setS_ap, h, ← e]; rfl
theorem s_par3 {i j l : Nat} {f : FA} {x y z : D} {δ' : Dl} (h : f δ S = some ([x, y, z], S1)) (e : ((δ.set i (some x)).set j (some y)).set l (some z) = δ') : parS3 i j l f δ S = some (.nx, δ', S1) := by
  rw [parS3_ap, h, ← e]; rfl
theorem s_asg2 {i j : Nat} {f : FE} {x y : D} {δ' : Dl} (h : f δ S = some (.tup [x, y], S1)) (e : (δ.set i (some x)).set j (some y) = δ') : asgS f (tupG 2 (consG (nmG i) (consG (nmG j) nilG))) δ S = some (.nx, δ', S1) := by
  rw [asgS_ap, h, ← e]; rfl
theorem s_ret {f : FE} {d : D} (h : f δ S = some (d, S1)) : retS f δ S = some (.rt d, δ, S1) := by
  rw [retS_ap, h]; rfl
theorem b_rt {φ : Nat → D → Sg → Option (D × Sg)} {n : Nat} {body : FS} {ds : List D} {d : D} {r : Option (D × Sg)} (h : body (ds.map some ++ List.replicate (n - ds.length) none) S = some (.rt d, δ1, S1)) (h2 : φ S.length d S1 = r) : bodyF φ n body ds S = r := by
  rw [bodyF_ap, h, bd_some, endB_rt, h2]
/-! what is told at the end -/
theorem z_fin {n : Nat} {d x : D} (h : S.length ≠ n) (h1 : frz S n d = some x) (h2 : (S.take n).all (oldO n) = true) : fin n d S = some (x, S.take n) := by
  unfold fin
  rw [if_neg h, h1, Option.bind_some, if_pos h2]
theorem z_tup {n : Nat} {φ : Nat → Option D} {ds rs : List D} (h : frzL n φ ds = some rs) : frzG n φ (.tup ds) = some (.tup rs) := by unfold frzG; rw [h]; rfl
theorem z_lst {n : Nat} {φ : Nat → Option D} {ds rs : List D} (h : frzL n φ ds = some rs) : frzG n φ (.lst ds) = some (.lst rs) := by unfold frzG; rw [h]; rfl
theorem z_loc {n m : Nat} {φ : Nat → Option D} {x : D} (h : ¬ m < n) (h1 : φ m = some x) : frzG n φ (.loc m) = some x := by unfold frzG; rw [if_neg h, h1]
theorem z_pl {n m k : Nat} {ds rs : List D} (h : S[m]? = some (.lst ds)) (h1 : frzL n (frzP S n k) ds = some rs) : frzP S n (k + 1) m = some (.lst rs) := by
  unfold frzP
  rw [h]
  dsimp only
  rw [h1]
  rfl
theorem z_nil {n : Nat} {φ : Nat → Option D} : frzL n φ [] = some [] := by unfold frzL; rfl
theorem z_cons {n : Nat} {φ : Nat → Option D} {d x : D} {r y : List D} (h : frzG n φ d = some x) (h1 : frzL n φ r = some y) : frzL n φ (d :: r) = some (x :: y) := by
  unfold frzL
  rw [h, Option.bind_some, h1]
  rfl
end
local macro_rules | `(tactic| walk_at "bs") => `(tactic| repeat' first
  | with_reducible exact e_c | with_reducible exact a_nil
  | with_reducible apply s_seq | with_reducible apply s_par3 | with_reducible apply s_set | with_reducible apply s_asg2 | with_reducible apply s_drop | with_reducible apply s_ret
  | with_reducible apply e_v | with_reducible apply a_cons | with_reducible apply e_tup | with_reducible apply e_lst | with_reducible apply e_new
  | with_reducible apply e_app | ((with_reducible apply e_addll); (with_reducible apply e_v); exact rfl) | with_reducible apply e_addcl | with_reducible apply e_addN
  | (show _ < _; decide) | exact rfl)
local macro_rules | `(tactic| walk_at "zs") => `(tactic| repeat' first
  | with_reducible apply z_nil | exact frzG_old _ (by decide +kernel) | with_reducible apply z_cons | with_reducible apply z_tup | with_reducible apply z_lst | with_reducible apply z_loc | with_reducible apply z_pl | (show ¬ _; decide) | exact rfl)
section
variable {δ δ1 : Dl} {S S1 S2 : Sg}
theorem e_fn {F : Fn} {dds ds : List D} {f : FA} {r : Option (D × Sg)} (h : f δ S = some (ds, S1)) (h2 : F (ds ++ dds) S1 = r) : fnD F dds f δ S = r := by
  rw [fnD_ap, h, bd_some, h2]
theorem s_par2 {i j : Nat} {f : FA} {x y : D} {δ' : Dl} (h : f δ S = some ([x, y], S1)) (e : (δ.set i (some x)).set j (some y) = δ') : parS i j f δ S = some (.nx, δ', S1) := by
  rw [parS_ap, h, ← e]; rfl
theorem s_ifno {f : FE} {g h : FS} {r : Option (Fl × Dl × Sg)} (e : f δ S = some (.bl true, S1)) (e2 : h δ S1 = r) : ifS (notD (tvD f)) g h δ S = r := by
  rw [ifS_ap, notD_ap, tvD_ap, e, ← e2]; rfl
theorem stepF {g : FG} {body : FS} {d : D} {r : Option (Fl × Dl × Sg)} (h1 : g d δ S = some (δ1, S1)) (h2 : body δ1 S1 = r) : stepFor g body d δ S = r := by
  unfold stepFor
  rw [h1, Option.bind_some, h2]
end
theorem Cl.push {S : Sg} {o : Ob} (h : Cl S) (ho : oldO (S.length + 1) o = true) : Cl (S ++ [o]) := by
  unfold Cl at h ⊢
  rw [List.all_eq_true] at h ⊢
  intro x hx
  rw [List.length_append, List.length_singleton]
  rcases List.mem_append.mp hx with hx | hx
  · exact oldO_mono (Nat.le_succ _) x (h x hx)
  · rw [List.mem_singleton.mp hx]
    exact ho
theorem e_op2 {δ : Dl} {S S1 S2 : Sg} {o : O2} {f g : FE} {d e : D} {r : Option (D × Sg)} (h : f δ S = some (d, S1)) (h2 : g δ S1 = some (e, S2)) (h3 : o d e S2 = r) : op2D o f g δ S = r := by
  rw [op2D_ap, h, bd_some, h2, bd_some, h3]
theorem e_cb {δ : Dl} {S S1 : Sg} {o : List D → Sg → Option (D × Sg)} {f : FA} {ds : List D} {r : Option (D × Sg)} (h : f δ S = some (ds, S1)) (h2 : o ds S1 = r) : cbD o f δ S = r := by
  rw [cbD_ap, h, bd_some, h2]
theorem get_end {S : Sg} {o : Ob} : (S ++ [o])[S.length]? = some o := by
  rw [List.getElem?_append_right (Nat.le_refl _), Nat.sub_self]; rfl
theorem set_end {S : Sg} {o o' : Ob} : (S ++ [o]).set S.length o' = S ++ [o'] := by
  rw [List.set_append_right _ _ (Nat.le_refl _), Nat.sub_self]; rfl
theorem oldL_map {α : Type} {n : Nat} {f : α → D} : ∀ {l : List α}, (∀ x ∈ l, old n (f x) = true) → oldL n (l.map f) = true
  | [], _ => by rw [List.map_nil]; unfold oldL; rfl
  | x :: l, h => by
    rw [List.map_cons]
    unfold oldL
    rw [h x (by simp), oldL_map fun y hy => h y (by simp [hy])]
    rfl
theorem old_int {n : Nat} {i : Int} : old n (.int i) = true := by unfold old; rfl
theorem filC {δ δ' : Dl} {S : Sg} {d y : D} {g : FG} {c : FT} {fe : FE} {b : Bool} (h1 : g d δ S = some (δ', S)) (h2 : c δ' S = some (b, S)) (h3 : fe δ' S = some (y, S)) : stepLc g c fe δ d S = some (if b = true then some y else none, S) := by
  unfold stepLc
  rw [h1, Option.bind_some]
  dsimp only
  rw [h2, Option.bind_some]
  cases b with
  | false => rfl
  | true =>
    dsimp only
    rw [if_pos rfl, h3]
    rfl
/-! ### a tape at a place, by what is known of it -/
def Tp (S : Sg) (t : Nat) (b n : Int) : Prop := ∃ a k, S[t]? = some (TapeD a b k) ∧ TapeOk a b k n
def Sa (S : Sg) (t : Nat) (b n : Int) (S' : Sg) : Prop := ∃ a k, S' = S.set t (TapeD a b k) ∧ TapeOk a b k n ∧ t < S.length
theorem TapeOk.mono {a b k n m : Int} (T : TapeOk a b k n) (h : n ≤ m) : TapeOk a b k m := ⟨T.a0, T.b0, T.b1, T.k0, Int.le_trans T.k1 h⟩
section
variable {S S' S'' : Sg} {t : Nat} {b n m : Int}
theorem Sa.tp (h : Sa S t b n S') : Tp S' t b n := by
  obtain ⟨a, k, rfl, T, l⟩ := h
  exact ⟨a, k, List.getElem?_set_self l, T⟩
theorem Tp.lt (h : Tp S t b n) : t < S.length := by
  obtain ⟨a, k, e, _⟩ := h
  exact (List.getElem?_eq_some_iff.mp e).1
theorem Tp.sa (h : Tp S t b n) : Sa S t b n S := by
  obtain ⟨a, k, e, T⟩ := h
  refine ⟨a, k, ?_, T, (List.getElem?_eq_some_iff.mp e).1⟩
  obtain ⟨l, e'⟩ := List.getElem?_eq_some_iff.mp e
  rw [← e', List.set_getElem_self]
theorem Sa.trans (h : Sa S t b n S') (g : Sa S' t b m S'') : Sa S t b m S'' := by
  obtain ⟨a, k, rfl, T, l⟩ := h
  obtain ⟨a', k', rfl, T', l'⟩ := g
  exact ⟨a', k', by rw [List.set_set], T', l⟩
theorem Sa.mono (h : Sa S t b n S') (q : n ≤ m) : Sa S t b m S' := by
  obtain ⟨a, k, rfl, T, l⟩ := h
  exact ⟨a, k, rfl, T.mono q, l⟩
theorem Tp.mono (h : Tp S t b n) (q : n ≤ m) : Tp S t b m := by
  obtain ⟨a, k, e, T⟩ := h
  exact ⟨a, k, e, T.mono q⟩
theorem Sa.len (h : Sa S t b n S') : S'.length = S.length := by
  obtain ⟨a, k, rfl, T, l⟩ := h
  exact List.length_set
theorem Sa.cl (h : Sa S t b n S') (hc : Cl S) : Cl S' := by
  obtain ⟨a, k, rfl, T, l⟩ := h
  exact hc.set t rfl
theorem Sa.push (h : Sa S t b n S') (o : Ob) : Sa (S ++ [o]) t b n (S' ++ [o]) := by
  obtain ⟨a, k, rfl, T, l⟩ := h
  refine ⟨a, k, ?_, T, by rw [List.length_append]; omega⟩
  rw [List.set_append_left _ _ l]
theorem draw_s (c : Cs) (h : Tp S t b n) (hn : n ≤ 1000000) {many : Int} (hm : 0 < many) (hm2 : many ≤ 10000000000000) : ∃ r S', F_Ldraw c [.loc t, .int many] S = some (.int r, S') ∧ 0 ≤ r ∧ r < many ∧ Sa S t b (n + 1) S' := by
  have l := h.lt
  obtain ⟨a, k, e, T⟩ := h
  obtain ⟨r, a', k', e', r0, r1, T'⟩ := draw_ok c e T hn hm hm2
  exact ⟨r, _, e', r0, r1, a', k', rfl, T', l⟩
end
theorem lcGo_invO {k : Ik} {ds items : List D} {g : FG} {c : FT} {f : FE} {δ : Dl} (P : Nat → Sg → Prop) (R : D → Prop) (m : Nat) (hk : ∀ i S, P i S → k ds S = some items) (hs : ∀ i d S, i < m → d ∈ items → P i S → ∃ y S', stepLc g c f δ d S = some (y, S') ∧ P (i + 1) S' ∧ ∀ z, y = some z → R z) :
    ∀ {r acc : List D} {i : Nat} {S : Sg}, i + r.length ≤ m → (∀ d ∈ r, d ∈ items) → P i S → ∃ out S', lcGo k ds items g c f δ r acc S = some (acc ++ out, S') ∧ P (i + r.length) S' ∧ out.length ≤ r.length ∧ ∀ y ∈ out, R y
  | [], acc, i, S, _, _, p => ⟨[], S, by rw [lcGo_nil (hk i S p)]; simp, p, Nat.le_refl _, fun y h => (by cases h)⟩
  | d :: r, acc, i, S, hi, hm, p => by
    rw [List.length_cons] at hi
    obtain ⟨y, S1, e, p1, ry⟩ := hs i d S (by omega) (hm d (by simp)) p
    obtain ⟨out, S2, e2, p2, l2, r2⟩ := lcGo_invO P R m hk hs (r := r) (acc := acc ++ y.toList) (by omega) (fun x hx => hm x (by simp [hx])) p1
    refine ⟨y.toList ++ out, S2, ?_, ?_, ?_, fun z hz => ?_⟩
    · rw [lcGo_cons (hk i S p) e, e2, List.append_assoc]
    · rw [List.length_cons, show i + (r.length + 1) = i + 1 + r.length by omega]
      exact p2
    · rw [List.length_append, List.length_cons]
      have : y.toList.length ≤ 1 := by cases y <;> simp
      omega
    · rcases List.mem_append.mp hz with hz | hz
      · cases y with
        | none => cases hz
        | some w => rw [show z = w by simpa using hz]; exact ry w rfl
      · exact r2 z hz
theorem rng_mem {j : Nat} {d : D} (h : d ∈ rngL 0 j) : ∃ i : Nat, i < j ∧ d = .int (i : Int) := by
  obtain ⟨i, hi⟩ := List.mem_iff_getElem?.mp h
  have hij : i < j := by
    have := (List.getElem?_eq_some_iff.mp hi).1
    rw [rngL_len] at this
    exact this
  rw [rngL_get hij] at hi
  exact ⟨i, hij, by rw [← Option.some.inj hi, Int.zero_add]⟩
theorem ints_of {out : List D} {R : Int → Prop} (h : ∀ y ∈ out, ∃ x, y = .int x ∧ R x) : ∃ xs : List Int, out = xs.map .int ∧ xs.length = out.length ∧ ∀ x ∈ xs, R x := by
  induction out with
  | nil => exact ⟨[], rfl, rfl, fun x h => by cases h⟩
  | cons y out ih =>
    obtain ⟨x, rfl, hx⟩ := h y (by simp)
    obtain ⟨xs, rfl, hl, h3⟩ := ih fun y hy => h y (by simp [hy])
    refine ⟨x :: xs, rfl, by rw [List.length_cons, List.length_cons, hl], fun w hw => ?_⟩
    rcases List.mem_cons.mp hw with rfl | hw
    · exact hx
    · exact h3 w hw
theorem rng_k {j : Nat} (hj : j < 1000000) (S : Sg) : r1K [.int (j : Int)] S = some (rngL 0 j) := by
  rw [r1K_1, if_pos (r62P (by omega))]
  rfl
/-- a list of numbers, made by draws -/
theorem lc_st {δ : Dl} {S0 S : Sg} {t v cnt j : Nat} {b n : Int} {fa : FA} {f : FE} {R : Int → Prop} (hT : Tp S t b n) (hj : j < 1000000) (hfa : fa δ S0 = some ([.int (j : Int)], S)) (hw : wipeD δ [v] = δ)
    (hf : ∀ (i u : Nat) (S1 : Sg), i < j → Tp S1 t b (n + (cnt * i : Nat)) → ∃ x S2, f (δ.set v (some (.int (u : Int)))) S1 = some (.int x, S2) ∧ R x ∧ Sa S1 t b (n + (cnt * i : Nat) + cnt) S2) :
    ∃ (xs : List Int) (S' : Sg), lcD r1K fa (nmG v) yesT f [v] δ S0 = some (.lst (xs.map D.int), S') ∧ xs.length = j ∧ (∀ x ∈ xs, R x) ∧ Sa S t b (n + (cnt * j : Nat)) S' := by
  have hk := fun S' => rng_k hj S'
  have hlen := rngL_len 0 j
  obtain ⟨out, S', e, p, l, r⟩ := lcGo_inv (k := r1K) (ds := [.int (j : Int)]) (items := rngL 0 j) (g := nmG v) (c := yesT) (f := f) (δ := δ) (fun i S' => Sa S t b (n + (cnt * i : Nat)) S') (fun y => ∃ x, y = .int x ∧ R x) j (fun i S' _ => hk S')
    (by
      intro i d S1 hi hd p
      obtain ⟨u, hu, rfl⟩ := rng_mem hd
      obtain ⟨x, S2, e, hx, p2⟩ := hf i u S1 hi p.tp
      exact ⟨_, _, mapC' rfl e, (p.trans p2).mono (by rw [Nat.mul_add]; omega), x, rfl, hx⟩)
    (r := rngL 0 j) (acc := []) (i := 0) (S := S) (by rw [hlen]; omega) (fun d hd => hd) (by simpa using hT.sa)
  obtain ⟨xs, rfl, hl, hx⟩ := ints_of r
  rw [hlen, Nat.zero_add] at p
  refine ⟨xs, S', ?_, by rw [hl, l, hlen], hx, p⟩
  rw [lcD_ap, hfa, bd_some]
  dsimp only
  rw [hk, bd_some, if_pos ((fits_iff _).mpr (by rw [hlen]; exact hj)), hw, e]
  rfl
/-- some of the first numbers, chosen by draws -/
theorem lc_pick {δ : Dl} {S0 S : Sg} {t v j : Nat} {b n : Int} {fa : FA} {f : FE} {ct : FT} (hT : Tp S t b n) (hj : j < 1000000) (hfa : fa δ S0 = some ([.int (j : Int)], S)) (hw : wipeD δ [v] = δ)
    (hc : ∀ (i u : Nat) (S1 : Sg), i < j → Tp S1 t b (n + i) → ∃ q S2, ct (δ.set v (some (.int (u : Int)))) S1 = some (q, S2) ∧ Sa S1 t b (n + i + 1) S2) (hf : ∀ (u : Nat) (S1 : Sg), f (δ.set v (some (.int (u : Int)))) S1 = some (.int (u : Int), S1)) :
    ∃ (xs : List Int) (S' : Sg), lcD r1K fa (nmG v) ct f [v] δ S0 = some (.lst (xs.map D.int), S') ∧ xs.length ≤ j ∧ Sa S t b (n + j) S' := by
  have hk := fun S' => rng_k hj S'
  have hlen := rngL_len 0 j
  obtain ⟨out, S', e, p, l, r⟩ := lcGo_invO (k := r1K) (ds := [.int (j : Int)]) (items := rngL 0 j) (g := nmG v) (c := ct) (f := f) (δ := δ) (fun i S' => Sa S t b (n + i) S') (fun y => ∃ x : Int, y = .int x ∧ True) j (fun i S' _ => hk S')
    (by
      intro i d S1 hi hd p
      obtain ⟨u, hu, rfl⟩ := rng_mem hd
      obtain ⟨q, S2, e, p2⟩ := hc i u S1 hi p.tp
      refine ⟨if q = true then some (.int (u : Int)) else none, S2, ?_, (p.trans p2).mono (by omega), ?_⟩
      · unfold stepLc
        rw [show nmG v (.int (u : Int)) δ S1 = some (δ.set v (some (.int (u : Int))), S1) from rfl, Option.bind_some]
        dsimp only
        rw [e, Option.bind_some]
        cases q with
        | false => rfl
        | true =>
          dsimp only
          rw [if_pos rfl, hf]
          rfl
      · intro z hz
        cases q with
        | false => cases hz
        | true => exact ⟨_, (Option.some.inj hz).symm, trivial⟩)
    (r := rngL 0 j) (acc := []) (i := 0) (S := S) (by rw [hlen]; omega) (fun d hd => hd) (by simpa using hT.sa)
  obtain ⟨xs, rfl, hl, hx⟩ := ints_of r
  rw [hlen, Nat.zero_add] at p
  refine ⟨xs, S', ?_, by rw [hl, ← hlen]; exact l, p⟩
  rw [lcD_ap, hfa, bd_some]
  dsimp only
  rw [hk, bd_some, if_pos ((fits_iff _).mpr (by rw [hlen]; exact hj)), hw, e]
  rfl
section
variable {S : Sg} {t : Nat} {b n : Int}
theorem s_ifT {δ : Dl} {S1 : Sg} {ct : FT} {g h : FS} {r : Option (Fl × Dl × Sg)} {q : Bool} (e : ct δ S = some (q, S1)) (e2 : (if q = true then g δ S1 else h δ S1) = r) : ifS ct g h δ S = r := by
  rw [ifS_ap, e, bd_some, ← e2]
theorem t_v {δ : Dl} {S1 : Sg} {f : FE} {q : Bool} (e : f δ S = some (.bl q, S1)) : tvD f δ S = some (q, S1) := by
  rw [tvD_ap, e]; rfl
theorem s_seqr {δ δ1 : Dl} {S1 : Sg} {f g : FS} {d : D} (h : f δ S = some (.rt d, δ1, S1)) : seqS f g δ S = some (.rt d, δ1, S1) := by
  rw [seqS_ap, h]; rfl
theorem at3 {α : Type} (x y z : α) {r : Int} (h0 : 0 ≤ r) (h1 : r < 3) (Q : α → Prop) (hx : Q x) (hy : Q y) (hz : Q z) : ∃ w, atI [x, y, z] r = some w ∧ Q w := by
  rcases (show r = 0 ∨ r = 1 ∨ r = 2 by omega) with rfl | rfl | rfl
  · exact ⟨x, rfl, hx⟩
  · exact ⟨y, rfl, hy⟩
  · exact ⟨z, rfl, hz⟩
theorem at4 {α : Type} (x y z u : α) {r : Int} (h0 : 0 ≤ r) (h1 : r < 4) (Q : α → Prop) (hx : Q x) (hy : Q y) (hz : Q z) (hu : Q u) : ∃ w, atI [x, y, z, u] r = some w ∧ Q w := by
  rcases (show r = 0 ∨ r = 1 ∨ r = 2 ∨ r = 3 by omega) with rfl | rfl | rfl | rfl
  · exact ⟨x, rfl, hx⟩
  · exact ⟨y, rfl, hy⟩
  · exact ⟨z, rfl, hz⟩
  · exact ⟨u, rfl, hu⟩
theorem e_ix {δ : Dl} {S1 S2 : Sg} {f g : FE} {ds : List D} {i : Int} {y : D} (h : f δ S = some (.lst ds, S1)) (h2 : g δ S1 = some (.int i, S2)) (h3 : atI ds i = some y) : op2D ixO f g δ S = some (y, S2) := by
  refine e_op2 h h2 ?_
  rw [ixv_lst, h3]; rfl
theorem e_draw (c : Cs) {δ : Dl} {S1 S2 S3 : Sg} {f g : FE} {m r : Int} (h : f δ S = some (.loc t, S1)) (h2 : g δ S1 = some (.int m, S2)) (h3 : F_Ldraw c [.loc t, .int m] S2 = some (.int r, S3)) : fnD (F_Ldraw c) [] (consA f (consA g nilA)) δ S = some (.int r, S3) :=
  e_fn (a_cons h (a_cons h2 a_nil)) h3
theorem tup_of {δ : Dl} {S1 : Sg} {f : FE} {ds : List D} (h : f δ S = some (.lst ds, S1)) : cbD tupleO (consA f nilA) δ S = some (.tup ds, S1) := e_cb (a_cons h a_nil) rfl
theorem min_of {δ : Dl} {S1 S2 : Sg} {f g : FE} {i j : Int} (h : f δ S = some (.int i, S1)) (h2 : g δ S1 = some (.int j, S2)) : cbD min2O (consA f (consA g nilA)) δ S = some (.int (if j < i then j else i), S2) := e_cb (a_cons h (a_cons h2 a_nil)) (min2v _ _ _)
theorem max_of {δ : Dl} {S1 S2 : Sg} {f g : FE} {i j : Int} (h : f δ S = some (.int i, S1)) (h2 : g δ S1 = some (.int j, S2)) : cbD max2O (consA f (consA g nilA)) δ S = some (.int (if j > i then j else i), S2) := e_cb (a_cons h (a_cons h2 a_nil)) (max2v _ _ _)
theorem add_of {δ : Dl} {S1 S2 : Sg} {f g : FE} {i j : Int} (h : f δ S = some (.int i, S1)) (h2 : g δ S1 = some (.int j, S2)) : op2D addO f g δ S = some (.int (i + j), S2) := e_op2 h h2 (addO_int _ _ _)
theorem sub_of {δ : Dl} {S1 S2 : Sg} {f g : FE} {i j : Int} (h : f δ S = some (.int i, S1)) (h2 : g δ S1 = some (.int j, S2)) : op2D subO f g δ S = some (.int (i - j), S2) := e_op2 h h2 (subO_int _ _ _)
theorem mul_of {δ : Dl} {S1 S2 : Sg} {f g : FE} {i j : Int} (h : f δ S = some (.int i, S1)) (h2 : g δ S1 = some (.int j, S2)) (hm : MulB i j) : op2D mulO f g δ S = some (.int (i * j), S2) := e_op2 h h2 (by rw [mulO_int, if_pos hm])
theorem eq_of {δ : Dl} {S1 S2 : Sg} {f g : FE} {i j : Int} (h : f δ S = some (.int i, S1)) (h2 : g δ S1 = some (.int j, S2)) : op2D eqO f g δ S = some (.bl (decide (i = j)), S2) := e_op2 h h2 (eqv_int _ _ _)
theorem pow_of {δ : Dl} {f g : FE} {S1 S2 : Sg} {i j : Int} (h : f δ S = some (.int i, S1)) (h2 : g δ S1 = some (.int j, S2)) (hm : PowB i j) : op2D powO f g δ S = some (.int (i ^ j.toNat), S2) := e_op2 h h2 (by rw [powO_int, if_pos hm])
theorem fin_len {S' : Sg} {d : D} (h : S'.length = S.length) : fin S.length d S' = some (d, S') := if_pos h
theorem min_le {i j : Int} : (if j < i then j else i) ≤ i ∧ (if j < i then j else i) ≤ j := by split <;> omega
theorem min_ge {i j k : Int} (h1 : k ≤ i) (h2 : k ≤ j) : k ≤ (if j < i then j else i) := by split <;> omega
end
theorem at3i (x y z : Int) {r : Int} (h0 : 0 ≤ r) (h1 : r < 3) (lo hi : Int) (hx : lo ≤ x ∧ x ≤ hi) (hy : lo ≤ y ∧ y ≤ hi) (hz : lo ≤ z ∧ z ≤ hi) : ∃ m : Int, atI [D.int x, D.int y, D.int z] r = some (.int m) ∧ lo ≤ m ∧ m ≤ hi := by
  obtain ⟨w, e, m, rfl, h⟩ := at3 (D.int x) (D.int y) (D.int z) h0 h1 (fun y => ∃ m : Int, y = .int m ∧ lo ≤ m ∧ m ≤ hi) ⟨_, rfl, hx⟩ ⟨_, rfl, hy⟩ ⟨_, rfl, hz⟩
  exact ⟨m, e, h⟩
theorem at4i (x y z u : Int) {r : Int} (h0 : 0 ≤ r) (h1 : r < 4) (lo hi : Int) (hx : lo ≤ x ∧ x ≤ hi) (hy : lo ≤ y ∧ y ≤ hi) (hz : lo ≤ z ∧ z ≤ hi) (hu : lo ≤ u ∧ u ≤ hi) : ∃ m : Int, atI [D.int x, D.int y, D.int z, D.int u] r = some (.int m) ∧ lo ≤ m ∧ m ≤ hi := by
  obtain ⟨w, e, m, rfl, h⟩ := at4 (D.int x) (D.int y) (D.int z) (D.int u) h0 h1 (fun y => ∃ m : Int, y = .int m ∧ lo ≤ m ∧ m ≤ hi) ⟨_, rfl, hx⟩ ⟨_, rfl, hy⟩ ⟨_, rfl, hz⟩ ⟨_, rfl, hu⟩
  exact ⟨m, e, h⟩
theorem tape_ok (c : Cs) {S : Sg} {ns : List Int} {k : Int} (h0 : 0 ≤ k) (h1 : k ≤ 1000) : ∃ a b, F_Ltape c [.rol (ns.map .int), .int k] S = some (.loc S.length, S ++ [TapeD a b 0]) ∧ TapeOk a b 0 0 := by
  have m1 : ∀ (x : Int) (q : Bool), MulB x (if q = true then 1 else 0) := fun x q => mulR (by cases q <;> decide)
  have m2 : MulB 39373 k := mulL (by omega)
  have q1 : (0 : Int) < 2305843009213693951 := by decide
  have q2 : PowB 10 18 := powP (by omega)
  have fin1 : ∀ z : Int, TapeOk ((if z < 0 then -z else z) * (if decide ((10 : Int) ^ (18 : Int).toNat ≤ (if z < 0 then -z else z)) = true then 1 else 0)) (z % 2305843009213693951 + 39373 * k + 17) 0 0 := fun z => by
    refine ⟨Int.mul_nonneg (by split <;> omega) (by split <;> omega), by omega, by omega, by omega, by omega⟩
  unfold F_Ltape B_Ltape
  by_cases ck : k < ((ns.map D.int).length : Int)
  · obtain ⟨z, hz⟩ := map_at h0 ck
    have cd : decide (k < ((ns.map D.int).length : Int)) = true := decide_eq_true ck
    walk_at "ev*"
    exact ⟨_, _, rfl, fin1 z⟩
  · have cd : decide (k < ((ns.map D.int).length : Int)) = false := decide_eq_false ck
    walk_at "ev*"
    exact ⟨_, _, rfl, fin1 0⟩
inductive IsSq : D → List D → Prop
  | lst {ds : List D} : IsSq (.lst ds) ds
  | tup {ds : List D} : IsSq (.tup ds) ds
theorem nd_t {p : Prop} [Decidable p] (h : ¬ p) : (!decide p) = true := by rw [decide_eq_false h]; rfl
theorem nd_f {p : Prop} [Decidable p] (h : p) : (!decide p) = false := by rw [decide_eq_true h]; rfl
local macro_rules | `(tactic| walk_at "cond") => `(tactic| first
  | exact rfl | assumption | exact decide_eq_true (by omega) | exact decide_eq_false (by omega) | exact nd_t (by omega) | exact nd_f (by omega))
local macro_rules | `(tactic| walk_at "val") => `(tactic| first
  | assumption
  | with_reducible exact addO_int _ _ _ | with_reducible exact subO_int _ _ _ | with_reducible exact cmpO_int _ _ _ _ | with_reducible exact int0_int _ _ _ _
  | ((with_reducible apply v_mul); (first | assumption | exact mulL (by omega) | exact mulR (by omega)))
  | ((with_reducible apply v_mod); (first | assumption | omega | decide))
  | ((with_reducible apply v_div); (first | assumption | exact divP (by omega) | exact divP (by decide)))
  | ((with_reducible apply v_pow); (first | assumption | exact powP (by decide) | exact powP (by omega)))
  | ((with_reducible apply v_ixl); (first | assumption | exact rfl))
  | ((with_reducible apply v_ixt); (first | assumption | exact rfl))
  | ((with_reducible apply v_ixr); (first | assumption | exact rfl))
  | ((with_reducible apply v_dg); exact rfl)
  | with_reducible exact eqv_int _ _ _ | with_reducible exact nev_int _ _ _ | with_reducible exact eqv_str _ _ _ | with_reducible exact min2v _ _ _ | with_reducible exact max2v _ _ _
  | with_reducible exact int1v_b _ _ | with_reducible exact int1v_i _ _
  | with_reducible exact lenv_lst _ _ | with_reducible exact lenv_tup _ _ | with_reducible exact tuplev_lst _ _ | with_reducible exact tuplev_tup _ _ | with_reducible exact slv_lst _ _ _ _
  | ((with_reducible apply v_ixc); (first | assumption | exact get_end | exact rfl); (first | assumption | exact rfl))
  | ((with_reducible apply v_app); (first | assumption | exact get_end | exact rfl); (first | assumption | (show _ < _; simp only [List.length_map, List.length_cons, List.length_nil]; omega)))
  | ((with_reducible apply v_addll); (first | assumption | (show _ < _; simp only [List.length_map, List.length_cons, List.length_nil]; omega)))
  | ((with_reducible apply v_lenc); (first | assumption | exact get_end | exact rfl))
  | exact rfl)
local macro_rules | `(tactic| walk_at "go") => `(tactic| repeat' first
  | assumption
  | with_reducible exact r_c | with_reducible exact r_nil | with_reducible exact r_noO | with_reducible exact r_next | with_reducible exact r_retN | with_reducible exact r_nilG | with_reducible exact r_nmG
  | ((with_reducible apply r_v); exact rfl)
  | with_reducible apply r_seq | with_reducible apply r_set | with_reducible apply r_par2 | with_reducible apply r_par3 | with_reducible apply r_asg | with_reducible apply r_drop | with_reducible apply r_ret | with_reducible apply r_if
  | with_reducible apply r_cons | with_reducible apply r_one
  | with_reducible apply r_tup | with_reducible apply r_lst | with_reducible apply r_new
  | with_reducible apply r_op2 | with_reducible apply r_op1 | with_reducible apply r_cb | with_reducible apply r_fn | with_reducible apply r_bm | with_reducible apply r_sl | with_reducible apply r_someO
  | with_reducible apply r_tv | with_reducible apply r_not | with_reducible apply r_and | with_reducible apply r_or | with_reducible apply r_andV | with_reducible apply r_orV | with_reducible apply r_notV | with_reducible apply r_ite
  | with_reducible apply r_tupG | with_reducible apply r_consG | with_reducible apply r_subG
  | ((with_reducible apply i_y); (walk_at "cond")) | ((with_reducible apply i_n); (walk_at "cond"))
  | ((with_reducible apply v_isLoc); (first | assumption | exact get_end | exact rfl))
  | (show _ < _; first | decide | assumption | (simp only [List.length_map, List.length_cons, List.length_nil]; omega))
  | (walk_at "val"))
/-! ### unlike names -/
noncomputable def namesB (c : Cs) : FS := (seqS (setS 11 (op2D mulO (op2D modO (op2D addO (op2D addO (varD 3) (varD 5)) (cbD lenO (consA (varD 4) nilA))) (cD (.int 3))) (cbD int1O (consA (op2D neO (varD 9) (cD (.str ""))) nilA))))
    (seqS (setS 12 (op2D ixO (varD 2) (op2D modO (op2D addO (varD 3) (op2D mulO (varD 6) (op2D ixO (lstD (consA (varD 10) (consA (op2D fdivO (varD 10) (cD (.int 2))) (consA (varD 10) nilA)))) (varD 11)))) (cD (.int 26)))))
    (dropS (bmD isLoc appO (varD 7) (consA (op2D addO (op2D addO (varD 8) (varD 12)) (op2D ixO (lstD (consA (varD 9) (consA (op2D mulTO (varD 9) (op2D modO (varD 10) (cD (.int 2)))) (consA (slD slO (varD 9) noO (someO (op2D modO (varD 10) (op2D addO (cbD lenO (consA (varD 9) nilA)) (cD (.int 1)))))) nilA)))) (varD 11))) nilA)))))
theorem v_sls {S : Sg} {z : Str} {lo hi : Option Int} (l : z.length < 1000000) : slO (.str z) lo hi S = some (.str (cutS z lo hi), S) := by
  show slSO (.str z) lo hi S = _
  unfold slSO
  dsimp only
  rw [if_pos ((fits_iff _).mpr l)]
theorem v_nes {S : Sg} (i j : Str) : neO (.str i) (.str j) S = some (.bl (!decide (i = j)), S) := rfl
theorem Lets.empty : Lets Str.empty := fun c hc => by cases hc
theorem Lets.append {z y : Str} (h : Lets z) (h' : Lets y) : Lets (z ++ y) := fun c hc => by
  rw [show (z ++ y).cps = z.cps ++ y.cps from rfl, Array.toList_append] at hc
  rcases List.mem_append.mp hc with q | q
  · exact h c q
  · exact h' c q
theorem Lets.cut {z : Str} (h : Lets z) (lo hi : Option Int) : Lets (cutS z lo hi) := fun c hc => by
  unfold cutS at hc
  have hc' : c ∈ List.take _ (List.drop _ _) := hc
  exact h c (List.mem_of_mem_drop (List.mem_of_mem_take hc'))
theorem cut_size (z : Str) (lo hi : Option Int) : (cutS z lo hi).length ≤ z.length := by
  rw [len_cps, len_cps]
  unfold cutS
  show List.length (List.take _ (List.drop _ _)) ≤ _
  rw [List.length_take, List.length_drop]
  omega
theorem cut_parts (z : Str) (n : Nat) (h : n ≤ z.length) : (cutS z none (some (n : Int))).length = n ∧ (cutS z (some (n : Int)) none).length = z.length - n := by
  rw [len_cps, len_cps]
  unfold cutS
  show List.length (List.take _ (List.drop _ _)) = _ ∧ List.length (List.take _ (List.drop _ _)) = _
  rw [HT.sIx_none, HT.sIx_none, HT.sIx_nat, HT.sIx_nat, List.length_take, List.length_drop, List.length_take, List.length_drop, ← len_cps]
  omega
/-- the i-th name: its sign's place, what stands behind it -/
def NmR (hd tl : Str) (sh step way : Int) (i : Nat) (z : Str) : Prop := ∃ (sg : Nat) (y : Str), z = hd ++ ⟨#[sg]⟩ ++ y ∧ atI lettersS.cps.toList ((sh + step * (if way = 1 then (i : Int) / 2 else (i : Int))) % 26) = some sg ∧ (way = 1 → y = if (i : Int) % 2 = 1 then tl else Str.empty)
def nmWay (sh at_ : Int) (stem tl : Str) : Int := (sh + at_ + (stem.length : Int)) % 3 * (if (!decide (tl = (Str.ofString ""))) = true then (1 : Int) else 0)
theorem letters_nd : lettersS.cps.toList.Nodup := by decide +kernel
theorem letters_inj {i j : Int} {x : Nat} (i0 : 0 ≤ i) (j0 : 0 ≤ j) (h1 : atI lettersS.cps.toList i = some x) (h2 : atI lettersS.cps.toList j = some x) : i = j := by
  obtain ⟨a, rfl⟩ := Int.eq_ofNat_of_zero_le i0
  obtain ⟨b, rfl⟩ := Int.eq_ofNat_of_zero_le j0
  rw [atI_ofNat] at h1 h2
  have := (List.getElem?_inj (List.getElem?_eq_some_iff.mp h1).1 letters_nd).mp (h1.trans h2.symm)
  omega
theorem NmR.ne {hd tl : Str} {sh step way : Int} {i j : Nat} {z w : Str} (hs : step = 1 ∨ step = 7 ∨ step = 25) (hw : way = 1 → tl.length ≠ 0) (hi : i < 26) (hj : j < 26) (hij : i ≠ j) (h : NmR hd tl sh step way i z) (k : NmR hd tl sh step way j w) : z ≠ w := by
  obtain ⟨sg, y, rfl, a1, b1⟩ := h
  obtain ⟨sg', y', rfl, a2, b2⟩ := k
  intro e
  have e1 : (hd ++ ⟨#[sg]⟩ ++ y).cps.toList = (hd ++ ⟨#[sg']⟩ ++ y').cps.toList := by rw [e]
  have e2 : hd.cps.toList ++ (sg :: y.cps.toList) = hd.cps.toList ++ (sg' :: y'.cps.toList) := by
    have l1 : ∀ (s : Nat) (y : Str), (hd ++ ⟨#[s]⟩ ++ y).cps.toList = hd.cps.toList ++ (s :: y.cps.toList) := fun s y => by
      show ((hd.cps ++ #[s]) ++ y.cps).toList = _
      rw [Array.toList_append, Array.toList_append, List.append_assoc]
      rfl
    rw [l1, l1] at e1
    exact e1
  have e3 := List.append_cancel_left e2
  injection e3 with e4 e5
  subst e4
  have e6 := letters_inj (Int.emod_nonneg _ (by decide)) (Int.emod_nonneg _ (by decide)) a1 a2
  by_cases h1 : way = 1
  · rw [if_pos h1, if_pos h1] at e6
    have b1 := b1 h1
    have b2 := b2 h1
    have hl : y.cps.toList.length = y'.cps.toList.length := by rw [e5]
    have z0 : Str.empty.cps.toList.length = 0 := rfl
    have tp := hw h1
    rw [len_cps] at tp
    rcases hs with rfl | rfl | rfl
    all_goals
      by_cases m1 : (i : Int) % 2 = 1 <;> by_cases m2 : (j : Int) % 2 = 1
      · omega
      · rw [b1, b2, if_pos m1, if_neg m2] at hl
        omega
      · rw [b1, b2, if_neg m1, if_pos m2] at hl
        omega
      · omega
  · rw [if_neg h1, if_neg h1] at e6
    rcases hs with rfl | rfl | rfl <;> omega
theorem names_step (c : Cs) {S : Sg} {t fo i : Nat} {m sh at_ step : Int} {stem hd tl : Str} {ns : List Str} {x10 x11 x12 : Option D} (hi : i < 26) (h0 : 0 ≤ sh ∧ sh < 26) (h1 : 0 ≤ at_ ∧ at_ < 26) (h2 : 0 ≤ step ∧ step ≤ 25) (hs : stem.length ≤ 7) (hd1 : Lets hd) (tl1 : Lets tl) (hl : hd.length + tl.length ≤ 7) (hn : ns.length < 100) (hfo : S[fo]? = some (.lst (ns.map .str))) :
    ∃ z x11' x12', GoodName z ∧ NmR hd tl sh step (nmWay sh at_ stem tl) i z ∧ stepFor (nmG 10) (namesB c) (.int (i : Int)) [some (.loc t), some (.int m), some (.str "abcdefghijklmnopqrstuvwxyz"), some (.int sh), some (.str stem), some (.int at_), some (.int step), some (.loc fo), some (.str hd), some (.str tl), x10, x11, x12] S = some (.nx, [some (.loc t), some (.int m), some (.str "abcdefghijklmnopqrstuvwxyz"), some (.int sh), some (.str stem), some (.int at_), some (.int step), some (.loc fo), some (.str hd), some (.str tl), some (.int (i : Int)), x11', x12'], S.set fo (.lst ((ns ++ [z]).map .str))) := by
  have w0 : 0 ≤ (sh + at_ + (stem.length : Int)) % 3 := Int.emod_nonneg _ (by decide)
  have w1 : (sh + at_ + (stem.length : Int)) % 3 < 3 := Int.emod_lt_of_pos _ (by decide)
  have hw : ∃ way : Int, 0 ≤ way ∧ way < 3 ∧ (sh + at_ + (stem.length : Int)) % 3 * (if (!decide (tl = (Str.ofString ""))) = true then (1 : Int) else 0) = way := by
    cases (!decide (tl = (Str.ofString ""))) with
    | true => exact ⟨_, w0, w1, by rw [if_pos rfl, Int.mul_one]⟩
    | false => exact ⟨0, by decide, by decide, by rw [if_neg (by decide), Int.mul_zero]⟩
  obtain ⟨way, ww0, ww1, hway⟩ := hw
  obtain ⟨kk, hkk, k0, k1, hkw⟩ : ∃ kk : Int, atI [D.int (i : Int), D.int ((i : Int) / 2), D.int (i : Int)] way = some (.int kk) ∧ 0 ≤ kk ∧ kk ≤ 26 ∧ kk = if way = 1 then (i : Int) / 2 else (i : Int) := by
    rcases (show way = 0 ∨ way = 1 ∨ way = 2 by omega) with rfl | rfl | rfl
    · exact ⟨_, rfl, by omega, by omega, rfl⟩
    · exact ⟨_, rfl, by omega, by omega, rfl⟩
    · exact ⟨_, rfl, by omega, by omega, rfl⟩
  obtain ⟨sg, hsg, hsb⟩ := letter_at (i := (sh + step * kk) % 26) (Int.emod_nonneg _ (by decide)) (Int.emod_lt_of_pos _ (by decide))
  have m01 : (i : Int) % 2 = 0 ∨ (i : Int) % 2 = 1 := by omega
  have tpos : (0 : Int) < (tl.length : Int) + 1 := by omega
  obtain ⟨y, hy, hyL, hyn, hyw⟩ : ∃ y : Str, atI [D.str tl, D.str (if (i : Int) % 2 = 1 then tl else Str.empty), D.str (cutS tl none (some ((i : Int) % ((tl.length : Int) + 1))))] way = some (.str y) ∧ Lets y ∧ y.length ≤ tl.length ∧ (way = 1 → y = if (i : Int) % 2 = 1 then tl else Str.empty) := by
    rcases (show way = 0 ∨ way = 1 ∨ way = 2 by omega) with rfl | rfl | rfl
    · exact ⟨tl, rfl, tl1, Nat.le_refl _, fun z => by cases z⟩
    · refine ⟨_, rfl, ?_, ?_, fun _ => rfl⟩
      · split
        · exact tl1
        · exact Lets.empty
      · split
        · exact Nat.le_refl _
        · exact Nat.zero_le _
    · exact ⟨_, rfl, tl1.cut _ _, cut_size _ _ _, fun z => by cases z⟩
  have hlen : (hd ++ ⟨#[sg]⟩ ++ y).length = hd.length + 1 + y.length := by
    rw [Str.length_append, Str.length_append]
    rfl
  refine ⟨hd ++ ⟨#[sg]⟩ ++ y, some (.int way), some (.str ⟨#[sg]⟩), ⟨by rw [hlen]; omega, by rw [hlen]; omega, (hd1.append (Lets.one hsb)).append hyL⟩, ⟨sg, y, rfl, by rw [show nmWay sh at_ stem tl = way from hway, ← hkw]; exact hsg, fun e => hyw (by rw [← e]; exact hway.symm)⟩, ?_⟩
  refine st_for r_nmG ?_
  unfold namesB
  have mm : MulB ((sh + at_ + (stem.length : Int)) % 3) (if (!decide (tl = (Str.ofString ""))) = true then (1 : Int) else 0) := mulL (by omega)
  have l26 : (Str.ofString "abcdefghijklmnopqrstuvwxyz").length < 1000000 := by decide +kernel
  refine r_seq (r_set (d := .int way) (S1 := S) ?_) (r_seq (r_set (d := .str ⟨#[sg]⟩) (S1 := S) ?_) (r_drop (d := .non) ?_))
  · rw [← hway]
    exact r_op2 (r_op2 (r_op2 (r_op2 (r_v rfl) (r_v rfl) (addO_int _ _ _)) (r_cb (r_cons (r_v rfl) r_nil) (v_lens (by omega))) (addO_int _ _ _)) r_c (v_mod (by decide))) (r_cb (r_cons (r_op2 (r_v rfl) r_c (v_nes _ _)) r_nil) (int1v_b _ _)) (v_mul mm)
  · exact r_op2 (r_v rfl) (r_op2 (r_op2 (r_v rfl) (r_op2 (r_v rfl) (r_op2 (r_lst (r_cons (r_v rfl) (r_cons (r_op2 (r_v rfl) r_c (v_div (divP (by decide)))) (r_cons (r_v rfl) r_nil))) (show 3 < 1000000 by decide)) (r_v rfl) (v_ixl hkk)) (v_mul (mulL (by omega)))) (addO_int _ _ _)) r_c (v_mod (by decide))) (v_ixs l26 hsg)
  · rw [List.map_append]
    refine r_bm (r_v rfl) (v_isLoc hfo) (r_cons (r_op2 (r_op2 (r_v rfl) (r_v rfl) (v_adds (show hd.length + 1 < 1000000 by omega))) (r_op2 (r_lst (r_cons (r_v rfl) (r_cons (r_op2 (r_v rfl) (r_op2 (r_v rfl) r_c (v_mod (by decide))) (v_mulT m01)) (r_cons (r_sl (r_v rfl) r_noO (r_someO (r_op2 (r_v rfl) (r_op2 (r_cb (r_cons (r_v rfl) r_nil) (v_lens (by omega))) r_c (addO_int _ _ _)) (v_mod tpos))) (v_sls (by omega))) r_nil))) (show 3 < 1000000 by decide)) (r_v rfl) (v_ixl hy)) (v_adds ?_)) r_nil) (v_app hfo (by rw [List.length_map]; omega))
    rw [Str.length_append]
    show hd.length + 1 + y.length < 1000000
    omega
theorem lc_stD {δ : Dl} {S0 S : Sg} {t v cnt j : Nat} {b n : Int} {fa : FA} {f : FE} {R : D → Prop} (hT : Tp S t b n) (hj : j < 1000000) (hfa : fa δ S0 = some ([.int (j : Int)], S)) (hw : wipeD δ [v] = δ)
    (hf : ∀ (i u : Nat) (S1 : Sg), i < j → Tp S1 t b (n + (cnt * i : Nat)) → ∃ y S2, f (δ.set v (some (.int (u : Int)))) S1 = some (y, S2) ∧ R y ∧ Sa S1 t b (n + (cnt * i : Nat) + cnt) S2) :
    ∃ (out : List D) (S' : Sg), lcD r1K fa (nmG v) yesT f [v] δ S0 = some (.lst out, S') ∧ out.length = j ∧ (∀ y ∈ out, R y) ∧ Sa S t b (n + (cnt * j : Nat)) S' := by
  have hk := fun S' => rng_k hj S'
  have hlen := rngL_len 0 j
  obtain ⟨out, S', e, p, l, r⟩ := lcGo_inv (k := r1K) (ds := [.int (j : Int)]) (items := rngL 0 j) (g := nmG v) (c := yesT) (f := f) (δ := δ) (fun i S' => Sa S t b (n + (cnt * i : Nat)) S') R j (fun i S' _ => hk S')
    (by
      intro i d S1 hi hd p
      obtain ⟨u, hu, rfl⟩ := rng_mem hd
      obtain ⟨x, S2, e, hx, p2⟩ := hf i u S1 hi p.tp
      exact ⟨_, _, mapC' rfl e, (p.trans p2).mono (by rw [Nat.mul_add]; omega), hx⟩)
    (r := rngL 0 j) (acc := []) (i := 0) (S := S) (by rw [hlen]; omega) (fun d hd => hd) (by simpa using hT.sa)
  rw [hlen, Nat.zero_add] at p
  refine ⟨out, S', ?_, by rw [l, hlen], r, p⟩
  rw [lcD_ap, hfa, bd_some]
  dsimp only
  rw [hk, bd_some, if_pos ((fits_iff _).mpr (by rw [hlen]; exact hj)), hw, e]
  rfl
theorem strs_of {out : List D} {R : Str → Prop} (h : ∀ y ∈ out, ∃ x, y = .str x ∧ R x) : ∃ xs : List Str, out = xs.map .str ∧ xs.length = out.length ∧ ∀ x ∈ xs, R x := by
  induction out with
  | nil => exact ⟨[], rfl, rfl, fun x h => by cases h⟩
  | cons y out ih =>
    obtain ⟨x, rfl, hx⟩ := h y (by simp)
    obtain ⟨xs, rfl, hl, h3⟩ := ih fun y hy => h y (by simp [hy])
    refine ⟨x :: xs, rfl, by rw [List.length_cons, List.length_cons, hl], fun w hw => ?_⟩
    rcases List.mem_cons.mp hw with rfl | hw
    · exact hx
    · exact h3 w hw
theorem names_ok (c : Cs) {S : Sg} {t : Nat} {b n : Int} (h : Tp S t b n) (hn : n ≤ 900000) (hc : Cl S) {m : Nat} (hm : m ≤ 26) : ∃ (zs : List Str) (S' : Sg), F_Lnames c [.loc t, .int (m : Int)] S = some (.lst (zs.map .str), S') ∧ zs.length = m ∧ (∀ z ∈ zs, GoodName z) ∧ zs.Nodup ∧ Sa S t b (n + 11) S' := by
  obtain ⟨sh, S1, e1, a0, a1, s1⟩ := draw_s c h (by omega) (many := 26) (by decide) (by decide)
  obtain ⟨q8, S2, e2, b0, b1, s2⟩ := draw_s c s1.tp (by omega) (many := 8) (by decide) (by decide)
  obtain ⟨j, rfl⟩ := Int.eq_ofNat_of_zero_le b0
  have l26 : (Str.ofString "abcdefghijklmnopqrstuvwxyz").length < 1000000 := by decide +kernel
  obtain ⟨out, S3, e3, l3, r3, s3⟩ := lc_stD (δ := [some (.loc t), some (.int (m : Int)), some (.str "abcdefghijklmnopqrstuvwxyz"), some (.int sh), none, none, none, none, none, none, none, none, none]) (S0 := S1) (S := S2) (t := t) (v := 10) (cnt := 1) (j := j) (b := b) (n := n + 1 + 1) (fa := consA (fnD (F_Ldraw c) [] (consA (varD 0) (consA (cD (.int 8)) nilA))) nilA) (f := op2D ixO (varD 2) (fnD (F_Ldraw c) [] (consA (varD 0) (consA (cD (.int 26)) nilA)))) (R := fun y => ∃ z, y = .str z ∧ (Lets z ∧ z.length = 1)) s2.tp (by omega) (r_cons (r_fn (r_cons (r_v rfl) (r_cons r_c r_nil)) rfl e2) r_nil) rfl
    (fun i u Z hi hT => by
      obtain ⟨r, Z1, e1, r0, r1, z1⟩ := draw_s c hT (by omega) (many := 26) (by decide) (by decide)
      obtain ⟨w, hw, hw2⟩ := letter_at r0 r1
      exact ⟨_, Z1, r_op2 (r_v rfl) (r_fn (r_cons (r_v rfl) (r_cons r_c r_nil)) rfl e1) (v_ixs l26 hw), ⟨⟨#[w]⟩, rfl, Lets.one hw2, rfl⟩, z1.mono (by omega)⟩)
  obtain ⟨zs, rfl, lz, hz⟩ := strs_of r3
  obtain ⟨j1, j2⟩ := join_lets (sep := Str.ofString "") (by decide +kernel) zs hz
  have hj : ∀ S' : Sg, joinO (.str (Str.ofString "")) [.lst (zs.map .str)] S' = some (.str (Txt.join (Str.ofString "") zs), S') := fun S' => by
    rw [joinv_lst, strsOf_map, bd_some, if_pos]
    rw [fits_iff, sum_ones zs fun z h => (hz z h).2, lz, l3, show (Str.ofString "").length = 0 by decide +kernel]
    omega
  generalize Txt.join (Str.ofString "") zs = stem at j1 j2 hj
  have sl : stem.length ≤ 7 := by omega
  obtain ⟨at_, S4, e4, c0, c1, s4⟩ := draw_s c s3.tp (by omega) (many := (stem.length : Int) + 1) (by omega) (by omega)
  obtain ⟨r3, S5, e5, d0, d1, s5⟩ := draw_s c s4.tp (by omega) (many := 3) (by decide) (by decide)
  obtain ⟨step, hst, st0, st1, st3⟩ : ∃ m : Int, atI [D.int 1, D.int 7, D.int 25] r3 = some (.int m) ∧ 0 ≤ m ∧ m ≤ 25 ∧ (m = 1 ∨ m = 7 ∨ m = 25) := by
    rcases (show r3 = 0 ∨ r3 = 1 ∨ r3 = 2 by omega) with rfl | rfl | rfl
    · exact ⟨1, rfl, by decide, by decide, .inl rfl⟩
    · exact ⟨7, rfl, by decide, by decide, .inr (.inl rfl)⟩
    · exact ⟨25, rfl, by decide, by decide, .inr (.inr rfl)⟩
  obtain ⟨ai, rfl⟩ := Int.eq_ofNat_of_zero_le c0
  obtain ⟨hn1, hn2⟩ := cut_parts stem ai (by omega)
  have hL1 := j1.cut none (some (ai : Int))
  have hL2 := j1.cut (some (ai : Int)) none
  have g1 : slO (.str stem) none (some (ai : Int)) (S5 ++ [.lst []]) = some (.str (cutS stem none (some (ai : Int))), S5 ++ [.lst []]) := v_sls (by omega)
  have g2 : slO (.str stem) (some (ai : Int)) none (S5 ++ [.lst []]) = some (.str (cutS stem (some (ai : Int)) none), S5 ++ [.lst []]) := v_sls (by omega)
  generalize cutS stem none (some (ai : Int)) = hd at hn1 hL1 g1
  generalize cutS stem (some (ai : Int)) none = tl at hn2 hL2 g2
  have main := r_forT (k := r1K) (f := consA (varD 1) nilA) (g := nmG 10) (body := namesB c) (δ := [some (.loc t), some (.int (m : Int)), some (.str "abcdefghijklmnopqrstuvwxyz"), some (.int sh), some (.str stem), some (.int (ai : Int)), some (.int step), some (.loc S5.length), some (.str hd), some (.str tl), none, none, none]) (S := S5 ++ [.lst []]) (S1 := S5 ++ [.lst []]) (List.range m) (fun (i : Nat) => .int (i : Int))
    (fun pre δ Z => ∃ (ns : List Str) (x10 x11 x12 : Option D), δ = [some (.loc t), some (.int (m : Int)), some (.str "abcdefghijklmnopqrstuvwxyz"), some (.int sh), some (.str stem), some (.int (ai : Int)), some (.int step), some (.loc S5.length), some (.str hd), some (.str tl), x10, x11, x12] ∧ Z = S5 ++ [.lst (ns.map .str)] ∧ ns.length = pre.length ∧ (∀ z ∈ ns, GoodName z) ∧ ∀ (q : Nat) (z : Str), ns[q]? = some z → NmR hd tl sh step (nmWay sh (ai : Int) stem tl) q z)
    (r_cons (r_v rfl) r_nil) ⟨[], none, none, none, rfl, rfl, rfl, (fun z hz => by cases hz), fun q z hz => by cases hz⟩ (fun _ _ _ _ => k_rng (by omega) _) (by
      rintro pre i post δ Z hx ⟨ns, x10, x11, x12, rfl, rfl, hl, hg, hr⟩
      have hpl : pre.length < m := by
        have := congrArg List.length hx
        rw [List.length_range, List.length_append, List.length_cons] at this
        omega
      have him : i < m := List.mem_range.mp (by rw [hx]; simp)
      obtain ⟨z, x11', x12', gz, rz, e⟩ := names_step c (S := S5 ++ [.lst (ns.map .str)]) (t := t) (fo := S5.length) (i := i) (m := (m : Int)) (sh := sh) (at_ := (ai : Int)) (step := step) (stem := stem) (hd := hd) (tl := tl) (ns := ns) (x10 := x10) (x11 := x11) (x12 := x12) (by omega) (by omega) (by omega) (by omega) sl hL1 hL2 (by omega) (by omega) get_end
      rw [set_end] at e
      have hii : i = pre.length := by
        have h1 : (List.range m)[pre.length]? = some i := by rw [hx, List.getElem?_append_right (Nat.le_refl _), Nat.sub_self]; rfl
        rw [List.getElem?_range hpl] at h1
        exact (Option.some.inj h1).symm
      refine ⟨_, _, e, ns ++ [z], _, _, _, rfl, rfl, by rw [List.length_append, List.length_append, hl]; rfl, fun w hw => ?_, fun q w hw => ?_⟩
      · rcases List.mem_append.mp hw with h' | h'
        · exact hg w h'
        · rw [List.mem_singleton.mp h']; exact gz
      · by_cases hq : q < ns.length
        · rw [List.getElem?_append_left hq] at hw
          exact hr q w hw
        · have hq2 := (List.getElem?_eq_some_iff.mp hw).1
          rw [List.length_append, List.length_singleton] at hq2
          have hq3 : q = ns.length := by omega
          subst hq3
          rw [List.getElem?_append_right (Nat.le_refl _), Nat.sub_self] at hw
          cases hw
          rw [hl, ← hii]
          exact rz)
  obtain ⟨δ', Z, e6, ns, x10, x11, x12, rfl, rfl, hl, hg, hr⟩ := main
  rw [List.length_range] at hl
  have sA := s1.trans (s2.trans (s3.trans (s4.trans s5)))
  have hnd : ns.Nodup := by
    have hw1 : nmWay sh (ai : Int) stem tl = 1 → tl.length ≠ 0 := fun e z => by
      have : tl = Str.ofString "" := by
        refine Str.ext' (Array.toList_inj.mp ?_)
        have z' := z
        rw [len_cps] at z'
        rw [List.eq_nil_of_length_eq_zero z']
        decide +kernel
      unfold nmWay at e
      rw [this, decide_eq_true rfl, if_neg (by decide), Int.mul_zero] at e
      cases e
    rw [List.nodup_iff_pairwise_ne, List.pairwise_iff_getElem]
    intro i j hi hj hij
    exact NmR.ne st3 hw1 (by omega) (by omega) (by omega) (hr i _ (List.getElem?_eq_getElem hi)) (hr j _ (List.getElem?_eq_getElem hj))
  refine ⟨ns, S5, ?_, hl, hg, hnd, sA.mono (by omega)⟩
  unfold F_Lnames B_Lnames
  refine r_body (d := .loc S5.length) (S1 := S5 ++ [.lst (ns.map .str)]) (r_seq (r_asg (r_tup (r_cons r_c (r_cons (r_fn (r_cons (r_v rfl) (r_cons r_c r_nil)) rfl e1) r_nil)) (show 2 < 1000000 by decide)) (r_tupG rfl (r_consG r_nmG (r_consG r_nmG r_nilG)))) (r_seq (r_set (r_bm r_c rfl (r_cons e3 r_nil) (hj _))) (r_seq (r_par3 (r_cons (r_fn (r_cons (r_v rfl) (r_cons (r_op2 (r_cb (r_cons (r_v rfl) r_nil) (v_lens (by omega))) r_c (addO_int _ _ _)) r_nil)) rfl e4) (r_cons (r_op2 (r_lst (r_cons r_c (r_cons r_c (r_cons r_c r_nil))) (show 3 < 1000000 by decide)) (r_fn (r_cons (r_v rfl) (r_cons r_c r_nil)) rfl e5) (v_ixl hst)) (r_cons (r_new r_nil (show 0 < 1000000 by decide)) r_nil)))) (r_seq (r_par2 (r_cons (r_sl (r_v rfl) r_noO (r_someO (r_v rfl)) g1) (r_cons (r_sl (r_v rfl) (r_someO (r_v rfl)) r_noO g2) r_nil))) (r_seq e6 (r_ret (r_v rfl))))))) ?_
  rw [show S.length = S5.length by rw [sA.len]]
  refine fin_cut (by simp) ?_ (sA.cl hc)
  refine z_loc (Nat.lt_irrefl _) (z_pl get_end (frzL_old _ (oldL_map fun _ _ => by unfold old; rfl)))
/-! ### draws, forward -/
section
variable {S0 A : Sg} {L : List Ob} {t : Nat} {b n : Int} {Q : D → Sg → Prop}
theorem Sa.popL : ∀ {L : List Ob} {Z : Sg}, Sa (A ++ L) t b n Z → t < A.length → ∃ A', Z = A' ++ L ∧ Sa A t b n A'
  | L, Z, h, hl => by
    obtain ⟨a, k, rfl, T, _⟩ := h
    exact ⟨_, by rw [List.set_append_left _ _ hl], a, k, rfl, T, hl⟩
theorem Tp.app (h : Tp A t b n) : Tp (A ++ L) t b n := by
  obtain ⟨a, k, e, T⟩ := h
  exact ⟨a, k, by rw [List.getElem?_append_left (List.getElem?_eq_some_iff.mp e).1]; exact e, T⟩
theorem Sa.app (h : Sa S0 t b n A) : Sa (S0 ++ L) t b n (A ++ L) := by
  obtain ⟨a, k, rfl, T, l⟩ := h
  exact ⟨a, k, by rw [List.set_append_left _ _ l], T, by rw [List.length_append]; omega⟩
theorem w_draw (c : Cs) (h : Sa S0 t b n A) (hn : n ≤ 1000000) {many : Int} (hm : 0 < many) (hm2 : many ≤ 10000000000000)
    (k : ∀ r A', 0 ≤ r → r < many → Sa S0 t b (n + 1) A' → A'.length = S0.length → Q (.int r) (A' ++ L)) : W (F_Ldraw c [.loc t, .int many] (A ++ L)) Q := by
  have tp := h.tp
  obtain ⟨r, Z, e, r0, r1, s⟩ := draw_s c tp.app hn hm hm2 (S := A ++ L)
  obtain ⟨A', rfl, s'⟩ := s.popL tp.lt
  exact ⟨_, _, e, k r A' r0 r1 (h.trans s') ((h.trans s').len)⟩
/-- any def that draws, told for any store -/
theorem w_spec {F : Fn} {ds : List D} {α : Type} {e : α → D} {P : α → Prop} {m : Int} (h : Sa S0 t b n A) (hf : ∃ x Z, F ds (A ++ L) = some (e x, Z) ∧ P x ∧ Sa (A ++ L) t b m Z)
    (k : ∀ x A', P x → Sa S0 t b m A' → A'.length = S0.length → Q (e x) (A' ++ L)) : W (F ds (A ++ L)) Q := by
  obtain ⟨x, Z, e1, p, s⟩ := hf
  obtain ⟨A', rfl, s'⟩ := s.popL h.tp.lt
  exact ⟨_, _, e1, k x A' p (h.trans s') ((h.trans s').len)⟩
theorem Cl.app (h : Cl A) {L : List Ob} (ho : ∀ x ∈ L, oldO (A.length + L.length) x = true) : Cl (A ++ L) := h.append ho
end
/-! ### places of the store ahead -/
section
variable {A : Sg} {L : List Ob} {n : Nat} {Q : D → Sg → Prop}
theorem aa_get {o : Ob} (h : A[n]? = some o) : (A ++ L)[n]? = some o := by
  rw [List.getElem?_append_left (List.getElem?_eq_some_iff.mp h).1]; exact h
theorem aa_set {o o' : Ob} (h : A[n]? = some o) : (A ++ L).set n o' = A.set n o' ++ L := by
  rw [List.set_append_left _ _ (List.getElem?_eq_some_iff.mp h).1]
theorem wa_ix {xs : List D} {i : Int} {y : D} (h : A[n]? = some (.lst xs)) (h2 : atI xs i = some y) (q : Q y (A ++ L)) : W (ixO (.loc n) (.int i) (A ++ L)) Q :=
  ⟨_, _, v_ixc (aa_get h) h2, q⟩
theorem wa_len {xs : List D} (h : A[n]? = some (.lst xs)) (q : Q (.int (xs.length : Int)) (A ++ L)) : W (lenO [.loc n] (A ++ L)) Q :=
  ⟨_, _, v_lenc (aa_get h), q⟩
theorem wa_app {xs : List D} {y : D} (h : A[n]? = some (.lst xs)) (l : xs.length < 1000000) (q : Q .non (A.set n (.lst (xs ++ [y])) ++ L)) : W (appO (.loc n) [y] (A ++ L)) Q :=
  ⟨_, _, by rw [v_app (aa_get h) l, aa_set h], q⟩
theorem wa_set {xs : List D} {i : Int} {j : Nat} {z : D} {P : Sg → Prop} (h : A[n]? = some (.lst xs)) (hj : ixN xs.length i = some j) (q : P (A.set n (.lst (xs.set j z)) ++ L)) : ∃ S3, setLO (.loc n) (.int i) z (A ++ L) = some S3 ∧ P S3 :=
  ⟨_, by rw [v_setc (aa_get h) hj, aa_set h], q⟩
theorem wa_setD {gs : List (Key × D)} {y z : D} {kk : Key} {P : Sg → Prop} (h : A[n]? = some (.dct gs)) (l : gs.length < 1000000) (hj : keyOf y = some kk) (q : P (A.set n (.dct (putG gs kk z)) ++ L)) : ∃ S3, setDO (.loc n) y z (A ++ L) = some S3 ∧ P S3 :=
  ⟨_, by rw [v_setDc (aa_get h) l hj, aa_set h], q⟩
theorem wa_ds {gs : List (Key × D)} (h : A[n]? = some (.dct gs)) : dsOf (A ++ L) (.loc n) = some gs := by
  unfold dsOf
  dsimp only
  rw [aa_get h]
theorem wa_dg {gs : List (Key × D)} {e x : D} {kk : Key} (h : A[n]? = some (.dct gs)) (h2 : keyOf e = some kk) (h3 : valG gs kk = some x) (q : Q x (A ++ L)) : W (dgK (.loc n) e (A ++ L)) Q :=
  ⟨_, _, v_dgK (wa_ds h) h2 h3, q⟩
theorem wa_in {gs : List (Key × D)} {e : D} {kk : Key} {neg : Bool} (h : A[n]? = some (.dct gs)) (h2 : keyOf e = some kk) (q : Q (.bl (if neg then !(valG gs kk).isSome else (valG gs kk).isSome)) (A ++ L)) : W (inKO neg e (.loc n) (A ++ L)) Q :=
  ⟨_, _, v_inK (wa_ds h) h2, q⟩
theorem valG_cons (k k' : Key) (d : D) (r : List (Key × D)) : valG ((k', d) :: r) k = if k' = k then some d else valG r k := by
  unfold valG
  rw [List.find?_cons]
  by_cases h : k' = k
  · rw [if_pos h]
    simp [h]
  · rw [if_neg h]
    simp [h]
theorem putG_cons (k k' : Key) (d z : D) (r : List (Key × D)) (h : k' ≠ k) : putG ((k', d) :: r) k z = (k', d) :: putG r k z := by
  unfold putG
  rw [List.any_cons, show decide (k' = k) = false from decide_eq_false h, Bool.false_or]
  split
  · rw [List.map_cons, if_neg h]
  · rfl
theorem putG_one (k : Key) (d z : D) : putG [(k, d)] k z = [(k, z)] := by
  unfold putG
  simp
end
section
variable {A : Sg} {L : List Ob} {N k : Nat} {Q : D → Sg → Prop}
theorem wl_tuple (hl : A.length = N) {xs : List D} (h : L[k]? = some (.lst xs)) (q : Q (.tup xs) (A ++ L)) : W (tupleO [.loc (N + k)] (A ++ L)) Q :=
  ⟨_, _, tuplev_loc _ (by rw [al_get hl]; exact h), q⟩
theorem ixN_at {m k : Nat} (h : k < m) : ixN m (k : Int) = some k := by
  unfold ixN
  rw [if_pos (by omega), if_pos (by omega)]
  rfl
end
theorem br_join {q : Bool} {o1 o2 : Option (Fl × Dl × Sg)} {Q : Fl → Dl → Sg → Prop} {r : Fl} {δ' : Dl} {S' : Sg} (h1 : q = true → o1 = some (r, δ', S')) (h2 : q = false → o2 = some (r, δ', S')) (k : Q r δ' S') : Br q (WS o1 Q) (WS o2 Q) := ⟨fun h => ⟨_, _, _, h1 h, k⟩, fun h => ⟨_, _, _, h2 h, k⟩⟩
theorem br_joinW {α : Type} {q : Bool} {o1 o2 : Option (α × Sg)} {Q : α → Sg → Prop} {r : α} {S' : Sg} (h1 : q = true → o1 = some (r, S')) (h2 : q = false → o2 = some (r, S')) (k : Q r S') : Br q (W o1 Q) (W o2 Q) := ⟨fun h => ⟨_, _, h1 h, k⟩, fun h => ⟨_, _, h2 h, k⟩⟩
section
variable {δ : Dl} {S : Sg}
theorem w_argsN {Q : List D → Sg → Prop} (q : Q [] S) : W (argsL [] δ S) Q := ⟨_, _, rfl, q⟩
theorem w_argsC {f : FE} {r : List FE} {Q : List D → Sg → Prop} (h : W (f δ S) fun x S1 => W (argsL r δ S1) fun xs S2 => Q (x :: xs) S2) : W (argsL (f :: r) δ S) Q := by
  obtain ⟨x, S1, e1, y, S2, e2, q⟩ := h
  exact ⟨_, _, r_cons e1 e2, q⟩
theorem newDX {A : Sg} {L : List Ob} {N : Nat} {ds : List D} {ks : List Str} {P : Sg → List Ob → Nat → Prop} (hl : A.length = N) (l : ds.length = ks.length) (q : P A L N) : ∃ (A' : Sg) (L' : List Ob) (N' : Nat), A ++ L = A' ++ L' ∧ A'.length = N' ∧ ds.length = ks.length ∧ P A' L' N' := ⟨A, L, N, rfl, hl, l, q⟩
theorem wl_dictP {A : Sg} {L : List Ob} {N : Nat} {xs : List D} {gs : List (Key × D)} {Q : D → Sg → Prop} (hl : A.length = N) (h : pairsG xs = some gs) (q : Q (.loc (N + L.length)) (A ++ (L ++ [.dct (mergeG [] gs)]))) : W (dictP [.lst xs] (A ++ L)) Q := by
  refine ⟨_, _, v_dictP h, ?_⟩
  rw [List.length_append, hl, List.append_assoc]
  exact q
end
/-! ### sheets: what hangs together, what comes and goes -/
section
variable {α : Type} [DecidableEq α]
abbrev LnS (α : Type) := α × α × Option Int
/-- the places of a line, all that aren't counted as one -/
def enS (o : α) (cs : List (α × Int)) (z : α) : α := if z ∈ cs.map (·.1) then z else o
/-- the numbers of lines not told, but one -/
def frS (ls : List (LnS α)) (lo : Option Nat) (i : Nat) : Prop := ∃ a b, ls[i]? = some (a, b, none) ∧ lo ≠ some i
/-- a line not told leads from one to the other, or back -/
def AdS (o : α) (ls : List (LnS α)) (cs : List (α × Int)) (lo : Option Nat) (z w : α) : Prop :=
  ∃ i a b, ls[i]? = some (a, b, none) ∧ lo ≠ some i ∧ ((enS o cs a = z ∧ enS o cs b = w) ∨ (enS o cs a = w ∧ enS o cs b = z))
theorem AdS.symm {o : α} {ls : List (LnS α)} {cs : List (α × Int)} {lo : Option Nat} {z w : α} (h : AdS o ls cs lo z w) : AdS o ls cs lo w z := by
  obtain ⟨i, a, b, h1, h2, h3⟩ := h
  exact ⟨i, a, b, h1, h2, h3.symm⟩
inductive RcS (o : α) (ls : List (LnS α)) (cs : List (α × Int)) (lo : Option Nat) (s : α) : α → Prop
  | refl : RcS o ls cs lo s s
  | step {z w : α} : RcS o ls cs lo s z → AdS o ls cs lo z w → RcS o ls cs lo s w
/-- what is closed and holds the start holds all that is reached -/
theorem RcS.sub {o : α} {ls : List (LnS α)} {cs : List (α × Int)} {lo : Option Nat} {s : α} {P : α → Prop} (hs : P s) (hc : ∀ z w, P z → AdS o ls cs lo z w → P w) {z : α} (h : RcS o ls cs lo s z) : P z := by
  induction h with
  | refl => exact hs
  | step _ a ih => exact hc _ _ ih a
/-- +1 where a line comes to places, -1 where it goes from there -/
def sgS (P : List α) (l : LnS α) : Int := (if l.2.1 ∈ P then 1 else 0) - (if l.1 ∈ P then 1 else 0)
/-- what came by told lines, less the more -/
def surS (ls : List (LnS α)) (cs : List (α × Int)) (P : List α) : Int :=
  (ls.map fun l => match l.2.2 with | none => 0 | some m => m * sgS P l).sum - ((cs.filter fun c => decide (c.1 ∈ P)).map (·.2)).sum
/-- the numbers of lines not told that lead out of places or in -/
def acS (ls : List (LnS α)) (P : List α) : List Nat := (List.range ls.length).filter fun i => match ls[i]? with
  | some l => decide (l.2.2 = none) && decide ((l.1 ∈ P) ≠ (l.2.1 ∈ P))
  | none => false
/-- what really went -/
structure RealS (ls : List (LnS α)) (rs : List Int) (cs : List (α × Int)) : Prop where
  len : rs.length = ls.length
  told : ∀ (i : Nat) (l : LnS α) (m : Int), ls[i]? = some l → l.2.2 = some m → rs[i]? = some m
  nd : (cs.map (·.1)).Nodup
  more : ∀ c ∈ cs, c.2 = ((ls.zip rs).map fun p => p.2 * ((if p.1.2.1 = c.1 then 1 else 0) - (if p.1.1 = c.1 then 1 else 0))).sum
theorem sum_addS {β : Type} (f g : β → Int) (l : List β) : (l.map fun x => f x + g x).sum = (l.map f).sum + (l.map g).sum := by
  induction l with
  | nil => rfl
  | cons x r ih => simp only [List.map_cons, List.sum_cons, ih]; omega
theorem sum_zeroS {β : Type} {f : β → Int} {l : List β} (h : ∀ x ∈ l, f x = 0) : (l.map f).sum = 0 := by
  induction l with
  | nil => rfl
  | cons x r ih =>
    rw [List.map_cons, List.sum_cons, h x (List.mem_cons_self ..), ih fun y hy => h y (List.mem_cons_of_mem _ hy)]
    rfl
theorem sum_congS {β : Type} {f g : β → Int} {l : List β} (h : ∀ x ∈ l, f x = g x) : (l.map f).sum = (l.map g).sum := by
  rw [List.map_congr_left h]
/-- over places each once, a place's indicator sums to whether it is there -/
theorem sum_indS {P : List α} (hP : P.Nodup) (z : α) : (P.map fun p => if z = p then (1 : Int) else 0).sum = if z ∈ P then 1 else 0 := by
  induction P with
  | nil => rfl
  | cons p r ih =>
    rw [List.map_cons, List.sum_cons, ih (List.nodup_cons.mp hP).2]
    by_cases h : z = p
    · subst h
      rw [if_pos rfl, if_neg (List.nodup_cons.mp hP).1, if_pos (List.mem_cons_self ..)]
      rfl
    · rw [if_neg h]
      by_cases h2 : z ∈ r
      · rw [if_pos h2, if_pos (List.mem_cons_of_mem _ h2)]; rfl
      · rw [if_neg h2, if_neg (fun q => (List.mem_cons.mp q).elim h h2)]; rfl
theorem sum_mulS {β : Type} (f : β → Int) (k : Int) (l : List β) : (l.map fun x => k * f x).sum = k * (l.map f).sum := by
  induction l with
  | nil => simp
  | cons x r ih => simp only [List.map_cons, List.sum_cons, ih, Int.mul_add]
theorem sum_swapS {β γ : Type} (f : β → γ → Int) (l : List β) (m : List γ) : (l.map fun x => (m.map fun y => f x y).sum).sum = (m.map fun y => (l.map fun x => f x y).sum).sum := by
  induction l with
  | nil => simp [sum_zeroS]
  | cons x r ih =>
    rw [List.map_cons, List.sum_cons, ih, ← sum_addS]
    simp only [List.map_cons, List.sum_cons]
/-- of counted places: what came less what went is their more together -/
theorem more_sumS {ls : List (LnS α)} {rs : List Int} {cs : List (α × Int)} (R : RealS ls rs cs) (P : List α) (hP : ∀ p ∈ P, p ∈ cs.map (·.1)) :
    ((cs.filter fun c => decide (c.1 ∈ P)).map (·.2)).sum = ((ls.zip rs).map fun p => p.2 * sgS P p.1).sum := by
  have h1 : ((cs.filter fun c => decide (c.1 ∈ P)).map (·.2)).sum = ((cs.filter fun c => decide (c.1 ∈ P)).map fun c => ((ls.zip rs).map fun p => p.2 * ((if p.1.2.1 = c.1 then 1 else 0) - (if p.1.1 = c.1 then 1 else 0))).sum).sum :=
    sum_congS fun c hc => R.more c (List.mem_filter.mp hc).1
  rw [h1, sum_swapS]
  refine sum_congS fun p _ => ?_
  rw [sum_mulS]
  congr 1
  have nd : ((cs.filter fun c => decide (c.1 ∈ P)).map (·.1)).Nodup := List.Nodup.sublist (List.Sublist.map _ List.filter_sublist) R.nd
  have ind : ∀ z : α, ((cs.filter fun c => decide (c.1 ∈ P)).map fun c => if z = c.1 then (1 : Int) else 0).sum = if z ∈ P then 1 else 0 := fun z => by
    have := sum_indS nd z
    rw [List.map_map] at this
    refine Eq.trans this ?_
    by_cases hz : z ∈ P
    · rw [if_pos hz, if_pos]
      obtain ⟨c, hc, rfl⟩ := List.mem_map.mp (hP z hz)
      exact List.mem_map.mpr ⟨c, List.mem_filter.mpr ⟨hc, decide_eq_true hz⟩, rfl⟩
    · rw [if_neg hz, if_neg]
      intro q
      obtain ⟨c, hc, rfl⟩ := List.mem_map.mp q
      exact hz (of_decide_eq_true (List.mem_filter.mp hc).2)
  have e : ((cs.filter fun c => decide (c.1 ∈ P)).map fun c => ((if p.1.2.1 = c.1 then (1 : Int) else 0) - (if p.1.1 = c.1 then 1 else 0))).sum = ((cs.filter fun c => decide (c.1 ∈ P)).map fun c => if p.1.2.1 = c.1 then (1 : Int) else 0).sum - ((cs.filter fun c => decide (c.1 ∈ P)).map fun c => if p.1.1 = c.1 then (1 : Int) else 0).sum := by
    have := sum_addS (fun c : α × Int => ((if p.1.2.1 = c.1 then (1 : Int) else 0) - (if p.1.1 = c.1 then 1 else 0))) (fun c => if p.1.1 = c.1 then (1 : Int) else 0) (cs.filter fun c => decide (c.1 ∈ P))
    have e2 : ((cs.filter fun c => decide (c.1 ∈ P)).map fun c => ((if p.1.2.1 = c.1 then (1 : Int) else 0) - (if p.1.1 = c.1 then 1 else 0)) + (if p.1.1 = c.1 then (1 : Int) else 0)) = (cs.filter fun c => decide (c.1 ∈ P)).map fun c => if p.1.2.1 = c.1 then (1 : Int) else 0 := List.map_congr_left fun c _ => by omega
    rw [e2] at this
    omega
  rw [e, ind, ind]
  rfl
/-- the surplus is what went by lines that aren't told, the other way -/
theorem sur_eqS {ls : List (LnS α)} {rs : List Int} {cs : List (α × Int)} (R : RealS ls rs cs) (P : List α) (hP : ∀ p ∈ P, p ∈ cs.map (·.1)) :
    surS ls cs P = - ((ls.zip rs).map fun p => match p.1.2.2 with | none => p.2 * sgS P p.1 | some _ => 0).sum := by
  unfold surS
  rw [more_sumS R P hP]
  have h1 : (ls.map fun l => match l.2.2 with | none => (0 : Int) | some m => m * sgS P l).sum = ((ls.zip rs).map fun p => match p.1.2.2 with | none => (0 : Int) | some _ => p.2 * sgS P p.1).sum := by
    have e : ls = (ls.zip rs).map (·.1) := by rw [List.map_fst_zip (by rw [R.len]; exact Nat.le_refl _)]
    have : (ls.map fun l => match l.2.2 with | none => (0 : Int) | some m => m * sgS P l) = ((ls.zip rs).map fun p => match p.1.2.2 with | none => (0 : Int) | some m => m * sgS P p.1) := by
      conv => lhs; rw [e]
      rw [List.map_map]
      rfl
    rw [this]
    refine sum_congS fun p hp => ?_
    obtain ⟨i, hi, hpi⟩ := List.mem_iff_getElem.mp hp
    have hz : (ls.zip rs)[i]? = some p := by rw [List.getElem?_eq_getElem hi, hpi]
    obtain ⟨h1, h2⟩ := List.getElem?_zip_eq_some.mp hz
    cases hm : p.1.2.2 with
    | none => rfl
    | some m =>
      have := R.told i p.1 m h1 hm
      rw [h2] at this
      cases this
      rfl
  rw [h1]
  have h2 := sum_addS (fun p : LnS α × Int => match p.1.2.2 with | none => (0 : Int) | some _ => p.2 * sgS P p.1) (fun p => match p.1.2.2 with | none => p.2 * sgS P p.1 | some _ => 0) (ls.zip rs)
  have h3 : ((ls.zip rs).map fun p : LnS α × Int => (match p.1.2.2 with | none => (0 : Int) | some _ => p.2 * sgS P p.1) + (match p.1.2.2 with | none => p.2 * sgS P p.1 | some _ => 0)) = (ls.zip rs).map fun p => p.2 * sgS P p.1 := List.map_congr_left fun p _ => by
    cases p.1.2.2 <;> simp
  rw [h3] at h2
  omega
theorem sg_zeroS {P : List α} {l : LnS α} (h : (l.1 ∈ P) = (l.2.1 ∈ P)) : sgS P l = 0 := by
  unfold sgS
  by_cases h1 : l.1 ∈ P
  · rw [if_pos h1, if_pos (h ▸ h1)]; rfl
  · rw [if_neg h1, if_neg (h ▸ h1)]; rfl
theorem mem_acS {ls : List (LnS α)} {P : List α} {i : Nat} : i ∈ acS ls P ↔ ∃ a b, ls[i]? = some (a, b, none) ∧ (a ∈ P) ≠ (b ∈ P) := by
  unfold acS
  rw [List.mem_filter, List.mem_range]
  constructor
  · rintro ⟨hi, h⟩
    rw [List.getElem?_eq_getElem hi] at h ⊢
    dsimp only at h
    rw [Bool.and_eq_true] at h
    rcases hl : ls[i] with ⟨a, b, m⟩
    rw [hl] at h
    have h1 : m = none := of_decide_eq_true h.1
    subst h1
    exact ⟨a, b, rfl, of_decide_eq_true h.2⟩
  · rintro ⟨a, b, e, h⟩
    refine ⟨(List.getElem?_eq_some_iff.mp e).1, ?_⟩
    rw [e]
    dsimp only
    rw [decide_eq_true rfl, decide_eq_true h]
    rfl
/-- where just one line not told leads out or in, its number is the surplus, by its way -/
theorem one_acS {ls : List (LnS α)} {rs : List Int} {cs : List (α × Int)} (R : RealS ls rs cs) {P : List α} (hP : ∀ p ∈ P, p ∈ cs.map (·.1)) {i : Nat} (ha : acS ls P = [i]) :
    ∃ a b r, ls[i]? = some (a, b, none) ∧ rs[i]? = some r ∧ (if b ∈ P then - surS ls cs P else surS ls cs P) = r := by
  obtain ⟨a, b, hi, hab⟩ := mem_acS.mp (ha ▸ List.mem_singleton.mpr rfl : i ∈ acS ls P)
  have hlt := (List.getElem?_eq_some_iff.mp hi).1
  have hr : rs[i]? = some (rs[i]'(by rw [R.len]; exact hlt)) := List.getElem?_eq_getElem _
  refine ⟨a, b, _, hi, hr, ?_⟩
  have hs : ((ls.zip rs).map fun p : LnS α × Int => match p.1.2.2 with | none => p.2 * sgS P p.1 | some _ => 0).sum = rs[i]'(by rw [R.len]; exact hlt) * sgS P (a, b, none) := by
    have hz : i < (ls.zip rs).length := by rw [List.length_zip, R.len]; omega
    have hzi : (ls.zip rs)[i] = ((a, b, none), rs[i]'(by rw [R.len]; exact hlt)) := by
      rw [List.getElem_zip]
      rw [(List.getElem?_eq_some_iff.mp hi).2]
    have split : ls.zip rs = (ls.zip rs).take i ++ (ls.zip rs)[i] :: (ls.zip rs).drop (i + 1) := by
      rw [← List.drop_eq_getElem_cons hz, List.take_append_drop]
    rw [split, List.map_append, List.map_cons, List.sum_append, List.sum_cons]
    have other : ∀ j p, j ≠ i → (ls.zip rs)[j]? = some p → (match p.1.2.2 with | none => p.2 * sgS P p.1 | some _ => 0 : Int) = 0 := fun j p hj hp => by
      obtain ⟨h1, h2⟩ := List.getElem?_zip_eq_some.mp hp
      obtain ⟨⟨x, y, m⟩, q⟩ := p
      cases m with
      | some _ => rfl
      | none =>
        show q * sgS P _ = 0
        by_cases he : (x ∈ P) = (y ∈ P)
        · rw [sg_zeroS he, Int.mul_zero]
        · have : j ∈ acS ls P := mem_acS.mpr ⟨x, y, h1, he⟩
          rw [ha, List.mem_singleton] at this
          exact (hj this).elim
    rw [sum_zeroS (l := (ls.zip rs).take i), sum_zeroS (l := (ls.zip rs).drop (i + 1)), hzi]
    · dsimp only
      omega
    · intro p hp
      obtain ⟨j, hj, hpj⟩ := List.mem_iff_getElem.mp hp
      rw [List.getElem_drop] at hpj
      exact other (i + 1 + j) p (by omega) (by rw [← hpj]; exact List.getElem?_eq_getElem _)
    · intro p hp
      obtain ⟨j, hj, hpj⟩ := List.mem_iff_getElem.mp hp
      rw [List.getElem_take] at hpj
      have hj' : j < i := by rw [List.length_take] at hj; omega
      exact other j p (by omega) (by rw [← hpj]; exact List.getElem?_eq_getElem _)
  rw [sur_eqS R P hP, hs]
  unfold sgS
  by_cases hb : b ∈ P
  · have ha' : ¬ a ∈ P := fun h => hab (propext ⟨fun _ => hb, fun _ => h⟩)
    rw [if_pos hb, if_pos hb, if_neg ha']
    omega
  · have ha' : a ∈ P := by
      by_cases h : a ∈ P
      · exact h
      · exact (hab (propext ⟨fun q => (h q).elim, fun q => (hb q).elim⟩)).elim
    rw [if_neg hb, if_neg hb, if_pos ha']
    omega
/-- no line not told leads out or in: nothing lacks -/
theorem no_acS {ls : List (LnS α)} {rs : List Int} {cs : List (α × Int)} (R : RealS ls rs cs) {P : List α} (hP : ∀ p ∈ P, p ∈ cs.map (·.1)) (ha : acS ls P = []) : surS ls cs P = 0 := by
  rw [sur_eqS R P hP, sum_zeroS]
  · rfl
  · intro p hp
    obtain ⟨i, hi, hpi⟩ := List.mem_iff_getElem.mp hp
    have hz : (ls.zip rs)[i]? = some p := by rw [List.getElem?_eq_getElem hi, hpi]
    obtain ⟨h1, h2⟩ := List.getElem?_zip_eq_some.mp hz
    obtain ⟨⟨x, y, m⟩, q⟩ := p
    cases m with
    | some _ => rfl
    | none =>
      show q * sgS P _ = 0
      by_cases he : (x ∈ P) = (y ∈ P)
      · rw [sg_zeroS he, Int.mul_zero]
      · have : i ∈ acS ls P := mem_acS.mpr ⟨x, y, h1, he⟩
        rw [ha] at this
        cases this
end
/-! ### sheets: one side of a line -/
section
variable {α : Type} [DecidableEq α] {o : α} {ls : List (LnS α)} {cs : List (α × Int)}
theorem en_inS {z : α} (h : z ∈ cs.map (·.1)) : enS o cs z = z := if_pos h
theorem en_counted {z w : α} (ho : o ∉ cs.map (·.1)) (h : enS o cs z = w) (hw : w ∈ cs.map (·.1)) : z = w := by
  unfold enS at h
  split at h
  · exact h
  · exact (ho (h ▸ hw)).elim
theorem en_or (z : α) : enS o cs z = o ∨ (enS o cs z = z ∧ z ∈ cs.map (·.1)) := by
  unfold enS
  split
  · rename_i h; exact .inr ⟨rfl, h⟩
  · exact .inl rfl
/-- what is reached is the start, or an end of a line -/
theorem RcS.places {lo : Option Nat} {s z : α} (h : RcS o ls cs lo s z) : z = s ∨ z = o ∨ z ∈ cs.map (·.1) := by
  have ends : ∀ {i : Nat} {a b w : α}, enS o cs a = w → w = o ∨ w ∈ cs.map (·.1) := fun {i a b w} e => by
    rcases en_or (o := o) (cs := cs) a with q | ⟨q, m⟩
    · exact .inl (e ▸ q)
    · exact .inr (by rw [← e, q]; exact m)
  cases h with
  | refl => exact .inl rfl
  | step _ a =>
    obtain ⟨i, x, y, _, _, h⟩ := a
    rcases h with ⟨_, h⟩ | ⟨h, _⟩
    · exact .inr (ends (i := i) (b := x) h)
    · exact .inr (ends (i := i) (b := x) h)
theorem RcS.trans {lo : Option Nat} {s z w : α} (h : RcS o ls cs lo s z) (k : RcS o ls cs lo z w) : RcS o ls cs lo s w := by
  induction k with
  | refl => exact h
  | step _ a ih => exact .step ih a
theorem RcS.symm {lo : Option Nat} {s z : α} (h : RcS o ls cs lo s z) : RcS o ls cs lo z s := by
  induction h with
  | refl => exact .refl
  | step _ a ih => exact (RcS.step .refl a.symm).trans ih
/-- counted places that are closed: no line not told, but one, leads out or in -/
theorem closed_cross (ho : o ∉ cs.map (·.1)) {P : List α} (hP : ∀ p ∈ P, p ∈ cs.map (·.1)) {lo : Option Nat} (hc : ∀ z w, z ∈ P → AdS o ls cs lo z w → w ∈ P) {i : Nat} {a b : α} (hi : ls[i]? = some (a, b, none)) (hl : lo ≠ some i) : (a ∈ P) = (b ∈ P) := by
  have one : ∀ {x y : α}, (∀ z w, enS o cs x = z → enS o cs y = w → AdS o ls cs lo z w) → x ∈ P → y ∈ P := fun {x y} h hx => by
    have := hc x (enS o cs y) hx (h _ _ (en_inS (hP x hx)) rfl)
    have e := en_counted ho rfl (hP _ this)
    rw [← e] at this
    exact this
  exact propext ⟨one fun z w h1 h2 => ⟨i, a, b, hi, hl, .inl ⟨h1, h2⟩⟩, one fun z w h1 h2 => ⟨i, a, b, hi, hl, .inr ⟨h2, h1⟩⟩⟩
theorem filter_one {n i : Nat} {p : Nat → Bool} (hi : i < n) (h1 : p i = true) (h2 : ∀ j, j < n → j ≠ i → p j = false) : (List.range n).filter p = [i] := by
  have e : List.range n = List.range i ++ i :: (List.range (n - i - 1)).map (· + (i + 1)) := by
    apply List.ext_getElem
    · simp; omega
    · intro k hk1 hk2
      rw [List.getElem_range]
      by_cases h : k < i
      · rw [List.getElem_append_left (by simpa using h), List.getElem_range]
      · by_cases h' : k = i
        · subst h'
          rw [List.getElem_append_right (by simp)]
          simp
        · rw [List.getElem_append_right (by simp; omega), List.getElem_cons]
          rw [dif_neg (by simp; omega)]
          simp
          omega
  rw [e, List.filter_append, List.filter_cons, if_pos h1, List.filter_eq_nil_iff.mpr, List.filter_eq_nil_iff.mpr]
  · rfl
  · intro k hk
    obtain ⟨q, hq, rfl⟩ := List.mem_map.mp hk
    have := List.mem_range.mp hq
    rw [h2 _ (by omega) (by omega)]
    decide
  · intro k hk
    have := List.mem_range.mp hk
    rw [h2 _ (by omega) (by omega)]
    decide
/-- what the one side of a line tells, where it doesn't come round to the other one or out -/
theorem side_ac (ho : o ∉ cs.map (·.1)) {P : List α} {i : Nat} {a b s e : α} (hi : ls[i]? = some (a, b, none)) (hse : (s = enS o cs a ∧ e = enS o cs b) ∨ (s = enS o cs b ∧ e = enS o cs a)) (hP : ∀ z, z ∈ P ↔ RcS o ls cs (some i) s z) (he : e ∉ P) (hn : o ∉ P) :
    (∀ p ∈ P, p ∈ cs.map (·.1)) ∧ acS ls P = [i] := by
  have hs : s ∈ P := (hP s).mpr .refl
  have hsc : s ∈ cs.map (·.1) := by
    have : ∀ x : α, s = enS o cs x → s ∈ cs.map (·.1) := fun x q => by
      rcases en_or (o := o) (cs := cs) x with h | ⟨h, m⟩
      · exact (hn (by rw [← h, ← q]; exact hs)).elim
      · rw [q, h]; exact m
    rcases hse with ⟨q, _⟩ | ⟨q, _⟩
    · exact this _ q
    · exact this _ q
  have hC : ∀ p ∈ P, p ∈ cs.map (·.1) := fun p hp => by
    rcases ((hP p).mp hp).places with h | h | h
    · rw [h]; exact hsc
    · exact (hn (h ▸ hp)).elim
    · exact h
  refine ⟨hC, ?_⟩
  unfold acS
  have hlt := (List.getElem?_eq_some_iff.mp hi).1
  refine filter_one hlt ?_ fun j hj hji => ?_
  · rw [hi]
    dsimp only
    rw [decide_eq_true rfl, Bool.true_and, decide_eq_true_iff]
    intro heq
    have key : ∀ {x y : α}, s = enS o cs x → e = enS o cs y → (y ∈ P → False) → x ∈ P → (x ∈ P) = (y ∈ P) → False := fun _ _ h3 h4 h5 => h3 (h5 ▸ h4)
    have inx : ∀ {x : α}, s = enS o cs x → x ∈ P := fun {x} q => by
      have := en_counted ho q.symm hsc
      rw [this]; exact hs
    have iny : ∀ {y : α}, e = enS o cs y → y ∈ P → False := fun {y} q hy => he (by rw [q, en_inS (hC y hy)]; exact hy)
    rcases hse with ⟨q1, q2⟩ | ⟨q1, q2⟩
    · exact key q1 q2 (iny q2) (inx q1) heq
    · exact key q1 q2 (iny q2) (inx q1) heq.symm
  · cases hl : ls[j]? with
    | none => rfl
    | some l =>
      obtain ⟨x, y, m⟩ := l
      cases m with
      | some _ => dsimp only; rw [decide_eq_false (by intro h; cases h)]; rfl
      | none =>
        dsimp only
        have := closed_cross (lo := some i) ho hC (fun z w hz ha => (hP w).mpr (((hP z).mp hz).step ha)) hl (by intro h; exact hji (Option.some.inj h).symm)
        rw [decide_eq_false (p := (x ∈ P) ≠ (y ∈ P)) (fun h => h this), Bool.and_false]
/-- where counted places have the line alone, a side's reach stays within them -/
theorem ac_reach (ho : o ∉ cs.map (·.1)) {P : List α} (hP : ∀ p ∈ P, p ∈ cs.map (·.1)) {i : Nat} (ha : acS ls P = [i]) {s z : α} (hs : s ∈ P) (h : RcS o ls cs (some i) s z) : z ∈ P := by
  refine h.sub (P := fun z => z ∈ P) hs fun z w hz ad => ?_
  obtain ⟨j, x, y, hj, hl, hxy⟩ := ad
  have same : (x ∈ P) = (y ∈ P) := by
    by_cases q : (x ∈ P) = (y ∈ P)
    · exact q
    · have : j ∈ acS ls P := mem_acS.mpr ⟨x, y, hj, q⟩
      rw [ha, List.mem_singleton] at this
      exact (hl (by rw [this])).elim
  have go : ∀ {x y : α}, (x ∈ P) = (y ∈ P) → enS o cs x = z → enS o cs y = w → w ∈ P := fun {x y} q h1 h2 => by
    have e := en_counted ho h1 (hP z hz)
    subst e
    have hy : y ∈ P := q ▸ hz
    rw [← h2, en_inS (hP y hy)]
    exact hy
  rcases hxy with ⟨h1, h2⟩ | ⟨h1, h2⟩
  · exact go same h1 h2
  · exact go same.symm h2 h1
/-- so one of both sides tells -/
theorem ac_side (ho : o ∉ cs.map (·.1)) {P : List α} (hP : ∀ p ∈ P, p ∈ cs.map (·.1)) {i : Nat} (ha : acS ls P = [i]) {a b : α} (hi : ls[i]? = some (a, b, none)) :
    ¬ RcS o ls cs (some i) (enS o cs a) (enS o cs b) ∧ (¬ RcS o ls cs (some i) (enS o cs a) o ∨ ¬ RcS o ls cs (some i) (enS o cs b) o) := by
  obtain ⟨a', b', hi', hab⟩ := mem_acS.mp (ha ▸ List.mem_singleton.mpr rfl : i ∈ acS ls P)
  rw [hi] at hi'
  cases hi'
  have on : o ∉ P := fun h => ho (hP o h)
  by_cases h1 : a ∈ P
  · have h2 : b ∉ P := fun h => hab (propext ⟨fun _ => h, fun _ => h1⟩)
    have ea : enS o cs a = a := en_inS (hP a h1)
    refine ⟨fun r => ?_, .inl fun r => on (ac_reach ho hP ha (by rw [ea]; exact h1) r)⟩
    have := ac_reach ho hP ha (by rw [ea]; exact h1) r
    have e := en_counted ho rfl (hP _ this)
    rw [← e] at this
    exact h2 this
  · have h2 : b ∈ P := by
      by_cases h : b ∈ P
      · exact h
      · exact (hab (propext ⟨fun q => (h1 q).elim, fun q => (h q).elim⟩)).elim
    have eb : enS o cs b = b := en_inS (hP b h2)
    refine ⟨fun r => ?_, .inr fun r => on (ac_reach ho hP ha (by rw [eb]; exact h2) r)⟩
    have := ac_reach ho hP ha (by rw [eb]; exact h2) r.symm
    have e := en_counted ho rfl (hP _ this)
    rw [← e] at this
    exact h1 this
/-- what all lines not told keep together has none that leads out -/
theorem whole_ac (ho : o ∉ cs.map (·.1)) {P : List α} {s : α} (hs : s ∈ cs.map (·.1)) (hP : ∀ z, z ∈ P ↔ RcS o ls cs none s z) (hn : o ∉ P) : (∀ p ∈ P, p ∈ cs.map (·.1)) ∧ acS ls P = [] := by
  have hC : ∀ p ∈ P, p ∈ cs.map (·.1) := fun p hp => by
    rcases ((hP p).mp hp).places with h | h | h
    · rw [h]; exact hs
    · exact (hn (h ▸ hp)).elim
    · exact h
  refine ⟨hC, List.filter_eq_nil_iff.mpr fun j _ => ?_⟩
  cases hl : ls[j]? with
  | none => intro h; cases h
  | some l =>
    obtain ⟨x, y, m⟩ := l
    cases m with
    | some _ => dsimp only; rw [decide_eq_false (by intro h; cases h)]; intro h; cases h
    | none =>
      dsimp only
      have := closed_cross (lo := none) ho hC (fun z w hz ha => (hP w).mpr (((hP z).mp hz).step ha)) hl (by intro h; cases h)
      rw [decide_eq_false (p := (x ∈ P) ≠ (y ∈ P)) (fun h => h this), Bool.and_false]
      intro h; cases h
/-! all sets of places -/
def rwS : List α → List (List α) → List (List α)
  | [], acc => acc
  | p :: r, acc => rwS r (acc ++ acc.map fun q => q ++ [p])
theorem rwS_sub : ∀ (ps : List α) (acc : List (List α)) (q : List α), q ∈ rwS ps acc → ∃ q0 ∈ acc, ∀ x ∈ q, x ∈ q0 ∨ x ∈ ps
  | [], acc, q, h => ⟨q, h, fun x hx => .inl hx⟩
  | p :: r, acc, q, h => by
    obtain ⟨q0, h0, h1⟩ := rwS_sub r _ q h
    rcases List.mem_append.mp h0 with h0 | h0
    · exact ⟨q0, h0, fun x hx => (h1 x hx).imp id (List.mem_cons_of_mem _)⟩
    · obtain ⟨q1, h2, rfl⟩ := List.mem_map.mp h0
      refine ⟨q1, h2, fun x hx => ?_⟩
      rcases h1 x hx with h3 | h3
      · rcases List.mem_append.mp h3 with h3 | h3
        · exact .inl h3
        · exact .inr (by rw [List.mem_singleton.mp h3]; exact List.mem_cons_self ..)
      · exact .inr (List.mem_cons_of_mem _ h3)
theorem rwS_mem (f : α → Bool) : ∀ (ps : List α) (acc : List (List α)) (q0 : List α), q0 ∈ acc → q0 ++ ps.filter f ∈ rwS ps acc
  | [], acc, q0, h => by rw [List.filter_nil, List.append_nil]; exact h
  | p :: r, acc, q0, h => by
    rw [List.filter_cons]
    by_cases hp : f p = true
    · rw [if_pos hp]
      have := rwS_mem f r (acc ++ acc.map fun q => q ++ [p]) (q0 ++ [p]) (List.mem_append_right _ (List.mem_map.mpr ⟨q0, h, rfl⟩))
      rw [List.append_assoc] at this
      exact this
    · rw [if_neg hp]
      exact rwS_mem f r _ q0 (List.mem_append_left _ h)
theorem rwS_len : ∀ (ps : List α) (acc : List (List α)), (rwS ps acc).length = acc.length * 2 ^ ps.length
  | [], acc => by show acc.length = acc.length * 1; omega
  | p :: r, acc => by
    show (rwS r _).length = _
    rw [rwS_len r, List.length_append, List.length_map, List.length_cons, Nat.pow_succ, ← Nat.two_mul, Nat.mul_comm 2, Nat.mul_assoc, Nat.mul_comm 2]
theorem rwS_head : ∀ (ps : List α) (acc : List (List α)) (q : List α) (r : List (List α)), acc = q :: r → ∃ r', rwS ps acc = q :: r'
  | [], _, q, r, h => ⟨r, h⟩
  | p :: ps, acc, q, r, h => by
    subst h
    exact rwS_head ps _ q _ rfl
/-- the same members, the same look -/
theorem ac_congr {P Q : List α} (h : ∀ z, z ∈ P ↔ z ∈ Q) : acS ls P = acS ls Q := by
  unfold acS
  congr 1
  funext i
  cases ls[i]? with
  | none => rfl
  | some l =>
    dsimp only
    congr 1
    exact decide_eq_decide.mpr (by rw [propext (h l.1), propext (h l.2.1)])
end
local macro_rules | `(tactic| walk_at "cond") => `(tactic| first
  | exact rfl | assumption | exact decide_eq_true (by omega) | exact decide_eq_false (by omega) | exact nd_t (by omega) | exact nd_f (by omega) | fail)
local macro_rules | `(tactic| walk_at "len") => `(tactic| first
  | assumption | (show _ < _; decide) | (simp only [List.length_map, List.length_cons, List.length_nil, List.length_append, List.length_range, List.length_replicate, List.length_set]; omega))
local macro_rules | `(tactic| walk_at "hl") => `(tactic| first | assumption | exact rfl | (exact (by simp only [List.length_set])) | (exact (by simp only [List.length_set]; assumption)))
local macro_rules | `(tactic| walk_at "wx") => `(tactic| first
  | with_reducible apply x_add | with_reducible apply x_sub | with_reducible apply x_cmp | with_reducible apply x_int0
  | ((with_reducible apply x_mul); (first | assumption | exact mulL (by omega) | exact mulR (by omega) | exact mulL (by decide) | exact mulR (by decide)))
  | ((with_reducible apply x_mod); (first | assumption | omega | decide))
  | ((with_reducible apply x_div); (first | assumption | exact divP (by omega) | exact divP (by decide)))
  | ((with_reducible apply x_pow); (first | assumption | exact powP (by decide) | exact powP (by omega)))
  | with_reducible apply x_eqI | with_reducible apply x_neI | with_reducible apply x_eqS | with_reducible apply x_eqB | with_reducible apply x_neB
  | ((with_reducible apply x_ixl); (first | assumption | exact rfl | exact atI_0 _ _))
  | ((with_reducible apply x_ixt); (first | assumption | exact rfl | exact atI_0 _ _))
  | ((with_reducible apply x_ixr); (first | assumption | exact rfl))
  | ((with_reducible apply wl_ix); (walk_at "hl"); (first | exact rfl | assumption); (first | assumption | exact rfl | exact atI_0 _ _))
  | ((with_reducible apply x_addll); walk_at "len")
  | ((with_reducible apply wl_addl); (walk_at "hl"); (first | exact rfl | assumption); walk_at "len")
  | with_reducible apply x_max2 | with_reducible apply x_min2 | with_reducible apply x_abs | with_reducible apply x_int1b | with_reducible apply x_int1i
  | with_reducible apply x_lenl | with_reducible apply x_lenr | with_reducible apply x_lent
  | ((with_reducible apply wl_len); (walk_at "hl"); (first | exact rfl | assumption))
  | ((with_reducible apply wl_tuple); (walk_at "hl"); (first | exact rfl | assumption)) | with_reducible apply x_tuplel | with_reducible apply x_tuplet | with_reducible apply x_sll | with_reducible apply x_slr
  | ((with_reducible apply wl_sl); (walk_at "hl"); (first | exact rfl | assumption))
  | ((with_reducible apply wl_app); (walk_at "hl"); (first | exact rfl | assumption); walk_at "len")
  | ((with_reducible apply x_dg); exact rfl)
  | with_reducible apply x_isN_n | with_reducible apply x_isN_nn | with_reducible apply x_isN_i | with_reducible apply x_isN_ni | with_reducible apply x_isN_l | with_reducible apply x_isN_nl
  | with_reducible apply x_sumi | with_reducible apply x_sumti | ((with_reducible apply x_sum); exact rfl) | ((with_reducible apply x_sumt); exact rfl)
  | with_reducible apply x_told0 | with_reducible apply x_told1 | with_reducible apply x_told2
  | with_reducible apply x_allb | with_reducible apply x_anyb)
local macro_rules | `(tactic| walk_at "w") => `(tactic| repeat' first
  | with_reducible apply w_seq | with_reducible apply w_c | ((with_reducible apply w_v); exact rfl)
  | with_reducible apply w_op2 | with_reducible apply w_op1 | with_reducible apply w_nil | with_reducible apply w_cons | with_reducible apply w_one
  | with_reducible apply wd_nil | with_reducible apply wd_cons | with_reducible apply w_tup | with_reducible apply w_lst | with_reducible apply w_cb | with_reducible apply w_fn
  | with_reducible apply w_bm | with_reducible apply w_notV | with_reducible apply w_ite
  | with_reducible apply w_sl | with_reducible apply w_noO | with_reducible apply w_someO | with_reducible apply w_tv | with_reducible apply w_not | with_reducible apply w_and | with_reducible apply w_or | with_reducible apply w_yes
  | with_reducible apply w_next | with_reducible apply w_drop | with_reducible apply w_set | with_reducible apply w_par2 | with_reducible apply w_par3 | with_reducible apply w_asg | with_reducible apply w_nmG
  | ((with_reducible apply w_tupG); exact rfl) | with_reducible apply w_consG | with_reducible apply w_nilG | with_reducible apply w_subG | with_reducible apply w_ret | with_reducible apply w_retN | with_reducible apply w_if
  | ((with_reducible apply w_aug); exact rfl) | with_reducible apply wl_new | with_reducible apply wl_dicN | with_reducible apply w_argsC | with_reducible apply w_argsN
  | ((with_reducible apply newDX); (walk_at "hl"); (first | exact rfl | assumption))
  | with_reducible apply w_finK | with_reducible apply w_tru
  | with_reducible apply nx_nx | with_reducible apply nx_rt | with_reducible apply nx_bk | with_reducible apply nx_ct | with_reducible apply bd_rt | with_reducible apply bd_nx
  | with_reducible apply tn_nx | with_reducible apply tn_ct | with_reducible apply tn_bk | with_reducible apply tn_rt
  | with_reducible apply tb | with_reducible apply br_tr | with_reducible apply br_fa
  | with_reducible apply par2x | with_reducible apply par3x | with_reducible apply someI | with_reducible apply lstX
  | ((with_reducible apply newX); (walk_at "hl"); walk_at "len")
  | (refine And.intro (by walk_at "len") ?_)
  | (refine And.intro (wl_isLoc (by walk_at "hl") (by first | exact rfl | assumption)) ?_)
  | (walk_at "wx")
  | ((with_reducible apply br_t); walk_at "cond") | ((with_reducible apply br_f); walk_at "cond") | fail)
/-! ### isinstance of atoms, tuples, lists -/
theorem zz_nl : kitB "NoneType" "list" = some false := by decide +kernel
theorem zz_nt : kitB "NoneType" "tuple" = some false := by decide +kernel
theorem zz_ns : kitB "NoneType" "str" = some false := by decide +kernel
theorem zz_nb : kitB "NoneType" "bool" = some false := by decide +kernel
theorem zz_ni : kitB "NoneType" "int" = some false := by decide +kernel
theorem zz_bl : kitB "bool" "list" = some false := by decide +kernel
theorem zz_bt : kitB "bool" "tuple" = some false := by decide +kernel
theorem zz_bs : kitB "bool" "str" = some false := by decide +kernel
theorem zz_bb : kitB "bool" "bool" = some true := by decide +kernel
theorem zz_bi : kitB "bool" "int" = some true := by decide +kernel
theorem zz_il : kitB "int" "list" = some false := by decide +kernel
theorem zz_it : kitB "int" "tuple" = some false := by decide +kernel
theorem zz_is : kitB "int" "str" = some false := by decide +kernel
theorem zz_ib : kitB "int" "bool" = some false := by decide +kernel
theorem zz_ii : kitB "int" "int" = some true := by decide +kernel
theorem zz_sl : kitB "str" "list" = some false := by decide +kernel
theorem zz_st : kitB "str" "tuple" = some false := by decide +kernel
theorem zz_ss : kitB "str" "str" = some true := by decide +kernel
theorem zz_sb : kitB "str" "bool" = some false := by decide +kernel
theorem zz_si : kitB "str" "int" = some false := by decide +kernel
theorem zz_tl : kitB "tuple" "list" = some false := by decide +kernel
theorem zz_tt : kitB "tuple" "tuple" = some true := by decide +kernel
theorem zz_ts : kitB "tuple" "str" = some false := by decide +kernel
theorem zz_tb : kitB "tuple" "bool" = some false := by decide +kernel
theorem zz_ti : kitB "tuple" "int" = some false := by decide +kernel
theorem zz_ll : kitB "list" "list" = some true := by decide +kernel
theorem zz_lt : kitB "list" "tuple" = some false := by decide +kernel
theorem zz_ls : kitB "list" "str" = some false := by decide +kernel
theorem zz_lb : kitB "list" "bool" = some false := by decide +kernel
theorem zz_li : kitB "list" "int" = some false := by decide +kernel
theorem zy_nq : kitL "NoneType" ["list", "tuple"] = some false := by decide +kernel
theorem zy_nw : kitL "NoneType" ["str", "bool"] = some false := by decide +kernel
theorem zy_bq : kitL "bool" ["list", "tuple"] = some false := by decide +kernel
theorem zy_bw : kitL "bool" ["str", "bool"] = some true := by decide +kernel
theorem zy_iq : kitL "int" ["list", "tuple"] = some false := by decide +kernel
theorem zy_iw : kitL "int" ["str", "bool"] = some false := by decide +kernel
theorem zy_sq : kitL "str" ["list", "tuple"] = some false := by decide +kernel
theorem zy_sw : kitL "str" ["str", "bool"] = some true := by decide +kernel
theorem zy_tq : kitL "tuple" ["list", "tuple"] = some true := by decide +kernel
theorem zy_tw : kitL "tuple" ["str", "bool"] = some false := by decide +kernel
theorem zy_lq : kitL "list" ["list", "tuple"] = some true := by decide +kernel
theorem zy_lw : kitL "list" ["str", "bool"] = some false := by decide +kernel
section
variable {S : Sg} {Q : D → Sg → Prop}
theorem x_isi {d : D} {a b : String} {r : Bool} (h : tyN S d = some a) (h2 : kitB a b = some r) (q : Q (.bl r) S) : W (isiO [d, .ty b] S) Q := by
  refine ⟨_, _, ?_, q⟩
  rw [isiv, h, bd_some, h2]
  rfl
theorem x_isiT {d : D} {cs : List D} {a : String} {bs : List String} {r : Bool} (h : tyN S d = some a) (h1 : tysOf cs = some bs) (h2 : kitL a bs = some r) (q : Q (.bl r) S) : W (isiTO [d, .tup cs] S) Q := by
  refine ⟨_, _, ?_, q⟩
  rw [isiTv, h, bd_some, h1, bd_some, h2]
  rfl
end
local macro_rules | `(tactic| walk_at "kz") => `(tactic| first | with_reducible exact zz_nl | with_reducible exact zz_nt | with_reducible exact zz_ns | with_reducible exact zz_nb | with_reducible exact zz_ni | with_reducible exact zz_bl | with_reducible exact zz_bt | with_reducible exact zz_bs | with_reducible exact zz_bb | with_reducible exact zz_bi | with_reducible exact zz_il | with_reducible exact zz_it | with_reducible exact zz_is | with_reducible exact zz_ib | with_reducible exact zz_ii | with_reducible exact zz_sl | with_reducible exact zz_st | with_reducible exact zz_ss | with_reducible exact zz_sb | with_reducible exact zz_si | with_reducible exact zz_tl | with_reducible exact zz_tt | with_reducible exact zz_ts | with_reducible exact zz_tb | with_reducible exact zz_ti | with_reducible exact zz_ll | with_reducible exact zz_lt | with_reducible exact zz_ls | with_reducible exact zz_lb | with_reducible exact zz_li)
local macro_rules | `(tactic| walk_at "ky") => `(tactic| first | with_reducible exact zy_nq | with_reducible exact zy_nw | with_reducible exact zy_bq | with_reducible exact zy_bw | with_reducible exact zy_iq | with_reducible exact zy_iw | with_reducible exact zy_sq | with_reducible exact zy_sw | with_reducible exact zy_tq | with_reducible exact zy_tw | with_reducible exact zy_lq | with_reducible exact zy_lw)
local macro_rules | `(tactic| walk_at "wi") => `(tactic| first
  | ((with_reducible apply x_isi); exact rfl; walk_at "kz")
  | ((with_reducible apply x_isiT); exact rfl; exact rfl; walk_at "ky"))
local macro_rules | `(tactic| walk_at "wx") => `(tactic| walk_at "wi")
/-! ### sheets: the program's defs -/
abbrev oS : Str := Str.ofString ""
def opD : Option Int → D
  | none => .non
  | some i => .int i
def loD : Option Nat → D
  | none => .non
  | some i => .int (i : Int)
theorem IsSq.sq {S : Sg} {d : D} {ds : List D} (h : IsSq d ds) : sqOf S d = some ds := by cases h <;> rfl
/-- a sheet, of lists and tuples -/
structure ShpS (d : D) (ls : List (LnS Str)) (cs : List (Str × Int)) : Prop where
  ex : ∃ (dl dc : D) (f : LnS Str → D) (g : Str × Int → D), IsSq d [dl, dc] ∧ IsSq dl (ls.map f) ∧ IsSq dc (cs.map g) ∧ (∀ l, IsSq (f l) [.str l.1, .str l.2.1, opD l.2.2]) ∧ ∀ x, IsSq (g x) [.str x.1, .int x.2]
theorem nodup_lenS {α : Type} [DecidableEq α] : ∀ {l r : List α}, l.Nodup → (∀ x, x ∈ l → x ∈ r) → l.length ≤ r.length
  | [], _, _, _ => Nat.zero_le _
  | x :: l, r, hn, h => by
    have hx := h x (List.mem_cons_self ..)
    have ih := nodup_lenS (l := l) (r := r.erase x) (List.nodup_cons.mp hn).2 fun y hy => by
      have hy2 := h y (List.mem_cons_of_mem _ hy)
      refine (List.mem_erase_of_ne ?_).mpr hy2
      intro e
      exact (List.nodup_cons.mp hn).1 (e ▸ hy)
    have := List.length_erase_of_mem hx
    have := List.length_pos_of_mem hx
    rw [List.length_cons]
    omega
theorem eqF_str (a b : Str) : eqF (.str a) (.str b) = decide (a = b) := by
  show (a == b) = _
  exact Bool.eq_iff_iff.mpr ⟨fun h => decide_eq_true (eq_of_beq h), fun h => beq_iff_eq.mpr (of_decide_eq_true h)⟩
theorem inF_strs (z : Str) : ∀ P : List Str, inF (.str z) (P.map .str) = decide (z ∈ P)
  | [] => rfl
  | p :: P => by
    have ih := inF_strs z P
    unfold inF at ih ⊢
    rw [List.map_cons, List.any_cons, ih, eqF_str]
    refine Bool.eq_iff_iff.mpr ?_
    rw [Bool.or_eq_true, decide_eq_true_iff, decide_eq_true_iff, decide_eq_true_iff, List.mem_cons]
    exact ⟨fun h => h.imp Eq.symm id, fun h => h.imp Eq.symm id⟩
theorem flat_strs (P : List Str) : (P.map D.str).all flatD = true := by
  rw [List.all_map]
  exact List.all_eq_true.mpr fun _ _ => rfl
section
variable {S : Sg} {Q : D → Sg → Prop}
theorem x_inS {z : Str} {d : D} {P : List Str} (h : sqOf S d = some (P.map .str)) (q : Q (.bl (decide (z ∈ P))) S) : W (inseqO (.str z) d S) Q :=
  x_inseq h rfl (flat_strs P) (by rw [inF_strs]; exact q)
theorem x_ninS {z : Str} {d : D} {P : List Str} (h : sqOf S d = some (P.map .str)) (q : Q (.bl (!decide (z ∈ P))) S) : W (ninseqO (.str z) d S) Q :=
  x_ninseq h rfl (flat_strs P) (by rw [inF_strs]; exact q)
theorem x_inK {d e : D} {neg : Bool} {gs : List (Key × D)} {k : Key} (h : dsOf S d = some gs) (h2 : keyOf e = some k) (q : Q (.bl (if neg then !(valG gs k).isSome else (valG gs k).isSome)) S) : W (inKO neg e d S) Q := ⟨_, _, v_inK h h2, q⟩
theorem x_ixSq {d : D} {ds : List D} {i : Int} {y : D} (h : IsSq d ds) (h2 : atI ds i = some y) (q : Q y S) : W (ixO d (.int i) S) Q := by
  cases h
  · exact x_ixl h2 q
  · exact x_ixt h2 q
theorem x_neg {i : Int} (q : Q (.int (-i)) S) : W (negO (.int i) S) Q := ⟨_, _, rfl, q⟩
end
theorem valG_has (gs : List (Key × D)) (k : Key) : (valG gs k).isSome = true ↔ k ∈ gs.map (·.1) := by
  unfold valG
  rw [Option.isSome_map]
  rw [List.find?_isSome, List.mem_map]
  exact ⟨fun ⟨x, h1, h2⟩ => ⟨x, h1, of_decide_eq_true h2⟩, fun ⟨x, h1, h2⟩ => ⟨x, h1, decide_eq_true h2⟩⟩
theorem putG_new {gs : List (Key × D)} {k : Key} {d : D} (h : k ∉ gs.map (·.1)) : putG gs k d = gs ++ [(k, d)] := by
  unfold putG
  rw [if_neg]
  intro q
  obtain ⟨x, h1, h2⟩ := List.any_eq_true.mp q
  exact h (List.mem_map.mpr ⟨x, h1, of_decide_eq_true h2⟩)
theorem putG_keys (gs : List (Key × D)) (k : Key) (d : D) (k' : Key) : k' ∈ (putG gs k d).map (·.1) ↔ k' = k ∨ k' ∈ gs.map (·.1) := by
  unfold putG
  split
  · rename_i h
    have e : (gs.map fun kv => if kv.1 = k then (kv.1, d) else kv).map (·.1) = gs.map (·.1) := by
      rw [List.map_map]
      exact List.map_congr_left fun kv _ => by
        show (if kv.1 = k then (kv.1, d) else kv).1 = _
        split <;> rfl
    rw [e]
    obtain ⟨x, h1, h2⟩ := List.any_eq_true.mp h
    exact ⟨.inr, fun q => q.elim (fun q => by rw [q]; exact List.mem_map.mpr ⟨x, h1, of_decide_eq_true h2⟩) id⟩
  · rw [List.map_append, List.mem_append, List.map_singleton, List.mem_singleton]
    exact Or.comm
def insG (cs : List (Str × Int)) : List (Key × D) := cs.foldl (fun acc x => putG acc (.inr x.1) (.bl true)) []
theorem insG_keys (k : Key) : ∀ (cs : List (Str × Int)) (acc : List (Key × D)), k ∈ (cs.foldl (fun acc x => putG acc (.inr x.1) (.bl true)) acc).map (·.1) ↔ (∃ x ∈ cs, k = .inr x.1) ∨ k ∈ acc.map (·.1)
  | [], acc => by simp
  | c :: cs, acc => by
    rw [List.foldl_cons, insG_keys k cs, putG_keys]
    constructor
    · rintro (⟨x, hx, e⟩ | h | h)
      · exact .inl ⟨x, List.mem_cons_of_mem _ hx, e⟩
      · exact .inl ⟨c, List.mem_cons_self .., h⟩
      · exact .inr h
    · rintro (⟨x, hx, e⟩ | h)
      · rcases List.mem_cons.mp hx with rfl | hx
        · exact .inr (.inl e)
        · exact .inl ⟨x, hx, e⟩
      · exact .inr (.inr h)
theorem insG_has (cs : List (Str × Int)) (z : Str) : (valG (insG cs) (.inr z)).isSome = decide (z ∈ cs.map (·.1)) := by
  refine Bool.eq_iff_iff.mpr ?_
  rw [valG_has, decide_eq_true_iff]
  unfold insG
  rw [insG_keys]
  constructor
  · rintro (⟨x, hx, e⟩ | h)
    · cases e
      exact List.mem_map.mpr ⟨x, hx, rfl⟩
    · cases h
  · intro h
    obtain ⟨x, hx, rfl⟩ := List.mem_map.mp h
    exact .inl ⟨x, hx, rfl⟩
local macro_rules | `(tactic| walk_at "wx") => `(tactic| with_reducible apply x_neg)
theorem ends_ok (c : Cs) {S : Sg} {d : D} {ls : List (LnS Str)} {cs : List (Str × Int)} (h : ShpS d ls cs) (hl : ls.length < 1000) (hcl : cs.length < 1000) (hc : Cl S) :
    F_ends_of c [d] S = some (.lst (ls.map fun l => .tup [.str (enS oS cs l.1), .str (enS oS cs l.2.1)]), S) := by
  have main : W (F_ends_of c [d] S) fun x Z => x = .lst (ls.map fun l => .tup [.str (enS oS cs l.1), .str (enS oS cs l.2.1)]) ∧ Z = S := by
    obtain ⟨dl, dc, f, g, h1, h2, h3, h4, h5⟩ := h.ex
    unfold F_ends_of B_ends_of
    refine w_body ?_
    refine w_seq (w_asg (w_v rfl (w_tupAG h1.sq rfl ?_)))
    walk_at "w"
    refine w_dcA (S1 := S ++ []) (ds := [dc]) cs g (fun x => .inr x.1) (fun _ => .bl true) (by walk_at "w"; exact ⟨rfl, rfl⟩) h3.sq (by omega) (fun x hx => ?_) ?_
    · refine w_tupAG (h5 x).sq rfl ?_
      walk_at "w"
      exact ⟨rfl, w_c ⟨rfl, rfl⟩⟩
    rw [List.append_nil]
    walk_at "w"
    refine w_lcA (S1 := S ++ [.dct (insG cs)]) (ds := [dl]) ls f (fun l => .tup [.str (enS oS cs l.1), .str (enS oS cs l.2.1)]) (by walk_at "w"; exact ⟨rfl, rfl⟩) h2.sq (by omega) (fun l hl => ?_) ?_
    · refine w_tupAG (h4 l).sq rfl ?_
      have look : dsOf (S ++ [.dct (insG cs)]) (.loc S.length) = some (insG cs) := wl_ds (k := 0) rfl rfl
      have one : ∀ (z : Str) (i j : Nat) (δ : Dl) (Q : D → Sg → Prop), δ[i]? = some (some (.str z)) → δ[3]? = some (some (.loc S.length)) → Q (.str (enS oS cs z)) (S ++ [.dct (insG cs)]) →
          W (iteV (tvD (op2D (inKO false) (varD i) (varD 3))) (varD i) (cD (.str (Str.ofString ""))) δ (S ++ [.dct (insG cs)])) Q := fun z i j δ Q e1 e2 q => by
        refine w_ite (w_tv (w_op2 (w_v e1 (w_v e2 (x_inK look rfl ?_)))))
        rw [if_neg (by decide), insG_has]
        refine tb (br_d (fun hz => ?_) (fun hz => ?_))
        · refine w_v e1 ?_
          unfold enS at q
          rw [if_pos hz] at q
          exact q
        · refine w_c ?_
          unfold enS at q
          rw [if_neg hz] at q
          exact q
      refine w_consG (w_nmG (w_consG (w_nmG (w_consG (w_nmG (w_nilG ?_))))))
      refine w_tup (w_cons (one _ 6 0 _ _ rfl rfl ?_))
      refine w_cons (one _ 7 0 _ _ rfl rfl ?_)
      exact w_nil ⟨by show 2 < 1000000; decide, rfl, rfl⟩
    walk_at "w"
    refine wl_fin rfl (List.cons_ne_nil _ _) (frzG_old _ (oldL_map fun l _ => rfl)) hc ⟨rfl, rfl⟩
  obtain ⟨_, _, e, rfl, rfl⟩ := main
  exact e
/-- the numbers of the lines that aren't told -/
def unS (ls : List (LnS Str)) : List Nat := (ls.zipIdx.filter fun p => p.1.2.2.isNone).map (·.2)
theorem mem_unS {ls : List (LnS Str)} {i : Nat} : i ∈ unS ls ↔ ∃ a b, ls[i]? = some (a, b, none) := by
  unfold unS
  rw [List.mem_map]
  constructor
  · rintro ⟨⟨⟨a, b, m⟩, j⟩, hm, rfl⟩
    obtain ⟨h1, h2⟩ := List.mem_filter.mp hm
    rw [List.mem_zipIdx_iff_getElem?] at h1
    cases m with
    | none => exact ⟨a, b, h1⟩
    | some _ => cases h2
  · rintro ⟨a, b, e⟩
    exact ⟨((a, b, none), i), List.mem_filter.mpr ⟨List.mem_zipIdx_iff_getElem?.mpr e, rfl⟩, rfl⟩
theorem unS_len (ls : List (LnS Str)) : (unS ls).length ≤ ls.length := by
  unfold unS
  rw [List.length_map]
  exact Nat.le_trans (List.length_filter_le _ _) (by rw [List.length_zipIdx]; exact Nat.le_refl _)
theorem isN_op (m : Option Int) : isNoneB (opD m) = m.isNone := by cases m <;> rfl
theorem untold_ok (c : Cs) {S : Sg} {d : D} {ls : List (LnS Str)} {cs : List (Str × Int)} (h : ShpS d ls cs) (hl : ls.length < 1000) : F_untold c [d] S = some (.lst ((unS ls).map fun (i : Nat) => .int (i : Int)), S) := by
  have main : W (F_untold c [d] S) fun x Z => x = .lst ((unS ls).map fun (i : Nat) => .int (i : Int)) ∧ Z = S := by
    obtain ⟨dl, dc, f, g, h1, h2, h3, h4, h5⟩ := h.ex
    unfold F_untold B_untold
    refine w_body ?_
    walk_at "w"
    refine w_lcF (S1 := S ++ []) (ds := [dl]) ls.zipIdx (fun p => .tup [.int (p.2 : Int), f p.1]) (fun p => p.1.2.2.isNone) (fun p => .int (p.2 : Int)) ?_ (k_enA ls f h2.sq) (by rw [List.length_zipIdx]; omega) (fun p hp => ?_) ?_
    · refine w_cons (w_op2 (w_v rfl (w_c (x_ixSq h1 rfl (w_nil ⟨rfl, rfl⟩)))))
    · refine w_tupAG (d := .tup [.int (p.2 : Int), f p.1]) rfl rfl (w_consG (w_nmG (w_consG (w_tupAG (h4 p.1).sq rfl ?_))))
      walk_at "w"
      refine x_isN rfl ?_
      refine tb ⟨rfl, isN_op _, fun _ => ?_⟩
      walk_at "w"
      exact ⟨rfl, rfl⟩
    walk_at "w"
    refine wl_fin0 rfl ⟨?_, rfl⟩
    unfold unS
    rw [List.map_map]
    rfl
  obtain ⟨_, _, e, rfl, rfl⟩ := main
  exact e
/-! ### sheets: what hangs together with a place -/
def nuS (ls : List (LnS Str)) (lo : Option Nat) : List Nat := (unS ls).filter fun i => !decide (lo = some i)
theorem mem_nuS {ls : List (LnS Str)} {lo : Option Nat} {i : Nat} : i ∈ nuS ls lo ↔ ∃ a b, ls[i]? = some (a, b, none) ∧ lo ≠ some i := by
  unfold nuS
  rw [List.mem_filter, mem_unS]
  constructor
  · rintro ⟨⟨a, b, h⟩, h2⟩
    exact ⟨a, b, h, by simpa using h2⟩
  · rintro ⟨a, b, h, h2⟩
    exact ⟨⟨a, b, h⟩, by simpa using h2⟩
theorem x_neLo {S : Sg} {Q : D → Sg → Prop} (j : Nat) (lo : Option Nat) (q : Q (.bl (!decide (lo = some j))) S) : W (neO (.int (j : Int)) (loD lo) S) Q := by
  cases lo with
  | none => exact ⟨_, _, rfl, q⟩
  | some i =>
    refine x_neI ?_
    have : decide ((j : Int) = (i : Int)) = decide (some i = some j) := decide_eq_decide.mpr ⟨fun h => by rw [show i = j by omega], fun h => by rw [Option.some.inj h]⟩
    rw [this]
    exact q
/-- on the way -/
structure WyS (ls : List (LnS Str)) (cs : List (Str × Int)) (lo : Option Nat) (s : Str) (ks wt : List Str) : Prop where
  nd : ks.Nodup
  st : s ∈ ks
  rc : ∀ z ∈ ks, RcS oS ls cs lo s z
  wk : ∀ z ∈ wt, z ∈ ks
theorem WyS.len {ls : List (LnS Str)} {cs : List (Str × Int)} {lo : Option Nat} {s : Str} {ks wt : List Str} (h : WyS ls cs lo s ks wt) : ks.length ≤ cs.length + 2 := by
  have := nodup_lenS (l := ks) (r := s :: oS :: cs.map (·.1)) h.nd fun z hz => by
    rcases (h.rc z hz).places with q | q | q
    · rw [q]; exact List.mem_cons_self ..
    · rw [q]; exact List.mem_cons_of_mem _ (List.mem_cons_self ..)
    · exact List.mem_cons_of_mem _ (List.mem_cons_of_mem _ q)
  rw [List.length_cons, List.length_cons, List.length_map] at this
  exact this
theorem keys_in {gs : List (Key × D)} {ks : List Str} (h : gs.map (·.1) = ks.map Sum.inr) (z : Str) : (valG gs (.inr z)).isSome = decide (z ∈ ks) := by
  refine Bool.eq_iff_iff.mpr ?_
  rw [valG_has, h, decide_eq_true_iff, List.mem_map]
  exact ⟨fun ⟨x, h1, h2⟩ => by cases h2; exact h1, fun h => ⟨z, h, rfl⟩⟩
theorem keys_len {gs : List (Key × D)} {ks : List Str} (h : gs.map (·.1) = ks.map Sum.inr) : gs.length = ks.length := by
  have := congrArg List.length h
  rw [List.length_map, List.length_map] at this
  exact this
theorem ways_ok (c : Cs) {S : Sg} {d : D} {ls : List (LnS Str)} {cs : List (Str × Int)} {s : Str} {lo : Option Nat} (h : ShpS d ls cs) (hl : ls.length < 1000) (hcl : cs.length < 1000) (hc : Cl S) :
    W (F_ways_from c [d, .str s, loD lo] S) fun x Z => ∃ (gs : List (Key × D)) (ks : List Str) (L : List Ob), x = .loc (S.length + 0) ∧ Z = S ++ (.dct gs :: L) ∧ Cl Z ∧ gs.map (·.1) = ks.map Sum.inr ∧ ks.Nodup ∧ (∀ z, z ∈ ks ↔ RcS oS ls cs lo s z) ∧ ks.length ≤ cs.length + 2 := by
  have hs1 := h
  unfold F_ways_from B_ways_from
  refine w_body ?_
  walk_at "w"
  rw [List.append_nil]
  refine w_ex (ends_ok c h hl hcl hc) ?_
  walk_at "w"
  refine w_lcF (S1 := S) (ds := [.lst ((unS ls).map fun (i : Nat) => .int (i : Int))]) (unS ls) (fun (i : Nat) => .int (i : Int)) (fun i => !decide (lo = some i)) (fun (i : Nat) => .int (i : Int)) ?_ rfl (Nat.lt_of_le_of_lt (unS_len ls) (by omega)) (fun i hi => ?_) ?_
  · refine w_one (w_fn (wd_cons (w_v rfl (wd_nil (w_ex (untold_ok c h hl) ⟨rfl, rfl⟩)))))
  · refine w_nmG (w_tv (w_op2 (w_v rfl (w_v rfl (x_neLo _ _ (tb ⟨rfl, rfl, fun _ => ?_⟩))))))
    walk_at "w"
    exact ⟨rfl, rfl⟩
  refine nx_nx (w_seq (w_set (wl_dic1 (w_v rfl (w_c ⟨S, [], S.length, .inr s, (List.append_nil S).symm, rfl, rfl, ?_⟩)))))
  walk_at "w"
  have hnu : ((unS ls).filter fun i => !decide (lo = some i)) = nuS ls lo := rfl
  rw [hnu]
  have ntot : ∀ i ∈ nuS ls lo, ∃ a b, ls[i]? = some (a, b, none) ∧ lo ≠ some i := fun i hi => mem_nuS.mp hi
  refine w_while (fun n δ Z => ∃ (gs : List (Key × D)) (ks wt : List Str) (x7 x8 x9 x10 x11 : Option D), δ = [some d, some (.str s), some (loD lo), some (.lst (ls.map fun l => .tup [.str (enS oS cs l.1), .str (enS oS cs l.2.1)])), some (.lst ((nuS ls lo).map fun (i : Nat) => .int (i : Int))), some (.loc (S.length + 0)), some (.loc (S.length + 1)), x7, x8, x9, x10, x11] ∧
      Z = S ++ [.dct gs, .lst (wt.map .str)] ∧ gs.map (·.1) = ks.map Sum.inr ∧ WyS ls cs lo s ks wt ∧ (∀ kv ∈ gs, ∀ n, old n kv.2 = true) ∧ (∀ z ∈ ks, z ∉ wt → ∀ w, AdS oS ls cs lo z w → w ∈ ks) ∧ wt.length ≤ ks.length ∧ n = 2 * (cs.length + 2 - ks.length) + wt.length) (2 * (cs.length + 2 - 1) + 1) (by omega) ?_ ?_
  · refine ⟨[(.inr s, .non)], [s], [s], _, _, _, _, _, rfl, rfl, rfl, ⟨by simp, List.mem_singleton.mpr rfl, fun z hz => by rw [List.mem_singleton.mp hz]; exact .refl, fun z hz => hz⟩, fun kv hkv n => by rw [List.mem_singleton.mp hkv]; rfl, fun z hz hz2 => (hz2 hz).elim, Nat.le_refl _, rfl⟩
  · rintro n δ Z ⟨gs, ks, wt, x7, x8, x9, x10, x11, rfl, rfl, hk, wy, hold, hcl2, hwl, hn⟩
    have hB := wy.len
    refine w_tru (w_v rfl (wl_tru (k := 1) rfl rfl ?_))
    refine br_c (fun hw => ?_) (fun hw => ?_)
    · have hne : wt ≠ [] := by
        intro e
        rw [e] at hw
        cases hw
      obtain ⟨wt', p, rfl⟩ : ∃ wt' p, wt = wt' ++ [p] := ⟨wt.dropLast, wt.getLast hne, (List.dropLast_concat_getLast hne).symm⟩
      have hp : p ∈ ks := wy.wk p (by simp)
      have hloc : isLoc (S ++ [Ob.dct gs, Ob.lst ((wt' ++ [p]).map .str)]) (.loc (S.length + 1)) = true := wl_isLoc rfl rfl
      refine w_seq (w_set (w_bm (w_v rfl ⟨hloc, w_nil ?_⟩)))
      refine wl_pop (k := 1) (y := .str p) rfl rfl (by rw [List.length_map, List.length_append, List.map_append]; show (_ ++ [D.str p])[wt'.length + 1 - 1]? = _; rw [Nat.add_sub_cancel, List.getElem?_append_right (by rw [List.length_map]; exact Nat.le_refl _), List.length_map, Nat.sub_self]; rfl) ?_
      have ed : ((wt' ++ [p]).map D.str).dropLast = wt'.map D.str := by rw [List.map_append]; exact List.dropLast_concat
      rw [ed]
      refine nx_nx ?_
      refine w_forT (ds := [.lst ((nuS ls lo).map fun (i : Nat) => .int (i : Int))]) (nuS ls lo) (fun (i : Nat) => .int (i : Int)) (fun pre δ Z => ∃ (gs : List (Key × D)) (ks wt1 : List Str) (x8 x9 x10 x11 : Option D), δ = [some d, some (.str s), some (loD lo), some (.lst (ls.map fun l => .tup [.str (enS oS cs l.1), .str (enS oS cs l.2.1)])), some (.lst ((nuS ls lo).map fun (i : Nat) => .int (i : Int))), some (.loc (S.length + 0)), some (.loc (S.length + 1)), some (.str p), x8, x9, x10, x11] ∧
          Z = S ++ [.dct gs, .lst (wt1.map .str)] ∧ gs.map (·.1) = ks.map Sum.inr ∧ WyS ls cs lo s ks wt1 ∧ (∀ kv ∈ gs, ∀ n, old n kv.2 = true) ∧ p ∈ ks ∧ (∀ z ∈ ks, z ∉ wt1 → z ≠ p → ∀ w, AdS oS ls cs lo z w → w ∈ ks) ∧
          (∀ i ∈ pre, ∀ a b, ls[i]? = some (a, b, none) → (enS oS cs a = p → enS oS cs b ∈ ks) ∧ (enS oS cs b = p → enS oS cs a ∈ ks)) ∧ wt1.length ≤ ks.length ∧ 2 * (cs.length + 2 - ks.length) + wt1.length + 1 ≤ n) (by walk_at "w"; refine ⟨rfl, gs, ks, wt', _, _, _, _, rfl, rfl, hk, ⟨wy.nd, wy.st, wy.rc, fun z hz => wy.wk z (List.mem_append_left _ hz)⟩, hold, hp, fun z hz h1 h2 => hcl2 z hz (fun q => (List.mem_append.mp q).elim h1 fun q => h2 (List.mem_singleton.mp q)), fun i hi => (by cases hi), by rw [List.length_append] at hwl; omega, by rw [hn, List.length_append]; exact Nat.le_refl _⟩) (fun _ _ _ _ => rfl) ?_ ?_
      · rintro pre i post δ Z hx ⟨gs, ks, wt1, x8, x9, x10, x11, rfl, rfl, hk, wy, hold, hp, hc3, hpre, hwl, hm⟩
        have hB := wy.len
        obtain ⟨a, b, hi, hlo⟩ := ntot i (by rw [hx]; simp)
        have hix : atI (ls.map fun l => D.tup [.str (enS oS cs l.1), .str (enS oS cs l.2.1)]) (i : Int) = some (.tup [.str (enS oS cs a), .str (enS oS cs b)]) := by
          rw [atI_ofNat, List.getElem?_map, hi]
          rfl
        have pre' : ∀ {ks' : List Str}, (∀ z ∈ ks, z ∈ ks') → ((enS oS cs a = p → enS oS cs b ∈ ks') ∧ (enS oS cs b = p → enS oS cs a ∈ ks')) → ∀ j ∈ pre ++ [i], ∀ a b, ls[j]? = some (a, b, none) → (enS oS cs a = p → enS oS cs b ∈ ks') ∧ (enS oS cs b = p → enS oS cs a ∈ ks') := fun {ks'} hsub ho j hj a' b' hj' => by
          rcases List.mem_append.mp hj with hj | hj
          · obtain ⟨h1, h2⟩ := hpre j hj a' b' hj'
            exact ⟨fun e => hsub _ (h1 e), fun e => hsub _ (h2 e)⟩
          · rw [List.mem_singleton.mp hj] at hj'
            rw [hi] at hj'
            cases hj'
            exact ho
        refine w_nmG ?_
        refine w_seq (w_if (w_tv (w_op2 (w_v rfl (w_op2 (w_v rfl (w_v rfl (x_ixl hix ?_))))))))
        refine x_ninS (P := [enS oS cs a, enS oS cs b]) rfl (tb (br_c (fun q => ?_) (fun q => ?_)))
        · have hnp : p ∉ [enS oS cs a, enS oS cs b] := by simpa using q
          refine w_cont (nx_ct (tn_ct ⟨gs, ks, wt1, _, _, _, _, rfl, rfl, hk, wy, hold, hp, hc3, pre' (fun _ h => h) ⟨fun e => (hnp (by rw [e]; simp)).elim, fun e => (hnp (by rw [e]; simp)).elim⟩, hwl, hm⟩))
        · have hnp : p = enS oS cs a ∨ p = enS oS cs b := by
            rw [Bool.not_eq_false'] at q
            have := of_decide_eq_true q
            rw [List.mem_cons, List.mem_singleton] at this
            exact this
          refine w_next (nx_nx ?_)
          refine w_seq (w_asg (w_op2 (w_v rfl (w_v rfl (x_ixl hix (w_tupAG (d := .tup [.str (enS oS cs a), .str (enS oS cs b)]) rfl rfl ?_))))))
          refine w_consG (w_nmG (w_consG (w_nmG (w_nilG (nx_nx ?_)))))
          -- the place beyond
          have bey : ∀ (δ : Dl) (Z : Sg), δ[7]? = some (some (.str p)) → δ[9]? = some (some (.str (enS oS cs a))) → δ[10]? = some (some (.str (enS oS cs b))) → W (iteV (tvD (op2D eqO (varD 7) (varD 9))) (varD 10) (varD 9) δ Z) fun x Z' => ∃ w, x = .str w ∧ Z' = Z ∧ AdS oS ls cs lo p w ∧ ((enS oS cs a = p → enS oS cs b = w) ∧ (enS oS cs b = p → enS oS cs a = p ∨ enS oS cs a = w)) := fun δ Z e7 e9 e10 => by
            refine w_ite (w_tv (w_op2 (w_v e7 (w_v e9 (x_eqS (tb (br_d (fun e => ?_) (fun e => ?_))))))))
            · refine w_v e10 ⟨_, rfl, rfl, ⟨i, a, b, hi, hlo, .inl ⟨e.symm, rfl⟩⟩, fun _ => rfl, fun _ => .inl e.symm⟩
            · have e2 : p = enS oS cs b := hnp.elim (fun h => (e h).elim) id
              refine w_v e9 ⟨_, rfl, rfl, ⟨i, a, b, hi, hlo, .inr ⟨rfl, e2.symm⟩⟩, fun h => (e h.symm).elim, fun _ => .inr rfl⟩
          refine w_seq (w_set (w_imp (bey _ _ rfl rfl rfl) ?_))
          rintro _ _ ⟨w, rfl, rfl, had, hb1, hb2⟩
          refine nx_nx ?_
          have hd : dsOf (S ++ [.dct gs, .lst (wt1.map .str)]) (.loc (S.length + 0)) = some gs := wl_ds rfl rfl
          refine w_if (w_tv (w_op2 (w_v rfl (w_v rfl (x_inK (neg := true) hd rfl ?_)))))
          rw [if_pos rfl, keys_in hk]
          refine tb (br_c (fun q => ?_) (fun q => ?_))
          · have hnew : w ∉ ks := by simpa using q
            have hkn : (Sum.inr w : Key) ∉ gs.map (·.1) := by
              rw [hk, List.mem_map]
              rintro ⟨x, hx, e⟩
              cases e
              exact hnew hx
            have hgl := keys_len hk
            refine w_seq (wl_dput (A := S) (N := S.length) (k := 0) rfl (w_v rfl (w_v rfl (w_v rfl ⟨_, gs, .inr w, rfl, rfl, rfl, by omega, rfl, ?_⟩))))
            rw [putG_new hkn]
            refine nx_nx ?_
            have hloc : isLoc (S ++ [Ob.dct (gs ++ [(.inr w, .int (i : Int))]), Ob.lst (wt1.map .str)]) (.loc (S.length + 1)) = true := wl_isLoc rfl rfl
            refine w_drop (w_bm (w_v rfl ⟨hloc, w_cons (w_v rfl (w_nil ?_))⟩))
            refine wl_app (A := S) (N := S.length) (k := 1) (xs := wt1.map .str) rfl rfl (by rw [List.length_map]; omega) ?_
            have hw2 : WyS ls cs lo s (ks ++ [w]) (wt1 ++ [w]) := by
              refine ⟨?_, List.mem_append_left _ wy.st, fun z hz => ?_, fun z hz => ?_⟩
              · rw [List.nodup_append]
                exact ⟨wy.nd, by simp, fun x hx y hy e => by rw [List.mem_singleton] at hy; subst hy; subst e; exact hnew hx⟩
              · rcases List.mem_append.mp hz with hz | hz
                · exact wy.rc z hz
                · rw [List.mem_singleton.mp hz]; exact .step (wy.rc p hp) had
              · rcases List.mem_append.mp hz with hz | hz
                · exact List.mem_append_left _ (wy.wk z hz)
                · exact List.mem_append_right _ hz
            have hB2 := hw2.len
            rw [List.length_append, List.length_singleton] at hB2
            refine tn_nx ⟨gs ++ [(.inr w, .int (i : Int))], ks ++ [w], wt1 ++ [w], _, _, _, _, rfl, by rw [List.map_append]; rfl, by rw [List.map_append, List.map_append, hk]; rfl, hw2, fun kv hkv n => ?_, List.mem_append_left _ hp, fun z hz h1 h2 v hv => ?_, pre' (fun _ h => List.mem_append_left _ h) ⟨fun e => List.mem_append_right _ (by rw [hb1 e]; simp), fun e => ?_⟩, by rw [List.length_append, List.length_append]; omega, by rw [List.length_append, List.length_append, List.length_singleton]; omega⟩
            · rcases List.mem_append.mp hkv with hkv | hkv
              · exact hold kv hkv n
              · rw [List.mem_singleton.mp hkv]; rfl
            · rcases List.mem_append.mp hz with hz | hz
              · exact List.mem_append_left _ (hc3 z hz (fun q => h1 (List.mem_append_left _ q)) h2 v hv)
              · exact (h1 (List.mem_append_right _ hz)).elim
            · rcases hb2 e with e2 | e2
              · rw [e2]; exact List.mem_append_left _ hp
              · rw [e2]; simp
          · have hin : w ∈ ks := by simpa using q
            refine w_next (tn_nx ⟨gs, ks, wt1, _, _, _, _, rfl, rfl, hk, wy, hold, hp, hc3, pre' (fun _ h => h) ⟨fun e => by rw [hb1 e]; exact hin, fun e => (hb2 e).elim (fun e2 => by rw [e2]; exact hp) fun e2 => by rw [e2]; exact hin⟩, hwl, hm⟩)
      · rintro δ Z ⟨gs, ks, wt1, x8, x9, x10, x11, rfl, rfl, hk, wy, hold, hp, hc3, hpre, hwl, hm⟩
        refine tn_nx ⟨_, by omega, gs, ks, wt1, _, _, _, _, _, rfl, rfl, hk, wy, hold, fun z hz h1 w had => ?_, hwl, rfl⟩
        by_cases hzp : z = p
        · subst hzp
          obtain ⟨j, a, b, hj, hl2, hab⟩ := had
          obtain ⟨q1, q2⟩ := hpre j (mem_nuS.mpr ⟨a, b, hj, hl2⟩) a b hj
          rcases hab with ⟨e1, e2⟩ | ⟨e1, e2⟩
          · rw [← e2]; exact q1 e1
          · rw [← e1]; exact q2 e2
        · exact hc3 z hz h1 hzp w had
    · have hw0 : wt = [] := by
        cases wt with
        | nil => rfl
        | cons _ _ => cases hw
      subst hw0
      refine nx_nx ?_
      walk_at "w"
      have hcl3 : Cl (S ++ [.dct gs, .lst (([] : List Str).map .str)]) := hc.append fun o ho => by
        simp only [List.mem_cons, List.not_mem_nil, or_false] at ho
        rcases ho with rfl | rfl
        · unfold oldO
          exact oldL_map fun kv hkv => hold kv hkv _
        · rfl
      exact ⟨gs, ks, _, rfl, rfl, hcl3, hk, wy.nd, fun z => ⟨wy.rc z, fun r => r.sub wy.st fun z w hz ha => hcl2 z hz (fun q => by cases q) w ha⟩, hB⟩
theorem wl_finP {S : Sg} {L : List Ob} {d : D} {Q : D → Sg → Prop} (hc : Cl S) (hd : old S.length d = true) (q : Q d S) : W (fin S.length d (S ++ L)) Q := by
  cases L with
  | nil => exact wl_fin0 rfl q
  | cons x L => exact wl_fin rfl (List.cons_ne_nil _ _) (frzG_old _ hd) hc q
theorem w_finS {S : Sg} {d : D} {Q : D → Sg → Prop} (q : Q d S) : W (fin S.length d S) Q := ⟨d, S, if_pos rfl, q⟩
theorem x_isNone {S : Sg} {d : D} {b : Bool} {Q : D → Sg → Prop} (q : Q (.bl (if b then !isNoneB d else isNoneB d)) S) : W (isNO b d S) Q := ⟨_, _, rfl, q⟩
theorem map_bl {α : Type} (f : α → Bool) (l : List α) : (l.map fun a => D.bl (f a)) = (l.map f).map D.bl := by
  rw [List.map_map]
  rfl
theorem w_finL {A A1 : Sg} {d : D} {Q : D → Sg → Prop} (hl : A1.length = A.length) (q : Q d A1) : W (fin A.length d A1) Q := ⟨d, A1, if_pos hl, q⟩
/-! ### sheets: surplus, lack, sides, numbers -/
theorem x_eqBB {S : Sg} {i j : Bool} {Q : D → Sg → Prop} (q : Q (.bl (decide (i = j))) S) : W (eqO (.bl i) (.bl j) S) Q := x_eqB q
theorem neg_sumS (l : List Int) : -l.sum + 0 = -l.sum := by omega
/-- one line's part of the surplus -/
def ptS (P : List Str) (l : LnS Str) : Int := match l.2.2 with | none => 0 | some m => m * sgS P l
theorem surplus_ok (c : Cs) {S : Sg} {d pl : D} {ls : List (LnS Str)} {cs : List (Str × Int)} {P : List Str} (h : ShpS d ls cs) (hp : IsSq pl (P.map .str)) (hl : ls.length < 1000) (hcl : cs.length < 1000) : F_surplus c [d, pl] S = some (.int (surS ls cs P), S) := by
  have main : W (F_surplus c [d, pl] S) fun x Z => x = .int (surS ls cs P) ∧ Z = S := by
    obtain ⟨dl, dc, f, g, h1, h2, h3, h4, h5⟩ := h.ex
    unfold F_surplus B_surplus
    refine w_body ?_
    refine w_seq (w_asg (w_v rfl (w_tupAG h1.sq rfl ?_)))
    walk_at "w"
    refine w_lcF (S1 := S ++ []) (ds := [dc]) cs g (fun x => decide (x.1 ∈ P)) (fun x => .int x.2) (by walk_at "w"; exact ⟨rfl, rfl⟩) h3.sq (by omega) (fun x hx => ?_) ?_
    · refine w_tupAG (h5 x).sq rfl ?_
      walk_at "w"
      refine x_inS (P := P) hp.sq (tb ⟨rfl, rfl, fun _ => ?_⟩)
      walk_at "w"
      exact ⟨rfl, rfl⟩
    rw [show ((cs.filter fun x => decide (x.1 ∈ P)).map fun x => D.int x.2) = ((cs.filter fun x => decide (x.1 ∈ P)).map (·.2)).map D.int from by rw [List.map_map]; rfl]
    walk_at "w"
    obtain ⟨v0, ev0⟩ : ∃ v0 : Int, v0 = -((cs.filter fun x => decide (x.1 ∈ P)).map (·.2)).sum := ⟨_, rfl⟩
    rw [← ev0]
    refine w_forT (ds := [dl]) ls f (fun pre δ Z => ∃ (v : Int) (x5 x6 x7 x8 x9 : Option D), δ = [some d, some pl, some dl, some dc, some (.int v), x5, x6, x7, x8, x9] ∧ v = v0 + (pre.map (ptS P)).sum ∧ Z = S ++ []) ?_ (fun _ _ _ _ => h2.sq) ?_ ?_
    · walk_at "w"
      refine ⟨rfl, _, _, _, _, _, _, rfl, ?_, rfl⟩
      rw [List.map_nil, List.sum_nil, Int.add_zero]
    · rintro pre l post δ Z hx ⟨v, x5, x6, x7, x8, x9, rfl, ev, rfl⟩
      have e : ((pre ++ [l]).map (ptS P)).sum = (pre.map (ptS P)).sum + ptS P l := by
        rw [List.map_append, List.sum_append, List.map_singleton, List.sum_singleton]
      refine w_tupAG (h4 l).sq rfl ?_
      walk_at "w"
      refine x_isNone (tb ?_)
      cases hm : l.2.2 with
      | none =>
        refine br_t rfl (br_tr ?_)
        refine w_cont (nx_ct (tn_ct ⟨_, _, _, _, _, _, rfl, ?_, rfl⟩))
        have : ptS P l = 0 := by unfold ptS; rw [hm]
        rw [e, this, ev, Int.add_zero]
      | some m =>
        refine br_f rfl ?_
        walk_at "w"
        refine x_inS (P := P) hp.sq ?_
        walk_at "w"
        refine x_inS (P := P) hp.sq ?_
        refine x_eqBB (tb (br_c (fun q => ?_) (fun q => ?_)))
        · refine w_cont (nx_ct (tn_ct ⟨_, _, _, _, _, _, rfl, ?_, rfl⟩))
          have : ptS P l = 0 := by
            unfold ptS
            rw [hm]
            show m * sgS P l = 0
            rw [sg_zeroS (propext (decide_eq_decide.mp (of_decide_eq_true q))), Int.mul_zero]
          rw [e, this, ev, Int.add_zero]
        · have hne : ¬ (decide (l.1 ∈ P) = decide (l.2.1 ∈ P)) := of_decide_eq_false q
          refine w_next (nx_nx (w_aug rfl ?_))
          refine w_ite (w_tv (w_op2 (w_v rfl (w_v rfl (x_inS (P := P) hp.sq (tb (br_d (fun hin => ?_) (fun hin => ?_))))))))
          · refine w_v (d := .int m) rfl ?_
            walk_at "w"
            refine ⟨_, _, _, _, _, _, rfl, ?_, rfl⟩
            have : ptS P l = m := by
              have h1 : ¬ l.1 ∈ P := fun h => hne (by rw [decide_eq_true h, decide_eq_true hin])
              unfold ptS
              rw [hm]
              show m * sgS P l = m
              unfold sgS
              rw [if_pos hin, if_neg h1]
              omega
            rw [e, this, ev, ← Int.add_assoc]
          · refine w_op1 (w_v (d := .int m) rfl ?_)
            walk_at "w"
            refine ⟨_, _, _, _, _, _, rfl, ?_, rfl⟩
            have : ptS P l = -m := by
              have h1 : l.1 ∈ P := by
                by_cases h : l.1 ∈ P
                · exact h
                · exact (hne (by rw [decide_eq_false h, decide_eq_false hin])).elim
              unfold ptS
              rw [hm]
              show m * sgS P l = -m
              unfold sgS
              rw [if_neg hin, if_pos h1]
              omega
            rw [e, this, ev, ← Int.add_assoc]
    · rintro δ Z ⟨v, x5, x6, x7, x8, x9, rfl, ev, rfl⟩
      walk_at "w"
      refine wl_fin0 rfl ⟨?_, rfl⟩
      have key : surS ls cs P = (ls.map (ptS P)).sum - ((cs.filter fun x => decide (x.1 ∈ P)).map (·.2)).sum := rfl
      rw [ev, ev0, key]
      congr 1
      omega
  obtain ⟨_, _, e, rfl, rfl⟩ := main
  exact e
/-- sorted: the places that hang together with one -/
theorem x_srtD {S : Sg} {Q : D → Sg → Prop} {d : D} {gs : List (Key × D)} {ks : List Str} (h : dsOf S d = some gs) (hk : gs.map (·.1) = ks.map Sum.inr) (l : ks.length < 64) (q : Q (.lst ((srtS ks).map .str)) S) : W (srtDO [d] S) Q := by
  have e : ∀ {gs : List (Key × D)} {ks : List Str}, gs.map (·.1) = ks.map Sum.inr → strKs gs = some ks := fun {gs} => by
    induction gs with
    | nil => intro ks h; cases ks with | nil => rfl | cons _ _ => cases h
    | cons p r ih =>
      intro ks h
      cases ks with
      | nil => cases h
      | cons k ks =>
        rw [List.map_cons, List.map_cons] at h
        obtain ⟨kk, v⟩ := p
        injection h with h1 h2
        have h1 : kk = Sum.inr k := h1
        subst h1
        unfold strKs
        rw [ih h2]
        rfl
  refine ⟨_, _, ?_, q⟩
  unfold srtDO
  dsimp only
  rw [h, Option.bind_some, e hk, Option.bind_some, if_pos l]
theorem mem_srtS {ks : List Str} {z : Str} : z ∈ srtS ks ↔ z ∈ ks := (srtS_perm ks).mem_iff
theorem cl_tail {S : Sg} {o : Ob} {L M : List Ob} (h : Cl (S ++ (o :: L) ++ M)) : Cl (S ++ (o :: (L ++ M))) := by
  rw [show S ++ (o :: (L ++ M)) = S ++ (o :: L) ++ M by simp]
  exact h
theorem lack_none (c : Cs) {S : Sg} {d : D} {ls : List (LnS Str)} {rs : List Int} {cs : List (Str × Int)} (h : ShpS d ls cs) (R : RealS ls rs cs) (ho : oS ∉ cs.map (·.1)) (hl : ls.length < 1000) (hcl : cs.length < 40) (hc : Cl S) : F_lack_of c [d] S = some (.non, S) := by
  have main : W (F_lack_of c [d] S) fun x Z => x = .non ∧ Z = S := by
    obtain ⟨dl, dc, f, g, h1, h2, h3, h4, h5⟩ := h.ex
    unfold F_lack_of B_lack_of
    refine w_body ?_
    walk_at "w"
    refine w_forT (ds := [dc]) cs g (fun _ δ Z => ∃ (L : List Ob) (x2 x3 x4 x5 x6 : Option D), δ = [some d, some (.loc (S.length + 0)), x2, x3, x4, x5, x6] ∧ Z = S ++ (.lst [] :: L) ∧ Cl Z) ?_ (fun _ _ _ _ => h3.sq) ?_ ?_
    · refine w_one (w_op2 (w_v rfl (w_c (x_ixSq h1 rfl ⟨rfl, [], _, _, _, _, _, rfl, rfl, hc.push rfl⟩))))
    · rintro pre x post δ Z hx ⟨L, x2, x3, x4, x5, x6, rfl, rfl, hcz⟩
      have hxc : x.1 ∈ cs.map (·.1) := List.mem_map.mpr ⟨x, by rw [hx]; simp, rfl⟩
      refine w_tupAG (h5 x).sq rfl (w_consG (w_nmG (w_consG (w_nmG (w_nilG ?_)))))
      refine w_seq (w_set (w_cb (w_cons (w_cb (w_cons (w_fn (wd_cons (w_v rfl (wd_cons (w_v rfl (wd_nil ?_)))))))))))
      refine w_imp (ways_ok c (lo := none) h hl (by omega) hcz) fun y Z hz => ?_
      obtain ⟨gs, ks, L2, rfl, rfl, hcz2, hk, hnd, hmem, hkl⟩ := hz
      refine w_nil (x_srtD (gs := gs) (wl_ds (k := 0) rfl rfl) hk (by omega) (w_nil (x_tuplel (nx_nx ?_))))
      rw [List.append_assoc, List.cons_append] at hcz2 ⊢
      walk_at "w"
      refine x_inS (P := srtS ks) rfl (tb (br_d (fun hin => ?_) (fun hin => ?_)))
      · exact w_cont (nx_ct (tn_ct ⟨_, _, _, _, _, _, rfl, rfl, hcz2⟩))
      · walk_at "w"
        refine w_ex (surplus_ok c h .tup hl (by omega)) ?_
        have w0 := whole_ac ho hxc (P := srtS ks) (fun z => mem_srtS.trans (hmem z)) hin
        rw [no_acS R w0.1 w0.2]
        walk_at "w"
        exact ⟨_, _, _, _, _, _, rfl, rfl, hcz2⟩
    · rintro δ Z ⟨L, x2, x3, x4, x5, x6, rfl, rfl, hcz⟩
      refine nx_nx ?_
      refine w_seq (w_if (w_not (w_tru (w_v rfl (wl_tru (k := 0) rfl rfl ?_)))))
      walk_at "w"
      exact wl_finP hc rfl ⟨rfl, rfl⟩
  obtain ⟨_, _, e, rfl, rfl⟩ := main
  exact e
/-- some counted places have the line alone -/
def AloneS (ls : List (LnS Str)) (cs : List (Str × Int)) (i : Nat) : Prop := ∃ P : List Str, (∀ p ∈ P, p ∈ cs.map (·.1)) ∧ acS ls P = [i]
theorem side_ok (c : Cs) {S : Sg} {d : D} {ls : List (LnS Str)} {cs : List (Str × Int)} {i : Nat} {a b : Str} (h : ShpS d ls cs) (ho : oS ∉ cs.map (·.1)) (hi : ls[i]? = some (a, b, none)) (hl : ls.length < 1000) (hcl : cs.length < 40) (hc : Cl S) :
    W (F_side_of c [d, .int (i : Int)] S) fun x Z => Z = S ∧ ((x = .non ∧ ¬ AloneS ls cs i) ∨ ∃ P : List Str, x = .tup (P.map .str) ∧ (∀ p ∈ P, p ∈ cs.map (·.1)) ∧ acS ls P = [i]) := by
  have hix : atI (ls.map fun l => D.tup [.str (enS oS cs l.1), .str (enS oS cs l.2.1)]) (i : Int) = some (.tup [.str (enS oS cs a), .str (enS oS cs b)]) := by
    rw [atI_ofNat, List.getElem?_map, hi]
    rfl
  unfold F_side_of B_side_of
  refine w_body ?_
  rw [List.append_nil]
  refine w_seq (w_asg (w_op2 (w_fn (wd_cons (w_v rfl (wd_nil (w_ex (ends_ok c h hl (by omega) hc) (w_v rfl (x_ixl hix (w_tupAG (d := .tup [.str (enS oS cs a), .str (enS oS cs b)]) rfl rfl ?_))))))))))
  walk_at "w"
  refine w_forT (ds := [.tup [.tup [.str (enS oS cs a), .str (enS oS cs b)], .tup [.str (enS oS cs b), .str (enS oS cs a)]]]) [(enS oS cs a, enS oS cs b), (enS oS cs b, enS oS cs a)] (fun p => .tup [.str p.1, .str p.2]) (fun pre δ Z => ∃ (L : List Ob) (x4 x5 x6 : Option D), δ = [some d, some (.int (i : Int)), some (.str (enS oS cs a)), some (.str (enS oS cs b)), x4, x5, x6] ∧ Z = S ++ L ∧ Cl Z ∧ (∀ p ∈ pre, RcS oS ls cs (some i) p.1 oS)) ?_ (fun _ _ _ _ => rfl) ?_ ?_
  · walk_at "w"
    exact ⟨rfl, [], _, _, _, rfl, (List.append_nil S).symm, hc, fun p hp => by cases hp⟩
  · rintro pre p post δ Z hx ⟨L, x4, x5, x6, rfl, rfl, hcz, hpre⟩
    have hpm : (p.1 = enS oS cs a ∧ p.2 = enS oS cs b) ∨ (p.1 = enS oS cs b ∧ p.2 = enS oS cs a) := by
      have : p ∈ [(enS oS cs a, enS oS cs b), (enS oS cs b, enS oS cs a)] := by rw [hx]; simp
      simp only [List.mem_cons, List.not_mem_nil, or_false] at this
      rcases this with e | e
      · rw [e]; exact .inl ⟨rfl, rfl⟩
      · rw [e]; exact .inr ⟨rfl, rfl⟩
    refine w_tupAG (d := .tup [.str p.1, .str p.2]) rfl rfl (w_consG (w_nmG (w_consG (w_nmG (w_nilG ?_)))))
    refine w_seq (w_set (w_cb (w_cons (w_fn (wd_cons (w_v rfl (wd_cons (w_v rfl (wd_cons (w_v rfl (wd_nil ?_)))))))))))
    refine w_imp (ways_ok c (lo := some i) h hl (by omega) hcz) fun y Z hz => ?_
    obtain ⟨gs, ks, L2, rfl, rfl, hcz2, hk, hnd, hmem, hkl⟩ := hz
    refine w_nil (x_srtD (gs := gs) (wl_ds (k := 0) rfl rfl) hk (by omega) (nx_nx ?_))
    rw [List.append_assoc] at hcz2 ⊢
    walk_at "w"
    refine x_inS (P := srtS ks) rfl (tb (br_d (fun hin => ?_) (fun hin => ?_)))
    · walk_at "w"
      refine wl_finP hc rfl ⟨rfl, .inl ⟨rfl, ?_⟩⟩
      rintro ⟨P, hP, hac⟩
      have h1 := (ac_side ho hP hac hi).1
      have h2 := (hmem p.2).mp (mem_srtS.mp hin)
      rcases hpm with ⟨e1, e2⟩ | ⟨e1, e2⟩
      · exact h1 (by rw [← e1, ← e2]; exact h2)
      · exact h1 (by rw [← e1, ← e2]; exact h2.symm)
    · walk_at "w"
      refine x_ninS (P := srtS ks) rfl (tb (br_c (fun q => ?_) (fun q => ?_)))
      · have hn : oS ∉ srtS ks := by
          intro z
          rw [decide_eq_true z] at q
          cases q
        refine w_ret (w_cb (w_cons (w_v rfl (w_nil (x_tuplel ?_)))))
        have sd := side_ac ho hi hpm (P := srtS ks) (fun z => mem_srtS.trans (hmem z)) hin hn
        refine wl_finP hc (oldL_map fun _ _ => rfl) ⟨rfl, .inr ⟨_, rfl, sd⟩⟩
      · have hn : oS ∈ srtS ks := by
          rw [Bool.not_eq_false'] at q
          exact of_decide_eq_true q
        refine w_next (tn_nx ⟨_, _, _, _, rfl, rfl, hcz2, fun p' hp' => ?_⟩)
        rcases List.mem_append.mp hp' with hp' | hp'
        · exact hpre p' hp'
        · rw [List.mem_singleton.mp hp']
          exact (hmem oS).mp (mem_srtS.mp hn)
  · rintro δ Z ⟨L, x4, x5, x6, rfl, rfl, hcz, hpre⟩
    walk_at "w"
    refine wl_finP hc rfl ⟨rfl, .inl ⟨rfl, ?_⟩⟩
    rintro ⟨P, hP, hac⟩
    have h2 := (ac_side ho hP hac hi).2
    rcases h2 with h2 | h2
    · exact h2 (hpre (enS oS cs a, enS oS cs b) (by simp))
    · exact h2 (hpre (enS oS cs b, enS oS cs a) (by simp))
open Classical in
/-- what follows of a line -/
noncomputable def numS (ls : List (LnS Str)) (rs : List Int) (cs : List (Str × Int)) (i : Nat) : Option Int := match ls[i]? with
  | some (_, _, some m) => some m
  | some (_, _, none) => if AloneS ls cs i then rs[i]? else none
  | none => none
open Classical in
theorem number_ok (c : Cs) {S : Sg} {d : D} {ls : List (LnS Str)} {rs : List Int} {cs : List (Str × Int)} {i : Nat} (h : ShpS d ls cs) (R : RealS ls rs cs) (ho : oS ∉ cs.map (·.1)) (hi : i < ls.length) (hl : ls.length < 1000) (hcl : cs.length < 40) (hc : Cl S) : F_number_of c [d, .int (i : Int)] S = some (opD (numS ls rs cs i), S) := by
  have main : W (F_number_of c [d, .int (i : Int)] S) fun x Z => x = opD (numS ls rs cs i) ∧ Z = S := by
    obtain ⟨dl, dc, f, g, h1, h2, h3, h4, h5⟩ := h.ex
    obtain ⟨a, b, m, e⟩ : ∃ a b m, ls[i]? = some (a, b, m) := ⟨_, _, _, List.getElem?_eq_getElem hi⟩
    have hix : atI (ls.map f) (i : Int) = some (f (a, b, m)) := by
      rw [atI_ofNat, List.getElem?_map, e]
      rfl
    unfold F_number_of B_number_of
    refine w_body ?_
    rw [List.append_nil]
    refine w_seq (w_asg (w_op2 (w_op2 (w_v rfl (w_c (x_ixSq h1 (y := dl) rfl (w_v rfl (x_ixSq h2 hix (w_tupAG (h4 _).sq rfl ?_)))))))))
    walk_at "w"
    refine x_isNone (tb ?_)
    cases m with
    | some m =>
      refine br_t rfl ?_
      walk_at "w"
      refine w_finS ⟨?_, rfl⟩
      unfold numS
      rw [e]
    | none =>
      refine br_f rfl ?_
      walk_at "w"
      refine w_imp (side_ok c h ho e hl hcl hc) fun x Z hz => ?_
      obtain ⟨rfl, hz⟩ := hz
      rcases hz with ⟨rfl, hz⟩ | ⟨P, rfl, hP, hac⟩
      · walk_at "w"
        refine w_finS ⟨?_, rfl⟩
        unfold numS
        rw [e]
        show _ = opD (if AloneS ls cs i then rs[i]? else none)
        rw [if_neg hz]
        rfl
      · obtain ⟨a', b', r, e1, e2, e3⟩ := one_acS R hP hac
        rw [e] at e1
        cases e1
        have hn : numS ls rs cs i = some r := by
          unfold numS
          rw [e]
          show (if AloneS ls cs i then rs[i]? else none) = _
          rw [if_pos ⟨P, hP, hac⟩, e2]
        rw [hn]
        refine nx_nx (w_seq (w_if (w_tv (w_op1 (w_v rfl (x_isNone (tb (br_f rfl (w_next (nx_nx ?_)))))))) ))
        refine w_ret (w_ite (w_tv (w_op2 (w_v rfl (w_v rfl (x_inS (P := P) rfl (tb (br_d (fun hin => ?_) (fun hin => ?_)))))))))
        · rw [if_pos hin] at e3
          refine w_op1 (w_fn (wd_cons (w_v rfl (wd_cons (w_v rfl (wd_nil (w_ex (surplus_ok c h .tup hl (by omega)) (x_neg ?_))))))))
          rw [e3]
          exact w_finS ⟨rfl, rfl⟩
        · rw [if_neg hin] at e3
          refine w_fn (wd_cons (w_v rfl (wd_cons (w_v rfl (wd_nil (w_ex (surplus_ok c h .tup hl (by omega)) ?_))))))
          rw [e3]
          exact w_finS ⟨rfl, rfl⟩
  obtain ⟨_, _, e, rfl, rfl⟩ := main
  exact e
/-- the whole list -/
noncomputable def duesS (ls : List (LnS Str)) (rs : List Int) (cs : List (Str × Int)) : List (Option Int) := (List.range ls.length).map (numS ls rs cs)
theorem follows_ok (c : Cs) {S : Sg} {d : D} {ls : List (LnS Str)} {rs : List Int} {cs : List (Str × Int)} (h : ShpS d ls cs) (R : RealS ls rs cs) (ho : oS ∉ cs.map (·.1)) (hl : ls.length < 1000) (hcl : cs.length < 40) (hc : Cl S) : F_follows c [d] S = some (.loc S.length, S ++ [.lst ((duesS ls rs cs).map opD)]) := by
  have main : W (F_follows c [d] S) fun x Z => x = .loc S.length ∧ Z = S ++ [.lst ((duesS ls rs cs).map opD)] := by
    obtain ⟨dl, dc, f, g, h1, h2, h3, h4, h5⟩ := h.ex
    unfold F_follows B_follows
    refine w_body ?_
    rw [List.append_nil]
    walk_at "w"
    refine w_ex (lack_none c h R ho hl hcl hc) ?_
    walk_at "w"
    refine w_lcN ?_
    refine w_lcA (S1 := S) (ds := [.int (ls.length : Int)]) (List.range ls.length) (fun (i : Nat) => .int (i : Int)) (fun i => opD (numS ls rs cs i)) ?_ (k_rng (by omega) S) (by rw [List.length_range]; omega) (fun i hi => ?_) ?_
    · refine w_cons (w_cb (w_cons (w_op2 (w_v rfl (w_c (x_ixSq h1 (y := dl) rfl (w_nil (x_lenSq h2.sq (w_nil ⟨?_, rfl⟩)))))))))
      rw [List.length_map]
    · walk_at "w"
      exact w_ex (number_ok c h R ho (List.mem_range.mp hi) hl hcl hc) ⟨rfl, rfl⟩
    refine ⟨_, rfl, ?_⟩
    unfold duesS
    rw [List.map_map]
    refine w_finK ⟨rfl, rfl⟩
  obtain ⟨_, _, e, rfl, rfl⟩ := main
  exact e
/-! what shows itself -/
section
variable {α : Type} {f : α → PyData} {l : List α}
theorem leavesAll_map {B : Nat} (h : ∀ a ∈ l, (f a).leavesShort B = true) : PyData.leavesShortAll B (l.map f) = true := by
  induction l with
  | nil => unfold PyData.leavesShortAll; rfl
  | cons a r ih =>
    rw [List.map_cons]
    unfold PyData.leavesShortAll
    rw [h a (List.mem_cons_self ..), ih fun b hb => h b (List.mem_cons_of_mem _ hb)]
    rfl
theorem showAll_map (h : ∀ a ∈ l, (f a).showable = true) : PyData.showableAll (l.map f) = true := by
  induction l with
  | nil => unfold PyData.showableAll; rfl
  | cons a r ih =>
    rw [List.map_cons]
    unfold PyData.showableAll
    rw [h a (List.mem_cons_self ..), ih fun b hb => h b (List.mem_cons_of_mem _ hb)]
    rfl
theorem bulkAll_map {k : Nat} (h : ∀ a ∈ l, (f a).bulk ≤ k) : PyData.bulkAll (l.map f) ≤ (k + 1) * l.length := by
  induction l with
  | nil => unfold PyData.bulkAll; exact Nat.zero_le _
  | cons a r ih =>
    rw [List.map_cons]
    unfold PyData.bulkAll
    have h1 := h a (List.mem_cons_self ..)
    have h2 := ih fun b hb => h b (List.mem_cons_of_mem _ hb)
    rw [List.length_cons, Nat.mul_succ]
    omega
theorem depthAll_map {k : Nat} (h : ∀ a ∈ l, (f a).depth ≤ k) : PyData.depthAll (l.map f) ≤ k := by
  induction l with
  | nil => rw [List.map_nil]; unfold PyData.depthAll; exact Nat.zero_le _
  | cons a r ih =>
    rw [List.map_cons]
    unfold PyData.depthAll
    have h1 := h a (List.mem_cons_self ..)
    have h2 := ih fun b hb => h b (List.mem_cons_of_mem _ hb)
    omega
end
/-- it shows itself in no more than so much -/
structure ShW (k m : Nat) (d : PyData) : Prop where
  lv : d.leavesShort 13 = true
  sh : d.showable = true
  dp : d.depth ≤ k
  bk : d.bulk ≤ m
theorem ShW.int {i : Int} (h1 : -999999999999 ≤ i) (h2 : i ≤ 999999999999) : ShW 0 0 (.int i) := by
  refine ⟨?_, ?_, by unfold PyData.depth; exact Nat.le_refl _, by unfold PyData.bulk; exact Nat.le_refl _⟩
  · unfold PyData.leavesShort
    exact decide_eq_true (PyData.shown_int_le2 h1 h2)
  · unfold PyData.showable
    refine decide_eq_true ?_
    refine (Nat.lt_of_not_le fun h => ?_)
    have h3 : 2 ^ i.natAbs.log2 ≤ i.natAbs := Nat.log2_self_le (by intro z; rw [z] at h; exact absurd h (by decide))
    have h4 : 2 ^ 1920 ≤ 2 ^ i.natAbs.log2 := Nat.pow_le_pow_right (by decide) h
    have h5 : i.natAbs ≤ 999999999999 := by omega
    have h6 : (999999999999 : Nat) < 2 ^ 1920 := by decide
    omega
theorem ShW.list {α : Type} {f : α → PyData} {l : List α} {k m : Nat} (h : ∀ a ∈ l, ShW k m (f a)) : ShW (k + 1) ((m + 1) * l.length) (.list (l.map f)) := by
  refine ⟨?_, ?_, ?_, ?_⟩
  · unfold PyData.leavesShort; exact leavesAll_map fun a ha => (h a ha).lv
  · unfold PyData.showable; exact showAll_map fun a ha => (h a ha).sh
  · unfold PyData.depth
    have := depthAll_map fun a ha => (h a ha).dp
    omega
  · unfold PyData.bulk; exact bulkAll_map fun a ha => (h a ha).bk
theorem ShW.tuple {α : Type} {f : α → PyData} {l : List α} {k m : Nat} (h : ∀ a ∈ l, ShW k m (f a)) : ShW (k + 1) ((m + 1) * l.length) (.tuple (l.map f)) := by
  refine ⟨?_, ?_, ?_, ?_⟩
  · unfold PyData.leavesShort; exact leavesAll_map fun a ha => (h a ha).lv
  · unfold PyData.showable; exact showAll_map fun a ha => (h a ha).sh
  · unfold PyData.depth
    have := depthAll_map fun a ha => (h a ha).dp
    omega
  · unfold PyData.bulk; exact bulkAll_map fun a ha => (h a ha).bk
theorem ShW.mono {k m k' m' : Nat} {d : PyData} (h : ShW k m d) (h1 : k ≤ k') (h2 : m ≤ m') : ShW k' m' d := ⟨h.lv, h.sh, Nat.le_trans h.dp h1, Nat.le_trans h.bk h2⟩
theorem ShW.ok {k m : Nat} {d : PyData} (h : ShW k m d) (hk : k ≤ 50) (hm : m ≤ 2 ^ 20) (hd : PyProof.Rows.isDisplay d = true) : ShowOk d :=
  ⟨hd, h.sh, Nat.le_trans h.dp hk, PyData.shown_fits_bulk (B := 13) (by decide) (by decide) h.lv (Nat.le_trans h.bk hm)⟩
/-! ### k22: things of atoms, lists and tuples, so wide, so deep -/
/-- an atom as the law makes it, after so many steps -/
def At (b : Nat) : D → Prop
  | .non => True
  | .bl _ => True
  | .int i => -(1000000000 + (b : Int)) ≤ i ∧ i ≤ 1000000000 + (b : Int)
  | .str z => z.length ≤ 12 + b ∧ ∀ c ∈ z.cps.toList, c < 1114112
  | _ => False
inductive Bw (b : Nat) : List Nat → D → Prop
  | atom {ws : List Nat} {d : D} : At b d → Bw b ws d
  | nilT {ws : List Nat} : Bw b ws (.tup [])
  | nilL {ws : List Nat} : Bw b ws (.lst [])
  | tup {w : Nat} {ws : List Nat} {ds : List D} : ds.length ≤ w → (∀ d ∈ ds, Bw b ws d) → Bw b (w :: ws) (.tup ds)
  | lst {w : Nat} {ws : List Nat} {ds : List D} : ds.length ≤ w → (∀ d ∈ ds, Bw b ws d) → Bw b (w :: ws) (.lst ds)
theorem At.mono {b b' : Nat} {d : D} (h : At b d) (hb : b ≤ b') : At b' d := by
  cases d with
  | non => exact trivial
  | bl _ => exact trivial
  | int i => exact ⟨by have := h.1; omega, by have := h.2; omega⟩
  | str z => exact ⟨Nat.le_trans h.1 (by omega), h.2⟩
  | tup _ => exact h.elim
  | lst _ => exact h.elim
  | rol _ => exact h.elim
  | ty _ => exact h.elim
  | ins _ _ _ => exact h.elim
  | dic _ _ => exact h.elim
  | exc _ _ _ => exact h.elim
  | loc _ => exact h.elim
/-- one step wider -/
def bump (ws : List Nat) : List Nat := ws.map (· + 1) ++ [1]
theorem Bw.up {b : Nat} {ws : List Nat} {d : D} (h : Bw b ws d) : Bw (b + 2) (bump ws) d := by
  induction h with
  | atom h => exact .atom (h.mono (by omega))
  | nilT => exact .nilT
  | nilL => exact .nilL
  | tup hl _ ih => exact .tup (Nat.le_succ_of_le hl) ih
  | lst hl _ ih => exact .lst (Nat.le_succ_of_le hl) ih
theorem Bw.le {b b' : Nat} {ws : List Nat} {d : D} (h : Bw b ws d) (hb : b ≤ b') : Bw b' ws d := by
  induction h with
  | atom h => exact .atom (h.mono hb)
  | nilT => exact .nilT
  | nilL => exact .nilL
  | tup hl _ ih => exact .tup hl ih
  | lst hl _ ih => exact .lst hl ih
def pyF (d : D) : PyData := (pyD d).getD .none
theorem pyL_map : ∀ {ds : List D}, (∀ d ∈ ds, pyD d = some (pyF d)) → pyL ds = some (ds.map pyF)
  | [], _ => by unfold pyL; rfl
  | d :: ds, h => by
    unfold pyL
    rw [h d (List.mem_cons_self ..), pyL_map fun x hx => h x (List.mem_cons_of_mem _ hx)]
    rfl
theorem layAll_map {α : Type} {f : α → PyData} : ∀ {l : List α}, (∀ a ∈ l, (f a).canLay0 = true) → PyData.canLayAll0 (l.map f) = true
  | [], _ => by rw [List.map_nil]; unfold PyData.canLayAll0; rfl
  | a :: r, h => by
    rw [List.map_cons]
    unfold PyData.canLayAll0
    rw [h a (List.mem_cons_self ..), layAll_map fun b hb => h b (List.mem_cons_of_mem _ hb)]
    rfl
/-- how much there is in it at most -/
def bkW : List Nat → Nat
  | [] => 20
  | w :: ws => (bkW ws + 1) * w + 20
structure Tw (k m : Nat) (d : D) : Prop where
  py : pyD d = some (pyF d)
  sh : ShW k m (pyF d)
  ly : (pyF d).canLay0 = true
  od : ∀ n, old n d = true
theorem ShW.str {z : Str} {m : Nat} (h : z.length ≤ m) (hc : ∀ c ∈ z.cps.toList, c < 1114112) : ShW 0 m (.str z) := by
  refine ⟨?_, by unfold PyData.showable; rfl, by unfold PyData.depth; exact Nat.le_refl _, by unfold PyData.bulk; exact h⟩
  unfold PyData.leavesShort
  refine List.all_eq_true.mpr fun c h1 => decide_eq_true ?_
  have := hc c h1
  omega
theorem strOk_of {z : Str} (hc : ∀ c ∈ z.cps.toList, c < 1114112) : PyData.strOk z = true := by
  unfold PyData.strOk
  rw [Array.all_eq_true']
  intro c h
  have := hc c (by simpa using h)
  exact decide_eq_true (by omega)
theorem ShW.any {k m : Nat} {d : PyData} (h1 : d.leavesShort 13 = true) (h2 : d.showable = true) (h3 : d.depth = 0) (h4 : d.bulk = 0) : ShW k m d := ⟨h1, h2, by omega, by omega⟩
theorem At.tw {b : Nat} {d : D} (h : At b d) (hb : b ≤ 8) {k m : Nat} (hm : 20 ≤ m) : Tw k m d := by
  cases d with
  | non => exact ⟨by unfold pyF pyD; rfl, by unfold pyF pyD; exact .any (by unfold PyData.leavesShort; rfl) (by unfold PyData.showable; rfl) (by unfold PyData.depth; rfl) (by unfold PyData.bulk; rfl), by unfold pyF pyD; show PyData.canLay0 .none = true; unfold PyData.canLay0; rfl, fun n => by unfold old; rfl⟩
  | bl q => exact ⟨by unfold pyF pyD; rfl, by unfold pyF pyD; exact .any (by unfold PyData.leavesShort; rfl) (by unfold PyData.showable; rfl) (by unfold PyData.depth; rfl) (by unfold PyData.bulk; rfl), by unfold pyF pyD; show PyData.canLay0 (.bool q) = true; unfold PyData.canLay0; rfl, fun n => by unfold old; rfl⟩
  | int i => exact ⟨by unfold pyF pyD; rfl, by unfold pyF pyD; exact (ShW.int (by have := h.1; omega) (by have := h.2; omega)).mono (Nat.zero_le _) (Nat.zero_le _), by unfold pyF pyD; show PyData.canLay0 (.int i) = true; unfold PyData.canLay0; rfl, fun n => by unfold old; rfl⟩
  | str z => exact ⟨by unfold pyF pyD; rfl, by unfold pyF pyD; exact (ShW.str (Nat.le_trans h.1 (by omega : _ ≤ 20)) h.2).mono (Nat.zero_le _) hm, by unfold pyF pyD; show PyData.canLay0 (.str z) = true; unfold PyData.canLay0; exact strOk_of h.2, fun n => by unfold old; rfl⟩
  | tup _ => exact h.elim
  | lst _ => exact h.elim
  | rol _ => exact h.elim
  | ty _ => exact h.elim
  | ins _ _ _ => exact h.elim
  | dic _ _ => exact h.elim
  | exc _ _ _ => exact h.elim
  | loc _ => exact h.elim
theorem oldL_of {n : Nat} : ∀ {ds : List D}, (∀ d ∈ ds, old n d = true) → oldL n ds = true
  | [], _ => by unfold oldL; rfl
  | d :: ds, h => by
    unfold oldL
    rw [h d (List.mem_cons_self ..), oldL_of fun x hx => h x (List.mem_cons_of_mem _ hx)]
    rfl
theorem Tw.tup {k m w : Nat} {ds : List D} (h : ∀ d ∈ ds, Tw k m d) (hl : ds.length ≤ w) {m' : Nat} (hm : (m + 1) * w ≤ m') : Tw (k + 1) m' (.tup ds) := by
  have e : pyD (.tup ds) = some (.tuple (ds.map pyF)) := by
    unfold pyD
    rw [pyL_map fun d hd => (h d hd).py]
    rfl
  have e2 : pyF (.tup ds) = .tuple (ds.map pyF) := by unfold pyF; rw [e]; rfl
  refine ⟨by rw [e, e2], ?_, ?_, fun n => by unfold old; exact oldL_of fun d hd => (h d hd).od n⟩
  · rw [e2]
    exact (ShW.tuple fun d hd => (h d hd).sh).mono (Nat.le_refl _) (Nat.le_trans (Nat.mul_le_mul_left _ hl) hm)
  · rw [e2]
    unfold PyData.canLay0
    exact layAll_map fun d hd => (h d hd).ly
theorem Tw.lst {k m w : Nat} {ds : List D} (h : ∀ d ∈ ds, Tw k m d) (hl : ds.length ≤ w) {m' : Nat} (hm : (m + 1) * w ≤ m') : Tw (k + 1) m' (.lst ds) := by
  have e : pyD (.lst ds) = some (.list (ds.map pyF)) := by
    unfold pyD
    rw [pyL_map fun d hd => (h d hd).py]
    rfl
  have e2 : pyF (.lst ds) = .list (ds.map pyF) := by unfold pyF; rw [e]; rfl
  refine ⟨by rw [e, e2], ?_, ?_, fun n => by unfold old; exact oldL_of fun d hd => (h d hd).od n⟩
  · rw [e2]
    exact (ShW.list fun d hd => (h d hd).sh).mono (Nat.le_refl _) (Nat.le_trans (Nat.mul_le_mul_left _ hl) hm)
  · rw [e2]
    unfold PyData.canLay0
    exact layAll_map fun d hd => (h d hd).ly
theorem bkW_ge (ws : List Nat) : 20 ≤ bkW ws := by
  cases ws with
  | nil => exact Nat.le_refl _
  | cons w ws => unfold bkW; omega
theorem Bw.tw {b : Nat} {ws : List Nat} {d : D} (h : Bw b ws d) (hb : b ≤ 8) : Tw (ws.length + 1) (bkW ws) d := by
  induction h with
  | atom h => exact h.tw hb (bkW_ge _)
  | nilT =>
    rename_i ws
    have := Tw.tup (k := ws.length) (m := 0) (w := 0) (ds := []) (fun d hd => by cases hd) (Nat.le_refl _) (m' := bkW ws) (Nat.zero_le _)
    exact this
  | nilL =>
    rename_i ws
    exact Tw.lst (k := ws.length) (m := 0) (w := 0) (ds := []) (fun d hd => by cases hd) (Nat.le_refl _) (m' := bkW ws) (Nat.zero_le _)
  | tup hl _ ih => exact Tw.tup ih hl (Nat.le_add_right _ 20)
  | lst hl _ ih => exact Tw.lst ih hl (Nat.le_add_right _ 20)
theorem Tw.shaped {k m : Nat} {d : D} (h : Tw k m d) (hk : k ≤ 60) : SeqAt.shaped (pyF d) = true := by
  unfold SeqAt.shaped
  rw [h.ly, decide_eq_true (Nat.le_trans h.sh.dp (by omega))]
  rfl
theorem Tw.noLoc {k m : Nat} {d : D} (h : Tw k m d) : ∀ S, pyT S d = some (pyF d) := by
  intro S
  cases d with
  | loc n =>
    have := h.py
    unfold pyD at this
    cases this
  | _ => exact h.py
/-- its text as repr gives it -/
noncomputable def txt (d : D) : Str := (repOf (pyF d)).getD ""
theorem Tw.rep {b : Nat} {ws : List Nat} {d : D} (hd : Bw b ws d) (hb : b ≤ 8) (hk : ws.length ≤ 40) (hm : bkW ws ≤ 1048576) : repOf (pyF d) = some (txt d) := by
  have key : ∃ t, repOf (pyF d) = some t := by
    have h := hd.tw hb
    by_cases so : ShowOk (pyF d)
    · exact ⟨_, by unfold repOf; exact if_pos so⟩
    · unfold repOf
      rw [if_neg so]
      have nd : PyProof.Rows.isDisplay (pyF d) = true → False := fun q => so (h.sh.ok (by omega) hm q)
      cases hd with
      | atom a =>
        cases d with
        | non => exact ⟨_, rfl⟩
        | bl q => exact ⟨_, rfl⟩
        | int i =>
          refine ⟨(toString i : String), ?_⟩
          show (if i.natAbs.log2 < 1920 then some ((toString i : String) : Str) else none) = _
          have h2 := h.sh.sh
          unfold PyData.showable at h2
          exact if_pos (of_decide_eq_true h2)
        | str z =>
          refine ⟨reprText z, ?_⟩
          show (if (reprText z).length ≤ sizeLine then some (reprText z) else none) = _
          have h3 := StrLaws.reprText_len z fun c hc => Nat.lt_trans (a.2 c hc) (by decide)
          have h4 := a.1
          exact if_pos (Nat.le_trans h3 (by rw [show sizeLine = 16777216 from by decide]; omega))
        | tup _ => exact a.elim
        | lst _ => exact a.elim
        | rol _ => exact a.elim
        | ty _ => exact a.elim
        | ins _ _ _ => exact a.elim
        | dic _ _ => exact a.elim
        | exc _ _ _ => exact a.elim
        | loc _ => exact a.elim
      | nilT => exact (nd rfl).elim
      | nilL => exact (nd rfl).elim
      | tup hl hx => exact (nd (by rw [show pyF (.tup _) = .tuple _ from by
            have := h.py
            unfold pyD at this
            rw [pyL_map fun d hd => ((hx d hd).tw hb).py] at this
            exact (Option.some.inj this).symm]; rfl)).elim
      | lst hl hx => exact (nd (by rw [show pyF (.lst _) = .list _ from by
            have := h.py
            unfold pyD at this
            rw [pyL_map fun d hd => ((hx d hd).tw hb).py] at this
            exact (Option.some.inj this).symm]; rfl)).elim
  obtain ⟨t, e⟩ := key
  unfold txt
  rw [e]
  rfl
theorem Bw.itemsT {b : Nat} {ws : List Nat} {ds : List D} (h : Bw b ws (.tup ds)) : ∃ ws', ws'.length ≤ ws.length ∧ ∀ d ∈ ds, Bw b ws' d := by
  cases h with
  | atom a => exact a.elim
  | nilT => exact ⟨ws, Nat.le_refl _, fun d hd => by cases hd⟩
  | tup _ h => exact ⟨_, by rw [List.length_cons]; omega, h⟩
theorem Bw.itemsL {b : Nat} {ws : List Nat} {ds : List D} (h : Bw b ws (.lst ds)) : ∃ ws', ws'.length ≤ ws.length ∧ ∀ d ∈ ds, Bw b ws' d := by
  cases h with
  | atom a => exact a.elim
  | nilL => exact ⟨ws, Nat.le_refl _, fun d hd => by cases hd⟩
  | lst _ h => exact ⟨_, by rw [List.length_cons]; omega, h⟩
theorem Bw.lenT {b : Nat} {ws : List Nat} {ds : List D} (h : Bw b ws (.tup ds)) (hq : ∀ w ∈ ws, w ≤ 100) : ds.length ≤ 100 := by
  cases h with
  | atom a => exact a.elim
  | nilT => exact Nat.zero_le _
  | tup hl h => exact Nat.le_trans hl (hq _ (List.mem_cons_self ..))
theorem Bw.lenL {b : Nat} {ws : List Nat} {ds : List D} (h : Bw b ws (.lst ds)) (hq : ∀ w ∈ ws, w ≤ 100) : ds.length ≤ 100 := by
  cases h with
  | atom a => exact a.elim
  | nilL => exact Nat.zero_le _
  | lst hl h => exact Nat.le_trans hl (hq _ (List.mem_cons_self ..))
theorem x_ixP {S : Sg} {ds : List D} {i : Int} {Q : D → Sg → Prop} (P : D → Prop) (h0 : 0 ≤ i) (h1 : i < (ds.length : Int)) (hP : ∀ x ∈ ds, P x) (q : ∀ y, P y → Q y S) : W (ixO (.lst ds) (.int i) S) Q := by
  obtain ⟨j, rfl⟩ := Int.eq_ofNat_of_zero_le h0
  have hj : j < ds.length := by omega
  refine x_ixl (y := ds[j]) ?_ (q _ (hP _ (List.getElem_mem _)))
  rw [atI_ofNat, List.getElem?_eq_getElem hj]
theorem atI_P {ds : List D} {i : Int} (P : D → Prop) (h0 : 0 ≤ i) (h1 : i < (ds.length : Int)) (hP : ∀ x ∈ ds, P x) : ∃ y, atI ds i = some y ∧ P y := by
  obtain ⟨j, rfl⟩ := Int.eq_ofNat_of_zero_le h0
  have hj : j < ds.length := by omega
  exact ⟨ds[j], by rw [atI_ofNat, List.getElem?_eq_getElem hj], hP _ (List.getElem_mem _)⟩
def atB : D → Bool
  | .non => true
  | .bl _ => true
  | .int i => decide (-1000000000 ≤ i) && decide (i ≤ 1000000000)
  | .str z => decide (z.length ≤ 12) && z.cps.toList.all fun c => decide (c < 1114112)
  | _ => false
def bwB : D → Bool
  | .tup ds => decide (ds.length ≤ 3) && ds.all atB
  | d => atB d
theorem atB_ok {d : D} (h : atB d = true) : At 0 d := by
  cases d with
  | non => exact trivial
  | bl _ => exact trivial
  | int i =>
    have h : (decide (-1000000000 ≤ i) && decide (i ≤ 1000000000)) = true := h
    rw [Bool.and_eq_true] at h
    exact ⟨by have := of_decide_eq_true h.1; omega, by have := of_decide_eq_true h.2; omega⟩
  | str z =>
    have h : (decide (z.length ≤ 12) && z.cps.toList.all fun c => decide (c < 1114112)) = true := h
    rw [Bool.and_eq_true] at h
    exact ⟨by have := of_decide_eq_true h.1; omega, fun c hc => of_decide_eq_true (List.all_eq_true.mp h.2 c hc)⟩
  | _ => cases h
theorem bwB_ok {d : D} (h : bwB d = true) : Bw 0 [3] d := by
  cases d with
  | tup ds =>
    have h : (decide (ds.length ≤ 3) && ds.all atB) = true := h
    rw [Bool.and_eq_true] at h
    exact .tup (of_decide_eq_true h.1) fun d hd => .atom (atB_ok (List.all_eq_true.mp h.2 d hd))
  | _ => exact .atom (atB_ok h)
theorem Bw.flat {b : Nat} {d : D} (h : Bw b [] d) (ws : List Nat) : Bw b ws d := by
  cases h with
  | atom a => exact .atom a
  | nilT => exact .nilT
  | nilL => exact .nilL
theorem Bw.wide {b w : Nat} {d : D} (h : Bw b [3] d) (hw : 3 ≤ w) : Bw b [w, 3] d := by
  cases h with
  | atom a => exact .atom a
  | nilT => exact .nilT
  | nilL => exact .nilL
  | tup hl h => exact .tup (Nat.le_trans hl hw) fun d hd => (h d hd).flat _
  | lst hl h => exact .lst (Nat.le_trans hl hw) fun d hd => (h d hd).flat _
theorem x_neNil {S : Sg} {Q : D → Sg → Prop} {d : D} {ps : List PyData} (h : pyT S d = some (.list ps)) (hs : SeqAt.shaped (.list ps) = true) (q : Q (.bl (!ps.isEmpty)) S) : W (neDO d (.lst []) S) Q := by
  refine ⟨_, _, ?_, q⟩
  unfold neDO deepO
  rw [h, show pyT S (.lst []) = some (.list (([] : List Int).map .int)) from by unfold pyT pyD pyL; rfl]
  show (if (SeqAt.shaped _ && SeqAt.shaped _) = true then _ else _) = _
  rw [hs, shaped_ints, if_pos (by rfl)]
  show some (D.bl (!PyData.eqv (.list ps) (.list [])), S) = _
  rw [eqv_nil]
/-! ### sheets: the law's own draws -/
abbrev RlS := Str × Str × Int
def triD (l : RlS) : D := .tup [.str l.1, .str l.2.1, .int l.2.2]
def lnD (l : LnS Str) : D := .tup [.str l.1, .str l.2.1, opD l.2.2]
def pcD (x : Str × Int) : D := .tup [.str x.1, .int x.2]
theorem x_slTA {S : Sg} {ds : List D} {lo hi : Option Int} {Q : D → Sg → Prop} (q : Q (.tup (cutD ds lo hi)) S) : W (slTAO (.tup ds) lo hi S) Q := ⟨_, _, rfl, q⟩
theorem x_neS' {S : Sg} {Q : D → Sg → Prop} {i j : Str} (q : Q (.bl (!decide (i = j))) S) : W (neO (.str i) (.str j) S) Q := ⟨_, _, rfl, q⟩
theorem GoodName.at0 {z : Str} (h : GoodName z) : At 0 (.str z) := ⟨Nat.le_trans h.2.1 (by decide), fun c hc => by have := h.2.2 c hc; omega⟩
theorem GoodName.ne {z : Str} (h : GoodName z) : z ≠ oS := fun e => by
  have := h.1
  rw [e] at this
  exact absurd this (by decide +kernel)
theorem x_neBwL {A : Sg} {N k : Nat} {L : List Ob} {Q : D → Sg → Prop} {b : Nat} {ws : List Nat} {ds : List D} (hl : A.length = N) (hk : L[k]? = some (.lst ds)) (h : Bw b ws (.lst ds)) (hb : b ≤ 8) (hw : ws.length ≤ 50) (q : Q (.bl (!ds.isEmpty)) (A ++ L)) : W (neDO (.loc (N + k)) (.lst []) (A ++ L)) Q := by
  have T := h.tw hb
  have hi : ∀ d ∈ ds, pyD d = some (pyF d) := by
    obtain ⟨ws', _, hi⟩ := h.itemsL
    exact fun d hd => ((hi d hd).tw hb).py
  have e1 : pyL ds = some (ds.map pyF) := pyL_map hi
  have e : pyF (.lst ds) = .list (ds.map pyF) := by
    have e : pyD (.lst ds) = some (.list (ds.map pyF)) := by
      unfold pyD
      rw [e1]
      rfl
    unfold pyF
    rw [e]
    rfl
  refine x_neNil (ps := ds.map pyF) ?_ ?_ (by rw [List.isEmpty_map]; exact q)
  · unfold pyT
    dsimp only
    rw [wl_ls hl hk, Option.bind_some, e1]
    rfl
  · rw [← e]
    exact T.shaped (by omega)
/-- one of a list of texts -/
theorem x_ixStr {S : Sg} {zs : List Str} {i : Int} {Q : D → Sg → Prop} (h0 : 0 ≤ i) (h1 : i < (zs.length : Int)) (q : ∀ z, z ∈ zs → Q (.str z) S) : W (ixO (.lst (zs.map .str)) (.int i) S) Q := by
  obtain ⟨j, rfl⟩ := Int.eq_ofNat_of_zero_le h0
  have hj : j < zs.length := by omega
  refine x_ixl (y := .str zs[j]) ?_ (q _ (List.getElem_mem hj))
  rw [atI_ofNat, List.getElem?_map, List.getElem?_eq_getElem hj]
  rfl
theorem others_len {zs : List Str} (hn : zs.Nodup) {z : Str} (hz : z ∈ zs) : (zs.filter fun w => !decide (w = z)).length = zs.length - 1 := by
  have h1 := List.Nodup.erase_eq_filter hn z
  have h2 : (zs.filter fun w => !decide (w = z)) = zs.filter (· != z) := List.filter_congr fun w _ => by
    show _ = !(w == z)
    congr 1
  rw [h2, ← h1, List.length_erase_of_mem hz]
/-- a drawn line -/
structure OkL (zs : List Str) (most : Int) (l : RlS) : Prop where
  a : l.1 ∈ zs
  b : l.2.1 ∈ zs
  r0 : -most ≤ l.2.2
  r1 : l.2.2 ≤ most
theorem tri_bw {zs : List Str} (hz : ∀ z ∈ zs, GoodName z) {most : Int} (hm : most ≤ 1000000000) {l : RlS} (h : OkL zs most l) : Bw 0 [3] (triD l) := by
  refine .tup (by show 3 ≤ 3; decide) fun d hd => ?_
  simp only [List.mem_cons, List.not_mem_nil, or_false] at hd
  obtain ⟨a, b, r0, r1⟩ := h
  rcases hd with rfl | rfl | rfl
  · exact .atom (hz _ a).at0
  · exact .atom (hz _ b).at0
  · exact .atom ⟨by omega, by omega⟩
theorem two_ix {S : Sg} {x y : D} {i : Int} {Q : D → Sg → Prop} (h0 : 0 ≤ i) (h1 : i < 2) (qx : Q x S) (qy : Q y S) : W (ixO (.lst [x, y]) (.int i) S) Q := by
  rcases (show i = 0 ∨ i = 1 by omega) with rfl | rfl
  · exact x_ixl rfl qx
  · exact x_ixl rfl qy
theorem lines_ok (c : Cs) {t : Nat} {bb n : Int} {S A : Sg} {zs : List Str} {m : Nat} {most : Int} (h : Sa S t bb n A) (hn : n + 7 * (m : Int) ≤ 900000) (hc : Cl A) (h0 : 0 ≤ n) (hz : ∀ z ∈ zs, GoodName z) (hnd : zs.Nodup) (h2 : 2 ≤ zs.length) (h26 : zs.length ≤ 26) (hm : m ≤ 200) (m0 : 0 ≤ most) (m1 : most ≤ 100000000) :
    W (F_Llines c [.loc t, .lst (zs.map .str), .int (m : Int), .int most] A) fun x Z => ∃ rl : List RlS, x = .lst (rl.map triD) ∧ rl.length = m ∧ (∀ l ∈ rl, OkL zs most l) ∧ Sa S t bb (n + 7 * (m : Int)) Z := by
  have hs := h.tp.sa
  have hl := hs.len
  unfold F_Llines B_Llines
  refine w_body ?_
  walk_at "w"
  refine w_forN m (fun j δ Z => ∃ (A1 : Sg) (rl : List RlS) (x5 x6 x7 x8 : Option D), δ = [some (.loc t), some (.lst (zs.map .str)), some (.int (m : Int)), some (.int most), some (.loc (A.length + 0)), x5, x6, x7, x8] ∧ Z = A1 ++ [.lst (rl.map triD)] ∧ rl.length = j ∧ (∀ l ∈ rl, OkL zs most l) ∧ Sa A t bb (n + 7 * (j : Int)) A1) (by omega) ?_ ?_ ?_
  · walk_at "w"
    exact ⟨rfl, A, [], _, _, _, _, rfl, rfl, rfl, fun l hl => (by cases hl), hs.mono (by omega)⟩
  · rintro j δ Z hj ⟨A1, rl, x5, x6, x7, x8, rfl, rfl, hrl, hok, hs⟩
    have hl := hs.len
    have zl : (zs.map D.str).length = zs.length := List.length_map _
    walk_at "w"
    refine w_draw c hs (by omega) (by rw [zl]; omega) (by rw [zl]; omega) fun i1 A2 a0 a1 hs hl => ?_
    rw [zl] at a1
    refine x_ixStr a0 a1 fun one hone => ?_
    refine nx_nx (w_seq (w_set (w_op2 ?_)))
    refine w_lcF (S1 := A2 ++ [.lst (rl.map triD)]) (ds := [.lst (zs.map .str)]) zs .str (fun w => !decide (w = one)) .str (by walk_at "w"; exact ⟨rfl, rfl⟩) rfl (by omega) (fun w hw => ?_) ?_
    · refine w_nmG (w_tv (w_op2 (w_v rfl (w_v rfl (x_neS' (tb ⟨rfl, rfl, fun _ => ?_⟩))))))
      walk_at "w"
      exact ⟨rfl, rfl⟩
    walk_at "w"
    refine w_draw c hs (by omega) (by rw [zl]; omega) (by rw [zl]; omega) fun i2 A3 b0 b1 hs hl => ?_
    rw [zl] at b1
    refine x_ixStr b0 (by rw [others_len hnd hone]; omega) fun two htwo => ?_
    have htwo' := (List.mem_filter.mp htwo).1
    walk_at "w"
    have tail : ∀ (o1 o2 : Str) (A4 : Sg), o1 ∈ zs → o2 ∈ zs → Sa A t bb (n + 7 * (j : Int) + 1 + 1 + 1 + 1 + 1) A4 → A4.length = A.length → ∀ x8 : Option D, WS ((dropS (bmD isLoc appO (varD 4) (consA (tupD (consA (varD 6) (consA (varD 7) (consA (fnD (F_Ldraw c) [] (consA (varD 0) (consA (op2D addO (varD 3) (cD (.int 1))) nilA))) nilA)))) nilA)) : FS) [some (.loc t), some (.lst (zs.map .str)), some (.int (m : Int)), some (.int most), some (.loc (A.length + 0)), some (.int (j : Int)), some (.str o1), some (.str o2), x8] (A4 ++ [.lst (rl.map triD)]))
        (Tn (Nx (Bd fin A.length fun x Z => ∃ rl : List RlS, x = .lst (rl.map triD) ∧ rl.length = m ∧ (∀ l ∈ rl, OkL zs most l) ∧ Sa S t bb (n + 7 * (m : Int)) Z) fun δ1 S1 => WS (retS (varD 4) δ1 S1) (Bd fin A.length fun x Z => ∃ rl : List RlS, x = .lst (rl.map triD) ∧ rl.length = m ∧ (∀ l ∈ rl, OkL zs most l) ∧ Sa S t bb (n + 7 * (m : Int)) Z)) fun δ Z => ∃ (A1 : Sg) (rl : List RlS) (x5 x6 x7 x8 : Option D), δ = [some (.loc t), some (.lst (zs.map .str)), some (.int (m : Int)), some (.int most), some (.loc (A.length + 0)), x5, x6, x7, x8] ∧ Z = A1 ++ [.lst (rl.map triD)] ∧ rl.length = j + 1 ∧ (∀ l ∈ rl, OkL zs most l) ∧ Sa A t bb (n + 7 * ((j + 1 : Nat) : Int)) A1) := fun o1 o2 A4 ho1 ho2 hs hl x8 => by
      walk_at "w"
      refine w_draw c hs (by omega) (by omega) (by omega) fun r A5 r0 r1 hs hl => ?_
      refine w_nil ⟨by show 3 < 1000000; decide, w_nil ?_⟩
      refine wl_app (k := 0) (xs := rl.map triD) hl rfl (by rw [List.length_map]; omega) ?_
      refine tn_nx ⟨A5, rl ++ [(o1, o2, r)], _, _, _, _, rfl, by rw [List.map_append]; rfl, by rw [List.length_append, hrl]; rfl, fun l hl => ?_, hs.mono (by omega)⟩
      rcases List.mem_append.mp hl with hl | hl
      · exact hok l hl
      · rw [List.mem_singleton.mp hl]
        exact ⟨ho1, ho2, by show -most ≤ r; omega, by show r ≤ most; omega⟩
    have hb : Bw 0 [200, 3] (.lst (rl.map triD)) := .lst (by rw [List.length_map]; omega) fun d hd => by
      obtain ⟨l, hl, rfl⟩ := List.mem_map.mp hd
      exact tri_bw hz (by omega) (hok l hl)
    refine x_neBwL (k := 0) hl rfl hb (by decide) (by decide) ?_
    refine tb (br_c (fun q => ?_) (fun q => ?_))
    · have hne : rl ≠ [] := by
        intro e
        rw [e] at q
        cases q
      walk_at "w"
      refine w_draw c hs (by omega) (by decide) (by decide) fun i3 A4 c0 c1 hs hl => ?_
      walk_at "w"
      refine br_d (fun q3 => ?_) (fun q3 => ?_)
      · walk_at "w"
        have hp := List.length_pos_iff.mpr hne
        have rll : (rl.map triD).length = rl.length := List.length_map _
        refine w_draw c hs (by omega) (by rw [rll]; omega) (by rw [rll]; omega) fun i4 A5 d0 d1 hs hl => ?_
        rw [rll] at d1
        obtain ⟨p, rfl⟩ := Int.eq_ofNat_of_zero_le d0
        have hp2 : p < rl.length := by omega
        obtain ⟨l, el⟩ : ∃ l, rl[p]? = some l := ⟨_, List.getElem?_eq_getElem hp2⟩
        have hlm := hok l (List.mem_of_getElem? el)
        refine wl_ix (k := 0) hl rfl (y := triD l) (by rw [atI_ofNat, List.getElem?_map, el]; rfl) ?_
        walk_at "w"
        refine x_slTA ?_
        refine w_tupAG (ds := [.str l.1, .str l.2.1]) rfl rfl ?_
        walk_at "w"
        refine w_draw c hs (by omega) (by decide) (by decide) fun i5 A6 e0 e1 hs hl => ?_
        refine two_ix e0 e1 ?_ ?_
        · refine w_tupAG (ds := [.str l.1, .str l.2.1]) rfl rfl ?_
          refine w_consG (w_nmG (w_consG (w_nmG (w_nilG (nx_nx ?_)))))
          exact tail l.1 l.2.1 A6 hlm.a hlm.b hs hl _
        · refine w_tupAG (ds := [.str l.2.1, .str l.1]) rfl rfl ?_
          refine w_consG (w_nmG (w_consG (w_nmG (w_nilG (nx_nx ?_)))))
          exact tail l.2.1 l.1 A6 hlm.b hlm.a hs hl _
      · refine w_next (nx_nx ?_)
        exact tail one two A4 hone htwo' (hs.mono (by omega)) hl _
    · refine br_fa ?_
      refine w_next (nx_nx ?_)
      exact tail one two A3 hone htwo' (hs.mono (by omega)) hl _
  · rintro δ Z ⟨A1, rl, x5, x6, x7, x8, rfl, rfl, hrl, hok, hs⟩
    have hl := hs.len
    walk_at "w"
    have hf : oldL A1.length (rl.map triD) = true := oldL_map fun _ _ => rfl
    rw [← hl]
    refine wl_fin rfl (x := .lst (rl.map triD)) (List.cons_ne_nil _ _) ?_ (hs.cl hc) ⟨rl, rfl, hrl, hok, h.trans hs⟩
    exact z_loc (by omega) (z_pl (by rw [al_get rfl]; rfl) (frzL_old _ hf))
/-! ### sheets: more, counted, hidden, a case -/
def b01 (b : Bool) : Int := if b = true then 1 else 0
/-- what came to a place less what went from there -/
def morS (rl : List RlS) (p : Str) : Int := (rl.map fun l => l.2.2 * ((if l.2.1 = p then 1 else 0) - (if l.1 = p then 1 else 0))).sum
theorem more_ok (c : Cs) {S : Sg} {rl : List RlS} {p : Str} (hl : rl.length < 1000) : F_Lmore c [.lst (rl.map triD), .str p] S = some (.int (morS rl p), S) := by
  have main : W (F_Lmore c [.lst (rl.map triD), .str p] S) fun x Z => x = .int (morS rl p) ∧ Z = S := by
    unfold F_Lmore B_Lmore
    refine w_body ?_
    walk_at "w"
    refine w_lcA (S1 := S ++ []) (ds := [.lst (rl.map triD)]) rl triD (fun l => .int (l.2.2 * ((if l.2.1 = p then 1 else 0) - (if l.1 = p then 1 else 0)))) (by walk_at "w"; exact ⟨rfl, rfl⟩) rfl (by omega) (fun l hl => ?_) ?_
    · refine w_tupAG (d := triD l) (ds := [.str l.1, .str l.2.1, .int l.2.2]) rfl rfl ?_
      walk_at "w"
      refine ⟨?_, rfl⟩
      by_cases h1 : l.2.1 = p <;> by_cases h2 : l.1 = p <;> simp [h1, h2]
    rw [show (rl.map fun l => D.int (l.2.2 * ((if l.2.1 = p then 1 else 0) - (if l.1 = p then 1 else 0)))) = (rl.map fun l => l.2.2 * ((if l.2.1 = p then 1 else 0) - (if l.1 = p then 1 else 0))).map D.int from by rw [List.map_map]; rfl]
    walk_at "w"
    exact wl_fin0 rfl ⟨rfl, rfl⟩
  obtain ⟨_, _, e, rfl, rfl⟩ := main
  exact e
theorem ins_perm {α : Type} (l : List α) (i : Nat) (x : α) : (l.take i ++ [x] ++ l.drop i).Perm (x :: l) := by
  rw [List.append_assoc]
  have h := List.perm_middle (a := x) (l₁ := l.take i) (l₂ := l.drop i)
  rw [List.take_append_drop] at h
  exact h
theorem counted_ok (c : Cs) {t : Nat} {bb n : Int} {S A : Sg} {zs : List Str} {rl : List RlS} (h : Sa S t bb n A) (hn : n + 3 * (zs.length : Int) ≤ 900000) (h0 : 0 ≤ n) (hc : Cl A) (hnd : zs.Nodup) (h26 : zs.length ≤ 26) (hrl : rl.length < 1000) :
    W (F_Lcounted c [.loc t, .lst (zs.map .str), .lst (rl.map triD)] A) fun x Z => ∃ cs : List (Str × Int), x = .lst (cs.map pcD) ∧ (cs.map (·.1)).Nodup ∧ (∀ p ∈ cs, p.1 ∈ zs ∧ p.2 = morS rl p.1) ∧ Sa S t bb (n + 1 + 2 * (zs.length : Int)) Z := by
  have hs := h.tp.sa
  have hl := hs.len
  unfold F_Lcounted B_Lcounted
  refine w_body ?_
  walk_at "w"
  refine w_draw c hs (by omega) (by decide) (by decide) fun d A1 a0 a1 hs hl => ?_
  obtain ⟨rare, hr, r0, r9⟩ := at3i 1 3 9 a0 a1 1 9 (by decide) (by decide) (by decide)
  refine x_ixl hr ?_
  walk_at "w"
  refine w_forT (ds := [.lst (zs.map .str)]) zs .str (fun pre δ Z => ∃ (A2 : Sg) (cs : List (Str × Int)) (x5 : Option D), δ = [some (.loc t), some (.lst (zs.map .str)), some (.lst (rl.map triD)), some (.int rare), some (.loc (A.length + 0)), x5] ∧ Z = A2 ++ [.lst (cs.map pcD)] ∧ (cs.map (·.1)).Nodup ∧ (∀ p ∈ cs, p.1 ∈ pre ∧ p.2 = morS rl p.1) ∧ cs.length ≤ pre.length ∧ Sa A t bb (n + 1 + 2 * (pre.length : Int)) A2) ?_ (fun _ _ _ _ => rfl) ?_ ?_
  · walk_at "w"
    exact ⟨rfl, A1, [], _, rfl, rfl, by simp, fun p hp => (by cases hp), Nat.le_refl _, hs.mono (by simp)⟩
  · rintro pre p post δ Z hx ⟨A2, cs, x5, rfl, rfl, nd, hp, hcl, hs⟩
    have hl := hs.len
    have hpl : pre.length < zs.length := by rw [hx, List.length_append, List.length_cons]; omega
    have hnew : p ∉ pre := by
      rw [hx] at hnd
      exact fun q => (List.nodup_append.mp hnd).2.2 p q p (List.mem_cons_self ..) rfl
    have put : ∀ (A3 : Sg), Sa A t bb (n + 1 + 2 * (pre.length : Int) + 1) A3 → A3.length = A.length → WS ((dropS (bmD isLoc insO (varD 4) (consA (fnD (F_Ldraw c) [] (consA (varD 0) (consA (op2D addO (cbD lenO (consA (varD 4) nilA)) (cD (.int 1))) nilA))) (consA (tupD (consA (varD 5) (consA (fnD (F_Lmore c) [] (consA (varD 2) (consA (varD 5) nilA))) nilA))) nilA)))) [some (.loc t), some (.lst (zs.map .str)), some (.lst (rl.map triD)), some (.int rare), some (.loc (A.length + 0)), some (.str p)] (A3 ++ [.lst (cs.map pcD)])) (Tn (Nx (Bd fin A.length fun x Z => ∃ cs : List (Str × Int), x = .lst (cs.map pcD) ∧ (cs.map (·.1)).Nodup ∧ (∀ p ∈ cs, p.1 ∈ zs ∧ p.2 = morS rl p.1) ∧ Sa S t bb (n + 1 + 2 * (zs.length : Int)) Z) fun δ1 S1 => WS (retS (varD 4) δ1 S1) (Bd fin A.length fun x Z => ∃ cs : List (Str × Int), x = .lst (cs.map pcD) ∧ (cs.map (·.1)).Nodup ∧ (∀ p ∈ cs, p.1 ∈ zs ∧ p.2 = morS rl p.1) ∧ Sa S t bb (n + 1 + 2 * (zs.length : Int)) Z)) fun δ Z => ∃ (A2 : Sg) (cs : List (Str × Int)) (x5 : Option D), δ = [some (.loc t), some (.lst (zs.map .str)), some (.lst (rl.map triD)), some (.int rare), some (.loc (A.length + 0)), x5] ∧ Z = A2 ++ [.lst (cs.map pcD)] ∧ (cs.map (·.1)).Nodup ∧ (∀ q ∈ cs, q.1 ∈ pre ++ [p] ∧ q.2 = morS rl q.1) ∧ cs.length ≤ (pre ++ [p]).length ∧ Sa A t bb (n + 1 + 2 * ((pre ++ [p]).length : Int)) A2) := fun A3 hs hl => by
      have cl : (cs.map pcD).length = cs.length := List.length_map _
      have hloc : isLoc (A3 ++ [Ob.lst (cs.map pcD)]) (.loc (A.length + 0)) = true := wl_isLoc hl rfl
      refine w_drop (w_bm (w_v rfl ⟨hloc, ?_⟩))
      walk_at "w"
      refine w_draw c hs (by omega) (by rw [cl]; omega) (by rw [cl]; omega) fun i A4 b0 b1 hs hl => ?_
      rw [cl] at b1
      obtain ⟨k, rfl⟩ := Int.eq_ofNat_of_zero_le b0
      walk_at "w"
      refine w_ex (more_ok c hrl) ?_
      walk_at "w"
      refine wl_ins (k := 0) (xs := cs.map pcD) hl rfl (by rw [cl]; omega) (by omega) ?_
      have e : (cs.map pcD).take k ++ [.tup [.str p, .int (morS rl p)]] ++ (cs.map pcD).drop k = (cs.take k ++ [(p, morS rl p)] ++ cs.drop k).map pcD := by
        rw [List.map_append, List.map_append, List.map_take, List.map_drop]
        rfl
      rw [e]
      have pm := ins_perm cs k (p, morS rl p)
      refine tn_nx ⟨A4, cs.take k ++ [(p, morS rl p)] ++ cs.drop k, _, rfl, rfl, ?_, fun q hq => ?_, ?_, hs.mono ?_⟩
      · refine ((pm.map (·.1)).nodup_iff).mpr ?_
        rw [List.map_cons, List.nodup_cons]
        refine ⟨fun q => ?_, nd⟩
        obtain ⟨x, hx, e⟩ := List.mem_map.mp q
        have e : x.1 = p := e
        exact hnew (e ▸ (hp x hx).1)
      · rcases List.mem_cons.mp (pm.mem_iff.mp hq) with rfl | hq
        · exact ⟨by simp, rfl⟩
        · exact ⟨List.mem_append_left _ (hp q hq).1, (hp q hq).2⟩
      · rw [pm.length_eq, List.length_cons, List.length_append, List.length_singleton]
        omega
      · rw [List.length_append, List.length_singleton]
        omega
    have skip : ∀ (A3 : Sg), Sa A t bb (n + 1 + 2 * (pre.length : Int) + 1) A3 → ∃ (A2 : Sg) (cs' : List (Str × Int)) (x5 : Option D), [some (.loc t), some (.lst (zs.map .str)), some (.lst (rl.map triD)), some (.int rare), some (.loc (A.length + 0)), some (.str p)] = [some (.loc t), some (.lst (zs.map .str)), some (.lst (rl.map triD)), some (.int rare), some (.loc (A.length + 0)), x5] ∧ A3 ++ [.lst (cs.map pcD)] = A2 ++ [.lst (cs'.map pcD)] ∧ (cs'.map (·.1)).Nodup ∧ (∀ q ∈ cs', q.1 ∈ pre ++ [p] ∧ q.2 = morS rl q.1) ∧ cs'.length ≤ (pre ++ [p]).length ∧ Sa A t bb (n + 1 + 2 * ((pre ++ [p]).length : Int)) A2 := fun A3 hs =>
      ⟨A3, cs, _, rfl, rfl, nd, fun q hq => ⟨List.mem_append_left _ (hp q hq).1, (hp q hq).2⟩, by rw [List.length_append]; omega, hs.mono (by rw [List.length_append, List.length_singleton]; omega)⟩
    refine w_nmG ?_
    refine w_if (w_or (w_tv (w_op2 (w_v rfl (w_c (x_eqI (tb ?_)))))))
    refine br_d (fun q => ?_) (fun q => ?_)
    · refine br_tr ?_
      exact put A2 (hs.mono (by omega)) hl
    · walk_at "w"
      refine w_draw c hs (by omega) (by omega) (by omega) fun i A3 b0 b1 hs hl => ?_
      walk_at "w"
      refine br_d (fun q2 => ?_) (fun q2 => ?_)
      · exact put A3 hs hl
      · refine w_next (tn_nx ?_)
        exact skip A3 hs
  · rintro δ Z ⟨A2, cs, x5, rfl, rfl, nd, hp, hcl, hs⟩
    have hl := hs.len
    walk_at "w"
    have hf : oldL A2.length (cs.map pcD) = true := oldL_map fun _ _ => rfl
    rw [← hl]
    refine wl_fin rfl (x := .lst (cs.map pcD)) (List.cons_ne_nil _ _) ?_ (hs.cl hc) ⟨cs, rfl, nd, hp, h.trans hs⟩
    exact z_loc (by omega) (z_pl (by rw [al_get rfl]; rfl) (frzL_old _ hf))
/-- what is told of lines, some hidden -/
structure HidS (rl : List RlS) (ls : List (LnS Str)) : Prop where
  len : ls.length = rl.length
  at_ : ∀ (i : Nat) (l : RlS), rl[i]? = some l → ls[i]? = some (l.1, l.2.1, none) ∨ ls[i]? = some (l.1, l.2.1, some l.2.2)
theorem HidS.snoc {rl : List RlS} {ls : List (LnS Str)} (h : HidS rl ls) {a b : Str} {r : Int} {m : Option Int} (hm : m = none ∨ m = some r) : HidS (rl ++ [(a, b, r)]) (ls ++ [(a, b, m)]) := by
  refine ⟨by rw [List.length_append, List.length_append, h.len]; rfl, fun i l hl => ?_⟩
  by_cases hi : i < rl.length
  · rw [List.getElem?_append_left hi] at hl
    rw [List.getElem?_append_left (by rw [h.len]; exact hi)]
    exact h.at_ i l hl
  · have hi2 := (List.getElem?_eq_some_iff.mp hl).1
    rw [List.length_append, List.length_singleton] at hi2
    have hi3 : i = rl.length := by omega
    subst hi3
    rw [List.getElem?_append_right (Nat.le_refl _), Nat.sub_self] at hl
    cases hl
    rw [List.getElem?_append_right (by rw [h.len]; exact Nat.le_refl _), h.len, Nat.sub_self]
    rcases hm with rfl | rfl
    · exact .inl rfl
    · exact .inr rfl
theorem hidden_ok (c : Cs) {t : Nat} {bb n : Int} {S A : Sg} {zs : List Str} {rl : List RlS} {most : Int} (h : Sa S t bb n A) (hn : n + 3 * (rl.length : Int) ≤ 900000) (h0 : 0 ≤ n) (hc : Cl A) (hrl : rl.length ≤ 200) (hok : ∀ l ∈ rl, OkL zs most l) :
    W (F_Lhidden c [.loc t, .lst (rl.map triD)] A) fun x Z => ∃ (r2 : List RlS) (ls : List (LnS Str)), x = .tup [.lst (r2.map triD), .lst (ls.map lnD)] ∧ r2.length = rl.length ∧ HidS r2 ls ∧ (∀ l ∈ r2, OkL zs most l) ∧ Sa S t bb (n + 1 + 2 * (rl.length : Int)) Z := by
  have hs := h.tp.sa
  have hl := hs.len
  unfold F_Lhidden B_Lhidden
  refine w_body ?_
  walk_at "w"
  refine w_draw c hs (by omega) (by decide) (by decide) fun d A1 a0 a1 hs hl => ?_
  refine x_ixP (fun x => ∃ o : Int, x = .int o) a0 a1 (fun x hx => ?_) ?_
  · simp only [List.mem_cons, List.not_mem_nil, or_false] at hx
    rcases hx with rfl | rfl | rfl | rfl | rfl <;> exact ⟨_, rfl⟩
  rintro _ ⟨odd, rfl⟩
  walk_at "w"
  refine w_forT (ds := [.lst (rl.map triD)]) rl triD (fun pre δ Z => ∃ (A2 : Sg) (r2 : List RlS) (ls : List (LnS Str)) (x5 x6 x7 x8 : Option D), δ = [some (.loc t), some (.lst (rl.map triD)), some (.int odd), some (.loc (A.length + 0)), some (.loc (A.length + 1)), x5, x6, x7, x8] ∧ Z = A2 ++ [.lst (r2.map triD), .lst (ls.map lnD)] ∧ r2.length = pre.length ∧ HidS r2 ls ∧ (∀ l ∈ r2, OkL zs most l) ∧ Sa A t bb (n + 1 + 2 * (pre.length : Int)) A2) ?_ (fun _ _ _ _ => rfl) ?_ ?_
  · walk_at "w"
    exact ⟨rfl, A1, [], [], _, _, _, _, rfl, rfl, rfl, ⟨rfl, fun i l hl => by cases hl⟩, fun l hl => (by cases hl), hs.mono (by simp)⟩
  · rintro pre l post δ Z hx ⟨A2, r2, ls, x5, x6, x7, x8, rfl, rfl, hr2, hh, ho2, hs⟩
    have hl := hs.len
    have hpl : pre.length < rl.length := by rw [hx, List.length_append, List.length_cons]; omega
    have hlm := hok l (by rw [hx]; simp)
    obtain ⟨a, b, r⟩ := l
    refine w_tupAG (d := triD (a, b, r)) (ds := [.str a, .str b, .int r]) rfl rfl ?_
    walk_at "w"
    refine w_draw c hs (by omega) (by decide) (by decide) fun i A3 b0 b1 hs hl => ?_
    walk_at "w"
    have hll := hh.len
    have tail : ∀ (gone : Bool) (r' : Int) (A4 : Sg), -most ≤ r' → r' ≤ most → Sa A t bb (n + 1 + 2 * (pre.length : Int) + 1 + 1) A4 → A4.length = A.length → WS ((seqS (dropS (bmD isLoc appO (varD 3) (consA (tupD (consA (varD 5) (consA (varD 6) (consA (varD 7) nilA)))) nilA)))
        (dropS (bmD isLoc appO (varD 4) (consA (tupD (consA (varD 5) (consA (varD 6) (consA (iteV (tvD (varD 8)) (cD .non) (varD 7)) nilA)))) nilA)))) [some (.loc t), some (.lst (rl.map triD)), some (.int odd), some (.loc (A.length + 0)), some (.loc (A.length + 1)), some (.str a), some (.str b), some (.int r'), some (.bl gone)] (A4 ++ [.lst (r2.map triD), .lst (ls.map lnD)])) (Tn (Nx (Bd fin A.length fun x Z => ∃ (r2 : List RlS) (ls : List (LnS Str)), x = .tup [.lst (r2.map triD), .lst (ls.map lnD)] ∧ r2.length = rl.length ∧ HidS r2 ls ∧ (∀ l ∈ r2, OkL zs most l) ∧ Sa S t bb (n + 1 + 2 * (rl.length : Int)) Z) fun δ1 S1 => WS (retS (tupD (consA (varD 3) (consA (varD 4) nilA))) δ1 S1) (Bd fin A.length fun x Z => ∃ (r2 : List RlS) (ls : List (LnS Str)), x = .tup [.lst (r2.map triD), .lst (ls.map lnD)] ∧ r2.length = rl.length ∧ HidS r2 ls ∧ (∀ l ∈ r2, OkL zs most l) ∧ Sa S t bb (n + 1 + 2 * (rl.length : Int)) Z)) fun δ Z => ∃ (A2 : Sg) (r2 : List RlS) (ls : List (LnS Str)) (x5 x6 x7 x8 : Option D), δ = [some (.loc t), some (.lst (rl.map triD)), some (.int odd), some (.loc (A.length + 0)), some (.loc (A.length + 1)), x5, x6, x7, x8] ∧ Z = A2 ++ [.lst (r2.map triD), .lst (ls.map lnD)] ∧ r2.length = (pre ++ [(a, b, r)]).length ∧ HidS r2 ls ∧ (∀ l ∈ r2, OkL zs most l) ∧ Sa A t bb (n + 1 + 2 * ((pre ++ [(a, b, r)]).length : Int)) A2) := fun gone r' A4 q0 q1 hs hl => by
      have fin2 : ∀ m : Option Int, (m = none ∨ m = some r') → ∃ (A2 : Sg) (r3 : List RlS) (ls3 : List (LnS Str)) (x5 x6 x7 x8 : Option D), [some (.loc t), some (.lst (rl.map triD)), some (.int odd), some (.loc (A.length + 0)), some (.loc (A.length + 1)), some (.str a), some (.str b), some (.int r'), some (.bl gone)] = [some (.loc t), some (.lst (rl.map triD)), some (.int odd), some (.loc (A.length + 0)), some (.loc (A.length + 1)), x5, x6, x7, x8] ∧ A4 ++ [.lst (r2.map triD ++ [.tup [.str a, .str b, .int r']]), .lst (ls.map lnD ++ [.tup [.str a, .str b, opD m]])] = A2 ++ [.lst (r3.map triD), .lst (ls3.map lnD)] ∧ r3.length = (pre ++ [(a, b, r)]).length ∧ HidS r3 ls3 ∧ (∀ l ∈ r3, OkL zs most l) ∧ Sa A t bb (n + 1 + 2 * ((pre ++ [(a, b, r)]).length : Int)) A2 := fun m hm => by
        refine ⟨A4, r2 ++ [(a, b, r')], ls ++ [(a, b, m)], _, _, _, _, rfl, by rw [List.map_append, List.map_append]; rfl, by rw [List.length_append, List.length_append, hr2]; rfl, hh.snoc hm, fun l hl => ?_, hs.mono (by rw [List.length_append, List.length_singleton]; omega)⟩
        rcases List.mem_append.mp hl with hl | hl
        · exact ho2 l hl
        · rw [List.mem_singleton.mp hl]
          exact ⟨hlm.a, hlm.b, q0, q1⟩
      walk_at "w"
      cases gone with
      | true =>
        walk_at "w"
        exact fin2 none (.inl rfl)
      | false =>
        walk_at "w"
        exact fin2 (some r') (.inr rfl)
    have lo := hlm.r0
    have hi := hlm.r1
    have lo : -most ≤ r := lo
    have hi : r ≤ most := hi
    refine br_d (fun q => ?_) (fun q => ?_)
    · walk_at "w"
      refine w_draw c hs (by omega) (by decide) (by decide) fun i2 A4 c0 c1 hs hl => ?_
      walk_at "w"
      refine br_d (fun q3 => ?_) (fun q3 => ?_)
      · refine w_op2 (w_c (w_v rfl (x_int0 (nx_nx ?_))))
        rw [decide_eq_true q]
        exact tail true (0 - r) A4 (by omega) (by omega) hs hl
      · refine w_v rfl (nx_nx ?_)
        rw [decide_eq_true q]
        exact tail true r A4 lo hi hs hl
    · refine br_fa ?_
      refine w_v rfl (nx_nx ?_)
      rw [decide_eq_false q]
      exact tail false r A3 lo hi (hs.mono (by omega)) hl
  · rintro δ Z ⟨A2, r2, ls, x5, x6, x7, x8, rfl, rfl, hr2, hh, ho2, hs⟩
    have hl := hs.len
    walk_at "w"
    have hf1 : oldL A2.length (r2.map triD) = true := oldL_map fun _ _ => rfl
    have hf2 : oldL A2.length (ls.map lnD) = true := oldL_map fun l _ => by
      obtain ⟨a, b, m⟩ := l
      cases m <;> rfl
    rw [← hl]
    refine wl_fin rfl (x := .tup [.lst (r2.map triD), .lst (ls.map lnD)]) (List.cons_ne_nil _ _) ?_ (hs.cl hc) ⟨r2, ls, rfl, hr2, hh, ho2, h.trans hs⟩
    refine z_tup (z_cons (z_loc (by omega) (z_pl (by rw [al_get rfl]; rfl) (frzL_old _ hf1))) (z_cons (z_loc (by omega) (z_pl (by rw [al_get rfl]; rfl) (frzL_old _ hf2))) z_nil))
theorem hid_zip : ∀ {rl : List RlS} {ls : List (LnS Str)} (p : Str), HidS rl ls → morS rl p = ((ls.zip (rl.map (·.2.2))).map fun q => q.2 * ((if q.1.2.1 = p then 1 else 0) - (if q.1.1 = p then 1 else 0))).sum
  | [], ls, p, h => by
    have : ls = [] := List.eq_nil_of_length_eq_zero h.len
    subst this
    rfl
  | l :: rl, [], p, h => by have := h.len; cases this
  | l :: rl, k :: ls, p, h => by
    have ih := hid_zip (rl := rl) (ls := ls) p ⟨by have := h.len; simpa using this, fun i x hx => h.at_ (i + 1) x hx⟩
    have h0 := h.at_ 0 l rfl
    have e : k.1 = l.1 ∧ k.2.1 = l.2.1 := by
      rcases h0 with q | q
      · have q : k = (l.1, l.2.1, none) := Option.some.inj q
        rw [q]; exact ⟨rfl, rfl⟩
      · have q : k = (l.1, l.2.1, some l.2.2) := Option.some.inj q
        rw [q]; exact ⟨rfl, rfl⟩
    unfold morS at ih ⊢
    rw [List.map_cons, List.sum_cons, ih, List.map_cons, List.zip_cons_cons, List.map_cons, List.sum_cons, e.1, e.2]
/-- so what is counted is what really went -/
theorem HidS.real {rl : List RlS} {ls : List (LnS Str)} {cs : List (Str × Int)} (h : HidS rl ls) (nd : (cs.map (·.1)).Nodup) (hm : ∀ p ∈ cs, p.2 = morS rl p.1) : RealS ls (rl.map (·.2.2)) cs := by
  refine ⟨by rw [List.length_map, h.len], fun i l m hi hlm => ?_, nd, fun p hp => ?_⟩
  · have hlt := (List.getElem?_eq_some_iff.mp hi).1
    rw [h.len] at hlt
    have e : rl[i]? = some rl[i] := List.getElem?_eq_getElem hlt
    rw [List.getElem?_map, e]
    rcases h.at_ i _ e with q | q
    · rw [hi] at q
      cases q
      cases hlm
    · rw [hi] at q
      cases q
      cases hlm
      rfl
  · rw [hm p hp]
    exact hid_zip p.1 h
/-! ### sheets: a case, all sets -/
/-- what a case is -/
structure CaseS (zs : List Str) (r2 : List RlS) (ls : List (LnS Str)) (cs : List (Str × Int)) : Prop where
  z : ∀ z ∈ zs, GoodName z
  ll : ls.length ≤ 14
  h : HidS r2 ls
  R : RealS ls (r2.map (·.2.2)) cs
  ok : ∀ l ∈ r2, OkL zs 50000000 l
  c7 : cs.length ≤ 7
  cin : ∀ p ∈ cs, p.1 ∈ zs
  lo : ∀ p ∈ cs, -1000000000 ≤ p.2
  hi : ∀ p ∈ cs, p.2 ≤ 1000000000
theorem CaseS.o {zs : List Str} {r2 : List RlS} {ls : List (LnS Str)} {cs : List (Str × Int)} (h : CaseS zs r2 ls cs) : oS ∉ cs.map (·.1) := fun q => by
  obtain ⟨p, hp, e⟩ := List.mem_map.mp q
  exact (h.z _ (h.cin p hp)).ne e
theorem morS_le {zs : List Str} {most : Int} (m0 : 0 ≤ most) (p : Str) : ∀ {rl : List RlS}, (∀ l ∈ rl, OkL zs most l) → -((rl.length : Int) * most) ≤ morS rl p ∧ morS rl p ≤ (rl.length : Int) * most
  | [], _ => by unfold morS; simp
  | l :: rl, h => by
    have ih := morS_le m0 p (rl := rl) fun x hx => h x (List.mem_cons_of_mem _ hx)
    obtain ⟨_, _, r0, r1⟩ := h l (List.mem_cons_self ..)
    have e : morS (l :: rl) p = l.2.2 * ((if l.2.1 = p then 1 else 0) - (if l.1 = p then 1 else 0)) + morS rl p := by
      unfold morS
      rw [List.map_cons, List.sum_cons]
    have h1 : -most ≤ l.2.2 * ((if l.2.1 = p then 1 else 0) - (if l.1 = p then 1 else 0)) ∧ l.2.2 * ((if l.2.1 = p then 1 else 0) - (if l.1 = p then 1 else 0)) ≤ most := by
      by_cases h1 : l.2.1 = p <;> by_cases h2 : l.1 = p <;> simp only [h1, h2, if_true, if_false] <;> omega
    rw [e, List.length_cons, Int.natCast_succ, Int.add_mul, Int.one_mul]
    omega
theorem w_draw0 (c : Cs) {S0 A : Sg} {t : Nat} {b n : Int} {Q : D → Sg → Prop} (h : Sa S0 t b n A) (hn : n ≤ 1000000) {many : Int} (hm : 0 < many) (hm2 : many ≤ 10000000000000)
    (k : ∀ r A', 0 ≤ r → r < many → Sa S0 t b (n + 1) A' → A'.length = S0.length → Q (.int r) A') : W (F_Ldraw c [.loc t, .int many] A) Q := by
  have := w_draw c (L := []) (Q := Q) h hn hm hm2 fun r A' h0 h1 hs hl => by rw [List.append_nil]; exact k r A' h0 h1 hs hl
  rw [List.append_nil] at this
  exact this
theorem case_ok (c : Cs) {t : Nat} {bb n : Int} {S A : Sg} (h : Sa S t bb n A) (hn : n ≤ 800000) (h0 : 0 ≤ n) (hc : Cl A) :
    W (F_Lcase c [.loc t] A) fun x Z => ∃ zs r2 ls cs, x = .tup [.lst (r2.map triD), .lst (ls.map lnD), .lst (cs.map pcD)] ∧ CaseS zs r2 ls cs ∧ Sa S t bb (n + 200) Z := by
  have hs := h.tp.sa
  have hl := hs.len
  unfold F_Lcase B_Lcase
  refine w_body ?_
  walk_at "w"
  refine w_draw c hs (by omega) (by decide) (by decide) fun d A1 a0 a1 hs hl => ?_
  obtain ⟨k, rfl⟩ := Int.eq_ofNat_of_zero_le a0
  walk_at "w"
  rw [show (2 + (k : Int)) = ((2 + k : Nat) : Int) from by omega, List.append_nil]
  obtain ⟨zs, A2, e, hzl, hz, hnd, hs⟩ := names_ok c (hs.tp) (by omega) (hs.cl hc) (m := 2 + k) (by omega)
  replace hs := Sa.trans ‹Sa A t bb _ A1› hs
  have hl := hs.len
  refine w_ex e ?_
  walk_at "w"
  refine w_draw0 c hs (by omega) (by decide) (by decide) fun d A3 b0 b1 hs hl => ?_
  obtain ⟨m, rfl⟩ := Int.eq_ofNat_of_zero_le b0
  walk_at "w"
  refine w_draw0 c hs (by omega) (by decide) (by decide) fun d A4 c0 c1 hs hl => ?_
  refine x_ixP (fun x => ∃ o : Int, x = .int o ∧ 0 ≤ o ∧ o ≤ 50000000) c0 c1 (fun x hx => ?_) ?_
  · simp only [List.mem_cons, List.not_mem_nil, or_false] at hx
    rcases hx with rfl | rfl | rfl <;> exact ⟨_, rfl, by decide, by decide⟩
  rintro _ ⟨most, rfl, m0, m1⟩
  walk_at "w"
  obtain ⟨_, A5, e, rl, rfl, hrl, hok, hs2⟩ := lines_ok c (m := m) hs (by omega) (hs.cl hc) (by omega) hz hnd (by omega) (by omega) (by omega) m0 (by omega)
  have hl := hs2.len
  refine w_ex e ?_
  walk_at "w"
  obtain ⟨_, A6, e, r2, ls, rfl, hr2, hh, ho2, hs3⟩ := hidden_ok c hs2 (by omega) (by omega) (hs2.cl hc) (by omega) hok
  have hl := hs3.len
  refine w_ex e ?_
  refine w_tupAG (d := .tup [.lst (r2.map triD), .lst (ls.map lnD)]) (ds := [.lst (r2.map triD), .lst (ls.map lnD)]) rfl rfl ?_
  walk_at "w"
  obtain ⟨_, A7, e, cs, rfl, hcn, hcp, hs4⟩ := counted_ok c hs3 (by omega) (by omega) (hs3.cl hc) hnd (by omega) (rl := r2) (by omega)
  have hl := hs4.len
  refine w_ex e ?_
  walk_at "w"
  have hml : ∀ p ∈ cs, -700000000 ≤ p.2 ∧ p.2 ≤ 700000000 := fun p hp => by
    have q := morS_le m0 p.1 ho2
    rw [← (hcp p hp).2] at q
    have h14 : r2.length ≤ 14 := by omega
    have : (r2.length : Int) * most ≤ 14 * 50000000 := Int.mul_le_mul (by omega) m1 m0 (by decide)
    omega
  have hc7 : cs.length ≤ 7 := by
    have := nodup_lenS hcn fun z hz => by
      obtain ⟨p, hp, rfl⟩ := List.mem_map.mp hz
      exact (hcp p hp).1
    rw [List.length_map] at this
    omega
  have hll := hh.len
  refine w_finL hl ⟨zs, r2, ls, cs, rfl, ⟨hz, by omega, hh, hh.real hcn fun p hp => (hcp p hp).2, fun l hl => ?_, hc7, fun p hp => (hcp p hp).1, fun p hp => ?_, fun p hp => ?_⟩, (h.trans hs4).mono ?_⟩
  · obtain ⟨q1, q2, q3, q4⟩ := ho2 l hl
    exact ⟨q1, q2, by omega, by omega⟩
  · have := hml p hp; omega
  · have := hml p hp; omega
  · omega
/-! ### sheets: all sets of the counted -/
open Classical in
noncomputable def srtC (cs : List (Str × Int)) : List (Str × Int) := cs.mergeSort fun x y => PySem.W.dataLe false pyG (pcD x) (pcD y)
theorem srtC_perm (cs : List (Str × Int)) : (srtC cs).Perm cs := List.mergeSort_perm _ _
theorem pyG_pc (x : Str × Int) : pyG (pcD x) = .tuple [.str x.1, .int x.2] := rfl
theorem srtOk_pc (cs : List (Str × Int)) : srtOk (cs.map pcD) := by
  refine ⟨fun d hd => ?_, fun d hd d' hd' => ?_, .inl fun d hd => ?_, fun d hd => ?_⟩
  · obtain ⟨x, _, rfl⟩ := List.mem_map.mp hd
    rfl
  · obtain ⟨y, hy, rfl⟩ := List.mem_map.mp hd
    obtain ⟨x, _, rfl⟩ := List.mem_map.mp hy
    obtain ⟨y', hy', rfl⟩ := List.mem_map.mp hd'
    obtain ⟨x', _, rfl⟩ := List.mem_map.mp hy'
    rw [pyG_pc, pyG_pc]
    simp [PySem.W.alike, PySem.W.alikeAll]
  · obtain ⟨y, hy, rfl⟩ := List.mem_map.mp hd
    obtain ⟨x, _, rfl⟩ := List.mem_map.mp hy
    exact ⟨_, _, pyG_pc x⟩
  · obtain ⟨x, _, rfl⟩ := List.mem_map.mp hd
    rw [pyG_pc]
    simp [PyData.depth, PyData.depthAll]
theorem srt_pc (cs : List (Str × Int)) : (cs.map pcD).mergeSort (PySem.W.dataLe false pyG) = (srtC cs).map pcD := (List.map_mergeSort (r := fun x y => PySem.W.dataLe false pyG (pcD x) (pcD y)) (s := PySem.W.dataLe false pyG) (f := pcD) (fun _ _ _ _ => rfl)).symm
/-- the sets, the bare one ahead -/
noncomputable def setsS (cs : List (Str × Int)) : List (List Str) := rwS ((srtC cs).map (·.1)) [[]]
theorem rwS_app : ∀ (a b : List Str) (acc : List (List Str)), rwS (a ++ b) acc = rwS b (rwS a acc)
  | [], _, _ => rfl
  | _ :: a, b, acc => rwS_app a b _
theorem setsS_len {cs : List (Str × Int)} (h : cs.length ≤ 7) : (setsS cs).length ≤ 128 := by
  unfold setsS
  rw [rwS_len, List.length_map, (srtC_perm cs).length_eq]
  have : 2 ^ cs.length ≤ 2 ^ 7 := Nat.pow_le_pow_right (by decide) h
  show 1 * 2 ^ cs.length ≤ 128
  omega
theorem setsS_in {cs : List (Str × Int)} {P : List Str} (h : P ∈ setsS cs) : ∀ p ∈ P, p ∈ cs.map (·.1) := fun p hp => by
  obtain ⟨q0, h0, h1⟩ := rwS_sub _ _ _ h
  rcases h1 p hp with h1 | h1
  · rw [List.mem_singleton.mp h0] at h1
    cases h1
  · exact ((srtC_perm cs).map (·.1)).mem_iff.mp h1
theorem setsS_all {cs : List (Str × Int)} {P : List Str} (h : ∀ p ∈ P, p ∈ cs.map (·.1)) (hP : P ≠ []) : ∃ Q ∈ (setsS cs).tail, ∀ z, z ∈ P ↔ z ∈ Q := by
  obtain ⟨r, hr⟩ := rwS_head ((srtC cs).map (·.1)) [[]] [] [] rfl
  have hm := rwS_mem (fun z => decide (z ∈ P)) ((srtC cs).map (·.1)) [[]] [] (List.mem_singleton.mpr rfl)
  rw [List.nil_append] at hm
  have iff : ∀ z, z ∈ P ↔ z ∈ ((srtC cs).map (·.1)).filter fun z => decide (z ∈ P) := fun z => by
    rw [List.mem_filter, decide_eq_true_iff]
    exact ⟨fun hz => ⟨((srtC_perm cs).map (·.1)).mem_iff.mpr (h z hz), hz⟩, fun hz => hz.2⟩
  refine ⟨_, ?_, iff⟩
  unfold setsS
  rw [hr] at hm ⊢
  rcases List.mem_cons.mp hm with e | hm
  · obtain ⟨z, hz⟩ := List.exists_mem_of_ne_nil _ hP
    have := (iff z).mp hz
    rw [e] at this
    cases this
  · exact hm
def tupS (P : List Str) : D := .tup (P.map .str)
noncomputable def rowD (ls : List (LnS Str)) (cs : List (Str × Int)) (P : List Str) : D := .tup [tupS P, .lst ((acS ls P).map fun (i : Nat) => .int (i : Int)), .int (surS ls cs P)]
def acP (P : List Str) (l : LnS Str × Nat) : Bool := l.1.2.2.isNone && decide ((l.1.1 ∈ P) ≠ (l.1.2.1 ∈ P))
theorem acS_zip (ls : List (LnS Str)) (P : List Str) : acS ls P = (ls.zipIdx.filter (acP P)).map (·.2) := by
  have e : List.range ls.length = ls.zipIdx.map (·.2) := by
    rw [List.zipIdx_map_snd, List.range_eq_range']
  unfold acS
  rw [e, List.filter_map]
  congr 1
  refine List.filter_congr fun x hx => ?_
  have h1 := List.mem_zipIdx_iff_getElem?.mp hx
  rw [Function.comp_apply, h1]
  unfold acP
  dsimp only
  cases x.1.2.2 with
  | none => rfl
  | some _ => rfl
theorem rwS_small : ∀ (ps : List Str) (acc : List (List Str)) (k : Nat) (q : List Str), (∀ x ∈ acc, x.length ≤ k) → q ∈ rwS ps acc → q.length ≤ k + ps.length
  | [], acc, k, q, h, hq => by have := h q hq; rw [List.length_nil]; omega
  | p :: ps, acc, k, q, h, hq => by
    have := rwS_small ps (acc ++ acc.map fun q => q ++ [p]) (k + 1) q (fun x hx => by
      rcases List.mem_append.mp hx with hx | hx
      · have := h x hx; omega
      · obtain ⟨y, hy, rfl⟩ := List.mem_map.mp hx
        have := h y hy
        rw [List.length_append, List.length_singleton]
        omega) hq
    rw [List.length_cons]
    omega
theorem filt_mapI (f : LnS Str × Nat → Bool) (l : List (LnS Str × Nat)) : ((l.filter f).map fun x => D.int (x.2 : Int)) = (((l.filter f).map (·.2)).map fun (i : Nat) => D.int (i : Int)) := by
  rw [List.map_map]
  rfl
theorem sets_ok (c : Cs) {A : Sg} {ls : List (LnS Str)} {cs : List (Str × Int)} (hl : ls.length ≤ 14) (hcl : cs.length ≤ 7) (hc : Cl A) :
    F_Lsets c [.tup [.lst (ls.map lnD), .lst (cs.map pcD)]] A = some (.lst ((setsS cs).tail.map (rowD ls cs)), A) := by
  have main : W (F_Lsets c [.tup [.lst (ls.map lnD), .lst (cs.map pcD)]] A) fun x Z => x = .lst ((setsS cs).tail.map (rowD ls cs)) ∧ Z = A := by
    unfold F_Lsets B_Lsets
    refine w_body ?_
    walk_at "w"
    refine w_forT (ds := [.lst ((srtC cs).map pcD)]) (srtC cs) pcD (fun pre δ Z => ∃ x2 x3 : Option D, δ = [some (.tup [.lst (ls.map lnD), .lst (cs.map pcD)]), some (.lst ((rwS (pre.map (·.1)) [[]]).map tupS)), x2, x3, none, none, none, none, none, none, none, none] ∧ Z = A ++ []) ?_ (fun _ _ _ _ => rfl) ?_ ?_
    · walk_at "w"
      refine x_sortG rfl (srtOk_pc cs) ?_
      rw [srt_pc]
      walk_at "w"
      exact ⟨rfl, _, _, rfl, rfl⟩
    · rintro pre p post δ Z hx ⟨x2, x3, rfl, rfl⟩
      have hpl : pre.length < cs.length := by rw [← (srtC_perm cs).length_eq, hx, List.length_append, List.length_cons]; omega
      have hrl : (rwS (pre.map (·.1)) [[]]).length ≤ 128 := by
        rw [rwS_len, List.length_map]
        have : 2 ^ pre.length ≤ 2 ^ 7 := Nat.pow_le_pow_right (by decide) (by omega)
        show 1 * 2 ^ pre.length ≤ 128
        omega
      refine w_tupAG (d := pcD p) (ds := [.str p.1, .int p.2]) rfl rfl ?_
      walk_at "w"
      refine w_lcA (S1 := A ++ []) (ds := [.lst ((rwS (pre.map (·.1)) [[]]).map tupS)]) (rwS (pre.map (·.1)) [[]]) tupS (fun q => tupS (q ++ [p.1])) (by walk_at "w"; exact ⟨rfl, rfl⟩) rfl (by omega) (fun q hq => ?_) ?_
      · walk_at "w"
        have hql := rwS_small _ _ 0 q (fun x hx => by rw [List.mem_singleton.mp hx]; exact Nat.le_refl _) hq
        rw [List.length_map] at hql
        refine x_catA (xs := q.map .str) (by rw [List.length_map]; show _ + 1 < _; omega) ⟨?_, rfl⟩
        unfold tupS
        rw [List.map_append]
        rfl
      walk_at "w"
      have e : (rwS ((pre ++ [p]).map (·.1)) [[]]).map tupS = (rwS (pre.map (·.1)) [[]]).map tupS ++ (rwS (pre.map (·.1)) [[]]).map fun q => tupS (q ++ [p.1]) := by
        rw [List.map_append, rwS_app]
        show (rwS (pre.map (·.1)) [[]] ++ (rwS (pre.map (·.1)) [[]]).map fun q => q ++ [p.1]).map tupS = _
        rw [List.map_append, List.map_map]
        rfl
      rw [e]
      exact ⟨_, _, rfl, rfl⟩
    · rintro δ Z ⟨x2, x3, rfl, rfl⟩
      walk_at "w"
      have h128 := setsS_len hcl
      refine w_forT (ds := [.lst ((setsS cs).tail.map tupS)]) (setsS cs).tail tupS (fun pre δ Z => ∃ x2 x3 x5 x6 x7 x8 x9 x10 x11 : Option D, δ = [some (.tup [.lst (ls.map lnD), .lst (cs.map pcD)]), some (.lst ((setsS cs).map tupS)), x2, x3, some (.loc (A.length + 0)), x5, x6, x7, x8, x9, x10, x11] ∧ Z = A ++ [.lst (pre.map (rowD ls cs))]) ?_ (fun _ _ _ _ => rfl) ?_ ?_
      · walk_at "w"
        refine ⟨?_, _, _, _, _, _, _, _, _, _, rfl, rfl⟩
        rw [show (1 : Int) = ((1 : Nat) : Int) from rfl, cut_drop, List.map_tail, List.drop_one]
        rfl
      · rintro pre P post δ Z hx ⟨x2, x3, x5, x6, x7, x8, x9, x10, x11, rfl, rfl⟩
        have hpl : pre.length ≤ 128 := by
          have h1 : (setsS cs).tail.length ≤ 128 := by rw [List.length_tail]; omega
          rw [hx, List.length_append] at h1
          omega
        have hPs : sqOf (A ++ [.lst (pre.map (rowD ls cs))]) (tupS P) = some (P.map .str) := rfl
        refine w_nmG ?_
        walk_at "w"
        refine w_lcF (S1 := A ++ [.lst (pre.map (rowD ls cs))]) (ds := [.lst (cs.map pcD)]) cs pcD (fun x => decide (x.1 ∈ P)) (fun x => .int x.2) (by walk_at "w"; exact ⟨rfl, rfl⟩) rfl (by omega) (fun x hx => ?_) ?_
        · refine w_tupAG (d := pcD x) (ds := [.str x.1, .int x.2]) rfl rfl ?_
          walk_at "w"
          refine x_inS (P := P) rfl (tb ⟨rfl, rfl, fun _ => ?_⟩)
          walk_at "w"
          exact ⟨rfl, rfl⟩
        rw [show ((cs.filter fun x => decide (x.1 ∈ P)).map fun x => D.int x.2) = ((cs.filter fun x => decide (x.1 ∈ P)).map (·.2)).map D.int from by rw [List.map_map]; rfl]
        walk_at "w"
        obtain ⟨v0, ev0⟩ : ∃ v0 : Int, v0 = -((cs.filter fun x => decide (x.1 ∈ P)).map (·.2)).sum := ⟨_, rfl⟩
        rw [← ev0]
        refine w_forT (ds := [.lst (ls.map lnD)]) ls.zipIdx (fun p => .tup [.int (p.2 : Int), lnD p.1]) (fun pr δ Z => ∃ (v : Int) (x2 x3 x8 x9 x10 x11 : Option D), δ = [some (.tup [.lst (ls.map lnD), .lst (cs.map pcD)]), some (.lst ((setsS cs).map tupS)), x2, x3, some (.loc (A.length + 0)), some (tupS P), some (.lst ((pr.filter (acP P)).map fun x => .int (x.2 : Int))), some (.int v), x8, x9, x10, x11] ∧ v = v0 + (pr.map fun x => ptS P x.1).sum ∧ Z = A ++ [.lst (pre.map (rowD ls cs))]) ?_ (fun _ _ _ _ => k_enA ls lnD rfl) ?_ ?_
        · walk_at "w"
          refine ⟨rfl, _, _, _, _, _, _, _, rfl, ?_, rfl⟩
          rw [List.map_nil, List.sum_nil, Int.add_zero]
        · rintro pr l po δ Z hy ⟨v, x2, x3, x8, x9, x10, x11, rfl, ev, rfl⟩
          have e : ((pr ++ [l]).map fun x => ptS P x.1).sum = (pr.map fun x => ptS P x.1).sum + ptS P l.1 := by
            rw [List.map_append, List.sum_append, List.map_singleton, List.sum_singleton]
          have hfl : (pr.filter (acP P)).length ≤ 14 := by
            have h1 := List.length_filter_le (acP P) pr
            have h2 : ls.zipIdx.length ≤ 14 := by rw [List.length_zipIdx]; exact hl
            rw [hy, List.length_append] at h2
            omega
          refine w_tupAG (d := .tup [.int (l.2 : Int), lnD l.1]) (ds := [.int (l.2 : Int), lnD l.1]) rfl rfl (w_consG (w_nmG (w_consG (w_tupAG (d := lnD l.1) (ds := [.str l.1.1, .str l.1.2.1, opD l.1.2.2]) rfl rfl ?_))))
          walk_at "w"
          refine x_inS (P := P) rfl ?_
          walk_at "w"
          refine x_inS (P := P) rfl ?_
          refine x_neB (tb (br_c (fun q => ?_) (fun q => ?_)))
          · have hne : (l.1.1 ∈ P) ≠ (l.1.2.1 ∈ P) := fun h => by
              rw [Bool.not_eq_true'] at q
              exact of_decide_eq_false q (by simp only [h])
            obtain ⟨⟨a, b, m⟩, i⟩ := l
            have hne : (a ∈ P) ≠ (b ∈ P) := hne
            have fadd : ∀ (x : Bool), acP P ((a, b, m), i) = x → (pr ++ [((a, b, m), i)]).filter (acP P) = pr.filter (acP P) ++ (if x = true then [((a, b, m), i)] else []) := fun x hx => by
              rw [List.filter_append]
              cases x <;> simp [List.filter_cons, hx]
            cases m with
            | none =>
              dsimp only [opD]
              walk_at "w"
              refine x_rep (r63P (by decide)) (by show 1 * _ < 1000000; decide) ?_
              rw [show (List.replicate (if true = true then (1 : Int) else 0).toNat [D.int (i : Int)]).flatten = [D.int (i : Int)] from rfl]
              walk_at "w"
              refine x_inS (P := P) rfl (tb (br_d (fun hin => ?_) (fun hin => ?_)))
              · walk_at "w"
                rw [fadd true (by unfold acP; dsimp only; rw [decide_eq_true hne]; rfl), if_pos rfl, List.map_append]
                refine ⟨_, _, _, _, _, _, _, rfl, ?_, rfl⟩
                have h0 : ptS P ((a, b, none), i).fst = 0 := rfl
                rw [e, h0, ev]
                omega
              · walk_at "w"
                rw [fadd true (by unfold acP; dsimp only; rw [decide_eq_true hne]; rfl), if_pos rfl, List.map_append]
                refine ⟨_, _, _, _, _, _, _, rfl, ?_, rfl⟩
                have h0 : ptS P ((a, b, none), i).fst = 0 := rfl
                rw [e, h0, ev]
                omega
            | some m =>
              dsimp only [opD]
              walk_at "w"
              refine x_rep (r63P (by decide)) (by show 1 * _ < 1000000; decide) ?_
              rw [show (List.replicate (if false = true then (1 : Int) else 0).toNat [D.int (i : Int)]).flatten = [] from rfl]
              walk_at "w"
              refine x_inS (P := P) rfl (tb (br_d (fun hin => ?_) (fun hin => ?_)))
              · walk_at "w"
                rw [fadd false rfl, if_neg (by decide), List.map_append]
                refine ⟨_, _, _, _, _, _, _, rfl, ?_, rfl⟩
                have h0 : ptS P ((a, b, some m), i).fst = m * sgS P (a, b, some m) := rfl
                have h1 : sgS P (a, b, some m) = 1 := by
                  have h2 : ¬ a ∈ P := fun h => hne (propext ⟨fun _ => hin, fun _ => h⟩)
                  unfold sgS
                  simp [hin, h2]
                rw [e, h0, h1, ev]
                omega
              · walk_at "w"
                rw [fadd false rfl, if_neg (by decide), List.map_append]
                refine ⟨_, _, _, _, _, _, _, rfl, ?_, rfl⟩
                have h0 : ptS P ((a, b, some m), i).fst = m * sgS P (a, b, some m) := rfl
                have h1 : sgS P (a, b, some m) = -1 := by
                  have h2 : a ∈ P := by
                    by_cases h : a ∈ P
                    · exact h
                    · exact (hne (propext ⟨fun q => (h q).elim, fun q => (hin q).elim⟩)).elim
                  unfold sgS
                  simp [hin, h2]
                rw [e, h0, h1, ev]
                omega
          · have heq : (l.1.1 ∈ P) = (l.1.2.1 ∈ P) := by
              rw [Bool.not_eq_false'] at q
              exact propext (decide_eq_decide.mp (of_decide_eq_true q))
            have hf : (pr ++ [l]).filter (acP P) = pr.filter (acP P) := by
              have h0 : acP P l = false := by
                unfold acP
                rw [decide_eq_false (fun h => h heq), Bool.and_false]
              rw [List.filter_append]
              simp [List.filter_cons, h0]
            have h0 : ptS P l.1 = 0 := by
              unfold ptS
              cases l.1.2.2 with
              | none => rfl
              | some m =>
                show m * sgS P l.1 = 0
                rw [sg_zeroS heq, Int.mul_zero]
            refine w_next (tn_nx ?_)
            rw [hf, e, h0, Int.add_zero]
            exact ⟨v, _, _, _, _, _, _, rfl, ev, rfl⟩
        · rintro δ Z ⟨v, x2, x3, x8, x9, x10, x11, rfl, ev, rfl⟩
          walk_at "w"
          refine ⟨_, _, _, _, _, _, _, _, _, rfl, ?_⟩
          have er : D.tup [tupS P, D.lst ((ls.zipIdx.filter (acP P)).map fun x => D.int (x.2 : Int)), D.int v] = rowD ls cs P := by
            have key : surS ls cs P = (ls.map (ptS P)).sum - ((cs.filter fun x => decide (x.1 ∈ P)).map (·.2)).sum := rfl
            have kz : ls.zipIdx.map (fun x => ptS P x.1) = ls.map (ptS P) := by
              rw [show (fun x : LnS Str × Nat => ptS P x.1) = ptS P ∘ Prod.fst from rfl, ← List.map_map, List.zipIdx_map_fst]
            have ev2 : v = surS ls cs P := by
              rw [ev, ev0, key, kz]
              omega
            unfold rowD
            rw [acS_zip, filt_mapI, ev2]
          rw [er, List.map_append]
          rfl
      · rintro δ Z ⟨x2, x3, x5, x6, x7, x8, x9, x10, x11, rfl, rfl⟩
        walk_at "w"
        have hf : oldL A.length ((setsS cs).tail.map (rowD ls cs)) = true := oldL_map fun P _ => by
          have h1 : oldL A.length (P.map D.str) = true := oldL_map fun _ _ => rfl
          have h2 : oldL A.length ((acS ls P).map fun (i : Nat) => D.int (i : Int)) = true := oldL_map fun _ _ => rfl
          simp [rowD, tupS, old, oldL, h1, h2]
        refine wl_fin rfl (x := .lst ((setsS cs).tail.map (rowD ls cs))) (List.cons_ne_nil _ _) ?_ hc ⟨rfl, rfl⟩
        exact z_loc (by omega) (z_pl (by rw [al_get rfl]; rfl) (frzL_old _ hf))
  obtain ⟨_, _, e, rfl, rfl⟩ := main
  exact e
/-! ### sheets: what follows, by all sets -/
theorem x_eqIs {S : Sg} {xs ys : List Int} {Q : D → Sg → Prop} (q : Q (.bl (decide (xs = ys))) S) : W (eqDO (.lst (xs.map .int)) (.lst (ys.map .int)) S) Q := by
  refine ⟨_, _, ?_, q⟩
  have hp : ∀ ns : List Int, pyT S (.lst (ns.map .int)) = some (.list (ns.map .int)) := fun ns => by
    show (pyL (ns.map .int)).bind _ = _
    rw [pyL_ints]
    rfl
  unfold eqDO deepO
  rw [hp, hp]
  show (if (SeqAt.shaped _ && SeqAt.shaped _) = true then _ else _) = _
  rw [shaped_ints, shaped_ints, if_pos (by rfl)]
  have := PySem.W.Datum.eqv xs ys
  show some (D.bl (PyData.eqv (.list (xs.map .int)) (.list (ys.map .int))), S) = _
  rw [show PyData.eqv (.list (xs.map .int)) (.list (ys.map .int)) = decide (xs = ys) from this]
/-- what a set tells of a line that ends at b -/
noncomputable def tellS (ls : List (LnS Str)) (cs : List (Str × Int)) (b : Str) (P : List Str) : Int := if b ∈ P then 0 - surS ls cs P else surS ls cs P
noncomputable def onesS (ls : List (LnS Str)) (cs : List (Str × Int)) (i : Nat) : List (List Str) := (setsS cs).tail.filter fun P => decide (acS ls P = [i])
theorem ac_ints {ls : List (LnS Str)} {P : List Str} {i : Nat} : ((acS ls P).map (fun (i : Nat) => (i : Int)) = [(i : Int)]) = (acS ls P = [i]) := by
  refine propext ⟨fun h => ?_, fun h => by rw [h]; rfl⟩
  have h2 : (acS ls P).map (fun (i : Nat) => (i : Int)) = [i].map (fun (i : Nat) => (i : Int)) := h
  exact (List.map_inj_right (fun x y e => by omega)).mp h2
open Classical in
theorem ones_tell {ls : List (LnS Str)} {rs : List Int} {cs : List (Str × Int)} {i : Nat} {a b : Str} (R : RealS ls rs cs) (e : ls[i]? = some (a, b, none)) {P : List Str} (h : P ∈ onesS ls cs i) : ∃ r, numS ls rs cs i = some r ∧ tellS ls cs b P = r := by
  obtain ⟨h1, h2⟩ := List.mem_filter.mp h
  have hP := setsS_in (List.mem_of_mem_tail h1)
  have hac := of_decide_eq_true h2
  obtain ⟨a', b', r, e1, e2, e3⟩ := one_acS R hP hac
  rw [e] at e1
  cases e1
  refine ⟨r, ?_, ?_⟩
  · unfold numS
    rw [e]
    show (if AloneS ls cs i then rs[i]? else none) = _
    rw [if_pos ⟨P, hP, hac⟩, e2]
  · unfold tellS
    by_cases hb : b ∈ P
    · rw [if_pos hb] at e3 ⊢
      omega
    · rw [if_neg hb] at e3 ⊢
      exact e3
open Classical in
theorem ones_none {ls : List (LnS Str)} {rs : List Int} {cs : List (Str × Int)} {i : Nat} {a b : Str} (e : ls[i]? = some (a, b, none)) (h : onesS ls cs i = []) : numS ls rs cs i = none := by
  unfold numS
  rw [e]
  show (if AloneS ls cs i then rs[i]? else none) = _
  refine if_neg ?_
  rintro ⟨P, hP, hac⟩
  have hne : P ≠ [] := by
    rintro rfl
    obtain ⟨x, y, _, hxy⟩ := mem_acS.mp (hac ▸ List.mem_singleton.mpr rfl : i ∈ acS ls [])
    exact hxy (propext ⟨fun q => (by cases q), fun q => (by cases q)⟩)
  obtain ⟨Q, hQ, iff⟩ := setsS_all hP hne
  have : Q ∈ onesS ls cs i := List.mem_filter.mpr ⟨hQ, decide_eq_true ((ac_congr iff).symm.trans hac)⟩
  rw [h] at this
  cases this
theorem numS_told {ls : List (LnS Str)} {rs : List Int} {cs : List (Str × Int)} {i : Nat} {a b : Str} {m : Int} (e : ls[i]? = some (a, b, some m)) : numS ls rs cs i = some m := by
  unfold numS
  rw [e]
theorem rep_all {n : Int} : ∀ {l : List Int}, (∀ x ∈ l, x = n) → l = List.replicate l.length n
  | [], _ => rfl
  | x :: l, h => by
    rw [List.length_cons, List.replicate_succ, h x (List.mem_cons_self ..), ← rep_all fun y hy => h y (List.mem_cons_of_mem _ hy)]
theorem flat_one {α : Type} (d : α) : ∀ k : Nat, (List.replicate k [d]).flatten = List.replicate k d
  | 0 => rfl
  | k + 1 => by
    rw [List.replicate_succ, List.flatten_cons, flat_one d k]
    rfl
theorem numbers_ok (c : Cs) {A : Sg} {ls : List (LnS Str)} {rs : List Int} {cs : List (Str × Int)} (R : RealS ls rs cs) (hl : ls.length ≤ 14) (hcl : cs.length ≤ 7) (hc : Cl A) :
    F_Lnumbers c [.tup [.lst (ls.map lnD), .lst (cs.map pcD)]] A = some (.lst ((duesS ls rs cs).map opD), A) := by
  have main : W (F_Lnumbers c [.tup [.lst (ls.map lnD), .lst (cs.map pcD)]] A) fun x Z => x = .lst ((duesS ls rs cs).map opD) ∧ Z = A := by
    have h128 := setsS_len hcl
    have ht : (setsS cs).tail.length ≤ 128 := by rw [List.length_tail]; omega
    unfold F_Lnumbers B_Lnumbers
    refine w_body ?_
    rw [List.append_nil]
    walk_at "w"
    refine w_ex (sets_ok c hl hcl hc) ?_
    walk_at "w"
    refine ⟨A, [], _, (List.append_nil _).symm, rfl, by decide, ?_⟩
    walk_at "w"
    refine w_forT (ds := [.lst (ls.map lnD)]) ls.zipIdx (fun p => .tup [.int (p.2 : Int), lnD p.1]) (fun pr δ Z => ∃ (x3 x4 x5 x6 x7 x8 x9 x10 x11 : Option D), δ = [some (.tup [.lst (ls.map lnD), .lst (cs.map pcD)]), some (.lst ((setsS cs).tail.map (rowD ls cs))), some (.loc (A.length + 0)), x3, x4, x5, x6, x7, x8, x9, x10, x11] ∧ Z = A ++ [.lst (pr.map fun x => opD (numS ls rs cs x.2))]) ?_ (fun _ _ _ _ => k_enA ls lnD rfl) ?_ ?_
    · walk_at "w"
      exact ⟨rfl, _, _, _, _, _, _, _, _, _, rfl, rfl⟩
    · rintro pr ⟨⟨a, b, m⟩, i⟩ po δ Z hy ⟨x3, x4, x5, x6, x7, x8, x9, x10, x11, rfl, rfl⟩
      have hmem : ((a, b, m), i) ∈ ls.zipIdx := by rw [hy]; simp
      have hi : ls[i]? = some (a, b, m) := List.mem_zipIdx_iff_getElem?.mp hmem
      have hpl : pr.length ≤ 14 := by
        have h2 : ls.zipIdx.length ≤ 14 := by rw [List.length_zipIdx]; exact hl
        rw [hy, List.length_append] at h2
        omega
      refine w_tupAG (d := .tup [.int (i : Int), lnD (a, b, m)]) (ds := [.int (i : Int), lnD (a, b, m)]) rfl rfl (w_consG (w_nmG (w_consG (w_tupAG (d := lnD (a, b, m)) (ds := [.str a, .str b, opD m]) rfl rfl ?_))))
      walk_at "w"
      refine w_lcF (S1 := A ++ [.lst (pr.map fun x => opD (numS ls rs cs x.2))]) (ds := [.lst ((setsS cs).tail.map (rowD ls cs))]) (setsS cs).tail (rowD ls cs) (fun P => decide (acS ls P = [i])) (fun P => .tup [tupS P, .int (surS ls cs P)]) (by walk_at "w"; exact ⟨rfl, rfl⟩) rfl (by omega) (fun P hP => ?_) ?_
      · refine w_tupAG (d := rowD ls cs P) (ds := [tupS P, .lst ((acS ls P).map fun (i : Nat) => .int (i : Int)), .int (surS ls cs P)]) rfl rfl ?_
        walk_at "w"
        rw [show ((acS ls P).map fun (i : Nat) => D.int (i : Int)) = ((acS ls P).map fun (i : Nat) => (i : Int)).map D.int from by rw [List.map_map]; rfl]
        refine x_eqIs (ys := [(i : Int)]) (tb ⟨rfl, decide_eq_decide.mpr (by rw [ac_ints]), fun _ => ?_⟩)
        walk_at "w"
        exact ⟨rfl, rfl⟩
      walk_at "w"
      have hol : (onesS ls cs i).length ≤ 128 := Nat.le_trans (List.length_filter_le _ _) ht
      have efold : (setsS cs).tail.filter (fun P => decide (acS ls P = [i])) = onesS ls cs i := rfl
      rw [efold]
      refine w_lcA (S1 := A ++ [.lst (pr.map fun x => opD (numS ls rs cs x.2))]) (ds := [.lst ((onesS ls cs i).map fun P => .tup [tupS P, .int (surS ls cs P)])]) (onesS ls cs i) (fun P => .tup [tupS P, .int (surS ls cs P)]) (fun P => .int (tellS ls cs b P)) (by walk_at "w"; exact ⟨rfl, rfl⟩) rfl (by omega) (fun P hP => ?_) ?_
      · refine w_tupAG (d := .tup [tupS P, .int (surS ls cs P)]) (ds := [tupS P, .int (surS ls cs P)]) rfl rfl ?_
        walk_at "w"
        refine x_inS (P := P) rfl (tb (br_d (fun hin => ?_) (fun hin => ?_)))
        · walk_at "w"
          refine ⟨?_, rfl⟩
          unfold tellS
          rw [if_pos hin]
        · walk_at "w"
          refine ⟨?_, rfl⟩
          unfold tellS
          rw [if_neg hin]
      have emap : ((onesS ls cs i).map fun P => D.int (tellS ls cs b P)) = ((onesS ls cs i).map (tellS ls cs b)).map D.int := by rw [List.map_map]; rfl
      rw [emap]
      walk_at "w"
      cases m with
      | some m =>
        refine x_isNone (tb (br_t rfl ?_))
        walk_at "w"
        refine ⟨_, _, _, _, _, _, _, _, _, rfl, ?_⟩
        rw [List.map_append, List.map_singleton, numS_told hi]
        rfl
      | none =>
        refine x_isNone (tb (br_f rfl ?_))
        walk_at "w"
        refine x_eqE rfl (tb ?_)
        cases hon : onesS ls cs i with
        | nil =>
          refine br_t rfl ?_
          walk_at "w"
          refine ⟨_, _, _, _, _, _, _, _, _, rfl, ?_⟩
          rw [List.map_append, List.map_singleton, ones_none hi hon]
          rfl
        | cons P r =>
          refine br_f rfl ?_
          obtain ⟨v, hv, hP⟩ := ones_tell R hi (hon ▸ List.mem_cons_self .. : P ∈ onesS ls cs i)
          have hall : ∀ x ∈ (P :: r).map (tellS ls cs b), x = v := fun x hx => by
            obtain ⟨Q, hQ, rfl⟩ := List.mem_map.mp hx
            obtain ⟨v', hv', hQ'⟩ := ones_tell R hi (hon ▸ hQ : Q ∈ onesS ls cs i)
            rw [hv] at hv'
            cases hv'
            exact hQ'
          have hol2 : (P :: r).length ≤ 128 := hon ▸ hol
          have h0 : tellS ls cs b P = v := hall _ (by rw [List.map_cons]; exact List.mem_cons_self ..)
          have hrep := rep_all hall
          rw [List.length_map] at hrep
          walk_at "w"
          refine x_rep (r63P ?_) ?_ ?_
          · rw [List.length_map, List.length_map]
            omega
          · rw [List.length_map, List.length_map, Int.toNat_natCast]
            show 1 * _ < 1000000
            omega
          rw [List.length_map, List.length_map, Int.toNat_natCast, flat_one, ← List.map_replicate (f := D.int)]
          refine x_eqIs (tb (br_t (decide_eq_true ?_) ?_))
          · rw [h0]
            exact hrep
          walk_at "w"
          refine ⟨_, _, _, _, _, _, _, _, _, rfl, ?_⟩
          rw [List.map_append, List.map_singleton, hv, ← h0]
          rfl
    · rintro δ Z ⟨x3, x4, x5, x6, x7, x8, x9, x10, x11, rfl, rfl⟩
      walk_at "w"
      have hd : (ls.zipIdx.map fun x => opD (numS ls rs cs x.2)) = (duesS ls rs cs).map opD := by
        unfold duesS
        rw [List.range_eq_range', ← List.zipIdx_map_snd, List.map_map, List.map_map]
        rfl
      rw [hd]
      have hf : oldL A.length ((duesS ls rs cs).map opD) = true := oldL_map fun m _ => by cases m <;> rfl
      refine wl_fin rfl (x := .lst ((duesS ls rs cs).map opD)) (List.cons_ne_nil _ _) ?_ hc ⟨rfl, rfl⟩
      exact z_loc (by omega) (z_pl (by rw [al_get rfl]; rfl) (frzL_old _ hf))
  obtain ⟨_, _, e, rfl, rfl⟩ := main
  exact e
/-! ### sheets: the law -/
theorem x_showBw {S : Sg} {Q : D → Sg → Prop} {d : D} {ws : List Nat} (h : Bw 0 ws d) (hk : ws.length ≤ 40) (hm : bkW ws ≤ 1048576) (hd : PyProof.Rows.isDisplay (pyF d) = true) (q : Q (.str (pyF d).shown) S) : W (showO [d] S) Q :=
  x_show ((h.tw (by decide)).noLoc S) ((h.tw (by decide)).sh.ok (by omega) hm hd) q
theorem disp_tup {ds : List D} {p : PyData} (h : pyD (.tup ds) = some p) : PyProof.Rows.isDisplay p = true := by
  unfold pyD at h
  cases hL : pyL ds with
  | none => rw [hL] at h; cases h
  | some ps => rw [hL] at h; cases h; rfl
theorem disp_lst {ds : List D} {p : PyData} (h : pyD (.lst ds) = some p) : PyProof.Rows.isDisplay p = true := by
  unfold pyD at h
  cases hL : pyL ds with
  | none => rw [hL] at h; cases h
  | some ps => rw [hL] at h; cases h; rfl
theorem same_op (c : Cs) {n : Nat} {S : Sg} (m : Option Int) : F_Lsame c (n + 1) [opD m, opD m] S = some (.bl true, S) := by
  have main : W (F_Lsame c (n + 1) [opD m, opD m] S) fun x Z => x = .bl true ∧ Z = S := by
    unfold F_Lsame
    refine w_body ?_
    cases m with
    | none =>
      dsimp only [opD]
      walk_at "w"
      refine w_andV ?_
      walk_at "w"
      refine ⟨.bl true, _, rfl, ?_⟩
      walk_at "w"
      exact wl_fin0 rfl ⟨rfl, rfl⟩
    | some m =>
      dsimp only [opD]
      walk_at "w"
      refine w_andV ?_
      walk_at "w"
      refine w_andV ?_
      walk_at "w"
      rw [decide_eq_true rfl]
      exact wl_fin0 rfl ⟨rfl, rfl⟩
  obtain ⟨_, _, e, rfl, rfl⟩ := main
  exact e
theorem k_zpLoc {α β : Type} {xs : List α} {ys : List β} {e : α → D} {e' : β → D} {A : Sg} {N k : Nat} {L : List Ob} (hl : A.length = N) (h : L[k]? = some (.lst (xs.map e))) (hxy : xs.length = ys.length) : zpK2 [.loc (N + k), .lst (ys.map e')] (A ++ L) = some ((xs.zip ys).map fun p => .tup [e p.1, e' p.2]) := by
  have h1 := k_zpl xs ys e e' hxy (A ++ L)
  unfold zpK2 at h1 ⊢
  dsimp only at h1 ⊢
  rw [wl_ls hl h]
  exact h1
theorem sameL_ok (c : Cs) {n : Nat} {A : Sg} {L : List Ob} {N k : Nat} {ms : List (Option Int)} (hl : A.length = N) (h : L[k]? = some (.lst (ms.map opD))) (h2 : ms.length ≤ 14) : F_Lsame c (n + 2) [.loc (N + k), .lst (ms.map opD)] (A ++ L) = some (.bl true, A ++ L) := by
  have main : W (F_Lsame c (n + 2) [.loc (N + k), .lst (ms.map opD)] (A ++ L)) fun x Z => x = .bl true ∧ Z = A ++ L := by
    have ht : tyN (A ++ L) (.loc (N + k)) = some "list" := by
      rw [tyv_loc, al_get hl, h]
      rfl
    unfold F_Lsame
    refine w_body ?_
    rw [List.append_nil]
    walk_at "w"
    refine x_isi ht zz_ll ?_
    walk_at "w"
    refine x_isi ht zz_lt ?_
    walk_at "w"
    refine w_andV ?_
    walk_at "w"
    refine w_lcA (S1 := A ++ L) (ds := [.loc (N + k), .lst (ms.map opD)]) (ms.zip ms) (fun p => .tup [opD p.1, opD p.2]) (fun _ => .bl true) (by walk_at "w"; exact ⟨rfl, rfl⟩) (k_zpLoc hl h rfl) (by rw [List.length_zip]; omega) (fun p hp => ?_) ?_
    · obtain ⟨i, hi, e⟩ := List.mem_iff_getElem.mp hp
      have e2 : p.1 = p.2 := by
        rw [← e, List.getElem_zip]
      rw [e2]
      refine w_tupAG (d := .tup [opD p.2, opD p.2]) (ds := [opD p.2, opD p.2]) rfl rfl ?_
      walk_at "w"
      exact w_ex (same_op c _) ⟨rfl, rfl⟩
    rw [show ((ms.zip ms).map fun _ => D.bl true) = ((ms.zip ms).map fun _ => true).map D.bl from by rw [List.map_map]; rfl]
    walk_at "w"
    have ha : ((ms.zip ms).map fun _ => true).all id = true := by simp
    rw [ha]
    exact w_finS ⟨rfl, rfl⟩
  obtain ⟨_, _, e, rfl, rfl⟩ := main
  exact e
theorem numS_real {ls : List (LnS Str)} {rs : List Int} {cs : List (Str × Int)} (R : RealS ls rs cs) {i : Nat} {v : Int} (h : numS ls rs cs i = some v) : rs[i]? = some v := by
  unfold numS at h
  split at h
  · rename_i m hl
    cases h
    exact R.told i _ _ hl rfl
  · split at h
    · exact h
    · cases h
  · cases h
theorem ln_at {zs : List Str} {r2 : List RlS} {ls : List (LnS Str)} {cs : List (Str × Int)} (C : CaseS zs r2 ls cs) {l : LnS Str} (h : l ∈ ls) : At 0 (.str l.1) ∧ At 0 (.str l.2.1) ∧ At 0 (opD l.2.2) := by
  obtain ⟨i, hi, e⟩ := List.mem_iff_getElem.mp h
  have hlt : i < r2.length := by rw [← C.h.len]; exact hi
  have e1 : ls[i]? = some l := by rw [List.getElem?_eq_getElem hi, e]
  have ok := C.ok _ (List.getElem_mem hlt)
  have h2 := C.h.at_ i _ (List.getElem?_eq_getElem hlt)
  rw [e1] at h2
  have hb : At 0 (.int r2[i].2.2) := ⟨by have := ok.r0; omega, by have := ok.r1; omega⟩
  rcases h2 with h2 | h2
  · cases h2
    exact ⟨(C.z _ ok.a).at0, (C.z _ ok.b).at0, trivial⟩
  · cases h2
    exact ⟨(C.z _ ok.a).at0, (C.z _ ok.b).at0, hb⟩
theorem pc_at {zs : List Str} {r2 : List RlS} {ls : List (LnS Str)} {cs : List (Str × Int)} (C : CaseS zs r2 ls cs) {x : Str × Int} (h : x ∈ cs) : At 0 (.str x.1) ∧ At 0 (.int x.2) :=
  ⟨(C.z _ (C.cin x h)).at0, by have := C.lo x h; omega, by have := C.hi x h; omega⟩
def lnL (l : LnS Str) : D := .lst [.str l.1, .str l.2.1, opD l.2.2]
def pcL (x : Str × Int) : D := .lst [.str x.1, .int x.2]
theorem sheet_bw {zs : List Str} {r2 : List RlS} {ls : List (LnS Str)} {cs : List (Str × Int)} (C : CaseS zs r2 ls cs) : Bw 0 [2, 14, 3] (.tup [.lst (ls.map lnD), .lst (cs.map pcD)]) := by
  have hc := C.c7
  refine .tup (by show 2 ≤ 2; decide) fun d hd => ?_
  simp only [List.mem_cons, List.not_mem_nil, or_false] at hd
  rcases hd with rfl | rfl
  · refine .lst (by rw [List.length_map]; exact C.ll) fun d hd => ?_
    obtain ⟨l, hl, rfl⟩ := List.mem_map.mp hd
    obtain ⟨h1, h2, h3⟩ := ln_at C hl
    refine .tup (by show 3 ≤ 3; decide) fun d hd => ?_
    simp only [List.mem_cons, List.not_mem_nil, or_false] at hd
    rcases hd with rfl | rfl | rfl
    · exact .atom h1
    · exact .atom h2
    · exact .atom h3
  · refine .lst (by rw [List.length_map]; omega) fun d hd => ?_
    obtain ⟨l, hl, rfl⟩ := List.mem_map.mp hd
    obtain ⟨h1, h2⟩ := pc_at C hl
    refine .tup (by show 2 ≤ 3; decide) fun d hd => ?_
    simp only [List.mem_cons, List.not_mem_nil, or_false] at hd
    rcases hd with rfl | rfl
    · exact .atom h1
    · exact .atom h2
theorem handed_bw {zs : List Str} {r2 : List RlS} {ls : List (LnS Str)} {cs : List (Str × Int)} (C : CaseS zs r2 ls cs) : Bw 0 [2, 14, 3] (.lst [.lst (ls.map lnL), .lst (cs.map pcL)]) := by
  have hc := C.c7
  refine .lst (by show 2 ≤ 2; decide) fun d hd => ?_
  simp only [List.mem_cons, List.not_mem_nil, or_false] at hd
  rcases hd with rfl | rfl
  · refine .lst (by rw [List.length_map]; exact C.ll) fun d hd => ?_
    obtain ⟨l, hl, rfl⟩ := List.mem_map.mp hd
    obtain ⟨h1, h2, h3⟩ := ln_at C hl
    refine .lst (by show 3 ≤ 3; decide) fun d hd => ?_
    simp only [List.mem_cons, List.not_mem_nil, or_false] at hd
    rcases hd with rfl | rfl | rfl
    · exact .atom h1
    · exact .atom h2
    · exact .atom h3
  · refine .lst (by rw [List.length_map]; omega) fun d hd => ?_
    obtain ⟨l, hl, rfl⟩ := List.mem_map.mp hd
    obtain ⟨h1, h2⟩ := pc_at C hl
    refine .lst (by show 2 ≤ 3; decide) fun d hd => ?_
    simp only [List.mem_cons, List.not_mem_nil, or_false] at hd
    rcases hd with rfl | rfl
    · exact .atom h1
    · exact .atom h2
theorem shp1 (ls : List (LnS Str)) (cs : List (Str × Int)) : ShpS (.tup [.lst (ls.map lnD), .lst (cs.map pcD)]) ls cs := ⟨_, _, lnD, pcD, .tup, .lst, .lst, fun _ => .tup, fun _ => .tup⟩
theorem shp2 (ls : List (LnS Str)) (cs : List (Str × Int)) : ShpS (.tup [.tup (ls.map lnD), .tup (cs.map pcD)]) ls cs := ⟨_, _, lnD, pcD, .tup, .tup, .tup, fun _ => .tup, fun _ => .tup⟩
theorem shp3 (ls : List (LnS Str)) (cs : List (Str × Int)) : ShpS (.lst [.lst (ls.map lnL), .lst (cs.map pcL)]) ls cs := ⟨_, _, lnL, pcL, .lst, .lst, .lst, fun _ => .lst, fun _ => .lst⟩
theorem shp4 (ls : List (LnS Str)) (cs : List (Str × Int)) : ShpS (.lst [.lst (ls.map lnD), .lst (cs.map pcD)]) ls cs := ⟨_, _, lnD, pcD, .lst, .lst, .lst, fun _ => .tup, fun _ => .tup⟩
theorem fin_top2 {S : Sg} {Q : D → Sg → Prop} (q : ∀ S', Q (.bl true) S') : W (fin 0 (.bl true) S) Q := by
  by_cases hz : S.length = 0
  · exact ⟨_, _, fin_eq _ _ hz, q _⟩
  · exact ⟨_, _, z_fin hz (frzG_old _ rfl) (by rw [List.take_zero]; rfl), q _⟩
theorem law_true (c : Cs) (ns : List Int) (h : ns.length ≤ 63) : ∃ S, F_law c [.rol (ns.map .int)] [] = some (.bl true, S) := by
  have main : W (F_law c [.rol (ns.map .int)] []) fun d _ => d = .bl true := by
    unfold F_law B_law
    refine w_body ?_
    walk_at "w"
    refine w_forN (max 2 (min ns.length 3)) (fun _ δ Z => Cl Z ∧ ∃ (x1 x2 x3 x4 x5 x6 x7 x8 x9 x10 x11 x12 : Option D), δ = [some (.rol (ns.map .int)), x1, x2, x3, x4, x5, x6, x7, x8, x9, x10, x11, x12, none, none]) (by omega) ?_ ?_ ?_
    · walk_at "w"
      refine ⟨?_, rfl, _, _, _, _, _, _, _, _, _, _, _, _, rfl⟩
      rw [List.length_map]
      congr 2
      split <;> split <;> omega
    · rintro i δ Z hi ⟨hc, x1, x2, x3, x4, x5, x6, x7, x8, x9, x10, x11, x12, rfl⟩
      obtain ⟨a, b, et, T⟩ := tape_ok c (S := Z) (ns := ns) (k := (i : Int)) (by omega) (by omega)
      have c0 : Cl (Z ++ [TapeD a b 0]) := hc.push rfl
      have T0 : Tp (Z ++ [TapeD a b 0]) Z.length b 0 := ⟨a, 0, get_end, T⟩
      walk_at "w"
      refine w_ex et ?_
      walk_at "w"
      obtain ⟨S, eS⟩ : ∃ S, S = Z ++ [TapeD a b 0] := ⟨_, rfl⟩
      obtain ⟨t, et'⟩ : ∃ t, t = Z.length := ⟨_, rfl⟩
      rw [← eS] at c0 T0 ⊢
      rw [← et'] at T0 ⊢
      clear et T eS et'
      refine w_forN 4 (fun j δ Z => Cl Z ∧ Tp Z t b (200 * (j : Int)) ∧ ∃ (x3 x4 x5 x6 x7 x8 x9 x10 x11 x12 : Option D), δ = [some (.rol (ns.map .int)), some (.int (i : Int)), some (.loc t), x3, x4, x5, x6, x7, x8, x9, x10, x11, x12, none, none]) (by decide) ?_ ?_ ?_
      · walk_at "w"
        exact ⟨rfl, c0, T0, _, _, _, _, _, _, _, _, _, _, rfl⟩
      · rintro j δ Z hj ⟨hc, T, x3, x4, x5, x6, x7, x8, x9, x10, x11, x12, rfl⟩
        walk_at "w"
        obtain ⟨_, A, e, zs, r2, ls, cs, rfl, C, hs⟩ := case_ok c T.sa (by omega) (by omega) hc
        have cA := hs.cl hc
        have T1 := hs.tp
        clear hs
        refine w_ex e ?_
        clear e
        refine w_tupAG (d := .tup [.lst (r2.map triD), .lst (ls.map lnD), .lst (cs.map pcD)]) (ds := [.lst (r2.map triD), .lst (ls.map lnD), .lst (cs.map pcD)]) rfl rfl ?_
        walk_at "w"
        refine w_ex (numbers_ok c C.R C.ll C.c7 cA) ?_
        walk_at "w"
        obtain ⟨rs, ers⟩ : ∃ rs, rs = r2.map (·.2.2) := ⟨_, rfl⟩
        have R := C.R
        rw [← ers] at R ⊢
        have hdl : (duesS ls rs cs).length = ls.length := by unfold duesS; rw [List.length_map, List.length_range]
        have hr2 := C.h.len
        have hll := C.ll
        have hc7 := C.c7
        have bw := sheet_bw C
        have bh := handed_bw C
        have dw := disp_tup (bw.tw (by decide)).py
        have dh := disp_lst (bh.tw (by decide)).py
        refine x_showBw bw (by decide) (by decide) dw ?_
        walk_at "w"
        refine w_lcA (S1 := A) (ds := [.lst ((duesS ls rs cs).map opD), .lst (r2.map triD)]) ((duesS ls rs cs).zip r2) (fun p => .tup [opD p.1, triD p.2]) (fun _ => .bl true) (by walk_at "w"; exact ⟨rfl, rfl⟩) (k_zpl _ _ opD triD (by omega) A) (by rw [List.length_zip]; omega) (fun p hp => ?_) ?_
        · refine w_tupAG (d := .tup [opD p.1, triD p.2]) (ds := [opD p.1, triD p.2]) rfl rfl ?_
          walk_at "w"
          refine w_orV ?_
          walk_at "w"
          refine x_isNone (tb ?_)
          obtain ⟨i, hi, e⟩ := List.mem_iff_getElem.mp hp
          rw [List.getElem_zip] at e
          have hi2 : i < r2.length := by rw [List.length_zip] at hi; omega
          cases hm : p.1 with
          | none =>
            refine br_t rfl ?_
            exact ⟨rfl, rfl⟩
          | some v =>
            refine br_f rfl ?_
            have e1 : (duesS ls rs cs)[i]'(by omega) = p.1 := congrArg Prod.fst e
            have e2 : r2[i] = p.2 := congrArg Prod.snd e
            have e3 : numS ls rs cs i = some v := by
              rw [← hm, ← e1]
              unfold duesS
              rw [List.getElem_map, List.getElem_range]
            have e4 := numS_real R e3
            rw [ers, List.getElem?_map, List.getElem?_eq_getElem hi2, e2] at e4
            have e5 : p.2.2.2 = v := Option.some.inj e4
            have e6 : triD p.2 = .tup [.str p.2.1, .str p.2.2.1, .int v] := by rw [← e5]; rfl
            rw [e6]
            dsimp only [opD]
            walk_at "w"
            rw [decide_eq_true rfl]
            exact ⟨rfl, rfl⟩
        rw [show (((duesS ls rs cs).zip r2).map fun _ => D.bl true) = (((duesS ls rs cs).zip r2).map fun _ => true).map D.bl from by rw [List.map_map]; rfl]
        walk_at "w"
        rw [show (((duesS ls rs cs).zip r2).map fun _ => true).all id = true from by simp]
        walk_at "w"
        have old1 : ∀ N : Nat, oldL N ((duesS ls rs cs).map opD) = true := fun N => oldL_map fun m _ => by cases m <;> rfl
        have old2 : ∀ N : Nat, oldL N (((duesS ls rs cs).map opD ++ [D.int 7]).reverse) = true := fun N => oldL_of fun d hd => by
          rw [List.mem_reverse, List.mem_append] at hd
          rcases hd with hd | hd
          · obtain ⟨m, _, rfl⟩ := List.mem_map.mp hd
            cases m <;> rfl
          · rw [List.mem_singleton.mp hd]
            rfl
        refine w_ex (follows_ok c (shp1 ls cs) R C.o (by omega) (by omega) cA) ?_
        rw [show D.loc A.length = D.loc (A.length + 0) from rfl]
        walk_at "w"
        refine w_ex (sameL_ok c (N := A.length) (k := 0) rfl rfl (by omega)) ?_
        walk_at "w"
        refine wl_rev (k := 0) rfl rfl ?_
        rw [List.set_cons_zero, List.set_cons_zero]
        obtain ⟨B, eB⟩ : ∃ B, B = A ++ [Ob.lst ((duesS ls rs cs).map opD ++ [D.int 7]).reverse] := ⟨_, rfl⟩
        have cB : Cl B := eB ▸ cA.push (old2 _)
        have TB : Tp B t b (200 * (j : Int) + 200) := eB ▸ T1.app
        rw [← eB]
        clear cA T1 eB
        walk_at "w"
        refine w_fnK ?_
        walk_at "w"
        refine w_ex (follows_ok c (shp2 ls cs) R C.o (by omega) (by omega) cB) ?_
        walk_at "w"
        refine w_ex (sameL_ok c (N := B.length) (k := 0) rfl rfl (by omega)) ?_
        obtain ⟨B2, eB⟩ : ∃ B2, B2 = B ++ [Ob.lst ((duesS ls rs cs).map opD)] := ⟨_, rfl⟩
        have cB2 : Cl B2 := eB ▸ cB.push (old1 _)
        have TB2 : Tp B2 t b (200 * (j : Int) + 200) := eB ▸ TB.app
        rw [← eB]
        clear cB TB eB
        walk_at "w"
        refine x_showBw bw (by decide) (by decide) dw ?_
        walk_at "w"
        refine x_neS' ?_
        rw [decide_eq_true rfl]
        walk_at "w"
        refine w_lcA (S1 := B2) (ds := [.lst (ls.map lnD)]) ls lnD lnL (by walk_at "w"; exact ⟨rfl, rfl⟩) rfl (by omega) (fun l hl => ?_) ?_
        · walk_at "w"
          exact x_listSq (xs := [.str l.1, .str l.2.1, opD l.2.2]) rfl ⟨rfl, rfl⟩
        walk_at "w"
        refine w_lcA (S1 := B2) (ds := [.lst (cs.map pcD)]) cs pcD pcL (by walk_at "w"; exact ⟨rfl, rfl⟩) rfl (by omega) (fun l hl => ?_) ?_
        · walk_at "w"
          exact x_listSq (xs := [.str l.1, .int l.2]) rfl ⟨rfl, rfl⟩
        walk_at "w"
        refine x_showBw bh (by decide) (by decide) dh ?_
        walk_at "w"
        refine w_ex (follows_ok c (shp3 ls cs) R C.o (by omega) (by omega) cB2) ?_
        walk_at "w"
        refine w_ex (sameL_ok c (N := B2.length) (k := 0) rfl rfl (by omega)) ?_
        obtain ⟨B3, eB⟩ : ∃ B3, B3 = B2 ++ [Ob.lst ((duesS ls rs cs).map opD)] := ⟨_, rfl⟩
        have cB3 : Cl B3 := eB ▸ cB2.push (old1 _)
        have TB3 : Tp B3 t b (200 * (j : Int) + 200) := eB ▸ TB2.app
        rw [← eB]
        clear cB2 TB2 eB
        walk_at "w"
        refine x_showBw bh (by decide) (by decide) dh ?_
        walk_at "w"
        refine x_neS' ?_
        rw [decide_eq_true rfl]
        walk_at "w"
        refine w_ex (follows_ok c (shp4 ls cs) R C.o (by omega) (by omega) cB3) ?_
        walk_at "w"
        refine w_ex (sameL_ok c (N := B3.length) (k := 0) rfl rfl (by omega)) ?_
        walk_at "w"
        refine ⟨cB3.push (old1 _), ?_, _, _, _, _, _, _, _, _, _, _, rfl⟩
        have TB4 : Tp (B3 ++ [Ob.lst ((duesS ls rs cs).map opD)]) t b (200 * (j : Int) + 200) := TB3.app
        rw [show (200 * ((j + 1 : Nat) : Int)) = 200 * (j : Int) + 200 from by omega]
        exact TB4
      · rintro δ Z ⟨hc, T, x3, x4, x5, x6, x7, x8, x9, x10, x11, x12, rfl⟩
        exact tn_nx ⟨hc, _, _, _, _, _, _, _, _, _, _, _, _, rfl⟩
    · rintro δ Z ⟨hc, x1, x2, x3, x4, x5, x6, x7, x8, x9, x10, x11, x12, rfl⟩
      walk_at "w"
      exact fin_top2 fun _ => rfl
  obtain ⟨d, S, e, rfl⟩ := main
  exact ⟨S, e⟩
end HP
namespace HP
open PySem L2 DL
def spLaw (K : PySem.W.Frag) : Sp := fun vs H Q _ => ∃ (a : Addr) (ns : List Int), vs = [.ref a] ∧ SqL K H a (ns.map V.int) ∧ ns.length ≤ 63 ∧ ∀ H', Q (.bl true) H'
theorem sp_law {K : PySem.W.Frag} {vs : List V} {H : Hp} {Q : VK} {E : XK} (c : Cs) (h : spLaw K vs H Q E) : spD K 1 (F_law c) vs H Q E := by
  obtain ⟨a, ns, rfl, hS, hl, q⟩ := h
  obtain ⟨S', e⟩ := law_true c ns hl
  refine ⟨⟨[], []⟩, [], _, _, S', rfl, SR.nil, .cons (.rol ?_ (ints_rvs ns)) .nil, e, fun v H' ρ' _ _ r => ?_⟩
  · rcases hS with h | h
    · exact .inl ⟨h, by simp, by simp⟩
    · exact .inr h
  · cases r
    exact q H'
end HP
namespace HP
open PySem L2 DL
theorem all_mk {l : PySem.W.OpenLaw} {w : World} {K : PySem.W.Frag} {h : Heap} {mg : Str → Option Value} {fa : Addr} {f_Ltape : Addr} {oc_Ltape kV_Ltape dc_Ltape pm_Ltape cd_Ltape ct_Ltape : Value} {od_Ltape an_Ltape : Option Addr} {sl_Ltape : Array (Option Value)} {f_Ldraw : Addr} {oc_Ldraw kV_Ldraw dc_Ldraw pm_Ldraw cd_Ldraw ct_Ldraw : Value} {od_Ldraw an_Ldraw : Option Addr} {sl_Ldraw : Array (Option Value)} {f_Lnames : Addr} {oc_Lnames kV_Lnames dc_Lnames pm_Lnames cd_Lnames ct_Lnames : Value} {od_Lnames an_Lnames : Option Addr} {sl_Lnames : Array (Option Value)} {f_Llines : Addr} {oc_Llines kV_Llines dc_Llines pm_Llines cd_Llines ct_Llines : Value} {od_Llines an_Llines : Option Addr} {sl_Llines : Array (Option Value)} {f_Lhidden : Addr} {oc_Lhidden kV_Lhidden dc_Lhidden pm_Lhidden cd_Lhidden ct_Lhidden : Value} {od_Lhidden an_Lhidden : Option Addr} {sl_Lhidden : Array (Option Value)} {f_Lmore : Addr} {oc_Lmore kV_Lmore dc_Lmore pm_Lmore cd_Lmore ct_Lmore : Value} {od_Lmore an_Lmore : Option Addr} {sl_Lmore : Array (Option Value)} {f_Lcounted : Addr} {oc_Lcounted kV_Lcounted dc_Lcounted pm_Lcounted cd_Lcounted ct_Lcounted : Value} {od_Lcounted an_Lcounted : Option Addr} {sl_Lcounted : Array (Option Value)} {f_Lcase : Addr} {oc_Lcase kV_Lcase dc_Lcase pm_Lcase cd_Lcase ct_Lcase : Value} {od_Lcase an_Lcase : Option Addr} {sl_Lcase : Array (Option Value)} {f_surplus : Addr} {oc_surplus kV_surplus dc_surplus pm_surplus cd_surplus ct_surplus : Value} {od_surplus an_surplus : Option Addr} {sl_surplus : Array (Option Value)} {f_ends_of : Addr} {oc_ends_of kV_ends_of dc_ends_of pm_ends_of cd_ends_of ct_ends_of : Value} {od_ends_of an_ends_of : Option Addr} {sl_ends_of : Array (Option Value)} {f_untold : Addr} {oc_untold kV_untold dc_untold pm_untold cd_untold ct_untold : Value} {od_untold an_untold : Option Addr} {sl_untold : Array (Option Value)} {f_lack_of : Addr} {oc_lack_of kV_lack_of dc_lack_of pm_lack_of cd_lack_of ct_lack_of : Value} {od_lack_of an_lack_of : Option Addr} {sl_lack_of : Array (Option Value)} {f_side_of : Addr} {oc_side_of kV_side_of dc_side_of pm_side_of cd_side_of ct_side_of : Value} {od_side_of an_side_of : Option Addr} {sl_side_of : Array (Option Value)} {f_number_of : Addr} {oc_number_of kV_number_of dc_number_of pm_number_of cd_number_of ct_number_of : Value} {od_number_of an_number_of : Option Addr} {sl_number_of : Array (Option Value)} {f_follows : Addr} {oc_follows kV_follows dc_follows pm_follows cd_follows ct_follows : Value} {od_follows an_follows : Option Addr} {sl_follows : Array (Option Value)} {f_Lsets : Addr} {oc_Lsets kV_Lsets dc_Lsets pm_Lsets cd_Lsets ct_Lsets : Value} {od_Lsets an_Lsets : Option Addr} {sl_Lsets : Array (Option Value)} {f_Lnumbers : Addr} {oc_Lnumbers kV_Lnumbers dc_Lnumbers pm_Lnumbers cd_Lnumbers ct_Lnumbers : Value} {od_Lnumbers an_Lnumbers : Option Addr} {sl_Lnumbers : Array (Option Value)} {f_Lsame : Addr} {oc_Lsame kV_Lsame dc_Lsame pm_Lsame cd_Lsame ct_Lsame : Value} {od_Lsame an_Lsame : Option Addr} {sl_Lsame : Array (Option Value)} {f_law : Addr} {oc_law kV_law dc_law pm_law cd_law ct_law : Value} {od_law an_law : Option Addr} {sl_law : Array (Option Value)} {f_ways_from T_ways_from : Addr} {oc_ways_from kV_ways_from dc_ways_from pm_ways_from cd_ways_from ct_ways_from ot_ways_from : Value} {od_ways_from an_ways_from dt_ways_from : Option Addr} {sl_ways_from st_ways_from : Array (Option Value)} {n_ways_from : Nat} {t_OUTSIDE : Tok} (X : K.In h) (G : h.Ns mainGlobals mg) (hfa : mg "law" = some (.ref fa))
    (a_Ltape : PySem.W.nsIn K mainGlobals "_law_tape" = some (some (.ref f_Ltape)))
    (l_Ltape : K.lookup f_Ltape = some ⟨oc_Ltape, od_Ltape, .func (PySem.W.fnOf "_law_tape" "_law_tape" (defArgs s_Ltape) (defBody s_Ltape) (defScope s_Ltape) .none kV_Ltape dc_Ltape pm_Ltape an_Ltape cd_Ltape ct_Ltape), sl_Ltape⟩)
    (c_Ltape : PySem.W.codeIn K cd_Ltape "_law_tape" = true)
    (k_Ltape : PySem.W.keepIn K (.ref f_Ltape) = true)
    (a_Ldraw : PySem.W.nsIn K mainGlobals "_law_draw" = some (some (.ref f_Ldraw)))
    (l_Ldraw : K.lookup f_Ldraw = some ⟨oc_Ldraw, od_Ldraw, .func (PySem.W.fnOf "_law_draw" "_law_draw" (defArgs s_Ldraw) (defBody s_Ldraw) (defScope s_Ldraw) .none kV_Ldraw dc_Ldraw pm_Ldraw an_Ldraw cd_Ldraw ct_Ldraw), sl_Ldraw⟩)
    (c_Ldraw : PySem.W.codeIn K cd_Ldraw "_law_draw" = true)
    (k_Ldraw : PySem.W.keepIn K (.ref f_Ldraw) = true)
    (a_Lnames : PySem.W.nsIn K mainGlobals "_law_names" = some (some (.ref f_Lnames)))
    (l_Lnames : K.lookup f_Lnames = some ⟨oc_Lnames, od_Lnames, .func (PySem.W.fnOf "_law_names" "_law_names" (defArgs s_Lnames) (defBody s_Lnames) (defScope s_Lnames) .none kV_Lnames dc_Lnames pm_Lnames an_Lnames cd_Lnames ct_Lnames), sl_Lnames⟩)
    (c_Lnames : PySem.W.codeIn K cd_Lnames "_law_names" = true)
    (k_Lnames : PySem.W.keepIn K (.ref f_Lnames) = true)
    (a_Llines : PySem.W.nsIn K mainGlobals "_law_lines" = some (some (.ref f_Llines)))
    (l_Llines : K.lookup f_Llines = some ⟨oc_Llines, od_Llines, .func (PySem.W.fnOf "_law_lines" "_law_lines" (defArgs s_Llines) (defBody s_Llines) (defScope s_Llines) .none kV_Llines dc_Llines pm_Llines an_Llines cd_Llines ct_Llines), sl_Llines⟩)
    (c_Llines : PySem.W.codeIn K cd_Llines "_law_lines" = true)
    (k_Llines : PySem.W.keepIn K (.ref f_Llines) = true)
    (a_Lhidden : PySem.W.nsIn K mainGlobals "_law_hidden" = some (some (.ref f_Lhidden)))
    (l_Lhidden : K.lookup f_Lhidden = some ⟨oc_Lhidden, od_Lhidden, .func (PySem.W.fnOf "_law_hidden" "_law_hidden" (defArgs s_Lhidden) (defBody s_Lhidden) (defScope s_Lhidden) .none kV_Lhidden dc_Lhidden pm_Lhidden an_Lhidden cd_Lhidden ct_Lhidden), sl_Lhidden⟩)
    (c_Lhidden : PySem.W.codeIn K cd_Lhidden "_law_hidden" = true)
    (k_Lhidden : PySem.W.keepIn K (.ref f_Lhidden) = true)
    (a_Lmore : PySem.W.nsIn K mainGlobals "_law_more" = some (some (.ref f_Lmore)))
    (l_Lmore : K.lookup f_Lmore = some ⟨oc_Lmore, od_Lmore, .func (PySem.W.fnOf "_law_more" "_law_more" (defArgs s_Lmore) (defBody s_Lmore) (defScope s_Lmore) .none kV_Lmore dc_Lmore pm_Lmore an_Lmore cd_Lmore ct_Lmore), sl_Lmore⟩)
    (c_Lmore : PySem.W.codeIn K cd_Lmore "_law_more" = true)
    (k_Lmore : PySem.W.keepIn K (.ref f_Lmore) = true)
    (a_Lcounted : PySem.W.nsIn K mainGlobals "_law_counted" = some (some (.ref f_Lcounted)))
    (l_Lcounted : K.lookup f_Lcounted = some ⟨oc_Lcounted, od_Lcounted, .func (PySem.W.fnOf "_law_counted" "_law_counted" (defArgs s_Lcounted) (defBody s_Lcounted) (defScope s_Lcounted) .none kV_Lcounted dc_Lcounted pm_Lcounted an_Lcounted cd_Lcounted ct_Lcounted), sl_Lcounted⟩)
    (c_Lcounted : PySem.W.codeIn K cd_Lcounted "_law_counted" = true)
    (k_Lcounted : PySem.W.keepIn K (.ref f_Lcounted) = true)
    (a_Lcase : PySem.W.nsIn K mainGlobals "_law_case" = some (some (.ref f_Lcase)))
    (l_Lcase : K.lookup f_Lcase = some ⟨oc_Lcase, od_Lcase, .func (PySem.W.fnOf "_law_case" "_law_case" (defArgs s_Lcase) (defBody s_Lcase) (defScope s_Lcase) .none kV_Lcase dc_Lcase pm_Lcase an_Lcase cd_Lcase ct_Lcase), sl_Lcase⟩)
    (c_Lcase : PySem.W.codeIn K cd_Lcase "_law_case" = true)
    (k_Lcase : PySem.W.keepIn K (.ref f_Lcase) = true)
    (a_surplus : PySem.W.nsIn K mainGlobals "surplus" = some (some (.ref f_surplus)))
    (l_surplus : K.lookup f_surplus = some ⟨oc_surplus, od_surplus, .func (PySem.W.fnOf "surplus" "surplus" (defArgs s_surplus) (defBody s_surplus) (defScope s_surplus) .none kV_surplus dc_surplus pm_surplus an_surplus cd_surplus ct_surplus), sl_surplus⟩)
    (c_surplus : PySem.W.codeIn K cd_surplus "surplus" = true)
    (k_surplus : PySem.W.keepIn K (.ref f_surplus) = true)
    (a_ends_of : PySem.W.nsIn K mainGlobals "ends_of" = some (some (.ref f_ends_of)))
    (l_ends_of : K.lookup f_ends_of = some ⟨oc_ends_of, od_ends_of, .func (PySem.W.fnOf "ends_of" "ends_of" (defArgs s_ends_of) (defBody s_ends_of) (defScope s_ends_of) .none kV_ends_of dc_ends_of pm_ends_of an_ends_of cd_ends_of ct_ends_of), sl_ends_of⟩)
    (c_ends_of : PySem.W.codeIn K cd_ends_of "ends_of" = true)
    (k_ends_of : PySem.W.keepIn K (.ref f_ends_of) = true)
    (a_untold : PySem.W.nsIn K mainGlobals "untold" = some (some (.ref f_untold)))
    (l_untold : K.lookup f_untold = some ⟨oc_untold, od_untold, .func (PySem.W.fnOf "untold" "untold" (defArgs s_untold) (defBody s_untold) (defScope s_untold) .none kV_untold dc_untold pm_untold an_untold cd_untold ct_untold), sl_untold⟩)
    (c_untold : PySem.W.codeIn K cd_untold "untold" = true)
    (k_untold : PySem.W.keepIn K (.ref f_untold) = true)
    (a_lack_of : PySem.W.nsIn K mainGlobals "lack_of" = some (some (.ref f_lack_of)))
    (l_lack_of : K.lookup f_lack_of = some ⟨oc_lack_of, od_lack_of, .func (PySem.W.fnOf "lack_of" "lack_of" (defArgs s_lack_of) (defBody s_lack_of) (defScope s_lack_of) .none kV_lack_of dc_lack_of pm_lack_of an_lack_of cd_lack_of ct_lack_of), sl_lack_of⟩)
    (c_lack_of : PySem.W.codeIn K cd_lack_of "lack_of" = true)
    (k_lack_of : PySem.W.keepIn K (.ref f_lack_of) = true)
    (a_side_of : PySem.W.nsIn K mainGlobals "side_of" = some (some (.ref f_side_of)))
    (l_side_of : K.lookup f_side_of = some ⟨oc_side_of, od_side_of, .func (PySem.W.fnOf "side_of" "side_of" (defArgs s_side_of) (defBody s_side_of) (defScope s_side_of) .none kV_side_of dc_side_of pm_side_of an_side_of cd_side_of ct_side_of), sl_side_of⟩)
    (c_side_of : PySem.W.codeIn K cd_side_of "side_of" = true)
    (k_side_of : PySem.W.keepIn K (.ref f_side_of) = true)
    (a_number_of : PySem.W.nsIn K mainGlobals "number_of" = some (some (.ref f_number_of)))
    (l_number_of : K.lookup f_number_of = some ⟨oc_number_of, od_number_of, .func (PySem.W.fnOf "number_of" "number_of" (defArgs s_number_of) (defBody s_number_of) (defScope s_number_of) .none kV_number_of dc_number_of pm_number_of an_number_of cd_number_of ct_number_of), sl_number_of⟩)
    (c_number_of : PySem.W.codeIn K cd_number_of "number_of" = true)
    (k_number_of : PySem.W.keepIn K (.ref f_number_of) = true)
    (a_follows : PySem.W.nsIn K mainGlobals "follows" = some (some (.ref f_follows)))
    (l_follows : K.lookup f_follows = some ⟨oc_follows, od_follows, .func (PySem.W.fnOf "follows" "follows" (defArgs s_follows) (defBody s_follows) (defScope s_follows) .none kV_follows dc_follows pm_follows an_follows cd_follows ct_follows), sl_follows⟩)
    (c_follows : PySem.W.codeIn K cd_follows "follows" = true)
    (k_follows : PySem.W.keepIn K (.ref f_follows) = true)
    (a_Lsets : PySem.W.nsIn K mainGlobals "_law_sets" = some (some (.ref f_Lsets)))
    (l_Lsets : K.lookup f_Lsets = some ⟨oc_Lsets, od_Lsets, .func (PySem.W.fnOf "_law_sets" "_law_sets" (defArgs s_Lsets) (defBody s_Lsets) (defScope s_Lsets) .none kV_Lsets dc_Lsets pm_Lsets an_Lsets cd_Lsets ct_Lsets), sl_Lsets⟩)
    (c_Lsets : PySem.W.codeIn K cd_Lsets "_law_sets" = true)
    (k_Lsets : PySem.W.keepIn K (.ref f_Lsets) = true)
    (a_Lnumbers : PySem.W.nsIn K mainGlobals "_law_numbers" = some (some (.ref f_Lnumbers)))
    (l_Lnumbers : K.lookup f_Lnumbers = some ⟨oc_Lnumbers, od_Lnumbers, .func (PySem.W.fnOf "_law_numbers" "_law_numbers" (defArgs s_Lnumbers) (defBody s_Lnumbers) (defScope s_Lnumbers) .none kV_Lnumbers dc_Lnumbers pm_Lnumbers an_Lnumbers cd_Lnumbers ct_Lnumbers), sl_Lnumbers⟩)
    (c_Lnumbers : PySem.W.codeIn K cd_Lnumbers "_law_numbers" = true)
    (k_Lnumbers : PySem.W.keepIn K (.ref f_Lnumbers) = true)
    (a_Lsame : PySem.W.nsIn K mainGlobals "_law_same" = some (some (.ref f_Lsame)))
    (l_Lsame : K.lookup f_Lsame = some ⟨oc_Lsame, od_Lsame, .func (PySem.W.fnOf "_law_same" "_law_same" (defArgs s_Lsame) (defBody s_Lsame) (defScope s_Lsame) .none kV_Lsame dc_Lsame pm_Lsame an_Lsame cd_Lsame ct_Lsame), sl_Lsame⟩)
    (c_Lsame : PySem.W.codeIn K cd_Lsame "_law_same" = true)
    (k_Lsame : PySem.W.keepIn K (.ref f_Lsame) = true)
    (a_law : PySem.W.nsIn K mainGlobals "law" = some (some (.ref f_law)))
    (l_law : K.lookup f_law = some ⟨oc_law, od_law, .func (PySem.W.fnOf "law" "law" (defArgs s_law) (defBody s_law) (defScope s_law) .none kV_law dc_law pm_law an_law cd_law ct_law), sl_law⟩)
    (c_law : PySem.W.codeIn K cd_law "law" = true)
    (k_law : PySem.W.keepIn K (.ref f_law) = true)
    (a_ways_from : PySem.W.nsIn K mainGlobals "ways_from" = some (some (.ref f_ways_from)))
    (l_ways_from : K.lookup f_ways_from = some ⟨oc_ways_from, od_ways_from, .func (PySem.W.fnOf "ways_from" "ways_from" (defArgs s_ways_from) (defBody s_ways_from) (defScope s_ways_from) (.ref T_ways_from) kV_ways_from dc_ways_from pm_ways_from an_ways_from cd_ways_from ct_ways_from), sl_ways_from⟩)
    (c_ways_from : PySem.W.codeIn K cd_ways_from "ways_from" = true)
    (k_ways_from : PySem.W.keepIn K (.ref f_ways_from) = true)
    (d_ways_from : K.lookup T_ways_from = some ⟨ot_ways_from, dt_ways_from, .seq #[.none] n_ways_from, st_ways_from⟩)
    (z_abs : PySem.W.nsIn K mainGlobals "abs" = some none)
    (z_all : PySem.W.nsIn K mainGlobals "all" = some none)
    (z_bool : PySem.W.nsIn K mainGlobals "bool" = some none)
    (z_enumerate : PySem.W.nsIn K mainGlobals "enumerate" = some none)
    (z_int : PySem.W.nsIn K mainGlobals "int" = some none)
    (z_isinstance : PySem.W.nsIn K mainGlobals "isinstance" = some none)
    (z_len : PySem.W.nsIn K mainGlobals "len" = some none)
    (z_list : PySem.W.nsIn K mainGlobals "list" = some none)
    (z_max : PySem.W.nsIn K mainGlobals "max" = some none)
    (z_min : PySem.W.nsIn K mainGlobals "min" = some none)
    (z_range : PySem.W.nsIn K mainGlobals "range" = some none)
    (z_repr : PySem.W.nsIn K mainGlobals "repr" = some none)
    (z_sorted : PySem.W.nsIn K mainGlobals "sorted" = some none)
    (z_str : PySem.W.nsIn K mainGlobals "str" = some none)
    (z_sum : PySem.W.nsIn K mainGlobals "sum" = some none)
    (z_tuple : PySem.W.nsIn K mainGlobals "tuple" = some none)
    (z_zip : PySem.W.nsIn K mainGlobals "zip" = some none)
    (g_OUTSIDE : PySem.W.nsIn K mainGlobals "OUTSIDE" = some (some (.str (Str.ofString "") t_OUTSIDE))) :
    ∃ fd : FuncData, (∀ (s : Shared) (v : Value), BindsTo s fd ⟨[v], []⟩ [("_law_script", v)]) ∧ ∀ base : Heap, K.In base → base.Ns mainGlobals mg → FnG l.prog w K mg base 10 fa fd ["_law_script"] (spLaw K) := by
  have e := hfa.symm.trans (PySem.W.mg_of X G a_law)
  cases e
  have T : Txt mg := ⟨trivial, PySem.W.mg_none_of X G z_abs, PySem.W.mg_none_of X G z_all, PySem.W.mg_none_of X G z_bool, PySem.W.mg_none_of X G z_enumerate, PySem.W.mg_none_of X G z_int, PySem.W.mg_none_of X G z_isinstance, PySem.W.mg_none_of X G z_len, PySem.W.mg_none_of X G z_list, PySem.W.mg_none_of X G z_max, PySem.W.mg_none_of X G z_min, PySem.W.mg_none_of X G z_range, PySem.W.mg_none_of X G z_repr, PySem.W.mg_none_of X G z_sorted, PySem.W.mg_none_of X G z_str, PySem.W.mg_none_of X G z_sum, PySem.W.mg_none_of X G z_tuple, PySem.W.mg_none_of X G z_zip, ⟨_, PySem.W.mg_of X G g_OUTSIDE⟩⟩
  let c : Cs := ⟨()⟩
  have Z : Cz K c := ⟨trivial⟩
  have U_Ltape := fun_mk (st := s_Ltape) l_Ltape c_Ltape k_Ltape
  have b_Ltape := U_Ltape.binds (ps := ["_law_script", "_law_k"]) fun _ _ _ _ _ _ us hl => match us, hl with | [_, _], _ => rfl
  have U_Ldraw := fun_mk (st := s_Ldraw) l_Ldraw c_Ldraw k_Ldraw
  have b_Ldraw := U_Ldraw.binds (ps := ["_law_tape_here", "_law_many"]) fun _ _ _ _ _ _ us hl => match us, hl with | [_, _], _ => rfl
  have U_Lnames := fun_mk (st := s_Lnames) l_Lnames c_Lnames k_Lnames
  have b_Lnames := U_Lnames.binds (ps := ["_law_tape_here", "_law_many"]) fun _ _ _ _ _ _ us hl => match us, hl with | [_, _], _ => rfl
  have U_Llines := fun_mk (st := s_Llines) l_Llines c_Llines k_Llines
  have b_Llines := U_Llines.binds (ps := ["_law_tape_here", "_law_names_here", "_law_many", "_law_most"]) fun _ _ _ _ _ _ us hl => match us, hl with | [_, _, _, _], _ => rfl
  have U_Lhidden := fun_mk (st := s_Lhidden) l_Lhidden c_Lhidden k_Lhidden
  have b_Lhidden := U_Lhidden.binds (ps := ["_law_tape_here", "_law_lines_here"]) fun _ _ _ _ _ _ us hl => match us, hl with | [_, _], _ => rfl
  have U_Lmore := fun_mk (st := s_Lmore) l_Lmore c_Lmore k_Lmore
  have b_Lmore := U_Lmore.binds (ps := ["_law_lines_here", "_law_place"]) fun _ _ _ _ _ _ us hl => match us, hl with | [_, _], _ => rfl
  have U_Lcounted := fun_mk (st := s_Lcounted) l_Lcounted c_Lcounted k_Lcounted
  have b_Lcounted := U_Lcounted.binds (ps := ["_law_tape_here", "_law_names_here", "_law_lines_here"]) fun _ _ _ _ _ _ us hl => match us, hl with | [_, _, _], _ => rfl
  have U_Lcase := fun_mk (st := s_Lcase) l_Lcase c_Lcase k_Lcase
  have b_Lcase := U_Lcase.binds (ps := ["_law_tape_here"]) fun _ _ _ _ _ _ us hl => match us, hl with | [_], _ => rfl
  have U_surplus := fun_mk (st := s_surplus) l_surplus c_surplus k_surplus
  have b_surplus := U_surplus.binds (ps := ["sheet", "places"]) fun _ _ _ _ _ _ us hl => match us, hl with | [_, _], _ => rfl
  have U_ends_of := fun_mk (st := s_ends_of) l_ends_of c_ends_of k_ends_of
  have b_ends_of := U_ends_of.binds (ps := ["sheet"]) fun _ _ _ _ _ _ us hl => match us, hl with | [_], _ => rfl
  have U_untold := fun_mk (st := s_untold) l_untold c_untold k_untold
  have b_untold := U_untold.binds (ps := ["sheet"]) fun _ _ _ _ _ _ us hl => match us, hl with | [_], _ => rfl
  have U_ways_from : FunD K "ways_from" "ways_from" (defArgs s_ways_from) (defBody s_ways_from) (defScope s_ways_from) [.non] [] f_ways_from _ := ⟨⟨_, _, _, _, _, _, _, _, _, _, rfl, l_ways_from, c_ways_from, .inr ⟨by simp, T_ways_from, _, [.none], _, rfl, d_ways_from, rfl, (.cons rfl .nil)⟩, .inl rfl⟩, k_ways_from⟩
  obtain ⟨ds_ways_from_0, vd_ways_from_0, b_ways_from_0⟩ := U_ways_from.binds1 (ps := ["sheet", "start", "left_out"]) 3 1 (by simp) rfl fun T kV doc pm an cdv ct us its h1 h2 => match us, h1, its, h2 with | [_, _, _], _, [_], _ => ⟨_, rfl, rfl⟩
  cases vd_ways_from_0
  obtain ⟨ds_ways_from_1, vd_ways_from_1, b_ways_from_1⟩ := U_ways_from.binds1 (ps := ["sheet", "start", "left_out"]) 2 0 (by simp) rfl fun T kV doc pm an cdv ct us its h1 h2 => match us, h1, its, h2 with | [_, _], _, [_], _ => ⟨_, rfl, rfl⟩
  have U_lack_of := fun_mk (st := s_lack_of) l_lack_of c_lack_of k_lack_of
  have b_lack_of := U_lack_of.binds (ps := ["sheet"]) fun _ _ _ _ _ _ us hl => match us, hl with | [_], _ => rfl
  have U_side_of := fun_mk (st := s_side_of) l_side_of c_side_of k_side_of
  have b_side_of := U_side_of.binds (ps := ["sheet", "line"]) fun _ _ _ _ _ _ us hl => match us, hl with | [_, _], _ => rfl
  have U_number_of := fun_mk (st := s_number_of) l_number_of c_number_of k_number_of
  have b_number_of := U_number_of.binds (ps := ["sheet", "line"]) fun _ _ _ _ _ _ us hl => match us, hl with | [_, _], _ => rfl
  have U_follows := fun_mk (st := s_follows) l_follows c_follows k_follows
  have b_follows := U_follows.binds (ps := ["sheet"]) fun _ _ _ _ _ _ us hl => match us, hl with | [_], _ => rfl
  have U_Lsets := fun_mk (st := s_Lsets) l_Lsets c_Lsets k_Lsets
  have b_Lsets := U_Lsets.binds (ps := ["_law_a_sheet"]) fun _ _ _ _ _ _ us hl => match us, hl with | [_], _ => rfl
  have U_Lnumbers := fun_mk (st := s_Lnumbers) l_Lnumbers c_Lnumbers k_Lnumbers
  have b_Lnumbers := U_Lnumbers.binds (ps := ["_law_a_sheet"]) fun _ _ _ _ _ _ us hl => match us, hl with | [_], _ => rfl
  have U_Lsame := fun_mk (st := s_Lsame) l_Lsame c_Lsame k_Lsame
  have b_Lsame := U_Lsame.binds (ps := ["_law_found", "_law_due"]) fun _ _ _ _ _ _ us hl => match us, hl with | [_, _], _ => rfl
  have U_law := fun_mk (st := s_law) l_law c_law k_law
  have b_law := U_law.binds (ps := ["_law_script"]) fun _ _ _ _ _ _ us hl => match us, hl with | [_], _ => rfl
  obtain ⟨its_follows_K0_sheet, vk_follows_K0_sheet, kb_follows_K0_sheet⟩ := fun_kbn (ps := ["sheet"]) U_follows 0 ["sheet"] [.k 0] fun kV doc pm an cdv ct us ws h1 h2 => match us, h1, ws, h2 with | [], _, [_], _ => rfl
  refine ⟨PySem.W.fnOf "law" "law" (defArgs s_law) (defBody s_law) (defScope s_law) .none kV_law dc_law pm_law an_law cd_law ct_law, fun s v => .of_eq rfl, fun base _ _ => ?_⟩
  have O_Ltape := ok_Ltape (P := l.prog) (w := w) (base := base) (c := c) U_Ltape T Z
  have D_Ltape : Df l.prog w K mg base "_law_tape" 1 ["_law_script", "_law_k"] (F_Ltape c) := ⟨⟨_, _, O_Ltape, PySem.W.mg_of X G a_Ltape, k_Ltape, b_Ltape⟩⟩
  have O_Ldraw := ok_Ldraw (P := l.prog) (w := w) (base := base) (c := c) U_Ldraw T Z
  have D_Ldraw : Df l.prog w K mg base "_law_draw" 1 ["_law_tape_here", "_law_many"] (F_Ldraw c) := ⟨⟨_, _, O_Ldraw, PySem.W.mg_of X G a_Ldraw, k_Ldraw, b_Ldraw⟩⟩
  have O_Lnames := ok_Lnames (P := l.prog) (w := w) (base := base) (c := c) U_Lnames T Z D_Ldraw
  have D_Lnames : Df l.prog w K mg base "_law_names" 2 ["_law_tape_here", "_law_many"] (F_Lnames c) := ⟨⟨_, _, O_Lnames, PySem.W.mg_of X G a_Lnames, k_Lnames, b_Lnames⟩⟩
  have O_Llines := ok_Llines (P := l.prog) (w := w) (base := base) (c := c) U_Llines T Z D_Ldraw
  have D_Llines : Df l.prog w K mg base "_law_lines" 2 ["_law_tape_here", "_law_names_here", "_law_many", "_law_most"] (F_Llines c) := ⟨⟨_, _, O_Llines, PySem.W.mg_of X G a_Llines, k_Llines, b_Llines⟩⟩
  have O_Lhidden := ok_Lhidden (P := l.prog) (w := w) (base := base) (c := c) U_Lhidden T Z D_Ldraw
  have D_Lhidden : Df l.prog w K mg base "_law_hidden" 2 ["_law_tape_here", "_law_lines_here"] (F_Lhidden c) := ⟨⟨_, _, O_Lhidden, PySem.W.mg_of X G a_Lhidden, k_Lhidden, b_Lhidden⟩⟩
  have O_Lmore := ok_Lmore (P := l.prog) (w := w) (base := base) (c := c) U_Lmore T Z
  have D_Lmore : Df l.prog w K mg base "_law_more" 1 ["_law_lines_here", "_law_place"] (F_Lmore c) := ⟨⟨_, _, O_Lmore, PySem.W.mg_of X G a_Lmore, k_Lmore, b_Lmore⟩⟩
  have O_Lcounted := ok_Lcounted (P := l.prog) (w := w) (base := base) (c := c) U_Lcounted T Z D_Ldraw D_Lmore
  have D_Lcounted : Df l.prog w K mg base "_law_counted" 2 ["_law_tape_here", "_law_names_here", "_law_lines_here"] (F_Lcounted c) := ⟨⟨_, _, O_Lcounted, PySem.W.mg_of X G a_Lcounted, k_Lcounted, b_Lcounted⟩⟩
  have O_Lcase := ok_Lcase (P := l.prog) (w := w) (base := base) (c := c) U_Lcase T Z D_Lnames D_Llines D_Lhidden D_Ldraw D_Lcounted
  have D_Lcase : Df l.prog w K mg base "_law_case" 3 ["_law_tape_here"] (F_Lcase c) := ⟨⟨_, _, O_Lcase, PySem.W.mg_of X G a_Lcase, k_Lcase, b_Lcase⟩⟩
  have O_surplus := ok_surplus (P := l.prog) (w := w) (base := base) (c := c) U_surplus T Z
  have D_surplus : Df l.prog w K mg base "surplus" 1 ["sheet", "places"] (F_surplus c) := ⟨⟨_, _, O_surplus, PySem.W.mg_of X G a_surplus, k_surplus, b_surplus⟩⟩
  have O_ends_of := ok_ends_of (P := l.prog) (w := w) (base := base) (c := c) U_ends_of T Z
  have D_ends_of : Df l.prog w K mg base "ends_of" 1 ["sheet"] (F_ends_of c) := ⟨⟨_, _, O_ends_of, PySem.W.mg_of X G a_ends_of, k_ends_of, b_ends_of⟩⟩
  have O_untold := ok_untold (P := l.prog) (w := w) (base := base) (c := c) U_untold T Z
  have D_untold : Df l.prog w K mg base "untold" 1 ["sheet"] (F_untold c) := ⟨⟨_, _, O_untold, PySem.W.mg_of X G a_untold, k_untold, b_untold⟩⟩
  have O_ways_from := ok_ways_from (P := l.prog) (w := w) (base := base) (c := c) U_ways_from T Z D_ends_of D_untold
  have D_ways_from : Df l.prog w K mg base "ways_from" 2 ["sheet", "start", "left_out"] (F_ways_from c) := ⟨⟨_, _, O_ways_from, PySem.W.mg_of X G a_ways_from, k_ways_from, b_ways_from_0⟩⟩
  have D_ways_from_1 : DfD l.prog w K mg base "ways_from" 2 ["sheet", "start", "left_out"] [.non] (F_ways_from c) := ⟨⟨_, _, _, O_ways_from, PySem.W.mg_of X G a_ways_from, k_ways_from, vd_ways_from_1, b_ways_from_1⟩⟩
  have O_lack_of := ok_lack_of (P := l.prog) (w := w) (base := base) (c := c) U_lack_of T Z D_surplus D_ways_from_1
  have D_lack_of : Df l.prog w K mg base "lack_of" 3 ["sheet"] (F_lack_of c) := ⟨⟨_, _, O_lack_of, PySem.W.mg_of X G a_lack_of, k_lack_of, b_lack_of⟩⟩
  have O_side_of := ok_side_of (P := l.prog) (w := w) (base := base) (c := c) U_side_of T Z D_ends_of D_ways_from
  have D_side_of : Df l.prog w K mg base "side_of" 3 ["sheet", "line"] (F_side_of c) := ⟨⟨_, _, O_side_of, PySem.W.mg_of X G a_side_of, k_side_of, b_side_of⟩⟩
  have O_number_of := ok_number_of (P := l.prog) (w := w) (base := base) (c := c) U_number_of T Z D_side_of D_surplus
  have D_number_of : Df l.prog w K mg base "number_of" 4 ["sheet", "line"] (F_number_of c) := ⟨⟨_, _, O_number_of, PySem.W.mg_of X G a_number_of, k_number_of, b_number_of⟩⟩
  have O_follows := ok_follows (P := l.prog) (w := w) (base := base) (c := c) U_follows T Z D_lack_of D_number_of
  have D_follows_K0_sheet : DfN l.prog w K mg base "follows" 5 ["sheet"] 0 ["sheet"] [.k 0] [] (F_follows c) := ⟨⟨_, _, _, O_follows, PySem.W.mg_of X G a_follows, k_follows, vk_follows_K0_sheet, kb_follows_K0_sheet⟩⟩
  have D_follows : Df l.prog w K mg base "follows" 5 ["sheet"] (F_follows c) := ⟨⟨_, _, O_follows, PySem.W.mg_of X G a_follows, k_follows, b_follows⟩⟩
  have O_Lsets := ok_Lsets (P := l.prog) (w := w) (base := base) (c := c) U_Lsets T Z
  have D_Lsets : Df l.prog w K mg base "_law_sets" 1 ["_law_a_sheet"] (F_Lsets c) := ⟨⟨_, _, O_Lsets, PySem.W.mg_of X G a_Lsets, k_Lsets, b_Lsets⟩⟩
  have O_Lnumbers := ok_Lnumbers (P := l.prog) (w := w) (base := base) (c := c) U_Lnumbers T Z D_Lsets
  have D_Lnumbers : Df l.prog w K mg base "_law_numbers" 2 ["_law_a_sheet"] (F_Lnumbers c) := ⟨⟨_, _, O_Lnumbers, PySem.W.mg_of X G a_Lnumbers, k_Lnumbers, b_Lnumbers⟩⟩
  have O_Lsame := ok_Lsame (P := l.prog) (w := w) (base := base) (c := c) U_Lsame T Z (PySem.W.mg_of X G a_Lsame) b_Lsame 8
  have D_Lsame : Df l.prog w K mg base "_law_same" 9 ["_law_found", "_law_due"] (F_Lsame c 8) := ⟨⟨_, _, O_Lsame, PySem.W.mg_of X G a_Lsame, k_Lsame, b_Lsame⟩⟩
  have O_law := ok_law (P := l.prog) (w := w) (base := base) (c := c) U_law T Z D_Ltape D_Lcase D_follows D_Lnumbers D_Lsame D_follows_K0_sheet
  exact O_law.imp fun vs H Q E h => sp_law c h
theorem walk {l : PySem.W.OpenLaw} {q : Program} {loose : List Str} {XP : (Str → Option Value) → Heap → Prop} {YP : World → Heap → Prop} {d : DefRec} {K : Params → PySem.W.Frag} (hn : l.most = some 63) (hdf : d.params.defaults = [])
    (hY : ∀ (w : World) (h : Heap), YP w h → (K w.params).In h)
    (F : ∀ (w : World) (mg : Str → Option Value) (fa : Addr) (h : Heap), (K w.params).In h → h.Ns mainGlobals mg → mg d.name = some (.ref fa) →
      ∃ fd : FuncData, (∀ (s : Shared) (u : Value), BindsTo s fd ⟨[u], []⟩ [("_law_script", u)]) ∧ ∀ base : Heap, (K w.params).In base → base.Ns mainGlobals mg → FnG l.prog w (K w.params) mg base 10 fa fd ["_law_script"] (spLaw (K w.params))) :
    PySem.W.WalkO q loose XP YP l.row.toRowW d [] (fun f vs => PySem.call f vs) :=
  DL.walk_G (n := 63) (k := 10) (x := "_law_script") (sp := spLaw) hn (by decide) hdf ⟨rfl, by decide, by decide⟩ hY F (fun _ _ a ns hl hS => ⟨a, ns, rfl, hS, hl, fun _ => rfl⟩)
end HP
open PySem PySem.W PyProof.Rows in
set_option maxRecDepth 100000 in
set_option maxHeartbeats 0 in
theorem PySem.Challenge.cw_hotpass_k61_what_follows_holds : PySem.Challenge.rw_hotpass_k61_what_follows.Holds := by
  w_on; o_law; k_head; (case hw => w_witness2)
  k_fill
  refine HP.walk (l := PySem.Challenge.rw_hotpass_k61_what_follows) rfl rfl (fun w h Y => PySem.W.kIn_of Y) ?F
  case F =>
    intro w mg fa h KX G hmg
    refine' HP.all_mk KX G hmg ?a_Ltape ?l_Ltape ?c_Ltape ?k_Ltape ?a_Ldraw ?l_Ldraw ?c_Ldraw ?k_Ldraw ?a_Lnames ?l_Lnames ?c_Lnames ?k_Lnames ?a_Llines ?l_Llines ?c_Llines ?k_Llines ?a_Lhidden ?l_Lhidden ?c_Lhidden ?k_Lhidden ?a_Lmore ?l_Lmore ?c_Lmore ?k_Lmore ?a_Lcounted ?l_Lcounted ?c_Lcounted ?k_Lcounted ?a_Lcase ?l_Lcase ?c_Lcase ?k_Lcase ?a_surplus ?l_surplus ?c_surplus ?k_surplus ?a_ends_of ?l_ends_of ?c_ends_of ?k_ends_of ?a_untold ?l_untold ?c_untold ?k_untold ?a_lack_of ?l_lack_of ?c_lack_of ?k_lack_of ?a_side_of ?l_side_of ?c_side_of ?k_side_of ?a_number_of ?l_number_of ?c_number_of ?k_number_of ?a_follows ?l_follows ?c_follows ?k_follows ?a_Lsets ?l_Lsets ?c_Lsets ?k_Lsets ?a_Lnumbers ?l_Lnumbers ?c_Lnumbers ?k_Lnumbers ?a_Lsame ?l_Lsame ?c_Lsame ?k_Lsame ?a_law ?l_law ?c_law ?k_law ?a_ways_from ?l_ways_from ?c_ways_from ?k_ways_from ?d_ways_from ?z_abs ?z_all ?z_bool ?z_enumerate ?z_int ?z_isinstance ?z_len ?z_list ?z_max ?z_min ?z_range ?z_repr ?z_sorted ?z_str ?z_sum ?z_tuple ?z_zip ?g_OUTSIDE
    (case a_Ltape => k_is)
    (case l_Ltape => k_is)
    (case c_Ltape => k_is)
    (case k_Ltape => k_is)
    (case a_Ldraw => k_is)
    (case l_Ldraw => k_is)
    (case c_Ldraw => k_is)
    (case k_Ldraw => k_is)
    (case a_Lnames => k_is)
    (case l_Lnames => k_is)
    (case c_Lnames => k_is)
    (case k_Lnames => k_is)
    (case a_Llines => k_is)
    (case l_Llines => k_is)
    (case c_Llines => k_is)
    (case k_Llines => k_is)
    (case a_Lhidden => k_is)
    (case l_Lhidden => k_is)
    (case c_Lhidden => k_is)
    (case k_Lhidden => k_is)
    (case a_Lmore => k_is)
    (case l_Lmore => k_is)
    (case c_Lmore => k_is)
    (case k_Lmore => k_is)
    (case a_Lcounted => k_is)
    (case l_Lcounted => k_is)
    (case c_Lcounted => k_is)
    (case k_Lcounted => k_is)
    (case a_Lcase => k_is)
    (case l_Lcase => k_is)
    (case c_Lcase => k_is)
    (case k_Lcase => k_is)
    (case a_surplus => k_is)
    (case l_surplus => k_is)
    (case c_surplus => k_is)
    (case k_surplus => k_is)
    (case a_ends_of => k_is)
    (case l_ends_of => k_is)
    (case c_ends_of => k_is)
    (case k_ends_of => k_is)
    (case a_untold => k_is)
    (case l_untold => k_is)
    (case c_untold => k_is)
    (case k_untold => k_is)
    (case a_lack_of => k_is)
    (case l_lack_of => k_is)
    (case c_lack_of => k_is)
    (case k_lack_of => k_is)
    (case a_side_of => k_is)
    (case l_side_of => k_is)
    (case c_side_of => k_is)
    (case k_side_of => k_is)
    (case a_number_of => k_is)
    (case l_number_of => k_is)
    (case c_number_of => k_is)
    (case k_number_of => k_is)
    (case a_follows => k_is)
    (case l_follows => k_is)
    (case c_follows => k_is)
    (case k_follows => k_is)
    (case a_Lsets => k_is)
    (case l_Lsets => k_is)
    (case c_Lsets => k_is)
    (case k_Lsets => k_is)
    (case a_Lnumbers => k_is)
    (case l_Lnumbers => k_is)
    (case c_Lnumbers => k_is)
    (case k_Lnumbers => k_is)
    (case a_Lsame => k_is)
    (case l_Lsame => k_is)
    (case c_Lsame => k_is)
    (case k_Lsame => k_is)
    (case a_law => k_is)
    (case l_law => k_is)
    (case c_law => k_is)
    (case k_law => k_is)
    (case a_ways_from => k_is)
    (case l_ways_from => k_is)
    (case c_ways_from => k_is)
    (case k_ways_from => k_is)
    (case d_ways_from => k_is)
    (case z_abs => k_is)
    (case z_all => k_is)
    (case z_bool => k_is)
    (case z_enumerate => k_is)
    (case z_int => k_is)
    (case z_isinstance => k_is)
    (case z_len => k_is)
    (case z_list => k_is)
    (case z_max => k_is)
    (case z_min => k_is)
    (case z_range => k_is)
    (case z_repr => k_is)
    (case z_sorted => k_is)
    (case z_str => k_is)
    (case z_sum => k_is)
    (case z_tuple => k_is)
    (case z_zip => k_is)
    (case g_OUTSIDE => k_is)
