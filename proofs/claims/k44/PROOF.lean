import PyProof.Rows.All
import Wide.All
import OpenK.AllK
import Wide.FinOn
import HandS.Base
import HandS.Call
import HandS.List
import HandS.Comp
import HandS.Ends
import HandS.Iter
import HandS.Text
import HandS.Words
import HandS.WordsList
import HandS.IsInst
import HandS.Wide
import HandS.Defaults
import HandS.MakeKw
import HandS.Style
import HandS.Codes
import KE.KEqSeq
import HandS.Dict
import HandS.Zip
import HandS.NoneIn
import HandS.TupAny
import KE.KTupSum
import KE.KRevSl
import HandS.More
import HandS.Small
import KE.GoesMore
import KE.SortData
import HandS.Conv
import HandS.SortInts
import HandS.TupSets
import KE.KDictZip
import KE.DatumOrd
import KE.DataMinMax
import PySem.Challenge.RW_hotpass_k44_shares_put_otherwise
set_option Elab.async false
set_option linter.all false
set_option maxRecDepth 100000
set_option maxHeartbeats 4000000
noncomputable section
namespace DL
open PySem L2
/-! ### things as trees, a store of what may be changed -/
inductive D where
  | non | bl (b : Bool) | int (i : Int) | str (z : Str) | ty (n : String)
  | tup (ds : List D) | lst (ds : List D) | rol (ds : List D)
  | ins (C : Addr) (ns : List Str) (ds : List D)
  | dic (ks : List Str) (ds : List D)
  | loc (n : Nat)
inductive Ob where
  | lst (ds : List D)
  | ins (C : Addr) (fs : List (Str × D))
  | dct (gs : List (Key × D))
abbrev Sg := List Ob
abbrev Dl := List (Option D)
/-! bounds, each by a name: nothing reckons with them but by these rows -/
@[irreducible] def Fits (n : Nat) : Prop := n < 1000000
theorem fits_iff (n : Nat) : Fits n ↔ n < 1000000 := by unfold Fits; exact Iff.rfl
theorem Fits.lt {n : Nat} (h : Fits n) : n < sizeLine := Nat.lt_of_lt_of_le ((fits_iff n).mp h) (by decide)
theorem Fits.le {n : Nat} (h : Fits n) : n ≤ sizeLine := Nat.le_of_lt h.lt
instance (n : Nat) : Decidable (Fits n) := Classical.propDecidable _
@[irreducible] def R62 (j : Int) : Prop := -4611686018427387904 ≤ j ∧ j < 4611686018427387904
theorem r62_iff (j : Int) : R62 j ↔ -4611686018427387904 ≤ j ∧ j < 4611686018427387904 := by unfold R62; exact Iff.rfl
instance (j : Int) : Decidable (R62 j) := Classical.propDecidable _
@[irreducible] def R63 (j : Int) : Prop := -9223372036854775808 ≤ j ∧ j < 9223372036854775808
theorem r63_iff (j : Int) : R63 j ↔ -9223372036854775808 ≤ j ∧ j < 9223372036854775808 := by unfold R63; exact Iff.rfl
instance (j : Int) : Decidable (R63 j) := Classical.propDecidable _
@[irreducible] def MulB (i j : Int) : Prop := (-18446744073709551616 < i ∧ i < 18446744073709551616) ∨ (-18446744073709551616 < j ∧ j < 18446744073709551616)
theorem mulB_iff (i j : Int) : MulB i j ↔ (-18446744073709551616 < i ∧ i < 18446744073709551616) ∨ (-18446744073709551616 < j ∧ j < 18446744073709551616) := by unfold MulB; exact Iff.rfl
instance (i j : Int) : Decidable (MulB i j) := Classical.propDecidable _
@[irreducible] def DivB (j : Int) : Prop := 0 < j ∧ j < 1000000000000000000000000000000
theorem divB_iff (j : Int) : DivB j ↔ 0 < j ∧ j < 1000000000000000000000000000000 := by unfold DivB; exact Iff.rfl
instance (j : Int) : Decidable (DivB j) := Classical.propDecidable _
@[irreducible] def PowB (i j : Int) : Prop := (0 ≤ j ∧ j ≤ 1000000) ∧ -18446744073709551616 < i ∧ i < 18446744073709551616
theorem powB_iff (i j : Int) : PowB i j ↔ (0 ≤ j ∧ j ≤ 1000000) ∧ -18446744073709551616 < i ∧ i < 18446744073709551616 := by unfold PowB; exact Iff.rfl
instance (i j : Int) : Decidable (PowB i j) := Classical.propDecidable _
/-- the places' addresses; those of lists in the making, which nothing names -/
structure Ro where
  pl : List Addr
  bn : List Addr
def Ro.out (ρ : Ro) (a : Addr) : Prop := a ∉ ρ.pl ∧ a ∉ ρ.bn
def Ro.push (ρ : Ro) (p : Addr) : Ro := ⟨ρ.pl ++ [p], ρ.bn⟩
def Ro.ban (ρ : Ro) (p : Addr) : Ro := ⟨ρ.pl, p :: ρ.bn⟩
/-- a list that is only read -/
def RL (K : PySem.W.Frag) (H : Hp) (ρ : Ro) (a : Addr) (vs : List V) : Prop :=
  (Rd H a (.lst vs) ∧ ρ.out a) ∨ ∃ (o : Obj) (its : Array Value) (n : Nat), K.lookup a = some o ∧ o.cls = .type "list" ∧ o.dict = none ∧ o.data = .seq its n ∧ its.size ≤ sizeLine ∧ Vals vs its.toList
theorem RL.sq {K : PySem.W.Frag} {H : Hp} {ρ : Ro} {a : Addr} {vs : List V} (h : RL K H ρ a vs) : SqL K H a vs := h.elim (fun z => .inl z.1) .inr
mutual
inductive RV (K : PySem.W.Frag) (H : Hp) (ρ : Ro) : V → D → Prop
  | non : RV K H ρ .non .non
  | bl {b : Bool} : RV K H ρ (.bl b) (.bl b)
  | int {i : Int} : RV K H ρ (.int i) (.int i)
  | str {z : Str} : RV K H ρ (.str z) (.str z)
  | ty {n : String} : RV K H ρ (.ty n) (.ty n)
  | tup {a : Addr} {vs : List V} {ds : List D} (h : H a = some (.tup vs)) (n : ρ.out a) (r : RVs K H ρ vs ds) : RV K H ρ (.ref a) (.tup ds)
  | lst {a : Addr} {vs : List V} {ds : List D} (h : H a = some (.lst vs)) (n : ρ.out a) (r : RVs K H ρ vs ds) : RV K H ρ (.ref a) (.lst ds)
  | rol {a : Addr} {vs : List V} {ds : List D} (h : RL K H ρ a vs) (r : RVs K H ρ vs ds) : RV K H ρ (.ref a) (.rol ds)
  | ins {a C dx : Addr} {fs : List (Str × V)} {ds : List D} (h : H a = some (.ins C dx fs)) (n : ρ.out a) (r : RVs K H ρ (fs.map (·.2)) ds) : RV K H ρ (.ref a) (.ins C (fs.map (·.1)) ds)
  | dic {a : Addr} {kvs : List (Key × V)} {ks : List Str} {ds : List D} (h : H a = some (.dK kvs)) (n : ρ.out a) (e : kvs.map (·.1) = ks.map Sum.inr) (r : RVs K H ρ (kvs.map (·.2)) ds) : RV K H ρ (.ref a) (.dic ks ds)
  | loc {a : Addr} {n : Nat} (h : ρ.pl[n]? = some a) : RV K H ρ (.ref a) (.loc n)
inductive RVs (K : PySem.W.Frag) (H : Hp) (ρ : Ro) : List V → List D → Prop
  | nil : RVs K H ρ [] []
  | cons {v : V} {d : D} {vs : List V} {ds : List D} (h : RV K H ρ v d) (r : RVs K H ρ vs ds) : RVs K H ρ (v :: vs) (d :: ds)
end
structure Step (ρ ρ' : Ro) (H H' : Hp) : Prop where
  ext : ∃ nw, ρ'.pl = ρ.pl ++ nw ∧ ∀ a ∈ nw, H a = none
  bn : ρ'.bn = ρ.bn
  keep : ∀ a o, H a = some o → a ∉ ρ.pl → H' a = some o
  dom : ∀ a, H' a = none → H a = none
theorem Step.refl (ρ : Ro) (H : Hp) : Step ρ ρ H H := ⟨⟨[], by simp, by simp⟩, rfl, fun _ _ h _ => h, fun _ h => h⟩
section
variable {K : PySem.W.Frag} {ρ ρ' ρ1 ρ2 : Ro} {H H' H1 H2 : Hp} {S S' : Sg} {σ : St} {δ : Dl}
theorem Step.ninP (s : Step ρ ρ' H H') {a : Addr} {o : HO} (h : H a = some o) (n : a ∉ ρ.pl) : a ∉ ρ'.pl := by
  obtain ⟨nw, e, f⟩ := s.ext
  intro m
  rw [e] at m
  rcases List.mem_append.mp m with m | m
  · exact n m
  · rw [f a m] at h; cases h
theorem Step.nin (s : Step ρ ρ' H H') {a : Addr} {o : HO} (h : H a = some o) (n : ρ.out a) : ρ'.out a := ⟨s.ninP h n.1, by rw [s.bn]; exact n.2⟩
theorem Step.trans (s : Step ρ ρ1 H H1) (t : Step ρ1 ρ2 H1 H2) : Step ρ ρ2 H H2 := by
  refine ⟨?_, t.bn.trans s.bn, fun a o h n => t.keep a o (s.keep a o h n) (s.ninP h n), fun a h => s.dom a (t.dom a h)⟩
  obtain ⟨n1, e1, f1⟩ := s.ext
  obtain ⟨n2, e2, f2⟩ := t.ext
  refine ⟨n1 ++ n2, by rw [e2, e1, List.append_assoc], fun a m => ?_⟩
  rcases List.mem_append.mp m with m | m
  · exact f1 a m
  · exact s.dom a (f2 a m)
theorem Step.at (s : Step ρ ρ' H H') {n : Nat} {a : Addr} (h : ρ.pl[n]? = some a) : ρ'.pl[n]? = some a := by
  obtain ⟨nw, e, _⟩ := s.ext
  rw [e, List.getElem?_append_left (List.getElem?_eq_some_iff.mp h).1]
  exact h
theorem RL.mono (s : Step ρ ρ' H H') {a : Addr} {vs : List V} (h : RL K H ρ a vs) : RL K H' ρ' a vs := by
  rcases h with ⟨h, n⟩ | h
  · refine .inl ?_
    rcases h with h | ⟨o, h⟩
    · exact ⟨.inl (s.keep _ _ h n.1), s.nin h n⟩
    · exact ⟨.inr ⟨o, s.keep _ _ h n.1⟩, s.nin h n⟩
  · exact .inr h
mutual
theorem RV.mono (s : Step ρ ρ' H H') : ∀ {v : V} {d : D}, RV K H ρ v d → RV K H' ρ' v d
  | _, _, .non => .non
  | _, _, .bl => .bl
  | _, _, .int => .int
  | _, _, .str => .str
  | _, _, .ty => .ty
  | _, _, .tup h n r => .tup (s.keep _ _ h n.1) (s.nin h n) (RVs.mono s r)
  | _, _, .lst h n r => .lst (s.keep _ _ h n.1) (s.nin h n) (RVs.mono s r)
  | _, _, .rol h r => .rol (h.mono s) (RVs.mono s r)
  | _, _, .ins h n r => .ins (s.keep _ _ h n.1) (s.nin h n) (RVs.mono s r)
  | _, _, .dic h n e r => .dic (s.keep _ _ h n.1) (s.nin h n) e (RVs.mono s r)
  | _, _, .loc h => .loc (s.at h)
theorem RVs.mono (s : Step ρ ρ' H H') : ∀ {vs : List V} {ds : List D}, RVs K H ρ vs ds → RVs K H' ρ' vs ds
  | _, _, .nil => .nil
  | _, _, .cons h r => .cons (RV.mono s h) (RVs.mono s r)
end
theorem RVs.len : ∀ {vs : List V} {ds : List D}, RVs K H ρ vs ds → vs.length = ds.length
  | _, _, .nil => rfl
  | _, _, .cons _ r => by rw [List.length_cons, List.length_cons, RVs.len r]
theorem RVs.get : ∀ {vs : List V} {ds : List D} {i : Nat} {d : D}, RVs K H ρ vs ds → ds[i]? = some d → ∃ v, vs[i]? = some v ∧ RV K H ρ v d
  | _, _, _, _, .nil, h => by simp at h
  | _, _, 0, _, .cons h r, e => by
    have e' := Option.some.inj e
    exact ⟨_, rfl, e' ▸ h⟩
  | _, _, i + 1, _, .cons h r, e => RVs.get (i := i) r e
theorem RVs.getV : ∀ {vs : List V} {ds : List D} {i : Nat} {v : V}, RVs K H ρ vs ds → vs[i]? = some v → ∃ d, ds[i]? = some d ∧ RV K H ρ v d
  | _, _, _, _, .nil, h => by simp at h
  | _, _, 0, _, .cons h r, e => by
    have e' := Option.some.inj e
    exact ⟨_, rfl, e' ▸ h⟩
  | _, _, i + 1, _, .cons h r, e => RVs.getV (i := i) r e
theorem RVs.append : ∀ {vs ws : List V} {ds es : List D}, RVs K H ρ vs ds → RVs K H ρ ws es → RVs K H ρ (vs ++ ws) (ds ++ es)
  | _, _, _, _, .nil, r => r
  | _, _, _, _, .cons h r, q => .cons h (RVs.append r q)
theorem RVs.take : ∀ {vs : List V} {ds : List D} (n : Nat), RVs K H ρ vs ds → RVs K H ρ (vs.take n) (ds.take n)
  | _, _, 0, _ => .nil
  | _, _, _ + 1, .nil => .nil
  | _, _, n + 1, .cons h r => .cons h (RVs.take n r)
theorem RVs.drop : ∀ {vs : List V} {ds : List D} (n : Nat), RVs K H ρ vs ds → RVs K H ρ (vs.drop n) (ds.drop n)
  | _, _, 0, r => r
  | _, _, _ + 1, .nil => .nil
  | _, _, n + 1, .cons _ r => RVs.drop n r
theorem RVs.set : ∀ {vs : List V} {ds : List D} {v : V} {d : D} (i : Nat), RVs K H ρ vs ds → RV K H ρ v d → RVs K H ρ (vs.set i v) (ds.set i d)
  | _, _, _, _, _, .nil, _ => .nil
  | _, _, _, _, 0, .cons _ r, q => .cons q r
  | _, _, _, _, i + 1, .cons h r, q => .cons h (RVs.set i r q)
theorem RVs.rev {vs : List V} {ds : List D} (h : RVs K H ρ vs ds) : RVs K H ρ vs.reverse ds.reverse := by
  induction vs generalizing ds with
  | nil => cases h; exact .nil
  | cons v vs ih =>
    cases h with
    | cons h r =>
      rw [List.reverse_cons, List.reverse_cons]
      exact (ih r).append (.cons h .nil)
/-- what a place of the store holds -/
def OR (K : PySem.W.Frag) (H : Hp) (ρ : Ro) (a : Addr) : Ob → Prop
  | .lst ds => ∃ vs, H a = some (.lst vs) ∧ RVs K H ρ vs ds
  | .ins C gs => ∃ dx fs, H a = some (.ins C dx fs) ∧ fs.map (·.1) = gs.map (·.1) ∧ RVs K H ρ (fs.map (·.2)) (gs.map (·.2))
  | .dct gs => ∃ fs, H a = some (.dK fs) ∧ fs.map (·.1) = gs.map (·.1) ∧ RVs K H ρ (fs.map (·.2)) (gs.map (·.2))
structure SR (K : PySem.W.Frag) (H : Hp) (ρ : Ro) (S : Sg) : Prop where
  len : ρ.pl.length = S.length
  nd : ρ.pl.Nodup
  bn : ∀ a ∈ ρ.bn, H a ≠ none
  dj : ∀ a ∈ ρ.pl, a ∉ ρ.bn
  ob : ∀ (n : Nat) (a : Addr) (o : Ob), ρ.pl[n]? = some a → S[n]? = some o → OR K H ρ a o
theorem OR.some {a : Addr} {o : Ob} (h : OR K H ρ a o) : ∃ u, H a = some u := by
  cases o with
  | lst ds => obtain ⟨vs, e, _⟩ := h; exact ⟨_, e⟩
  | ins C gs => obtain ⟨dx, fs, e, _⟩ := h; exact ⟨_, e⟩
  | dct gs => obtain ⟨fs, e, _⟩ := h; exact ⟨_, e⟩
theorem SR.has (s : SR K H ρ S) {a : Addr} (m : a ∈ ρ.pl) : ∃ u, H a = some u := by
  obtain ⟨n, hn, e⟩ := List.mem_iff_getElem.mp m
  have hn' : n < S.length := by rw [← s.len]; exact hn
  exact (s.ob n a S[n] (by rw [List.getElem?_eq_getElem hn, e]) (List.getElem?_eq_getElem hn')).some
theorem SR.freshP (s : SR K H ρ S) {p : Addr} (h : H p = none) : p ∉ ρ.pl := fun m => by
  obtain ⟨u, e⟩ := s.has m
  rw [e] at h; cases h
theorem SR.fresh (s : SR K H ρ S) {p : Addr} (h : H p = none) : ρ.out p := ⟨s.freshP h, fun m => s.bn p m h⟩
theorem SR.nil : SR K H ⟨[], []⟩ [] := ⟨rfl, List.nodup_nil, fun a h => by simp at h, fun a h => by simp at h, fun n a o h => by simp at h⟩
/-- a new thing outside of the store -/
theorem Step.new (s : SR K H ρ S) {p : Addr} {o : HO} (h : H p = none) : Step ρ ρ H (upd H p o) :=
  ⟨⟨[], by simp, by simp⟩, rfl, fun a u e _ => by rw [upd_ne (ne_of_none e h)]; exact e, fun a e => by
    by_cases q : a = p
    · subst q; exact h
    · rw [upd_ne q] at e; exact e⟩
theorem OR.mono (st : Step ρ ρ' H H') {a : Addr} {o : Ob} (k : H' a = H a) (h : OR K H ρ a o) : OR K H' ρ' a o := by
  cases o with
  | lst ds => obtain ⟨vs, e, r⟩ := h; exact ⟨vs, k.trans e, r.mono st⟩
  | ins C gs => obtain ⟨dx, fs, e, n, r⟩ := h; exact ⟨dx, fs, k.trans e, n, r.mono st⟩
  | dct gs => obtain ⟨fs, e, n, r⟩ := h; exact ⟨fs, k.trans e, n, r.mono st⟩
theorem SR.new (s : SR K H ρ S) {p : Addr} {o : HO} (h : H p = none) : SR K (upd H p o) ρ S := by
  refine ⟨s.len, s.nd, fun a m e => s.bn a m ((Step.new (o := o) s h).dom a e), s.dj, fun n a u e1 e2 => (s.ob n a u e1 e2).mono (Step.new s h) ?_⟩
  obtain ⟨w, e⟩ := (s.ob n a u e1 e2).some
  exact upd_ne (ne_of_none e h)
/-- a new place -/
theorem Step.push (s : SR K H ρ S) {p : Addr} {o : HO} (h : H p = none) : Step ρ (ρ.push p) H (upd H p o) :=
  ⟨⟨[p], rfl, fun a m => by rw [List.mem_singleton.mp m]; exact h⟩, rfl, (Step.new s h).keep, (Step.new s h).dom⟩
theorem SR.push (s : SR K H ρ S) {p : Addr} {o : HO} {u : Ob} (h : H p = none) (hu : OR K (upd H p o) (ρ.push p) p u) : SR K (upd H p o) (ρ.push p) (S ++ [u]) := by
  refine ⟨by show (ρ.pl ++ [p]).length = _; rw [List.length_append, List.length_append, s.len]; rfl, ?_, fun a m e => s.bn a m ((Step.new (o := o) s h).dom a e), fun a m => (List.mem_append.mp m).elim (s.dj a) (fun z => by rw [List.mem_singleton.mp z]; exact (s.fresh h).2), fun n a w e1 e2 => ?_⟩
  · show (ρ.pl ++ [p]).Nodup
    rw [List.nodup_append]
    refine ⟨s.nd, by simp, fun a ha b hb e => ?_⟩
    rw [List.mem_singleton] at hb
    subst hb; subst e
    exact s.freshP h ha
  · have e1 : (ρ.pl ++ [p])[n]? = some a := e1
    by_cases hn : n < ρ.pl.length
    · rw [List.getElem?_append_left hn] at e1
      rw [List.getElem?_append_left (by rw [← s.len]; exact hn)] at e2
      have z := s.ob n a w e1 e2
      obtain ⟨x, ex⟩ := z.some
      exact z.mono (Step.push s h) (upd_ne (ne_of_none ex h))
    · have hl : n = ρ.pl.length := by
        have := (List.getElem?_eq_some_iff.mp e1).1
        rw [List.length_append] at this
        simp at this
        omega
      subst hl
      rw [List.getElem?_append_right (Nat.le_refl _), Nat.sub_self] at e1
      rw [s.len, List.getElem?_append_right (Nat.le_refl _), Nat.sub_self] at e2
      have e1' : p = a := Option.some.inj e1
      have e2' : u = w := Option.some.inj e2
      subst e1'; subst e2'
      exact hu
/-- a place is written -/
theorem Step.write {n : Nat} {a : Addr} {o u : HO} (e : ρ.pl[n]? = some a) (h : H a = some u) : Step ρ ρ H (upd H a o) :=
  ⟨⟨[], by simp, by simp⟩, rfl, fun b w q nb => by
    have n : b ≠ a := fun z => nb (by rw [z]; exact List.mem_of_getElem? e)
    rw [upd_ne n]; exact q, fun b q => by
    by_cases z : b = a
    · subst z; rw [upd_same] at q; cases q
    · rw [upd_ne z] at q; exact q⟩
theorem SR.write (s : SR K H ρ S) {n : Nat} {a : Addr} {o : HO} {u : Ob} (e : ρ.pl[n]? = some a) (hs : ∃ w, H a = some w) (hu : OR K (upd H a o) ρ a u) : SR K (upd H a o) ρ (S.set n u) := by
  obtain ⟨w, hw⟩ := hs
  refine ⟨by rw [List.length_set]; exact s.len, s.nd, fun c m z => s.bn c m ((Step.write (o := o) e hw).dom c z), s.dj, fun m b x e1 e2 => ?_⟩
  by_cases hm : n = m
  · subst hm
    have hn : n < S.length := by rw [← s.len]; exact (List.getElem?_eq_some_iff.mp e).1
    rw [List.getElem?_set_self hn] at e2
    have e2' := Option.some.inj e2
    subst e2'
    rw [e] at e1
    have e1' := Option.some.inj e1
    subst e1'
    exact hu
  · rw [List.getElem?_set_ne hm] at e2
    have nb : b ≠ a := fun z => by
      subst z
      have h1 := List.getElem?_eq_some_iff.mp e
      have h2 := List.getElem?_eq_some_iff.mp e1
      obtain ⟨l1, g1⟩ := h1
      obtain ⟨l2, g2⟩ := h2
      rcases Nat.lt_or_gt_of_ne hm with l | l
      · exact (List.pairwise_iff_getElem.mp s.nd n m l1 l2 l) (g1.trans g2.symm)
      · exact (List.pairwise_iff_getElem.mp s.nd m n l2 l1 l) (g2.trans g1.symm)
    exact (s.ob m b x e1 e2).mono (Step.write e hw) (upd_ne nb)
/-- slots; what is not known of one is none -/
inductive RS (K : PySem.W.Frag) (H : Hp) (ρ : Ro) : St → Dl → Prop
  | nil : RS K H ρ [] []
  | no {x : Option V} {σ : St} {δ : Dl} (r : RS K H ρ σ δ) : RS K H ρ (x :: σ) (none :: δ)
  | yes {v : V} {d : D} {σ : St} {δ : Dl} (h : RV K H ρ v d) (r : RS K H ρ σ δ) : RS K H ρ (some v :: σ) (some d :: δ)
theorem RS.mono (s : Step ρ ρ' H H') : ∀ {σ : St} {δ : Dl}, RS K H ρ σ δ → RS K H' ρ' σ δ
  | _, _, .nil => .nil
  | _, _, .no r => .no (RS.mono s r)
  | _, _, .yes h r => .yes (h.mono s) (RS.mono s r)
theorem RS.get : ∀ {σ : St} {δ : Dl} {i : Nat} {d : D}, RS K H ρ σ δ → δ[i]? = some (some d) → ∃ v, σ[i]? = some (some v) ∧ RV K H ρ v d
  | _, _, _, _, .nil, h => by simp at h
  | _, _, 0, _, .no _, h => by simp at h
  | _, _, 0, _, .yes h _, e => by
    have e' := Option.some.inj (Option.some.inj e)
    exact ⟨_, rfl, e' ▸ h⟩
  | _, _, i + 1, _, .no r, e => RS.get (i := i) r e
  | _, _, i + 1, _, .yes _ r, e => RS.get (i := i) r e
theorem RS.set : ∀ {σ : St} {δ : Dl} {v : V} {d : D} (i : Nat), RS K H ρ σ δ → RV K H ρ v d → RS K H ρ (σ.set i (some v)) (δ.set i (some d))
  | _, _, _, _, _, .nil, _ => .nil
  | _, _, _, _, 0, .no r, q => .yes q r
  | _, _, _, _, 0, .yes _ r, q => .yes q r
  | _, _, _, _, i + 1, .no r, q => .no (RS.set i r q)
  | _, _, _, _, i + 1, .yes h r, q => .yes h (RS.set i r q)
theorem RS.del : ∀ {σ : St} {δ : Dl} (i : Nat) (x : Option V), RS K H ρ σ δ → RS K H ρ (σ.set i x) (δ.set i none)
  | _, _, _, _, .nil => .nil
  | _, _, 0, _, .no r => .no r
  | _, _, 0, _, .yes _ r => .no r
  | _, _, i + 1, x, .no r => .no (RS.del i x r)
  | _, _, i + 1, x, .yes h r => .yes h (RS.del i x r)
theorem RS.start {vs : List V} {ds : List D} (h : RVs K H ρ vs ds) (N : List Str) (n : Nat) (hn : N.length = n) : RS K H ρ (start N vs) (ds.map some ++ List.replicate (n - ds.length) none) := by
  subst hn
  unfold L2.start
  rw [h.len]
  generalize N.length - ds.length = m
  have z : ∀ m : Nat, RS K H ρ (List.replicate m none) (List.replicate m none) := fun m => by
    induction m with
    | zero => exact .nil
    | succ k ih => exact .no ih
  induction vs generalizing ds with
  | nil => cases h; exact z m
  | cons v vs ih => cases h with | cons h r => exact .yes h (ih r)
def wipeD (δ : Dl) : List Nat → Dl
  | [] => δ
  | v :: vs => (wipeD δ vs).set v none
theorem RS.wipe (h : RS K H ρ σ δ) : ∀ vs : List Nat, RS K H ρ (L2.wipe σ vs) (wipeD δ vs)
  | [] => h
  | v :: vs => RS.del v none (RS.wipe h vs)
end
theorem bnd {α β : Type} {o : Option α} {f : α → Option β} {r : β} (h : o.bind f = some r) : ∃ a, o = some a ∧ f a = some r := by
  cases o with
  | none => cases h
  | some a => exact ⟨a, rfl, h⟩
/-! ### what a piece of text does to slots and store -/
abbrev FE := Dl → Sg → Option (D × Sg)
abbrev FT := Dl → Sg → Option (Bool × Sg)
abbrev FA := Dl → Sg → Option (List D × Sg)
abbrev FO := Dl → Sg → Option (Option Int × Sg)
inductive Fl where
  | nx | rt (d : D) | bk | ct
abbrev FS := Dl → Sg → Option (Fl × Dl × Sg)
section
variable (K : PySem.W.Frag)
def tD (f : FE) : TE := fun σ H Q => ∃ ρ δ S d S', SR K H ρ S ∧ RS K H ρ σ δ ∧ f δ S = some (d, S') ∧ ∀ v H' ρ', Step ρ ρ' H H' → SR K H' ρ' S' → RV K H' ρ' v d → Q v H'
def tDT (f : FT) : TT := fun σ H Q => ∃ ρ δ S b S', SR K H ρ S ∧ RS K H ρ σ δ ∧ f δ S = some (b, S') ∧ ∀ H' ρ', Step ρ ρ' H H' → SR K H' ρ' S' → Q b H'
def tDA (f : FA) : TA := fun σ H Q => ∃ ρ δ S ds S', SR K H ρ S ∧ RS K H ρ σ δ ∧ f δ S = some (ds, S') ∧ ∀ vs H' ρ', Step ρ ρ' H H' → SR K H' ρ' S' → RVs K H' ρ' vs ds → Q vs H'
def tDO (f : FO) : TO := fun σ H Q => ∃ ρ δ S i S', SR K H ρ S ∧ RS K H ρ σ δ ∧ f δ S = some (i, S') ∧ ∀ H' ρ', Step ρ ρ' H H' → SR K H' ρ' S' → Q i H'
/-- what must follow of a flow -/
def EndsD (D : Ends) (ρ : Ro) (H : Hp) (δ' : Dl) (S' : Sg) : Fl → Prop
  | .nx => ∀ σ' H' ρ', Step ρ ρ' H H' → SR K H' ρ' S' → RS K H' ρ' σ' δ' → D.nx σ' H'
  | .rt d => ∀ v H' ρ', Step ρ ρ' H H' → SR K H' ρ' S' → RV K H' ρ' v d → D.rt v H'
  | .bk => ∀ σ' H' ρ', Step ρ ρ' H H' → SR K H' ρ' S' → RS K H' ρ' σ' δ' → D.bk σ' H'
  | .ct => ∀ σ' H' ρ', Step ρ ρ' H H' → SR K H' ρ' S' → RS K H' ρ' σ' δ' → D.ct σ' H'
def tDS (f : FS) : TS := fun D σ H => ∃ ρ δ S r δ' S', SR K H ρ S ∧ RS K H ρ σ δ ∧ f δ S = some (r, δ', S') ∧ EndsD K D ρ H δ' S' r
end
def JE (X : Cx) (e : Expr) (f : FE) : Prop := PE X e (tD X.K f)
def JT (X : Cx) (e : Expr) (f : FT) : Prop := PT X e (tDT X.K f)
def JW (X : Cx) (e : Expr) (f : FT) : Prop := PW X e (tDT X.K f)
def JA (X : Cx) (es : List Expr) (f : FA) : Prop := PA X es (tDA X.K f)
def JO (X : Cx) (e : Option Expr) (f : FO) : Prop := PO X e (tDO X.K f)
def JS (X : Cx) (s : Stmt) (f : FS) : Prop := PS X s (tDS X.K f)
def JSs (X : Cx) (ss : List Stmt) (f : FS) : Prop := PSs X ss (tDS X.K f)
theorem PE.imp {X : Cx} {e : Expr} {t t' : TE} (h : PE X e t) (i : ∀ σ H Q, t' σ H Q → t σ H Q) : PE X e t' := ⟨fun pins s σ H Q I q => h.run pins s σ H Q I (i σ H Q q)⟩
theorem PT.imp {X : Cx} {e : Expr} {t t' : TT} (h : PT X e t) (i : ∀ σ H Q, t' σ H Q → t σ H Q) : PT X e t' := ⟨fun pins s σ H Q I q => h.run pins s σ H Q I (i σ H Q q)⟩
theorem PA.imp {X : Cx} {e : List Expr} {t t' : TA} (h : PA X e t) (i : ∀ σ H Q, t' σ H Q → t σ H Q) : PA X e t' := by
  exact ⟨fun pos pins s σ H Q I q => h.run pos pins s σ H Q I (i σ H Q q)⟩
theorem PS.imp {X : Cx} {e : Stmt} {t t' : TS} (h : PS X e t) (i : ∀ D σ H, t' D σ H → t D σ H) : PS X e t' := ⟨fun pins s σ H D I q => h.run pins s σ H D I (i D σ H q)⟩
theorem PSs.imp {X : Cx} {e : List Stmt} {t t' : TS} (h : PSs X e t) (i : ∀ D σ H, t' D σ H → t D σ H) : PSs X e t' := ⟨fun pins s σ H D I q => h.run pins s σ H D I (i D σ H q)⟩
end DL
end
noncomputable section
namespace DL
open PySem L2
section
variable {K : PySem.W.Frag}
/-! ### names, constants -/
def varD (i : Nat) : FE := fun δ S => (δ[i]?).bind fun o => o.bind fun d => some (d, S)
def cD (d : D) : FE := fun _ S => some (d, S)
theorem le_var {i : Nat} : ∀ σ H Q, tD K (varD i) σ H Q → tVar i σ H Q := by
  rintro σ H Q ⟨ρ, δ, S, d, S', hS, hσ, e, q⟩
  obtain ⟨o, e1, e⟩ := bnd e
  obtain ⟨d', e2, e⟩ := bnd e
  cases e
  subst e2
  obtain ⟨v, hv, r⟩ := hσ.get e1
  exact ⟨v, hv, q v H ρ (Step.refl _ _) hS r⟩
theorem le_c {v : V} {d : D} (r : ∀ H ρ, RV K H ρ v d) : ∀ σ H Q, tD K (cD d) σ H Q → tC v σ H Q := by
  rintro σ H Q ⟨ρ, δ, S, d, S', hS, hσ, e, q⟩
  cases e
  exact q v H ρ (Step.refl _ _) hS (r H ρ)
/-! ### two values -/
abbrev O2 := D → D → Sg → Option (D × Sg)
def op2D (o : O2) (fa fb : FE) : FE := fun δ S => (fa δ S).bind fun p => (fb δ p.2).bind fun q => o p.1 q.1 q.2
def OpD (K : PySem.W.Frag) (r : R2) (o : O2) : Prop := ∀ x y H Q ρ S d e z S', SR K H ρ S → RV K H ρ x d → RV K H ρ y e → o d e S = some (z, S') →
  (∀ v H' ρ', Step ρ ρ' H H' → SR K H' ρ' S' → RV K H' ρ' v z → Q v H') → r x y H Q
theorem le_op {r : R2} {o : O2} {fa fb : FE} (h : OpD K r o) : ∀ σ H Q, tD K (op2D o fa fb) σ H Q → tOp r (tD K fa) (tD K fb) σ H Q := by
  rintro σ H Q ⟨ρ, δ, S, d, S', hS, hσ, e, q⟩
  obtain ⟨⟨x, S1⟩, e1, e⟩ := bnd e
  obtain ⟨⟨y, S2⟩, e2, e⟩ := bnd e
  refine ⟨ρ, δ, S, x, S1, hS, hσ, e1, fun v H1 ρ1 s1 hS1 rv => ⟨ρ1, δ, S1, y, S2, hS1, hσ.mono s1, e2, fun w H2 ρ2 s2 hS2 rw' => ?_⟩⟩
  exact h _ _ _ _ _ _ _ _ _ _ hS2 (rv.mono s2) rw' e fun z H3 ρ3 s3 hS3 rz => q z H3 ρ3 ((s1.trans s2).trans s3) hS3 rz
theorem OpD.or {r1 r2 : R2} {o1 o2 : O2} (h1 : OpD K r1 o1) (h2 : OpD K r2 o2) : OpD K (fun x y H Q => r1 x y H Q ∨ r2 x y H Q) (fun d e S => (o1 d e S).or (o2 d e S)) := by
  intro x y H Q ρ S d e z S' hS rx ry eq q
  cases h : o1 d e S with
  | some p =>
    dsimp only at eq
    rw [h] at eq
    exact .inl (h1 x y H Q ρ S d e z S' hS rx ry (h.trans eq) q)
  | none =>
    dsimp only at eq
    rw [h] at eq
    exact .inr (h2 x y H Q ρ S d e z S' hS rx ry eq q)
theorem OpR_or {X : Cx} {f : Value → Value → Sem Value} {r1 r2 : R2} (h1 : OpR X f r1) (h2 : OpR X f r2) : OpR X f (fun x y H Q => r1 x y H Q ∨ r2 x y H Q) := by
  intro pins s σ H x y u v Q I rx ry h
  rcases h with h | h
  · exact h1 pins s σ H x y u v Q I rx ry h
  · exact h2 pins s σ H x y u v Q I rx ry h
/-- of two numbers -/
def intO (C : Int → Int → Prop) [∀ i j, Decidable (C i j)] (g : Int → Int → D) : O2 := fun d e S => match d, e with
  | .int i, .int j => if C i j then some (g i j, S) else none
  | _, _ => none
def int0 (g : Int → Int → D) : O2 := fun d e S => match d, e with
  | .int i, .int j => some (g i j, S)
  | _, _ => none
inductive Plain : V → D → Prop
  | non : Plain .non .non
  | bl {b : Bool} : Plain (.bl b) (.bl b)
  | int {i : Int} : Plain (.int i) (.int i)
  | str {z : Str} : Plain (.str z) (.str z)
  | ty {n : String} : Plain (.ty n) (.ty n)
theorem Plain.rv {v : V} {d : D} (h : Plain v d) {H : Hp} {ρ : Ro} : RV K H ρ v d := by
  cases h <;> constructor
theorem opD_int {C C' : Int → Int → Prop} [∀ i j, Decidable (C i j)] {g : Int → Int → V} {g' : Int → Int → D} (hC : ∀ i j, C i j → C' i j) (hg : ∀ i j, Plain (g i j) (g' i j)) : OpD K (rI C' g) (intO C g') := by
  intro x y H Q ρ S d e z S' hS rx ry eq q
  unfold intO at eq
  split at eq
  · cases rx; cases ry
    split at eq
    · cases eq
      exact ⟨_, _, rfl, rfl, hC _ _ ‹_›, q _ H ρ (Step.refl _ _) hS (hg _ _).rv⟩
    · cases eq
  · cases eq
theorem opD_int0 {g : Int → Int → V} {g' : Int → Int → D} (hg : ∀ i j, Plain (g i j) (g' i j)) : OpD K (rI0 g) (int0 g') := by
  intro x y H Q ρ S d e z S' hS rx ry eq q
  unfold int0 at eq
  split at eq
  · cases rx; cases ry
    cases eq
    exact ⟨_, _, rfl, rfl, q _ H ρ (Step.refl _ _) hS (hg _ _).rv⟩
  · cases eq
/-! ### one value -/
abbrev O1 := D → Sg → Option (D × Sg)
def op1D (o : O1) (fa : FE) : FE := fun δ S => (fa δ S).bind fun p => o p.1 p.2
def UnD (K : PySem.W.Frag) (r : V → Hp → VK → Prop) (o : O1) : Prop := ∀ x H Q ρ S d z S', SR K H ρ S → RV K H ρ x d → o d S = some (z, S') →
  (∀ v H' ρ', Step ρ ρ' H H' → SR K H' ρ' S' → RV K H' ρ' v z → Q v H') → r x H Q
theorem le_un {r : V → Hp → VK → Prop} {o : O1} {fa : FE} (h : UnD K r o) : ∀ σ H Q, tD K (op1D o fa) σ H Q → tUn r (tD K fa) σ H Q := by
  rintro σ H Q ⟨ρ, δ, S, d, S', hS, hσ, e, q⟩
  obtain ⟨⟨x, S1⟩, e1, e⟩ := bnd e
  refine ⟨ρ, δ, S, x, S1, hS, hσ, e1, fun v H1 ρ1 s1 hS1 rv => ?_⟩
  exact h _ _ _ _ _ _ _ _ hS1 rv e fun z H3 ρ3 s3 hS3 rz => q z H3 ρ3 (s1.trans s3) hS3 rz
def negO : O1 := fun d S => match d with
  | .int i => some (.int (-i), S)
  | _ => none
theorem unD_neg : UnD K (rU fun i => .int (-i)) negO := by
  intro x H Q ρ S d z S' hS rx eq q
  unfold negO at eq
  split at eq
  · cases rx
    cases eq
    exact ⟨_, rfl, q _ H ρ (Step.refl _ _) hS .int⟩
  · cases eq
/-! ### comparisons of numbers; is None -/
def cmpO (p : Int → Int → Bool) : O2 := int0 fun i j => .bl (p i j)
theorem le_cmp {p : Int → Int → Bool} {fa fb : FE} : ∀ σ H Q, tD K (op2D (cmpO p) fa fb) σ H Q → tCmp p (tD K fa) (tD K fb) σ H Q := fun σ H Q h =>
  le_op (r := rI0 fun i j => .bl (p i j)) (opD_int0 fun _ _ => .bl) σ H Q h
def isNoneB : D → Bool
  | .non => true
  | _ => false
def isNO (neg : Bool) : O1 := fun d S => some (.bl (if neg then !isNoneB d else isNoneB d), S)
theorem isNone_rv {H : Hp} {ρ : Ro} {v : V} {d : D} (r : RV K H ρ v d) : decide (v = .non) = isNoneB d := by
  cases r <;> first | rfl | (rw [decide_eq_false (by intro h; cases h)]; rfl)
theorem le_isN {fa : FE} : ∀ σ H Q, tD K (op1D (isNO false) fa) σ H Q → tIsN (tD K fa) σ H Q := by
  rintro σ H Q ⟨ρ, δ, S, d, S', hS, hσ, e, q⟩
  obtain ⟨⟨x, S1⟩, e1, e⟩ := bnd e
  cases e
  refine ⟨ρ, δ, S, x, S1, hS, hσ, e1, fun v H1 ρ1 s1 hS1 rv => ?_⟩
  show Q (.bl (decide (v = .non))) H1
  rw [isNone_rv rv]
  exact q _ H1 ρ1 s1 hS1 .bl
theorem le_notN {fa : FE} : ∀ σ H Q, tD K (op1D (isNO true) fa) σ H Q → tNotN (tD K fa) σ H Q := by
  rintro σ H Q ⟨ρ, δ, S, d, S', hS, hσ, e, q⟩
  obtain ⟨⟨x, S1⟩, e1, e⟩ := bnd e
  cases e
  refine ⟨ρ, δ, S, x, S1, hS, hσ, e1, fun v H1 ρ1 s1 hS1 rv => ?_⟩
  show Q (.bl (!decide (v = .non))) H1
  rw [isNone_rv rv]
  exact q _ H1 ρ1 s1 hS1 .bl
/-! ### tests -/
def isB : D → Option Bool
  | .bl b => some b
  | _ => none
theorem isB_some {d : D} {b : Bool} (h : isB d = some b) : d = .bl b := by
  unfold isB at h
  split at h
  · cases h; rfl
  · cases h
def tvD (f : FE) : FT := fun δ S => (f δ S).bind fun p => (isB p.1).bind fun b => some (b, p.2)
theorem le_B {f : FE} : ∀ σ H Q, tDT K (tvD f) σ H Q → tB (tD K f) σ H Q := by
  rintro σ H Q ⟨ρ, δ, S, b, S', hS, hσ, e, q⟩
  obtain ⟨⟨x, S1⟩, e1, e⟩ := bnd e
  obtain ⟨b', e2, e⟩ := bnd e
  cases e
  refine ⟨ρ, δ, S, x, S1, hS, hσ, e1, fun v H1 ρ1 s1 hS1 rv => ?_⟩
  have e2' := isB_some e2
  dsimp only at e2'
  subst e2'
  cases rv
  exact ⟨_, rfl, q H1 ρ1 s1 hS1⟩
theorem le_test {f : FE} : ∀ σ H Q, tDT K (tvD f) σ H Q → tTest (tD K f) σ H Q := le_B
def notD (f : FT) : FT := fun δ S => (f δ S).bind fun p => some (!p.1, p.2)
theorem le_not {f : FT} : ∀ σ H Q, tDT K (notD f) σ H Q → tNot (tDT K f) σ H Q := by
  rintro σ H Q ⟨ρ, δ, S, b, S', hS, hσ, e, q⟩
  obtain ⟨⟨x, S1⟩, e1, e⟩ := bnd e
  cases e
  exact ⟨ρ, δ, S, x, S1, hS, hσ, e1, q⟩
def andD (f g : FT) : FT := fun δ S => (f δ S).bind fun p => if p.1 = true then g δ p.2 else some (false, p.2)
def orD (f g : FT) : FT := fun δ S => (f δ S).bind fun p => if p.1 = true then some (true, p.2) else g δ p.2
theorem le_and {f g : FT} : ∀ σ H Q, tDT K (andD f g) σ H Q → tAnd (tDT K f) (tDT K g) σ H Q := by
  rintro σ H Q ⟨ρ, δ, S, b, S', hS, hσ, e, q⟩
  obtain ⟨⟨x, S1⟩, e1, e⟩ := bnd e
  refine ⟨ρ, δ, S, x, S1, hS, hσ, e1, fun H1 ρ1 s1 hS1 => ?_⟩
  cases x with
  | true => exact ⟨ρ1, δ, S1, b, S', hS1, hσ.mono s1, e, fun H2 ρ2 s2 hS2 => q H2 ρ2 (s1.trans s2) hS2⟩
  | false => cases e; exact q H1 ρ1 s1 hS1
theorem le_or {f g : FT} : ∀ σ H Q, tDT K (orD f g) σ H Q → tOr (tDT K f) (tDT K g) σ H Q := by
  rintro σ H Q ⟨ρ, δ, S, b, S', hS, hσ, e, q⟩
  obtain ⟨⟨x, S1⟩, e1, e⟩ := bnd e
  refine ⟨ρ, δ, S, x, S1, hS, hσ, e1, fun H1 ρ1 s1 hS1 => ?_⟩
  cases x with
  | false => exact ⟨ρ1, δ, S1, b, S', hS1, hσ.mono s1, e, fun H2 ρ2 s2 hS2 => q H2 ρ2 (s1.trans s2) hS2⟩
  | true => cases e; exact q H1 ρ1 s1 hS1
def andV (f g : FE) : FE := fun δ S => (f δ S).bind fun p => (isB p.1).bind fun b => if b = true then g δ p.2 else some (.bl false, p.2)
def orV (f g : FE) : FE := fun δ S => (f δ S).bind fun p => (isB p.1).bind fun b => if b = true then some (.bl true, p.2) else g δ p.2
def notV (f : FE) : FE := fun δ S => (f δ S).bind fun p => (isB p.1).bind fun b => some (.bl (!b), p.2)
theorem le_andV {f g : FE} : ∀ σ H Q, tD K (andV f g) σ H Q → tAndV (tD K f) (tD K g) σ H Q := by
  rintro σ H Q ⟨ρ, δ, S, d, S', hS, hσ, e, q⟩
  obtain ⟨⟨x, S1⟩, e1, e⟩ := bnd e
  obtain ⟨b, e2, e⟩ := bnd e
  have e2' := isB_some e2
  dsimp only at e2'
  subst e2'
  refine ⟨ρ, δ, S, _, S1, hS, hσ, e1, fun v H1 ρ1 s1 hS1 rv => ?_⟩
  cases rv
  refine ⟨b, rfl, ?_⟩
  cases b with
  | true => exact ⟨ρ1, δ, S1, d, S', hS1, hσ.mono s1, e, fun v H2 ρ2 s2 hS2 rv => q v H2 ρ2 (s1.trans s2) hS2 rv⟩
  | false => cases e; exact q _ H1 ρ1 s1 hS1 .bl
theorem le_orV {f g : FE} : ∀ σ H Q, tD K (orV f g) σ H Q → tOrV (tD K f) (tD K g) σ H Q := by
  rintro σ H Q ⟨ρ, δ, S, d, S', hS, hσ, e, q⟩
  obtain ⟨⟨x, S1⟩, e1, e⟩ := bnd e
  obtain ⟨b, e2, e⟩ := bnd e
  have e2' := isB_some e2
  dsimp only at e2'
  subst e2'
  refine ⟨ρ, δ, S, _, S1, hS, hσ, e1, fun v H1 ρ1 s1 hS1 rv => ?_⟩
  cases rv
  refine ⟨b, rfl, ?_⟩
  cases b with
  | false => exact ⟨ρ1, δ, S1, d, S', hS1, hσ.mono s1, e, fun v H2 ρ2 s2 hS2 rv => q v H2 ρ2 (s1.trans s2) hS2 rv⟩
  | true => cases e; exact q _ H1 ρ1 s1 hS1 .bl
theorem le_notV {f : FE} : ∀ σ H Q, tD K (notV f) σ H Q → tNotV (tD K f) σ H Q := by
  rintro σ H Q ⟨ρ, δ, S, d, S', hS, hσ, e, q⟩
  obtain ⟨⟨x, S1⟩, e1, e⟩ := bnd e
  obtain ⟨b, e2, e⟩ := bnd e
  have e2' := isB_some e2
  dsimp only at e2'
  subst e2'
  cases e
  refine ⟨ρ, δ, S, _, S1, hS, hσ, e1, fun v H1 ρ1 s1 hS1 rv => ?_⟩
  cases rv
  exact ⟨b, rfl, q _ H1 ρ1 s1 hS1 .bl⟩
def iteV (c : FT) (f g : FE) : FE := fun δ S => (c δ S).bind fun p => if p.1 = true then f δ p.2 else g δ p.2
theorem le_ite {c : FT} {f g : FE} : ∀ σ H Q, tD K (iteV c f g) σ H Q → tIf (tDT K c) (tD K f) (tD K g) σ H Q := by
  rintro σ H Q ⟨ρ, δ, S, d, S', hS, hσ, e, q⟩
  obtain ⟨⟨x, S1⟩, e1, e⟩ := bnd e
  refine ⟨ρ, δ, S, x, S1, hS, hσ, e1, fun H1 ρ1 s1 hS1 => ?_⟩
  cases x with
  | true => exact ⟨ρ1, δ, S1, d, S', hS1, hσ.mono s1, e, fun v H2 ρ2 s2 hS2 rv => q v H2 ρ2 (s1.trans s2) hS2 rv⟩
  | false => exact ⟨ρ1, δ, S1, d, S', hS1, hσ.mono s1, e, fun v H2 ρ2 s2 hS2 rv => q v H2 ρ2 (s1.trans s2) hS2 rv⟩
def chainD (o o' : O2) (fa fb fc : FE) : FE := fun δ S => (fa δ S).bind fun p => (fb δ p.2).bind fun q => (o p.1 q.1 q.2).bind fun z => (isB z.1).bind fun b =>
  if b = true then (fc δ z.2).bind fun w => o' q.1 w.1 w.2 else some (.bl false, z.2)
theorem le_chain {r r' : R2} {o o' : O2} {fa fb fc : FE} (h : OpD K r o) (h' : OpD K r' o') : ∀ σ H Q, tD K (chainD o o' fa fb fc) σ H Q → tChain r r' (tD K fa) (tD K fb) (tD K fc) σ H Q := by
  rintro σ H Q ⟨ρ, δ, S, d, S', hS, hσ, e, q⟩
  obtain ⟨⟨x, S1⟩, e1, e⟩ := bnd e
  obtain ⟨⟨y, S2⟩, e2, e⟩ := bnd e
  obtain ⟨⟨z, S3⟩, e3, e⟩ := bnd e
  obtain ⟨b, e4, e⟩ := bnd e
  have e4' := isB_some e4
  dsimp only at e4'
  subst e4'
  refine ⟨ρ, δ, S, x, S1, hS, hσ, e1, fun v H1 ρ1 s1 hS1 rv => ⟨ρ1, δ, S1, y, S2, hS1, hσ.mono s1, e2, fun w H2 ρ2 s2 hS2 rw' => ?_⟩⟩
  refine h _ _ _ _ _ _ _ _ _ _ hS2 (rv.mono s2) rw' e3 fun z H3 ρ3 s3 hS3 rz => ?_
  cases rz
  refine ⟨b, rfl, ?_⟩
  have s13 := (s1.trans s2).trans s3
  cases b with
  | false => cases e; exact q _ H3 ρ3 s13 hS3 .bl
  | true =>
    obtain ⟨⟨w, S4⟩, e5, e⟩ := bnd (o := fc δ S3) e
    refine ⟨ρ3, δ, S3, w, S4, hS3, hσ.mono s13, e5, fun wv H4 ρ4 s4 hS4 rw4 => ?_⟩
    exact h' _ _ _ _ _ _ _ _ _ _ hS4 (rw'.mono (s3.trans s4)) rw4 e fun u H5 ρ5 s5 hS5 ru => q u H5 ρ5 ((s13.trans s4).trans s5) hS5 ru
/-! ### arguments, displays -/
def nilA : FA := fun _ S => some ([], S)
def consA (f : FE) (g : FA) : FA := fun δ S => (f δ S).bind fun p => (g δ p.2).bind fun q => some (p.1 :: q.1, q.2)
theorem le_nilA : ∀ σ H Q, tDA K nilA σ H Q → tNil σ H Q := by
  rintro σ H Q ⟨ρ, δ, S, ds, S', hS, hσ, e, q⟩
  cases e
  exact q [] H ρ (Step.refl _ _) hS .nil
theorem le_consA {f : FE} {g : FA} : ∀ σ H Q, tDA K (consA f g) σ H Q → tCons (tD K f) (tDA K g) σ H Q := by
  rintro σ H Q ⟨ρ, δ, S, ds, S', hS, hσ, e, q⟩
  obtain ⟨⟨x, S1⟩, e1, e⟩ := bnd e
  obtain ⟨⟨y, S2⟩, e2, e⟩ := bnd e
  cases e
  refine ⟨ρ, δ, S, x, S1, hS, hσ, e1, fun v H1 ρ1 s1 hS1 rv => ⟨ρ1, δ, S1, y, S2, hS1, hσ.mono s1, e2, fun w H2 ρ2 s2 hS2 rw' => ?_⟩⟩
  exact q _ H2 ρ2 (s1.trans s2) hS2 (.cons (rv.mono s2) rw')
def tupD (f : FA) : FE := fun δ S => (f δ S).bind fun p => if Fits (p.1.length) then some (.tup p.1, p.2) else none
def lstD (f : FA) : FE := fun δ S => (f δ S).bind fun p => if Fits (p.1.length) then some (.lst p.1, p.2) else none
/-- a list that will be changed: a new place -/
def newD (f : FA) : FE := fun δ S => (f δ S).bind fun p => if Fits (p.1.length) then some (.loc p.2.length, p.2 ++ [.lst p.1]) else none
theorem rv_tup {ρ : Ro} {H : Hp} {S : Sg} {p : Addr} {vs : List V} {ds : List D} (hS : SR K H ρ S) (h : H p = none) (r : RVs K H ρ vs ds) : RV K (upd H p (.tup vs)) ρ (.ref p) (.tup ds) :=
  .tup upd_same (hS.fresh h) (r.mono (Step.new hS h))
theorem rv_lst {ρ : Ro} {H : Hp} {S : Sg} {p : Addr} {vs : List V} {ds : List D} (hS : SR K H ρ S) (h : H p = none) (r : RVs K H ρ vs ds) : RV K (upd H p (.lst vs)) ρ (.ref p) (.lst ds) :=
  .lst upd_same (hS.fresh h) (r.mono (Step.new hS h))
theorem rv_new {ρ : Ro} {H : Hp} {S : Sg} {p : Addr} {vs : List V} {ds : List D} (hS : SR K H ρ S) (h : H p = none) (r : RVs K H ρ vs ds) :
    SR K (upd H p (.lst vs)) (ρ.push p) (S ++ [.lst ds]) ∧ RV K (upd H p (.lst vs)) (ρ.push p) (.ref p) (.loc S.length) := by
  refine ⟨hS.push h ⟨vs, upd_same, r.mono (Step.push hS h)⟩, .loc ?_⟩
  show (ρ.pl ++ [p])[S.length]? = some p
  rw [← hS.len, List.getElem?_append_right (Nat.le_refl _), Nat.sub_self]
  rfl
theorem le_tup {f : FA} : ∀ σ H Q, tD K (tupD f) σ H Q → tTup (tDA K f) σ H Q := by
  rintro σ H Q ⟨ρ, δ, S, d, S', hS, hσ, e, q⟩
  obtain ⟨⟨x, S1⟩, e1, e⟩ := bnd e
  dsimp only at e
  split at e
  · cases e
    refine ⟨ρ, δ, S, x, _, hS, hσ, e1, fun vs H1 ρ1 s1 hS1 r => ⟨?_, fun p hp => ?_⟩⟩
    · rw [r.len]; exact Fits.le ‹_›
    · exact q _ _ ρ1 (s1.trans (Step.new hS1 hp)) (hS1.new hp) (rv_tup hS1 hp r)
  · cases e
theorem le_lst {f : FA} : ∀ σ H Q, tD K (lstD f) σ H Q → tLst (tDA K f) σ H Q := by
  rintro σ H Q ⟨ρ, δ, S, d, S', hS, hσ, e, q⟩
  obtain ⟨⟨x, S1⟩, e1, e⟩ := bnd e
  dsimp only at e
  split at e
  · cases e
    refine ⟨ρ, δ, S, x, _, hS, hσ, e1, fun vs H1 ρ1 s1 hS1 r => ⟨?_, fun p hp => ?_⟩⟩
    · rw [r.len]; exact Fits.le ‹_›
    · exact q _ _ ρ1 (s1.trans (Step.new hS1 hp)) (hS1.new hp) (rv_lst hS1 hp r)
  · cases e
theorem le_new {f : FA} : ∀ σ H Q, tD K (newD f) σ H Q → tLst (tDA K f) σ H Q := by
  rintro σ H Q ⟨ρ, δ, S, d, S', hS, hσ, e, q⟩
  obtain ⟨⟨x, S1⟩, e1, e⟩ := bnd e
  dsimp only at e
  split at e
  · cases e
    refine ⟨ρ, δ, S, x, _, hS, hσ, e1, fun vs H1 ρ1 s1 hS1 r => ⟨?_, fun p hp => ?_⟩⟩
    · rw [r.len]; exact Fits.le ‹_›
    · obtain ⟨a, b⟩ := rv_new hS1 hp r
      exact q _ _ _ (s1.trans (Step.push hS1 hp)) a b
  · cases e
/-! ### items of lists and tuples -/
/-- the items of a list -/
def lsOf (S : Sg) : D → Option (List D)
  | .lst ds => some ds
  | .rol ds => some ds
  | .loc n => match S[n]? with
    | some (.lst ds) => some ds
    | _ => none
  | _ => none
def tpOf : D → Option (List D)
  | .tup ds => some ds
  | _ => none
def sqOf (S : Sg) (d : D) : Option (List D) := (lsOf S d).or (tpOf d)
theorem lsOf_sq {ρ : Ro} {H : Hp} {S : Sg} {v : V} {d : D} {ds : List D} (hS : SR K H ρ S) (r : RV K H ρ v d) (h : lsOf S d = some ds) : ∃ a vs, v = .ref a ∧ SqL K H a vs ∧ RVs K H ρ vs ds := by
  unfold lsOf at h
  split at h
  · cases h
    cases r with | lst h n r => exact ⟨_, _, rfl, SqL.of h, r⟩
  · cases h
    cases r with | rol h r => exact ⟨_, _, rfl, h.sq, r⟩
  · rename_i n
    cases r with
    | loc hn =>
      split at h
      · rename_i ds' e
        cases h
        obtain ⟨vs, h1, h2⟩ := hS.ob _ _ _ hn e
        exact ⟨_, vs, rfl, SqL.of h1, h2⟩
      · cases h
  · cases h
/-- a list that may be joined, repeated -/
def plOf (S : Sg) : D → Option (List D)
  | .lst ds => some ds
  | .loc n => match S[n]? with
    | some (.lst ds) => some ds
    | _ => none
  | _ => none
theorem plOf_sq {ρ : Ro} {H : Hp} {S : Sg} {v : V} {d : D} {ds : List D} (hS : SR K H ρ S) (r : RV K H ρ v d) (h : plOf S d = some ds) : ∃ a vs, v = .ref a ∧ H a = some (.lst vs) ∧ RVs K H ρ vs ds := by
  unfold plOf at h
  split at h
  · cases h
    cases r with | lst h n r => exact ⟨_, _, rfl, h, r⟩
  · rename_i n
    cases r with
    | loc hn =>
      split at h
      · rename_i ds' e
        cases h
        obtain ⟨vs, h1, h2⟩ := hS.ob _ _ _ hn e
        exact ⟨_, vs, rfl, h1, h2⟩
      · cases h
  · cases h
theorem tpOf_sq {ρ : Ro} {H : Hp} {v : V} {d : D} {ds : List D} (r : RV K H ρ v d) (h : tpOf d = some ds) : ∃ a vs, v = .ref a ∧ SqT K H a vs ∧ RVs K H ρ vs ds := by
  unfold tpOf at h
  split at h
  · cases h
    cases r with | tup h n r => exact ⟨_, _, rfl, SqT.of h, r⟩
  · cases h
theorem sqOf_sq {ρ : Ro} {H : Hp} {S : Sg} {v : V} {d : D} {ds : List D} (hS : SR K H ρ S) (r : RV K H ρ v d) (h : sqOf S d = some ds) : ∃ a vs, v = .ref a ∧ (SqL K H a vs ∨ SqT K H a vs) ∧ RVs K H ρ vs ds := by
  unfold sqOf at h
  cases e : lsOf S d with
  | some es =>
    rw [e] at h
    cases h
    obtain ⟨a, vs, h1, h2, h3⟩ := lsOf_sq hS r e
    exact ⟨a, vs, h1, .inl h2, h3⟩
  | none =>
    rw [e] at h
    obtain ⟨a, vs, h1, h2, h3⟩ := tpOf_sq r h
    exact ⟨a, vs, h1, .inr h2, h3⟩
theorem atI_rv {ρ : Ro} {H : Hp} {vs : List V} {ds : List D} {i : Int} {d : D} (r : RVs K H ρ vs ds) (h : atI ds i = some d) : ∃ v, atI vs i = some v ∧ RV K H ρ v d := by
  unfold atI at h ⊢
  rw [r.len]
  obtain ⟨j, e, h⟩ := bnd h
  rw [e]
  obtain ⟨v, hv, rv⟩ := r.get h
  exact ⟨v, hv, rv⟩
def ixO : O2 := fun d e S => match e with
  | .int i => match sqOf S d with
    | some ds => (atI ds i).bind fun x => some (x, S)
    | none => match d with
      | .str z => if Fits (z.length) then (atI z.cps.toList i).bind fun c => some (.str ⟨#[c]⟩, S) else none
      | _ => none
  | _ => none
theorem opD_ix : OpD K (rIx K) ixO := by
  intro x y H Q ρ S d e z S' hS rx ry eq q
  unfold ixO at eq
  split at eq
  · rename_i i
    cases ry
    split at eq
    · rename_i ds hds
      obtain ⟨w, ew, eq⟩ := bnd eq
      cases eq
      obtain ⟨a, vs, rfl, hsq, r⟩ := sqOf_sq hS rx hds
      obtain ⟨v, hv, rv⟩ := atI_rv r ew
      rcases hsq with hq | hq
      · exact .inl ⟨a, vs, i, v, rfl, rfl, hq, hv, q v H ρ (Step.refl _ _) hS rv⟩
      · exact .inr (.inl ⟨a, vs, i, v, rfl, rfl, hq, hv, q v H ρ (Step.refl _ _) hS rv⟩)
    · split at eq
      · rename_i z'
        cases rx
        split at eq
        · obtain ⟨c, ec, eq⟩ := bnd eq
          cases eq
          exact .inr (.inr ⟨_, i, c, rfl, rfl, Fits.le ‹_›, ec, q _ H ρ (Step.refl _ _) hS .str⟩)
        · cases eq
      · cases eq
  · cases eq
/-! ### slices -/
def noO : FO := fun _ S => some (none, S)
def isI : D → Option Int
  | .int i => some i
  | _ => none
theorem isI_some {d : D} {i : Int} (h : isI d = some i) : d = .int i := by
  unfold isI at h
  split at h
  · cases h; rfl
  · cases h
def someO (f : FE) : FO := fun δ S => (f δ S).bind fun p => (isI p.1).bind fun i => some (some i, p.2)
theorem le_noO : ∀ σ H Q, tDO K noO σ H Q → tNoPart σ H Q := by
  rintro σ H Q ⟨ρ, δ, S, d, S', hS, hσ, e, q⟩
  cases e
  exact q H ρ (Step.refl _ _) hS
theorem le_someO {f : FE} : ∀ σ H Q, tDO K (someO f) σ H Q → tPart (tD K f) σ H Q := by
  rintro σ H Q ⟨ρ, δ, S, d, S', hS, hσ, e, q⟩
  obtain ⟨⟨x, S1⟩, e1, e⟩ := bnd e
  obtain ⟨i, e2, e⟩ := bnd e
  have e2' := isI_some e2
  dsimp only at e2'
  subst e2'
  cases e
  refine ⟨ρ, δ, S, _, S1, hS, hσ, e1, fun v H1 ρ1 s1 hS1 rv => ?_⟩
  cases rv
  exact ⟨_, rfl, q H1 ρ1 s1 hS1⟩
def cutD (xs : List D) (lo hi : Option Int) : List D := (xs.drop (HT.sIx xs.length 0 lo)).take (HT.sIx xs.length xs.length hi - HT.sIx xs.length 0 lo)
theorem cut_rv {ρ : Ro} {H : Hp} {vs : List V} {ds : List D} (r : RVs K H ρ vs ds) (lo hi : Option Int) : RVs K H ρ (cutV vs lo hi) (cutD ds lo hi) := by
  unfold cutV cutD
  rw [r.len]
  exact (r.drop _).take _
abbrev O3 := D → Option Int → Option Int → Sg → Option (D × Sg)
def slD (o : O3) (f : FE) (g h : FO) : FE := fun δ S => (f δ S).bind fun p => (g δ p.2).bind fun q => (h δ q.2).bind fun r => o p.1 q.1 r.1 r.2
def SlD (K : PySem.W.Frag) (r : V → Option Int → Option Int → Hp → VK → Prop) (o : O3) : Prop := ∀ x lo hi H Q ρ S d z S', SR K H ρ S → RV K H ρ x d → o d lo hi S = some (z, S') →
  (∀ v H' ρ', Step ρ ρ' H H' → SR K H' ρ' S' → RV K H' ρ' v z → Q v H') → r x lo hi H Q
theorem le_sl {r : V → Option Int → Option Int → Hp → VK → Prop} {o : O3} {f : FE} {g h : FO} (ho : SlD K r o) : ∀ σ H Q, tD K (slD o f g h) σ H Q → tSl r (tD K f) (tDO K g) (tDO K h) σ H Q := by
  rintro σ H Q ⟨ρ, δ, S, d, S', hS, hσ, e, q⟩
  obtain ⟨⟨x, S1⟩, e1, e⟩ := bnd e
  obtain ⟨⟨y, S2⟩, e2, e⟩ := bnd e
  obtain ⟨⟨w, S3⟩, e3, e⟩ := bnd e
  refine ⟨ρ, δ, S, x, S1, hS, hσ, e1, fun v H1 ρ1 s1 hS1 rv => ⟨ρ1, δ, S1, y, S2, hS1, hσ.mono s1, e2, fun H2 ρ2 s2 hS2 => ⟨ρ2, δ, S2, w, S3, hS2, hσ.mono (s1.trans s2), e3, fun H3 ρ3 s3 hS3 => ?_⟩⟩⟩
  exact ho _ _ _ _ _ _ _ _ _ _ hS3 (rv.mono (s2.trans s3)) e fun z H4 ρ4 s4 hS4 rz => q z H4 ρ4 (((s1.trans s2).trans s3).trans s4) hS4 rz
/-- of a list, kept for good -/
def slLO : O3 := fun d lo hi S => (lsOf S d).bind fun ds => some (.lst (cutD ds lo hi), S)
theorem slD_L : SlD K (rSlL K) slLO := by
  intro x lo hi H Q ρ S d z S' hS rx eq q
  obtain ⟨ds, e, eq⟩ := bnd eq
  cases eq
  obtain ⟨a, vs, rfl, h2, r⟩ := lsOf_sq hS rx e
  exact ⟨a, vs, rfl, h2, fun p hp => q _ _ ρ (Step.new hS hp) (hS.new hp) (rv_lst hS hp (cut_rv r lo hi))⟩
/-- of a list, to be changed -/
def slNO : O3 := fun d lo hi S => (lsOf S d).bind fun ds => some (.loc S.length, S ++ [.lst (cutD ds lo hi)])
theorem slD_N : SlD K (rSlL K) slNO := by
  intro x lo hi H Q ρ S d z S' hS rx eq q
  obtain ⟨ds, e, eq⟩ := bnd eq
  cases eq
  obtain ⟨a, vs, rfl, h2, r⟩ := lsOf_sq hS rx e
  refine ⟨a, vs, rfl, h2, fun p hp => ?_⟩
  obtain ⟨c1, c2⟩ := rv_new hS hp (cut_rv r lo hi)
  exact q _ _ _ (Step.push hS hp) c1 c2
def slTO : O3 := fun d lo hi S => (tpOf d).bind fun ds => if HT.sIx ds.length 0 lo = 0 ∧ HT.sIx ds.length ds.length hi = ds.length then none else some (.tup (cutD ds lo hi), S)
theorem slD_T : SlD K (rSlT K) slTO := by
  intro x lo hi H Q ρ S d z S' hS rx eq q
  obtain ⟨ds, e, eq⟩ := bnd eq
  split at eq
  · cases eq
  · cases eq
    obtain ⟨a, vs, rfl, h2, r⟩ := tpOf_sq rx e
    rename_i hn
    refine ⟨a, vs, rfl, h2, by rw [r.len]; exact hn, fun p hp => q _ _ ρ (Step.new hS hp) (hS.new hp) (rv_tup hS hp (cut_rv r lo hi))⟩
/-! ### calls of Python's own -/
abbrev OC := List D → Sg → Option (D × Sg)
def CbD (K : PySem.W.Frag) (r : List V → Hp → VK → Prop) (o : OC) : Prop := ∀ xs H Q ρ S ds z S', SR K H ρ S → RVs K H ρ xs ds → o ds S = some (z, S') →
  (∀ v H' ρ', Step ρ ρ' H H' → SR K H' ρ' S' → RV K H' ρ' v z → Q v H') → r xs H Q
def cbD (o : OC) (f : FA) : FE := fun δ S => (f δ S).bind fun p => o p.1 p.2
theorem le_cb {r : List V → Hp → VK → Prop} {o : OC} {f : FA} (h : CbD K r o) : ∀ σ H Q, tD K (cbD o f) σ H Q → tCB r (tDA K f) σ H Q := by
  rintro σ H Q ⟨ρ, δ, S, d, S', hS, hσ, e, q⟩
  obtain ⟨⟨x, S1⟩, e1, e⟩ := bnd e
  refine ⟨ρ, δ, S, x, S1, hS, hσ, e1, fun vs H1 ρ1 s1 hS1 rv => ?_⟩
  exact h _ _ _ _ _ _ _ _ hS1 rv e fun z H3 ρ3 s3 hS3 rz => q z H3 ρ3 (s1.trans s3) hS3 rz
/-- a def of the text, by what it does: d the value, the store behind -/
abbrev Fn := List D → Sg → Option (D × Sg)
def spD (K : PySem.W.Frag) (n : Nat) (F : Fn) : Sp := fun vs H Q _ => ∃ ρ S ds d S', vs.length = n ∧ SR K H ρ S ∧ RVs K H ρ vs ds ∧ F ds S = some (d, S') ∧ ∀ v H' ρ', Step ρ ρ' H H' → SR K H' ρ' S' → RV K H' ρ' v d → Q v H'
/-- dvs: the defaults -/
def fnD (F : Fn) (dds : List D) (f : FA) : FE := fun δ S => (f δ S).bind fun p => F (p.1 ++ dds) p.2
theorem le_fn {n : Nat} {F : Fn} {dvs : List V} {dds : List D} {E : XK} {f : FA} (hd : ∀ H ρ, RVs K H ρ dvs dds) (hn : ∀ δ S ds S', f δ S = some (ds, S') → (ds ++ dds).length = n) : ∀ σ H Q, tD K (fnD F dds f) σ H Q → tCall (spD K n F) dvs E (tDA K f) σ H Q := by
  rintro σ H Q ⟨ρ, δ, S, d, S', hS, hσ, e, q⟩
  obtain ⟨⟨x, S1⟩, e1, e⟩ := bnd e
  refine ⟨ρ, δ, S, x, S1, hS, hσ, e1, fun vs H1 ρ1 s1 hS1 rv => ?_⟩
  have r2 := rv.append (hd H1 ρ1)
  exact ⟨ρ1, S1, _, d, S', by rw [r2.len]; exact hn _ _ _ _ e1, hS1, r2, e, fun v H2 ρ2 s2 hS2 rv => q v H2 ρ2 (s1.trans s2) hS2 rv⟩
end
end DL
end
noncomputable section
namespace DL
open PySem L2
section
variable {K : PySem.W.Frag}
/-! ### targets -/
abbrev FG := D → Dl → Sg → Option (Dl × Sg)
abbrev FGs := List D → Dl → Sg → Option (Dl × Sg)
def LG (K : PySem.W.Frag) (g : TG) (o : FG) : Prop := ∀ v σ H Q ρ δ S d δ' S', SR K H ρ S → RS K H ρ σ δ → RV K H ρ v d → o d δ S = some (δ', S') →
  (∀ σ' H' ρ', Step ρ ρ' H H' → SR K H' ρ' S' → RS K H' ρ' σ' δ' → Q σ' H') → g v σ H Q
def LGs (K : PySem.W.Frag) (g : TGs) (o : FGs) : Prop := ∀ vs σ H Q ρ δ S ds δ' S', SR K H ρ S → RS K H ρ σ δ → RVs K H ρ vs ds → o ds δ S = some (δ', S') →
  (∀ σ' H' ρ', Step ρ ρ' H H' → SR K H' ρ' S' → RS K H' ρ' σ' δ' → Q σ' H') → g vs σ H Q
def nmG (i : Nat) : FG := fun d δ S => some (δ.set i (some d), S)
theorem lg_nm {i : Nat} : LG K (gName i) (nmG i) := by
  intro v σ H Q ρ δ S d δ' S' hS hσ r e q
  cases e
  exact q _ H ρ (Step.refl _ _) hS (hσ.set i r)
def nilG : FGs := fun ds δ S => match ds with
  | [] => some (δ, S)
  | _ => none
def consG (t : FG) (u : FGs) : FGs := fun ds δ S => match ds with
  | d :: r => (t d δ S).bind fun p => u r p.1 p.2
  | _ => none
theorem lg_nil : LGs K gNil nilG := by
  intro vs σ H Q ρ δ S ds δ' S' hS hσ r e q
  cases r with
  | nil => cases e; exact ⟨rfl, q _ H ρ (Step.refl _ _) hS hσ⟩
  | cons _ _ => cases e
theorem lg_cons {g : TG} {gs : TGs} {t : FG} {u : FGs} (h : LG K g t) (hs : LGs K gs u) : LGs K (gCons g gs) (consG t u) := by
  intro vs σ H Q ρ δ S ds δ' S' hS hσ r e q
  cases r with
  | nil => cases e
  | cons r1 r2 =>
    obtain ⟨⟨δ1, S1⟩, e1, e⟩ := bnd e
    refine ⟨_, _, rfl, h _ _ _ _ _ _ _ _ _ _ hS hσ r1 e1 fun σ1 H1 ρ1 s1 hS1 hσ1 => ?_⟩
    exact hs _ _ _ _ _ _ _ _ _ _ hS1 hσ1 (r2.mono s1) e fun σ2 H2 ρ2 s2 hS2 hσ2 => q σ2 H2 ρ2 (s1.trans s2) hS2 hσ2
def tupG (n : Nat) (u : FGs) : FG := fun d δ S => (tpOf d).bind fun ds => if ds.length = n then u ds δ S else none
theorem lg_tup {n : Nat} {gs : TGs} {u : FGs} (h : LGs K gs u) : LG K (gTup K n gs) (tupG n u) := by
  intro v σ H Q ρ δ S d δ' S' hS hσ r e q
  obtain ⟨ds, e1, e⟩ := bnd e
  obtain ⟨a, vs, rfl, hq, rs⟩ := tpOf_sq r e1
  split at e
  · exact ⟨a, vs, rfl, hq, by rw [rs.len]; assumption, h _ _ _ _ _ _ _ _ _ _ hS hσ rs e q⟩
  · cases e
abbrev OSt := D → D → D → Sg → Option Sg
def StD (K : PySem.W.Frag) (t : TSet) (o : OSt) : Prop := ∀ x y v H Q ρ S d e z S', SR K H ρ S → RV K H ρ x d → RV K H ρ y e → RV K H ρ v z → o d e z S = some S' → (∀ H', Step ρ ρ H H' → SR K H' ρ S' → Q H') → t x y v H Q
def subG (o : OSt) (fo fi : FE) : FG := fun d δ S => (fo δ S).bind fun p => (fi δ p.2).bind fun q => (o p.1 q.1 d q.2).bind fun S' => some (δ, S')
theorem lg_sub {t : TSet} {o : OSt} {fo fi : FE} (h : StD K t o) : LG K (gSub (tD K fo) (tD K fi) t) (subG o fo fi) := by
  intro v σ H Q ρ δ S d δ' S' hS hσ r e q
  obtain ⟨⟨x, S1⟩, e1, e⟩ := bnd e
  obtain ⟨⟨y, S2⟩, e2, e⟩ := bnd e
  obtain ⟨S3, e3, e⟩ := bnd e
  cases e
  refine ⟨ρ, δ, S, x, S1, hS, hσ, e1, fun v1 H1 ρ1 s1 hS1 rv => ⟨ρ1, δ, S1, y, S2, hS1, hσ.mono s1, e2, fun w H2 ρ2 s2 hS2 rw' => ?_⟩⟩
  refine h _ _ _ _ _ _ _ _ _ _ _ hS2 (rv.mono s2) rw' (r.mono (s1.trans s2)) e3 fun H3 s3 hS3 => ?_
  exact q σ H3 ρ2 ((s1.trans s2).trans s3) hS3 (hσ.mono ((s1.trans s2).trans s3))
def setLO : OSt := fun d e z S => match d, e with
  | .loc n, .int k => match S[n]? with
    | some (.lst ds) => (ixN ds.length k).bind fun j => some (S.set n (.lst (ds.set j z)))
    | _ => none
  | _, _ => none
theorem stD_L : StD K rSetL setLO := by
  intro x y v H Q ρ S d e z S' hS rx ry rv eq q
  unfold setLO at eq
  split at eq
  · rename_i n k
    cases ry
    cases rx with
    | loc hn =>
      split at eq
      · rename_i ds hds
        obtain ⟨j, ej, eq⟩ := bnd eq
        cases eq
        obtain ⟨vs, h1, h2⟩ := hS.ob _ _ _ hn hds
        refine ⟨_, vs, k, j, rfl, rfl, h1, by rw [h2.len]; exact ej, ?_⟩
        have st : Step ρ ρ H (upd H _ (.lst (vs.set j v))) := Step.write hn h1
        exact q _ st (hS.write hn ⟨_, h1⟩ ⟨_, upd_same, (h2.set j rv).mono st⟩)
      · cases eq
  · cases eq
/-! ### statements -/
def nextS : FS := fun δ S => some (.nx, δ, S)
def seqS (f g : FS) : FS := fun δ S => (f δ S).bind fun r => match r.1 with
  | .nx => g r.2.1 r.2.2
  | _ => some r
theorem ls_next : ∀ D σ H, tDS K nextS D σ H → tNext D σ H := by
  rintro D σ H ⟨ρ, δ, S, r, δ', S', hS, hσ, e, q⟩
  cases e
  exact q σ H ρ (Step.refl _ _) hS hσ
theorem EndsD.step {D : Ends} {ρ ρ1 : Ro} {H H1 : Hp} {δ' : Dl} {S' : Sg} {r : Fl} (s : Step ρ ρ1 H H1) (h : EndsD K D ρ H δ' S' r) : EndsD K D ρ1 H1 δ' S' r := by
  cases r with
  | nx => exact fun σ' H' ρ' s' => h σ' H' ρ' (s.trans s')
  | rt d => exact fun v H' ρ' s' => h v H' ρ' (s.trans s')
  | bk => exact fun σ' H' ρ' s' => h σ' H' ρ' (s.trans s')
  | ct => exact fun σ' H' ρ' s' => h σ' H' ρ' (s.trans s')
theorem ls_seq {f g : FS} : ∀ D σ H, tDS K (seqS f g) D σ H → tSeq (tDS K f) (tDS K g) D σ H := by
  rintro D σ H ⟨ρ, δ, S, r, δ', S', hS, hσ, e, q⟩
  obtain ⟨⟨r1, δ1, S1⟩, e1, e⟩ := bnd e
  refine ⟨ρ, δ, S, r1, δ1, S1, hS, hσ, e1, ?_⟩
  cases r1 with
  | nx => exact fun σ1 H1 ρ1 s1 hS1 hσ1 => ⟨ρ1, δ1, S1, r, δ', S', hS1, hσ1, e, q.step s1⟩
  | rt d => cases e; exact q
  | bk => cases e; exact q
  | ct => cases e; exact q
def ifS (c : FT) (f g : FS) : FS := fun δ S => (c δ S).bind fun p => if p.1 = true then f δ p.2 else g δ p.2
theorem ls_if {c : FT} {f g : FS} : ∀ D σ H, tDS K (ifS c f g) D σ H → tIfS (tDT K c) (tDS K f) (tDS K g) D σ H := by
  rintro D σ H ⟨ρ, δ, S, r, δ', S', hS, hσ, e, q⟩
  obtain ⟨⟨x, S1⟩, e1, e⟩ := bnd e
  refine ⟨ρ, δ, S, x, S1, hS, hσ, e1, fun H1 ρ1 s1 hS1 => ?_⟩
  cases x with
  | true => exact ⟨ρ1, δ, S1, r, δ', S', hS1, hσ.mono s1, e, q.step s1⟩
  | false => exact ⟨ρ1, δ, S1, r, δ', S', hS1, hσ.mono s1, e, q.step s1⟩
def retS (f : FE) : FS := fun δ S => (f δ S).bind fun p => some (.rt p.1, δ, p.2)
theorem ls_ret {f : FE} : ∀ D σ H, tDS K (retS f) D σ H → tRet (tD K f) D σ H := by
  rintro D σ H ⟨ρ, δ, S, r, δ', S', hS, hσ, e, q⟩
  obtain ⟨⟨x, S1⟩, e1, e⟩ := bnd e
  cases e
  exact ⟨ρ, δ, S, x, S1, hS, hσ, e1, q⟩
def retNS : FS := fun δ S => some (.rt .non, δ, S)
theorem ls_retN : ∀ D σ H, tDS K retNS D σ H → tRetN D σ H := by
  rintro D σ H ⟨ρ, δ, S, r, δ', S', hS, hσ, e, q⟩
  cases e
  exact q _ H ρ (Step.refl _ _) hS .non
def breakS : FS := fun δ S => some (.bk, δ, S)
def contS : FS := fun δ S => some (.ct, δ, S)
theorem ls_break : ∀ D σ H, tDS K breakS D σ H → tBreak D σ H := by
  rintro D σ H ⟨ρ, δ, S, r, δ', S', hS, hσ, e, q⟩
  cases e
  exact q σ H ρ (Step.refl _ _) hS hσ
theorem ls_cont : ∀ D σ H, tDS K contS D σ H → tCont D σ H := by
  rintro D σ H ⟨ρ, δ, S, r, δ', S', hS, hσ, e, q⟩
  cases e
  exact q σ H ρ (Step.refl _ _) hS hσ
def dropS (f : FE) : FS := fun δ S => (f δ S).bind fun p => some (.nx, δ, p.2)
theorem ls_drop {f : FE} : ∀ D σ H, tDS K (dropS f) D σ H → tDrop (tD K f) D σ H := by
  rintro D σ H ⟨ρ, δ, S, r, δ', S', hS, hσ, e, q⟩
  obtain ⟨⟨x, S1⟩, e1, e⟩ := bnd e
  cases e
  exact ⟨ρ, δ, S, x, S1, hS, hσ, e1, fun v H1 ρ1 s1 hS1 _ => q σ H1 ρ1 s1 hS1 (hσ.mono s1)⟩
/-- a way that is never gone -/
def neverS : FS := fun _ _ => none
theorem ls_never : ∀ D σ H, tDS K neverS D σ H → tNever D σ H := by
  rintro D σ H ⟨ρ, δ, S, r, δ', S', hS, hσ, e, q⟩
  cases e
def asgS (f : FE) (g : FG) : FS := fun δ S => (f δ S).bind fun p => (g p.1 δ p.2).bind fun q => some (.nx, q.1, q.2)
theorem ls_asg {f : FE} {g : TG} {o : FG} (h : LG K g o) : ∀ D σ H, tDS K (asgS f o) D σ H → tAsg (tD K f) g D σ H := by
  rintro D σ H ⟨ρ, δ, S, r, δ', S', hS, hσ, e, q⟩
  obtain ⟨⟨x, S1⟩, e1, e⟩ := bnd e
  obtain ⟨⟨δ1, S2⟩, e2, e⟩ := bnd e
  cases e
  refine ⟨ρ, δ, S, x, S1, hS, hσ, e1, fun v H1 ρ1 s1 hS1 rv => ?_⟩
  exact h _ _ _ _ _ _ _ _ _ _ hS1 (hσ.mono s1) rv e2 fun σ2 H2 ρ2 s2 hS2 hσ2 => q σ2 H2 ρ2 (s1.trans s2) hS2 hσ2
def setS (i : Nat) (f : FE) : FS := fun δ S => (f δ S).bind fun p => some (.nx, δ.set i (some p.1), p.2)
theorem ls_set {i : Nat} {f : FE} : ∀ D σ H, tDS K (setS i f) D σ H → tAsg (tD K f) (gName i) D σ H := by
  rintro D σ H ⟨ρ, δ, S, r, δ', S', hS, hσ, e, q⟩
  obtain ⟨⟨x, S1⟩, e1, e⟩ := bnd e
  cases e
  exact ⟨ρ, δ, S, x, S1, hS, hσ, e1, fun v H1 ρ1 s1 hS1 rv => q _ H1 ρ1 s1 hS1 ((hσ.mono s1).set i rv)⟩
def parS (i j : Nat) (f : FA) : FS := fun δ S => (f δ S).bind fun p => match p.1 with
  | [x, y] => some (.nx, (δ.set i (some x)).set j (some y), p.2)
  | _ => none
theorem ls_par {i j : Nat} {f : FA} : ∀ D σ H, tDS K (parS i j f) D σ H → tPar i j (tDA K f) D σ H := by
  rintro D σ H ⟨ρ, δ, S, r, δ', S', hS, hσ, e, q⟩
  obtain ⟨⟨x, S1⟩, e1, e⟩ := bnd e
  dsimp only at e
  split at e
  · rename_i x1 y1
    cases e
    refine ⟨ρ, δ, S, _, _, hS, hσ, e1, fun vs H1 ρ1 s1 hS1 rv => ?_⟩
    cases rv with | cons r1 rv => cases rv with | cons r2 rv => cases rv with | nil =>
      exact ⟨_, _, rfl, q _ H1 ρ1 s1 hS1 (((hσ.mono s1).set i r1).set j r2)⟩
  · cases e
theorem varD_some {i : Nat} {δ : Dl} {S S' : Sg} {d : D} (h : varD i δ S = some (d, S')) : δ[i]? = some (some d) ∧ S' = S := by
  obtain ⟨o, e1, e⟩ := bnd h
  obtain ⟨d', e2, e⟩ := bnd e
  cases e
  exact ⟨by rw [e1, e2], rfl⟩
def augS (i : Nat) (f : FE) (o : O2) : FS := fun δ S => (varD i δ S).bind fun x => (f δ x.2).bind fun p => (o x.1 p.1 p.2).bind fun z => some (.nx, δ.set i (some z.1), z.2)
theorem ls_aug {i : Nat} {f : FE} {t : TIp} {o : O2} (h : OpD K t o) : ∀ D σ H, tDS K (augS i f o) D σ H → tAug i (tD K f) t D σ H := by
  rintro Dn σ H ⟨ρ, δ, S, r, δ', S', hS, hσ, e, q⟩
  obtain ⟨⟨d, S0⟩, e1, e0⟩ := bnd e
  obtain ⟨e7, rfl⟩ := varD_some e1
  obtain ⟨⟨y, S1⟩, e3, e5⟩ := bnd e0
  obtain ⟨⟨z, S2⟩, e4, e6⟩ := bnd e5
  cases e6
  obtain ⟨v, hv, rv⟩ := hσ.get e7
  refine ⟨v, hv, ρ, δ, _, y, S1, hS, hσ, e3, fun w H1 ρ1 s1 hS1 rw' => ?_⟩
  exact h _ _ _ _ _ _ _ _ _ _ hS1 (rv.mono s1) rw' e4 fun u H2 ρ2 s2 hS2 ru => q _ H2 ρ2 (s1.trans s2) hS2 ((hσ.mono (s1.trans s2)).set i ru)
theorem opD_ip {g : Int → Int → Int} : OpD K (ipI g) (int0 fun i j => .int (g i j)) := opD_int0 (g := fun i j => .int (g i j)) fun _ _ => .int
/-! ### attributes -/
def fsOf (S : Sg) (C : Addr) : D → Option (List (Str × D))
  | .ins C' ns ds => if C' = C then some (ns.zip ds) else none
  | .loc n => match S[n]? with
    | some (.ins C' gs) => if C' = C then some gs else none
    | _ => none
  | _ => none
theorem look_rv {ρ : Ro} {H : Hp} {f : Str} {d : D} : ∀ {fs : List (Str × V)} {gs : List (Str × D)}, fs.map (·.1) = gs.map (·.1) → RVs K H ρ (fs.map (·.2)) (gs.map (·.2)) → gs.lookup f = some d → ∃ v, fs.lookup f = some v ∧ RV K H ρ v d
  | [], [], _, _, h => by simp at h
  | [], _ :: _, e, _, _ => by simp at e
  | _ :: _, [], e, _, _ => by simp at e
  | (n, v) :: fs, (m, x) :: gs, e, r, h => by
    simp only [List.map_cons, List.cons.injEq] at e
    obtain ⟨e1, e2⟩ := e
    have e1' : n = m := e1
    subst e1'
    cases r with
    | cons r1 r2 =>
      rw [List.lookup_cons] at h ⊢
      cases hb : f == n with
      | true =>
        rw [hb] at h
        cases h
        exact ⟨v, rfl, r1⟩
      | false =>
        rw [hb] at h
        exact look_rv e2 r2 h
theorem look_none {f : Str} : ∀ {fs : List (Str × V)} {gs : List (Str × D)}, fs.map (·.1) = gs.map (·.1) → gs.lookup f = none → fs.lookup f = none
  | [], _, _, _ => rfl
  | _ :: _, [], e, _ => by simp at e
  | (n, v) :: fs, (m, x) :: gs, e, h => by
    simp only [List.map_cons, List.cons.injEq] at e
    obtain ⟨e1, e2⟩ := e
    have e1' : n = m := e1
    subst e1'
    rw [List.lookup_cons] at h ⊢
    cases hb : f == n with
    | true => rw [hb] at h; cases h
    | false => rw [hb] at h; exact look_none e2 h
theorem zip_map {α β : Type} : ∀ {ns : List α} {ds : List β}, ns.length = ds.length → (ns.zip ds).map (·.1) = ns ∧ (ns.zip ds).map (·.2) = ds
  | [], [], _ => ⟨rfl, rfl⟩
  | [], _ :: _, h => by simp at h
  | _ :: _, [], h => by simp at h
  | n :: ns, d :: ds, h => by
    obtain ⟨a, b⟩ := zip_map (ns := ns) (ds := ds) (by simpa using h)
    simp only [List.zip_cons_cons, List.map_cons, a, b, and_self]
theorem fsOf_sq {ρ : Ro} {H : Hp} {S : Sg} {C : Addr} {v : V} {d : D} {gs : List (Str × D)} (hS : SR K H ρ S) (r : RV K H ρ v d) (h : fsOf S C d = some gs) :
    ∃ a dx fs, v = .ref a ∧ H a = some (.ins C dx fs) ∧ fs.map (·.1) = gs.map (·.1) ∧ RVs K H ρ (fs.map (·.2)) (gs.map (·.2)) := by
  unfold fsOf at h
  split at h
  · split at h
    · cases h
      cases r with
      | ins h n r =>
        rename_i hc _ _ fs
        subst hc
        obtain ⟨z1, z2⟩ := zip_map (ns := fs.map (·.1)) (ds := ‹List D›) (by rw [List.length_map, ← r.len, List.length_map])
        exact ⟨_, _, _, rfl, h, z1.symm, by rw [z2]; exact r⟩
    · cases h
  · cases r with
    | loc hn =>
      split at h
      · rename_i hg
        split at h
        · cases h
          rename_i hc
          subst hc
          obtain ⟨dx, fs, h1, h2, h3⟩ := hS.ob _ _ _ hn hg
          exact ⟨_, dx, fs, rfl, h1, h2, h3⟩
        · cases h
      · cases h
  · cases h
def fldD (C : Addr) (f : Str) (fa : FE) : FE := fun δ S => (fa δ S).bind fun p => (fsOf p.2 C p.1).bind fun gs => (gs.lookup f).bind fun d => some (d, p.2)
theorem le_fld {C : Addr} {f : Str} {fa : FE} (c : Cls K C) (n : NoAttr K C f) : ∀ σ H Q, tD K (fldD C f fa) σ H Q → tFld K (tD K fa) f σ H Q := by
  rintro σ H Q ⟨ρ, δ, S, d, S', hS, hσ, e, q⟩
  obtain ⟨⟨x, S1⟩, e1, e⟩ := bnd e
  obtain ⟨gs, e2, e⟩ := bnd e
  obtain ⟨y, e3, e⟩ := bnd e
  cases e
  refine ⟨ρ, δ, S, x, S1, hS, hσ, e1, fun v H1 ρ1 s1 hS1 rv => ?_⟩
  obtain ⟨a, dx, fs, rfl, h1, h2, h3⟩ := fsOf_sq hS1 rv e2
  obtain ⟨w, hw, rw'⟩ := look_rv h2 h3 e3
  exact ⟨a, C, dx, fs, w, rfl, h1, c, n, hw, q w H1 ρ1 s1 hS1 rw'⟩
def putD (f : Str) (v : D) : List (Str × D) → List (Str × D)
  | [] => [(f, v)]
  | (g, x) :: r => if g = f then (g, v) :: r else (g, x) :: putD f v r
theorem put_rv {ρ : Ro} {H : Hp} {f : Str} {v : V} {d : D} (r : RV K H ρ v d) : ∀ {fs : List (Str × V)} {gs : List (Str × D)}, fs.map (·.1) = gs.map (·.1) → RVs K H ρ (fs.map (·.2)) (gs.map (·.2)) →
    (putF f v fs).map (·.1) = (putD f d gs).map (·.1) ∧ RVs K H ρ ((putF f v fs).map (·.2)) ((putD f d gs).map (·.2))
  | [], [], _, _ => ⟨rfl, .cons r .nil⟩
  | [], _ :: _, e, _ => by simp at e
  | _ :: _, [], e, _ => by simp at e
  | (n, w) :: fs, (m, x) :: gs, e, q => by
    simp only [List.map_cons, List.cons.injEq] at e
    obtain ⟨e1, e2⟩ := e
    have e1' : n = m := e1
    subst e1'
    cases q with
    | cons q1 q2 =>
      unfold putF putD
      by_cases h : n = f
      · rw [if_pos h, if_pos h]
        exact ⟨by simp only [List.map_cons, e2], .cons r q2⟩
      · rw [if_neg h, if_neg h]
        obtain ⟨i1, i2⟩ := put_rv r e2 q2
        exact ⟨by simp only [List.map_cons, i1], .cons q1 i2⟩
def fldS (C : Addr) (f : Str) (fa fv : FE) : FS := fun δ S => (fv δ S).bind fun y => (fa δ y.2).bind fun p => match p.1 with
  | .loc n => match p.2[n]? with
    | some (.ins C' gs) => if C' = C ∧ gs.length < 1000 then some (.nx, δ, p.2.set n (.ins C (putD f y.1 gs))) else none
    | _ => none
  | _ => none
theorem ls_fld {C : Addr} {f : Str} {fa fv : FE} (c : Cls K C) (n : NoAttr K C f) : ∀ D σ H, tDS K (fldS C f fa fv) D σ H → sFld K (tD K fa) (tD K fv) f D σ H := by
  rintro D σ H ⟨ρ, δ, S, r, δ', S', hS, hσ, e, q⟩
  obtain ⟨⟨y, S1⟩, e1, e⟩ := bnd e
  obtain ⟨⟨x, S2⟩, e2, e⟩ := bnd e
  dsimp only at e
  split at e
  · split at e
    · rename_i C' gs hg
      split at e
      · rename_i hc
        obtain ⟨rfl, hl⟩ := hc
        cases e
        refine ⟨ρ, δ, S, y, S1, hS, hσ, e1, fun v H1 ρ1 s1 hS1 rv => ⟨ρ1, δ, S1, _, S2, hS1, hσ.mono s1, e2, fun w H2 ρ2 s2 hS2 rw' => ?_⟩⟩
        cases rw' with
        | loc hn =>
          obtain ⟨dx, fs, h1, h2, h3⟩ := hS2.ob _ _ _ hn hg
          have hfl : fs.length < 1000 := by
            have := congrArg List.length h2
            rw [List.length_map, List.length_map] at this
            omega
          refine ⟨_, _, dx, fs, rfl, h1, c, n, hfl, ?_⟩
          have st : Step ρ2 ρ2 H2 (upd H2 _ (.ins C' dx (putF f v fs))) := Step.write hn h1
          obtain ⟨p1, p2⟩ := put_rv (f := f) (rv.mono s2) h2 h3
          exact q σ _ ρ2 ((s1.trans s2).trans st) (hS2.write hn ⟨_, h1⟩ ⟨dx, _, upd_same, p1, p2.mono st⟩) (hσ.mono ((s1.trans s2).trans st))
      · cases e
    · cases e
  · cases e
end
end DL
end
noncomputable section
namespace DL
open PySem L2
/-! ### what is walked -/
/-- a list or a tuple -/
def iSq (K : PySem.W.Frag) (tl : TE) : TI := fun σ H R => tl σ H fun x H1 => ∃ a, x = .ref a ∧ (((∃ xs, SqL K H1 a xs) ∧ R (Itl K a) H1) ∨ ((∃ xs, SqT K H1 a xs) ∧ R (Itt K a) H1))
theorem pi_sq {X : Cx} {tg l : Expr} {tl : TE} (hl : PE X l tl) : PI X tg l (iSq X.K tl) := by
  refine ⟨fun pins s σ H R I h => ?_⟩
  refine thn (hl.run pins s σ H _ I h) fun v s1 ⟨x, H1, I1, r1, q1⟩ => ?_
  obtain ⟨a, e, q1⟩ := q1
  subst e
  cases r1
  rcases q1 with ⟨⟨xs, hq⟩, q⟩ | ⟨⟨xs, hq⟩, q⟩
  · obtain ⟨its, rv, p, hz⟩ := I1.list hq
    refine wpAny_pyIter_list p.isList ?_
    refine ⟨s1.heap.objs.size, [s1.heap.objs.size], _, _, H1, rfl, I1.kept (t' := s1.toks) fun b o e => Heap.get?_push_of_some _ e, turn_list a _, ⟨_, Heap.get?_push_size _ rfl, rfl, rfl⟩, fun b hb => ?_, q⟩
    have e : b = s1.heap.objs.size := by simpa using hb
    subst e
    exact I1.fpOk (Nat.le_refl _) (I1.hok.fresh (Nat.le_refl _))
  · obtain ⟨its, rv, p, hz⟩ := I1.tuple hq
    refine wpAny_pyIter_tuple (show s1.heap.IsTuple a its.toArray from p) ?_
    refine ⟨s1.heap.objs.size, [s1.heap.objs.size], _, _, H1, rfl, I1.kept (t' := s1.toks) fun b o e => Heap.get?_push_of_some _ e, turn_tuple a _, ⟨_, Heap.get?_push_size _ rfl, rfl, rfl⟩, fun b hb => ?_, q⟩
    have e : b = s1.heap.objs.size := by simpa using hb
    subst e
    exact I1.fpOk (Nat.le_refl _) (I1.hok.fresh (Nat.le_refl _))
abbrev Ik := List D → Sg → Option (List D)
section
variable {K : PySem.W.Frag}
structure Walk (K : PySem.W.Frag) (J : It) (k : Ik) (ds items : List D) (vs : List V) : Prop where
  go : ∀ i H ρ S, RVs K H ρ vs ds → SR K H ρ S → k ds S = some items → i < items.length → J.go i H
  yld : ∀ i H ρ S x H', RVs K H ρ vs ds → SR K H ρ S → k ds S = some items → J.yld i H x H' → i < items.length → Step ρ ρ H H' ∧ SR K H' ρ S ∧ ∃ d, items[i]? = some d ∧ RV K H' ρ x d
  stop : ∀ i H ρ S, RVs K H ρ vs ds → SR K H ρ S → k ds S = some items → items.length ≤ i → J.stop i H
def LI (K : PySem.W.Frag) (wi : TI) (k : Ik) (f : FA) : Prop := ∀ σ H R ρ δ S ds items S', SR K H ρ S → RS K H ρ σ δ → f δ S = some (ds, S') → k ds S' = some items →
  (∀ J H' ρ' vs, Step ρ ρ' H H' → SR K H' ρ' S' → RVs K H' ρ' vs ds → Walk K J k ds items vs → R J H') → wi σ H R
def sqK : Ik := fun ds S => match ds with
  | [d] => sqOf S d
  | _ => none
def oneA (f : FE) : FA := consA f nilA
theorem oneA_some {f : FE} {δ : Dl} {S S' : Sg} {ds : List D} (h : oneA f δ S = some (ds, S')) : ∃ d, ds = [d] ∧ f δ S = some (d, S') := by
  obtain ⟨⟨x, S1⟩, e1, e⟩ := bnd h
  obtain ⟨⟨y, S2⟩, e2, e3⟩ := bnd e
  cases e2
  cases e3
  exact ⟨x, rfl, e1⟩
theorem sqOf_cases {S : Sg} {d : D} {items : List D} (h : sqOf S d = some items) : (d = .tup items) ∨ (∀ S2 js, sqOf S2 d = some js → lsOf S2 d = some js) := by
  cases d with
  | tup ds => left; cases h; rfl
  | lst ds => right; intro S2 js h; exact h
  | rol ds => right; intro S2 js h; exact h
  | loc n =>
    right; intro S2 js h
    unfold sqOf at h
    cases e : lsOf S2 (.loc n) with
    | some es => rw [e] at h; exact h
    | none => rw [e] at h; cases h
  | _ => cases h
theorem li_sq {f : FE} : LI K (iSq K (tD K f)) sqK (oneA f) := by
  intro σ H R ρ δ S ds items S' hS hσ e ek q
  obtain ⟨d, rfl, e1⟩ := oneA_some e
  refine ⟨ρ, δ, S, d, S', hS, hσ, e1, fun v H1 ρ1 s1 hS1 rv => ?_⟩
  have ek' : sqOf S' d = some items := ek
  rcases sqOf_cases ek' with rfl | hl
  · obtain ⟨a, vs, rfl, hq, rs⟩ := tpOf_sq rv rfl
    refine ⟨a, rfl, .inr ⟨⟨vs, hq⟩, q _ H1 ρ1 [.ref a] s1 hS1 (.cons rv .nil) ⟨?_, ?_, ?_⟩⟩⟩
    · intro i H2 ρ2 S2 rvs hS2 k2 hi
      cases rvs with | cons rv2 rn2 => ?_
      obtain ⟨a', vs', e', hq', rs'⟩ := tpOf_sq rv2 rfl
      cases e'
      obtain ⟨v, hv, _⟩ := rs'.get (List.getElem?_eq_getElem hi)
      exact ⟨vs', v, hq', hv⟩
    · intro i H2 ρ2 S2 x H3 rvs hS2 k2 y hi
      cases rvs with | cons rv2 rn2 => ?_
      obtain ⟨rfl, y⟩ := y
      obtain ⟨a', vs', e', hq', rs'⟩ := tpOf_sq rv2 rfl
      cases e'
      obtain ⟨d, hd, rd⟩ := rs'.getV (y vs' hq')
      exact ⟨Step.refl _ _, hS2, d, hd, rd⟩
    · intro i H2 ρ2 S2 rvs hS2 k2 hi
      cases rvs with | cons rv2 rn2 => ?_
      obtain ⟨a', vs', e', hq', rs'⟩ := tpOf_sq rv2 rfl
      cases e'
      exact ⟨vs', hq', by rw [rs'.len]; exact hi⟩
  · obtain ⟨a, vs, rfl, hq, rs⟩ := lsOf_sq hS1 rv (hl _ _ ek')
    refine ⟨a, rfl, .inl ⟨⟨vs, hq⟩, q _ H1 ρ1 [.ref a] s1 hS1 (.cons rv .nil) ⟨?_, ?_, ?_⟩⟩⟩
    · intro i H2 ρ2 S2 rvs hS2 k2 hi
      cases rvs with | cons rv2 rn2 => ?_
      obtain ⟨a', vs', e', hq', rs'⟩ := lsOf_sq hS2 rv2 (hl _ _ k2)
      cases e'
      obtain ⟨v, hv, _⟩ := rs'.get (List.getElem?_eq_getElem hi)
      exact ⟨vs', v, hq', hv⟩
    · intro i H2 ρ2 S2 x H3 rvs hS2 k2 y hi
      cases rvs with | cons rv2 rn2 => ?_
      obtain ⟨rfl, y⟩ := y
      obtain ⟨a', vs', e', hq', rs'⟩ := lsOf_sq hS2 rv2 (hl _ _ k2)
      cases e'
      obtain ⟨d, hd, rd⟩ := rs'.getV (y vs' hq')
      exact ⟨Step.refl _ _, hS2, d, hd, rd⟩
    · intro i H2 ρ2 S2 rvs hS2 k2 hi
      cases rvs with | cons rv2 rn2 => ?_
      obtain ⟨a', vs', e', hq', rs'⟩ := lsOf_sq hS2 rv2 (hl _ _ k2)
      cases e'
      exact ⟨vs', hq', by rw [rs'.len]; exact hi⟩
/-- enumerate of a list -/
def enumL (ds : List D) : List D := List.zipWith (fun (i : Nat) d => .tup [.int (i : Int), d]) (List.range ds.length) ds
theorem enumL_get {ds : List D} {i : Nat} {d : D} (h : ds[i]? = some d) : (enumL ds)[i]? = some (.tup [.int (i : Int), d]) := by
  unfold enumL
  have hi := (List.getElem?_eq_some_iff.mp h).1
  rw [List.getElem?_zipWith, h, List.getElem?_range hi]
theorem enumL_len (ds : List D) : (enumL ds).length = ds.length := by
  unfold enumL
  rw [List.length_zipWith, List.length_range, Nat.min_self]
def enK : Ik := fun ds S => match ds with
  | [d] => (lsOf S d).bind fun xs => some (enumL xs)
  | _ => none
theorem enumL_inj {xs ys : List D} (h : enumL xs = enumL ys) : xs = ys := by
  have hl : xs.length = ys.length := by rw [← enumL_len, h, enumL_len]
  refine List.ext_getElem? fun i => ?_
  by_cases hi : i < xs.length
  · have h1 := enumL_get (List.getElem?_eq_getElem hi)
    have h2 := enumL_get (List.getElem?_eq_getElem (show i < ys.length by omega))
    rw [h, h2] at h1
    have h3 := Option.some.inj h1
    simp only [D.tup.injEq, List.cons.injEq, and_true, true_and] at h3
    rw [List.getElem?_eq_getElem hi, List.getElem?_eq_getElem (show i < ys.length by omega), h3]
  · rw [List.getElem?_eq_none (by omega), List.getElem?_eq_none (by omega)]
theorem li_en {f : FA} : LI K (iEnum K (tDA K f)) enK f := by
  intro σ H R ρ δ S ds items S' hS hσ e ek q
  refine ⟨ρ, δ, S, ds, S', hS, hσ, e, fun vs H1 ρ1 s1 hS1 rvs => ?_⟩
  unfold enK at ek
  split at ek
  · rename_i d
    obtain ⟨xs, e2, ek⟩ := bnd ek
    cases ek
    cases rvs with | cons rv rn => cases rn with | nil =>
      obtain ⟨a, vs, rfl, hq, rs⟩ := lsOf_sq hS1 rv e2
      have again : ∀ S2, enK [d] S2 = some (enumL xs) → lsOf S2 d = some xs := fun S2 h => by
        obtain ⟨ys, e3, e4⟩ := bnd (o := lsOf S2 d) h
        rw [e3, enumL_inj (Option.some.inj e4)]
      refine ⟨a, vs, rfl, hq, q _ H1 ρ1 [.ref a] s1 hS1 (.cons rv .nil) ⟨?_, ?_, ?_⟩⟩
      · intro i H2 ρ2 S2 rvs hS2 k2 hi
        cases rvs with | cons rv2 rn2 => ?_
        obtain ⟨a', vs', e', hq', rs'⟩ := lsOf_sq hS2 rv2 (again _ k2)
        cases e'
        rw [enumL_len] at hi
        obtain ⟨v, hv, _⟩ := rs'.get (List.getElem?_eq_getElem hi)
        exact ⟨vs', v, hq', hv⟩
      · intro i H2 ρ2 S2 x H3 rvs hS2 k2 y hi
        cases rvs with | cons rv2 rn2 => ?_
        obtain ⟨T, z, rfl, hT, rfl, y⟩ := y
        obtain ⟨a', vs', e', hq', rs'⟩ := lsOf_sq hS2 rv2 (again _ k2)
        cases e'
        obtain ⟨d2, hd, rd⟩ := rs'.getV (y vs' hq')
        exact ⟨Step.new hS2 hT, hS2.new hT, _, enumL_get hd, rv_tup hS2 hT (.cons .int (.cons rd .nil))⟩
      · intro i H2 ρ2 S2 rvs hS2 k2 hi
        cases rvs with | cons rv2 rn2 => ?_
        obtain ⟨a', vs', e', hq', rs'⟩ := lsOf_sq hS2 rv2 (again _ k2)
        cases e'
        rw [enumL_len] at hi
        exact ⟨vs', hq', by rw [rs'.len]; exact hi⟩
  · cases ek
/-- zip of two lists, or of two tuples -/
def zipL (xs ys : List D) : List D := xs.zipWith (fun x y => .tup [x, y]) ys
def zpK : Ik := fun ds S => match ds with
  | [d, e] => ((lsOf S d).bind fun xs => (lsOf S e).bind fun ys => some (zipL xs ys)).or ((tpOf d).bind fun xs => (tpOf e).bind fun ys => some (zipL xs ys))
  | _ => none
/-- numbers from lo on -/
def rngL (lo : Int) (n : Nat) : List D := (List.range n).map fun (i : Nat) => .int (lo + (i : Int))
theorem rngL_get {lo : Int} {n i : Nat} (h : i < n) : (rngL lo n)[i]? = some (.int (lo + (i : Int))) := by
  unfold rngL
  rw [List.getElem?_map, List.getElem?_range h]
  rfl
theorem rngL_len (lo : Int) (n : Nat) : (rngL lo n).length = n := by
  unfold rngL
  rw [List.length_map, List.length_range]
def r1K : Ik := fun ds _ => match ds with
  | [.int j] => if R62 j then some (rngL 0 j.toNat) else none
  | _ => none
def r2K : Ik := fun ds _ => match ds with
  | [.int i, .int j] => if R62 i ∧ R62 j then some (rngL i (j - i).toNat) else none
  | _ => none
theorem walk_rng {k : Ik} {ds : List D} {lo : Int} {n : Nat} {vs : List V} : Walk K (Itr lo n) k ds (rngL lo n) vs := by
  refine ⟨fun i H ρ S _ _ _ hi => ?_, fun i H ρ S x H' _ hS _ y hi => ?_, fun i H ρ S _ _ _ hi => ?_⟩
  · rw [rngL_len] at hi; exact hi
  · obtain ⟨rfl, rfl⟩ := y
    rw [rngL_len] at hi
    exact ⟨Step.refl _ _, hS, _, rngL_get hi, .int⟩
  · rw [rngL_len] at hi; exact hi
theorem li_r1 {f : FA} : LI K (iRng1 (tDA K f)) r1K f := by
  intro σ H R ρ δ S ds items S' hS hσ e ek q
  refine ⟨ρ, δ, S, ds, S', hS, hσ, e, fun vs H1 ρ1 s1 hS1 rvs => ?_⟩
  unfold r1K at ek
  split at ek
  · split at ek
    · rename_i hb
      cases ek
      cases rvs with | cons rv rn => cases rn with | nil => cases rv with | int =>
        exact ⟨_, rfl, ((r62_iff _).mp hb).1, ((r62_iff _).mp hb).2, q _ H1 ρ1 [.int _] s1 hS1 (.cons .int .nil) walk_rng⟩
    · cases ek
  · cases ek
theorem li_r2 {f : FA} : LI K (iRng2 (tDA K f)) r2K f := by
  intro σ H R ρ δ S ds items S' hS hσ e ek q
  refine ⟨ρ, δ, S, ds, S', hS, hσ, e, fun vs H1 ρ1 s1 hS1 rvs => ?_⟩
  unfold r2K at ek
  split at ek
  · split at ek
    · rename_i hb
      cases ek
      cases rvs with | cons rv rn => cases rn with | cons rw' rn => cases rn with | nil => cases rv with | int => cases rw' with | int =>
        exact ⟨_, _, rfl, ⟨((r62_iff _).mp hb.1).1, ((r62_iff _).mp hb.1).2, ((r62_iff _).mp hb.2).1, ((r62_iff _).mp hb.2).2⟩, q _ H1 ρ1 [.int _, .int _] s1 hS1 (.cons .int (.cons .int .nil)) walk_rng⟩
    · cases ek
  · cases ek
/-! ### for -/
open Classical in
def forGo (k : Ik) (ds items : List D) (g : FG) (body : FS) : List D → Dl → Sg → Option (Fl × Dl × Sg)
  | [], δ, S => if k ds S = some items then some (.nx, δ, S) else none
  | d :: r, δ, S => if k ds S = some items then (g d δ S).bind fun p => (body p.1 p.2).bind fun w => match w.1 with
      | .nx => forGo k ds items g body r w.2.1 w.2.2
      | .ct => forGo k ds items g body r w.2.1 w.2.2
      | .bk => some (.nx, w.2.1, w.2.2)
      | .rt v => some (.rt v, w.2.1, w.2.2)
    else none
def forS (k : Ik) (f : FA) (g : FG) (body : FS) : FS := fun δ S => (f δ S).bind fun p => (k p.1 p.2).bind fun items => forGo k p.1 items g body items δ p.2
theorem ls_for {wi : TI} {k : Ik} {f : FA} {g : TG} {o : FG} {body : FS} (hi : LI K wi k f) (hg : LG K g o) : ∀ D σ H, tDS K (forS k f o body) D σ H → tFor wi g (tDS K body) D σ H := by
  rintro Dn σ H ⟨ρ, δ, S, r, δ', S', hS, hσ, e, q⟩
  obtain ⟨⟨ds, S1⟩, e1, e⟩ := bnd e
  obtain ⟨items, e2, e⟩ := bnd e
  dsimp only at e2 e
  refine hi _ _ _ _ _ _ _ _ _ hS hσ e1 e2 fun J H1 ρ1 vs0 s1 hS1 rvs0 wk => ?_
  refine ⟨fun i m σ H => ∃ ρ2 δ2 S2, m = items.length - i ∧ i ≤ items.length ∧ Step ρ1 ρ2 H1 H ∧ SR K H ρ2 S2 ∧ RS K H ρ2 σ δ2 ∧ forGo k ds items o body (items.drop i) δ2 S2 = some (r, δ', S'),
    ⟨items.length, ρ1, δ, S1, rfl, Nat.zero_le _, Step.refl _ _, hS1, hσ.mono s1, e⟩, ?_⟩
  rintro i m σ2 H2 ⟨ρ2, δ2, S2, rfl, hil, s2, hS2, hσ2, e3⟩
  by_cases hlt : i < items.length
  · rw [List.drop_eq_getElem_cons hlt] at e3
    unfold forGo at e3
    split at e3
    · rename_i hk
      obtain ⟨⟨δ3, S3⟩, e4, e5⟩ := bnd e3
      obtain ⟨⟨w, δ4, S4⟩, e6, e7⟩ := bnd e5
      dsimp only at e6 e7
      refine .inr ⟨wk.go i H2 ρ2 S2 (rvs0.mono s2) hS2 hk hlt, fun σ' H' => ∃ ρ3 δ3 S3, Step ρ1 ρ3 H1 H' ∧ SR K H' ρ3 S3 ∧ RS K H' ρ3 σ' δ3 ∧ forGo k ds items o body (items.drop (i + 1)) δ3 S3 = some (r, δ', S'), ?_, fun x H3 y => ?_⟩
      · rintro σ' H' ⟨ρ3, δ3, S3, a1, a2, a3, a4⟩
        exact ⟨items.length - (i + 1), by omega, ρ3, δ3, S3, rfl, hlt, a1, a2, a3, a4⟩
      · obtain ⟨st, hS3, d, hd, rd⟩ := wk.yld i H2 ρ2 S2 x H3 (rvs0.mono s2) hS2 hk y hlt
        have ed : items[i] = d := by rw [List.getElem?_eq_getElem hlt] at hd; exact Option.some.inj hd
        rw [ed] at e4
        refine hg _ _ _ _ _ _ _ _ _ _ hS3 (hσ2.mono st) rd e4 fun σ4 H4 ρ4 s4 hS4 hσ4 => ?_
        refine ⟨ρ4, δ3, S3, w, δ4, S4, hS4, hσ4, e6, ?_⟩
        have s14 := (s2.trans st).trans s4
        cases w with
        | nx => exact fun σ5 H5 ρ5 s5 hS5 hσ5 => ⟨ρ5, δ4, S4, s14.trans s5, hS5, hσ5, e7⟩
        | ct => exact fun σ5 H5 ρ5 s5 hS5 hσ5 => ⟨ρ5, δ4, S4, s14.trans s5, hS5, hσ5, e7⟩
        | bk =>
          cases e7
          exact fun σ5 H5 ρ5 s5 hS5 hσ5 => q σ5 H5 ρ5 ((s1.trans s14).trans s5) hS5 hσ5
        | rt v =>
          cases e7
          exact fun v H5 ρ5 s5 hS5 rv => q v H5 ρ5 ((s1.trans s14).trans s5) hS5 rv
    · cases e3
  · have ei : i = items.length := by omega
    subst ei
    rw [List.drop_length] at e3
    unfold forGo at e3
    split at e3
    · cases e3
      rename_i hk
      exact .inl ⟨wk.stop _ H2 ρ2 _ (rvs0.mono s2) hS2 hk (Nat.le_refl _), q σ2 H2 ρ2 (s1.trans s2) hS2 hσ2⟩
    · cases e3
/-! ### while -/
def whileGo (c : FT) (b : FS) : Nat → Dl → Sg → Option (Fl × Dl × Sg)
  | 0, _, _ => none
  | n + 1, δ, S => (c δ S).bind fun p => if p.1 = true then (b δ p.2).bind fun w => match w.1 with
      | .nx => whileGo c b n w.2.1 w.2.2
      | .ct => whileGo c b n w.2.1 w.2.2
      | .bk => some (.nx, w.2.1, w.2.2)
      | .rt v => some (.rt v, w.2.1, w.2.2)
    else some (.nx, δ, p.2)
def FUEL : Nat := 10 ^ 60
def whileS (c : FT) (b : FS) : FS := fun δ S => whileGo c b FUEL δ S
theorem ls_while {c : FT} {b : FS} : ∀ D σ H, tDS K (whileS c b) D σ H → tWhile (tDT K c) (tDS K b) D σ H := by
  rintro Dn σ H ⟨ρ, δ, S, r, δ', S', hS, hσ, e, q⟩
  refine ⟨fun m σ H1 => ∃ ρ1 δ1 S1, Step ρ ρ1 H H1 ∧ SR K H1 ρ1 S1 ∧ RS K H1 ρ1 σ δ1 ∧ whileGo c b m δ1 S1 = some (r, δ', S'), ⟨FUEL, ρ, δ, S, Step.refl _ _, hS, hσ, e⟩, ?_⟩
  rintro m σ1 H1 ⟨ρ1, δ1, S1, s1, hS1, hσ1, e1⟩
  cases m with
  | zero => cases e1
  | succ n =>
    unfold whileGo at e1
    obtain ⟨⟨x, S2⟩, e2, e3⟩ := bnd e1
    refine ⟨ρ1, δ1, S1, x, S2, hS1, hσ1, e2, fun H2 ρ2 s2 hS2 => ?_⟩
    cases x with
    | false =>
      cases e3
      exact q _ H2 ρ2 (s1.trans s2) hS2 (hσ1.mono s2)
    | true =>
      obtain ⟨⟨w, δ3, S3⟩, e4, e5⟩ := bnd (o := b δ1 S2) e3
      refine ⟨fun σ' H' => ∃ ρ3 δ3 S3, Step ρ ρ3 H H' ∧ SR K H' ρ3 S3 ∧ RS K H' ρ3 σ' δ3 ∧ whileGo c b n δ3 S3 = some (r, δ', S'), fun σ' H' z => ⟨n, Nat.lt_succ_self n, z⟩, ?_⟩
      refine ⟨ρ2, δ1, S2, w, δ3, S3, hS2, hσ1.mono s2, e4, ?_⟩
      dsimp only at e5
      cases w with
      | nx => exact fun σ5 H5 ρ5 s5 hS5 hσ5 => ⟨ρ5, δ3, S3, (s1.trans s2).trans s5, hS5, hσ5, e5⟩
      | ct => exact fun σ5 H5 ρ5 s5 hS5 hσ5 => ⟨ρ5, δ3, S3, (s1.trans s2).trans s5, hS5, hσ5, e5⟩
      | bk =>
        cases e5
        exact fun σ5 H5 ρ5 s5 hS5 hσ5 => q σ5 H5 ρ5 ((s1.trans s2).trans s5) hS5 hσ5
      | rt v =>
        cases e5
        exact fun v H5 ρ5 s5 hS5 rv => q v H5 ρ5 ((s1.trans s2).trans s5) hS5 rv
end
end DL
end
noncomputable section
namespace DL
open PySem L2
section
variable {K : PySem.W.Frag}
/-! ### zip -/
theorem zipL_get {xs ys : List D} {i : Nat} {x y : D} (h : xs[i]? = some x) (h2 : ys[i]? = some y) : (zipL xs ys)[i]? = some (.tup [x, y]) := by
  unfold zipL
  rw [List.getElem?_zipWith, h, h2]
theorem zipL_len (xs ys : List D) : (zipL xs ys).length = min xs.length ys.length := by
  unfold zipL
  rw [List.length_zipWith]
/-- both lists as they stand; the items are fixed by what is zipped, so the pairs ahead of the shorter one's end -/
def zpK2 : Ik := fun ds S => match ds with
  | [d, e] => ((lsOf S d).bind fun xs => (lsOf S e).bind fun ys => if xs.length = ys.length then some (zipL xs ys) else none).or ((tpOf d).bind fun xs => (tpOf e).bind fun ys => if xs.length = ys.length then some (zipL xs ys) else none)
  | _ => none
theorem zipL_inj {xs ys as bs : List D} (h1 : xs.length = ys.length) (h2 : as.length = bs.length) (h : zipL xs ys = zipL as bs) : xs = as ∧ ys = bs := by
  induction xs generalizing ys as bs with
  | nil =>
    cases ys with
    | cons _ _ => simp at h1
    | nil =>
      cases as with
      | nil => cases bs with
        | nil => exact ⟨rfl, rfl⟩
        | cons _ _ => simp at h2
      | cons a as => cases bs with
        | nil => simp at h2
        | cons b bs => simp [zipL] at h
  | cons x xs ih =>
    cases ys with
    | nil => simp at h1
    | cons y ys =>
      cases as with
      | nil => simp [zipL] at h
      | cons a as => cases bs with
        | nil => simp at h2
        | cons b bs =>
          simp only [zipL, List.zipWith_cons_cons, List.cons.injEq, D.tup.injEq, and_true] at h
          obtain ⟨⟨rfl, rfl⟩, h⟩ := h
          obtain ⟨e1, e2⟩ := ih (by simpa using h1) (by simpa using h2) h
          rw [e1, e2]
          exact ⟨rfl, rfl⟩
theorem zpK2_cases {d e : D} {S : Sg} {items : List D} (h : zpK2 [d, e] S = some items) :
    (∃ xs ys, d = .tup xs ∧ e = .tup ys ∧ xs.length = ys.length ∧ items = zipL xs ys) ∨ (∃ xs ys, lsOf S d = some xs ∧ lsOf S e = some ys ∧ xs.length = ys.length ∧ items = zipL xs ys) := by
  unfold zpK2 at h
  dsimp only at h
  cases e1 : ((lsOf S d).bind fun xs => (lsOf S e).bind fun ys => if xs.length = ys.length then some (zipL xs ys) else none) with
  | some js =>
    rw [e1] at h
    cases h
    obtain ⟨xs, a1, e1⟩ := bnd e1
    obtain ⟨ys, a2, e1⟩ := bnd e1
    split at e1
    · cases e1
      exact .inr ⟨xs, ys, a1, a2, ‹_›, rfl⟩
    · cases e1
  | none =>
    rw [e1] at h
    obtain ⟨xs, a1, e1⟩ := bnd (o := tpOf d) h
    obtain ⟨ys, a2, e1⟩ := bnd e1
    split at e1
    · cases e1
      cases d <;> cases a1
      cases e <;> cases a2
      exact .inl ⟨xs, ys, rfl, rfl, ‹_›, rfl⟩
    · cases e1
theorem li_zp {f : FA} : LI K (RZ.iZipA K (tDA K f)) zpK2 f := by
  intro σ H R ρ δ S ds items S' hS hσ e ek q
  refine ⟨ρ, δ, S, ds, S', hS, hσ, e, fun vs H1 ρ1 s1 hS1 rvs => ?_⟩
  cases rvs with
  | nil => cases ek
  | cons rv rn => cases rn with
    | nil => cases ek
    | cons rw' rn => cases rn with
      | cons _ _ => cases ek
      | nil =>
        rcases zpK2_cases ek with ⟨xs, ys, rfl, rfl, hl, rfl⟩ | ⟨xs, ys, l1, l2, hl, rfl⟩
        · obtain ⟨a, vs, rfl, hq, rs⟩ := tpOf_sq rv rfl
          obtain ⟨b, ws, rfl, hq2, rs2⟩ := tpOf_sq rw' rfl
          refine ⟨a, b, vs, ws, rfl, .inr ⟨hq, hq2, q _ H1 ρ1 [.ref a, .ref b] s1 hS1 (.cons rv (.cons rw' .nil)) ⟨?_, ?_, ?_⟩⟩⟩
          · intro i H2 ρ2 S2 rvs hS2 k2 hi
            cases rvs with | cons rv2 rn2 => ?_
            cases rn2 with | cons rw2 rn2 => ?_
            obtain ⟨a', vs', e', hq', rs'⟩ := tpOf_sq rv2 rfl
            cases e'
            obtain ⟨b', ws', e'', hq'', rs''⟩ := tpOf_sq rw2 rfl
            cases e''
            rw [zipL_len, hl, Nat.min_self] at hi
            obtain ⟨v, hv, _⟩ := rs'.get (List.getElem?_eq_getElem (show i < xs.length by omega))
            obtain ⟨w, hw, _⟩ := rs''.get (List.getElem?_eq_getElem hi)
            exact ⟨vs', ws', v, w, hq', hq'', hv, hw⟩
          · intro i H2 ρ2 S2 x H3 rvs hS2 k2 y hi
            cases rvs with | cons rv2 rn2 => ?_
            cases rn2 with | cons rw2 rn2 => ?_
            obtain ⟨T, x1, y1, rfl, hT, rfl, z1, z2⟩ := y
            obtain ⟨a', vs', e', hq', rs'⟩ := tpOf_sq rv2 rfl
            cases e'
            obtain ⟨b', ws', e'', hq'', rs''⟩ := tpOf_sq rw2 rfl
            cases e''
            obtain ⟨d2, hd, rd⟩ := rs'.getV (z1 vs' hq')
            obtain ⟨d3, hd3, rd3⟩ := rs''.getV (z2 ws' hq'')
            exact ⟨Step.new hS2 hT, hS2.new hT, _, zipL_get hd hd3, rv_tup hS2 hT (.cons rd (.cons rd3 .nil))⟩
          · intro i H2 ρ2 S2 rvs hS2 k2 hi
            cases rvs with | cons rv2 rn2 => ?_
            cases rn2 with | cons rw2 rn2 => ?_
            obtain ⟨a', vs', e', hq', rs'⟩ := tpOf_sq rv2 rfl
            cases e'
            obtain ⟨b', ws', e'', hq'', rs''⟩ := tpOf_sq rw2 rfl
            cases e''
            rw [zipL_len, hl, Nat.min_self] at hi
            exact ⟨vs', ws', hq', hq'', .inr (by rw [rs''.len]; exact hi)⟩
        · obtain ⟨a, vs, rfl, hq, rs⟩ := lsOf_sq hS1 rv l1
          obtain ⟨b, ws, rfl, hq2, rs2⟩ := lsOf_sq hS1 rw' l2
          rename_i dA dB
          have again : ∀ S2, zpK2 [dA, dB] S2 = some (zipL xs ys) → lsOf S2 dA = some xs ∧ lsOf S2 dB = some ys := fun S2 h => by
            rcases zpK2_cases h with ⟨as, bs, e3, e4, hl', e'⟩ | ⟨as, bs, m1, m2, hl', e'⟩
            · subst e3
              cases l1
            · obtain ⟨rfl, rfl⟩ := zipL_inj hl hl' e'
              exact ⟨m1, m2⟩
          refine ⟨a, b, vs, ws, rfl, .inl ⟨hq, hq2, q _ H1 ρ1 [.ref a, .ref b] s1 hS1 (.cons rv (.cons rw' .nil)) ⟨?_, ?_, ?_⟩⟩⟩
          · intro i H2 ρ2 S2 rvs hS2 k2 hi
            cases rvs with | cons rv2 rn2 => ?_
            cases rn2 with | cons rw2 rn2 => ?_
            obtain ⟨a', vs', e', hq', rs'⟩ := lsOf_sq hS2 rv2 (again _ k2).1
            cases e'
            obtain ⟨b', ws', e'', hq'', rs''⟩ := lsOf_sq hS2 rw2 (again _ k2).2
            cases e''
            rw [zipL_len, hl, Nat.min_self] at hi
            obtain ⟨v, hv, _⟩ := rs'.get (List.getElem?_eq_getElem (show i < xs.length by omega))
            obtain ⟨w, hw, _⟩ := rs''.get (List.getElem?_eq_getElem hi)
            exact ⟨vs', ws', v, w, hq', hq'', hv, hw⟩
          · intro i H2 ρ2 S2 x H3 rvs hS2 k2 y hi
            cases rvs with | cons rv2 rn2 => ?_
            cases rn2 with | cons rw2 rn2 => ?_
            obtain ⟨T, x1, y1, rfl, hT, rfl, z1, z2⟩ := y
            obtain ⟨a', vs', e', hq', rs'⟩ := lsOf_sq hS2 rv2 (again _ k2).1
            cases e'
            obtain ⟨b', ws', e'', hq'', rs''⟩ := lsOf_sq hS2 rw2 (again _ k2).2
            cases e''
            obtain ⟨d2, hd, rd⟩ := rs'.getV (z1 vs' hq')
            obtain ⟨d3, hd3, rd3⟩ := rs''.getV (z2 ws' hq'')
            exact ⟨Step.new hS2 hT, hS2.new hT, _, zipL_get hd hd3, rv_tup hS2 hT (.cons rd (.cons rd3 .nil))⟩
          · intro i H2 ρ2 S2 rvs hS2 k2 hi
            cases rvs with | cons rv2 rn2 => ?_
            cases rn2 with | cons rw2 rn2 => ?_
            obtain ⟨a', vs', e', hq', rs'⟩ := lsOf_sq hS2 rv2 (again _ k2).1
            cases e'
            obtain ⟨b', ws', e'', hq'', rs''⟩ := lsOf_sq hS2 rw2 (again _ k2).2
            cases e''
            rw [zipL_len, hl, Nat.min_self] at hi
            exact ⟨vs', ws', hq', hq'', .inr (by rw [rs''.len]; exact hi)⟩
/-! ### signs of a text -/
def sgnL (z : Str) : List D := z.cps.toList.map fun c => .str ⟨#[c]⟩
def stK : Ik := fun ds _ => match ds with
  | [.str z] => some (sgnL z)
  | _ => none
theorem li_st {f : FE} : LI K (iStr (tD K f)) stK (oneA f) := by
  intro σ H R ρ δ S ds items S' hS hσ e ek q
  obtain ⟨d, rfl, e1⟩ := oneA_some e
  refine ⟨ρ, δ, S, d, S', hS, hσ, e1, fun v H1 ρ1 s1 hS1 rv => ?_⟩
  unfold stK at ek
  split at ek
  · rename_i z he
    have he' : d = .str z := by simpa using he
    subst he'
    cases ek
    cases rv
    have hl : (sgnL z).length = z.cps.size := by unfold sgnL; rw [List.length_map, Array.length_toList]
    refine ⟨z, rfl, q _ H1 ρ1 [.str z] s1 hS1 (.cons .str .nil) ⟨?_, ?_, ?_⟩⟩
    · intro i H2 ρ2 S2 s2 hS2 k2 hi
      rw [hl] at hi; exact hi
    · intro i H2 ρ2 S2 x H3 s2 hS2 k2 y hi
      obtain ⟨rfl, c, hc, rfl⟩ := y
      refine ⟨Step.refl _ _, hS2, .str ⟨#[c]⟩, ?_, .str⟩
      unfold sgnL
      rw [List.getElem?_map, Array.getElem?_toList, hc]
      rfl
    · intro i H2 ρ2 S2 s2 hS2 k2 hi
      rw [hl] at hi; exact hi
  · cases ek
/-! ### a list, item by item -/
def GW (g : TG) (vs : List Nat) : Prop := ∀ v σ H Q, g v σ H (fun σ' H' => wipe σ' vs = wipe σ vs → Q σ' H') → g v σ H Q
def GWs (g : TGs) (vs : List Nat) : Prop := ∀ v σ H Q, g v σ H (fun σ' H' => wipe σ' vs = wipe σ vs → Q σ' H') → g v σ H Q
theorem wipe_set {σ : St} {i : Nat} {x : Option V} : ∀ {vs : List Nat}, i ∈ vs → wipe (σ.set i x) vs = wipe σ vs
  | [], h => by simp at h
  | v :: vs, h => by
    unfold wipe
    by_cases hv : i ∈ vs
    · rw [wipe_set hv]
    · have e : i = v := by simpa [hv] using h
      subst e
      clear h
      have z : ∀ (ws : List Nat), i ∉ ws → wipe (σ.set i x) ws = (wipe σ ws).set i x := fun ws => by
        induction ws with
        | nil => intro _; rfl
        | cons w ws ih =>
          intro hw
          unfold wipe
          rw [ih (by simp at hw; exact hw.2), List.set_comm _ _ (by simp at hw; exact hw.1)]
      rw [z vs hv, List.set_set]
theorem wipe_wipe (σ : St) (vs : List Nat) : wipe (wipe σ vs) vs = wipe σ vs := by
  have z : ∀ ws : List Nat, (∀ w ∈ ws, w ∈ vs) → wipe (wipe σ ws) vs = wipe σ vs := fun ws => by
    induction ws with
    | nil => intro _; rfl
    | cons w ws ih =>
      intro h
      show wipe ((wipe σ ws).set w none) vs = _
      rw [wipe_set (h w (by simp)), ih fun x hx => h x (by simp [hx])]
  exact z vs fun _ h => h
theorem gw_nm {i : Nat} {vs : List Nat} (h : i ∈ vs) : GW (gName i) vs := fun v σ H Q q => q (wipe_set h)
theorem gw_nil {vs : List Nat} : GWs gNil vs := fun v σ H Q q => ⟨q.1, q.2 rfl⟩
theorem gw_cons {g : TG} {gs : TGs} {vs : List Nat} (hm : ∀ v σ H (Q Q' : St → Hp → Prop), (∀ a b, Q a b → Q' a b) → g v σ H Q → g v σ H Q') (h : GW g vs) (hs : GWs gs vs) (hms : ∀ v σ H (Q Q' : St → Hp → Prop), (∀ a b, Q a b → Q' a b) → gs v σ H Q → gs v σ H Q') : GWs (gCons g gs) vs := by
  rintro xs σ H Q ⟨v, r, rfl, q⟩
  refine ⟨v, r, rfl, h v σ H _ (hm v σ H _ _ (fun σ1 H1 q1 w1 => ?_) q)⟩
  refine hs r σ1 H1 Q (hms r σ1 H1 _ _ (fun σ2 H2 q2 w2 => q2 (w2.trans w1)) q1)
theorem gm_nm {i : Nat} : ∀ v σ H (Q Q' : St → Hp → Prop), (∀ a b, Q a b → Q' a b) → gName i v σ H Q → gName i v σ H Q' := fun _ _ _ _ _ m q => m _ _ q
theorem gm_nil : ∀ v σ H (Q Q' : St → Hp → Prop), (∀ a b, Q a b → Q' a b) → gNil v σ H Q → gNil v σ H Q' := fun _ _ _ _ _ m q => ⟨q.1, m _ _ q.2⟩
theorem gm_cons {g : TG} {gs : TGs} (hm : ∀ v σ H (Q Q' : St → Hp → Prop), (∀ a b, Q a b → Q' a b) → g v σ H Q → g v σ H Q') (hms : ∀ v σ H (Q Q' : St → Hp → Prop), (∀ a b, Q a b → Q' a b) → gs v σ H Q → gs v σ H Q') :
    ∀ v σ H (Q Q' : St → Hp → Prop), (∀ a b, Q a b → Q' a b) → gCons g gs v σ H Q → gCons g gs v σ H Q' := fun _ σ H _ _ m ⟨v, r, e, q⟩ => ⟨v, r, e, hm v σ H _ _ (fun σ1 H1 q1 => hms r σ1 H1 _ _ m q1) q⟩
theorem gm_tup {n : Nat} {gs : TGs} (hms : ∀ v σ H (Q Q' : St → Hp → Prop), (∀ a b, Q a b → Q' a b) → gs v σ H Q → gs v σ H Q') :
    ∀ v σ H (Q Q' : St → Hp → Prop), (∀ a b, Q a b → Q' a b) → gTup K n gs v σ H Q → gTup K n gs v σ H Q' := fun _ σ H _ _ m ⟨a, xs, e, h1, h2, q⟩ => ⟨a, xs, e, h1, h2, hms xs σ H _ _ m q⟩
theorem gw_tup {n : Nat} {gs : TGs} {vs : List Nat} (h : GWs gs vs) : GW (gTup K n gs) vs := fun v σ H Q ⟨a, xs, e, h1, h2, q⟩ => ⟨a, xs, e, h1, h2, h xs σ H Q q⟩
/-- a target of a comprehension: all that is asked of it -/
structure LGW (K : PySem.W.Frag) (g : TG) (o : FG) (vs : List Nat) : Prop where
  lg : LG K g o
  gw : GW g vs
  gm : ∀ v σ H (Q Q' : St → Hp → Prop), (∀ a b, Q a b → Q' a b) → g v σ H Q → g v σ H Q'
structure LGWs (K : PySem.W.Frag) (g : TGs) (o : FGs) (vs : List Nat) : Prop where
  lg : LGs K g o
  gw : GWs g vs
  gm : ∀ v σ H (Q Q' : St → Hp → Prop), (∀ a b, Q a b → Q' a b) → g v σ H Q → g v σ H Q'
theorem lw_nm {i : Nat} {vs : List Nat} (h : i ∈ vs := by decide) : LGW K (gName i) (nmG i) vs := ⟨lg_nm, gw_nm h, gm_nm⟩
theorem lw_nil {vs : List Nat} : LGWs K gNil nilG vs := ⟨lg_nil, gw_nil, gm_nil⟩
theorem lw_cons {g : TG} {gs : TGs} {t : FG} {u : FGs} {vs : List Nat} (h : LGW K g t vs) (hs : LGWs K gs u vs) : LGWs K (gCons g gs) (consG t u) vs := ⟨lg_cons h.lg hs.lg, gw_cons h.gm h.gw hs.gw hs.gm, gm_cons h.gm hs.gm⟩
theorem lw_tup {n : Nat} {gs : TGs} {u : FGs} {vs : List Nat} (h : LGWs K gs u vs) : LGW K (gTup K n gs) (tupG n u) vs := ⟨lg_tup h.lg, gw_tup h.gw, gm_tup h.gm⟩
def yesT : FT := fun _ S => some (true, S)
theorem le_yes : ∀ σ H Q, tDT K yesT σ H Q → tYes σ H Q := by
  rintro σ H Q ⟨ρ, δ, S, b, S', hS, hσ, e, q⟩
  cases e
  exact q H ρ (Step.refl _ _) hS
open Classical in
def lcGo (k : Ik) (ds items : List D) (g : FG) (c : FT) (f : FE) (δ : Dl) : List D → List D → Sg → Option (List D × Sg)
  | [], acc, S => if k ds S = some items then some (acc, S) else none
  | d :: r, acc, S => if k ds S = some items then (g d δ S).bind fun p => (c p.1 p.2).bind fun b => if b.1 = true then (f p.1 b.2).bind fun y => lcGo k ds items g c f δ r (acc ++ [y.1]) y.2 else lcGo k ds items g c f δ r acc b.2
    else none
def lcD (k : Ik) (fa : FA) (g : FG) (c : FT) (f : FE) (vs : List Nat) : FE := fun δ S => (fa δ S).bind fun p => (k p.1 p.2).bind fun items => if Fits (items.length) then
  (lcGo k p.1 items g c f (wipeD δ vs) items [] p.2).bind fun r => some (.lst r.1, r.2) else none
theorem RVs.snoc {ρ : Ro} {H : Hp} {vs : List V} {ds : List D} {v : V} {d : D} (h : RVs K H ρ vs ds) (r : RV K H ρ v d) : RVs K H ρ (vs ++ [v]) (ds ++ [d]) := h.append (.cons r .nil)
theorem RL.banned {ρ : Ro} {H : Hp} {p : Addr} {o : HO} (m : p ∈ ρ.bn) {a : Addr} {vs : List V} (h : RL K H ρ a vs) : RL K (upd H p o) ρ a vs := by
  rcases h with ⟨h, n⟩ | h
  · have ne : a ≠ p := fun z => n.2 (by rw [z]; exact m)
    refine .inl ⟨?_, n⟩
    rcases h with h | ⟨u, h⟩
    · exact .inl (by rw [upd_ne ne]; exact h)
    · exact .inr ⟨u, by rw [upd_ne ne]; exact h⟩
  · exact .inr h
mutual
theorem RV.banned {ρ : Ro} {H : Hp} {p : Addr} {o : HO} (m : p ∈ ρ.bn) : ∀ {v : V} {d : D}, RV K H ρ v d → RV K (upd H p o) ρ v d
  | _, _, .non => .non
  | _, _, .bl => .bl
  | _, _, .int => .int
  | _, _, .str => .str
  | _, _, .ty => .ty
  | _, _, .tup h n r => .tup (by rw [upd_ne (fun z => n.2 (by rw [z]; exact m))]; exact h) n (RVs.banned m r)
  | _, _, .lst h n r => .lst (by rw [upd_ne (fun z => n.2 (by rw [z]; exact m))]; exact h) n (RVs.banned m r)
  | _, _, .rol h r => .rol (h.banned m) (RVs.banned m r)
  | _, _, .ins h n r => .ins (by rw [upd_ne (fun z => n.2 (by rw [z]; exact m))]; exact h) n (RVs.banned m r)
  | _, _, .dic h n ee r => .dic (by rw [upd_ne (fun z => n.2 (by rw [z]; exact m))]; exact h) n ee (RVs.banned m r)
  | _, _, .loc h => .loc h
theorem RVs.banned {ρ : Ro} {H : Hp} {p : Addr} {o : HO} (m : p ∈ ρ.bn) : ∀ {vs : List V} {ds : List D}, RVs K H ρ vs ds → RVs K (upd H p o) ρ vs ds
  | _, _, .nil => .nil
  | _, _, .cons h r => .cons (RV.banned m h) (RVs.banned m r)
end
/-- a ban more, of a new thing -/
theorem RL.ban {ρ : Ro} {H : Hp} {p : Addr} {o : HO} (h0 : H p = none) {a : Addr} {vs : List V} (h : RL K H ρ a vs) : RL K (upd H p o) (ρ.ban p) a vs := by
  rcases h with ⟨h, n⟩ | h
  · refine .inl ?_
    rcases h with h | ⟨u, h⟩
    · have ne := ne_of_none h h0
      exact ⟨.inl (by rw [upd_ne ne]; exact h), n.1, by intro m; rcases List.mem_cons.mp m with z | z; exact ne z; exact n.2 z⟩
    · have ne := ne_of_none h h0
      exact ⟨.inr ⟨u, by rw [upd_ne ne]; exact h⟩, n.1, by intro m; rcases List.mem_cons.mp m with z | z; exact ne z; exact n.2 z⟩
  · exact .inr h
theorem out_ban {ρ : Ro} {H : Hp} {p a : Addr} {o : HO} (h0 : H p = none) (h : H a = some o) (n : ρ.out a) : (ρ.ban p).out a :=
  ⟨n.1, by intro m; rcases List.mem_cons.mp m with z | z; exact ne_of_none h h0 z; exact n.2 z⟩
mutual
theorem RV.ban {ρ : Ro} {H : Hp} {p : Addr} {o : HO} (h0 : H p = none) : ∀ {v : V} {d : D}, RV K H ρ v d → RV K (upd H p o) (ρ.ban p) v d
  | _, _, .non => .non
  | _, _, .bl => .bl
  | _, _, .int => .int
  | _, _, .str => .str
  | _, _, .ty => .ty
  | _, _, .tup h n r => .tup (by rw [upd_ne (ne_of_none h h0)]; exact h) (out_ban h0 h n) (RVs.ban h0 r)
  | _, _, .lst h n r => .lst (by rw [upd_ne (ne_of_none h h0)]; exact h) (out_ban h0 h n) (RVs.ban h0 r)
  | _, _, .rol h r => .rol (h.ban h0) (RVs.ban h0 r)
  | _, _, .ins h n r => .ins (by rw [upd_ne (ne_of_none h h0)]; exact h) (out_ban h0 h n) (RVs.ban h0 r)
  | _, _, .dic h n ee r => .dic (by rw [upd_ne (ne_of_none h h0)]; exact h) (out_ban h0 h n) ee (RVs.ban h0 r)
  | _, _, .loc h => .loc h
theorem RVs.ban {ρ : Ro} {H : Hp} {p : Addr} {o : HO} (h0 : H p = none) : ∀ {vs : List V} {ds : List D}, RVs K H ρ vs ds → RVs K (upd H p o) (ρ.ban p) vs ds
  | _, _, .nil => .nil
  | _, _, .cons h r => .cons (RV.ban h0 h) (RVs.ban h0 r)
end
/-- the ban is over -/
theorem RL.unban {ρ : Ro} {H : Hp} {p : Addr} {a : Addr} {vs : List V} (h : RL K H (ρ.ban p) a vs) : RL K H ρ a vs := by
  rcases h with ⟨h, n⟩ | h
  · exact .inl ⟨h, n.1, fun m => n.2 (List.mem_cons_of_mem _ m)⟩
  · exact .inr h
mutual
theorem RV.unban {ρ : Ro} {H : Hp} {p : Addr} : ∀ {v : V} {d : D}, RV K H (ρ.ban p) v d → RV K H ρ v d
  | _, _, .non => .non
  | _, _, .bl => .bl
  | _, _, .int => .int
  | _, _, .str => .str
  | _, _, .ty => .ty
  | _, _, .tup h n r => .tup h ⟨n.1, fun m => n.2 (List.mem_cons_of_mem _ m)⟩ (RVs.unban r)
  | _, _, .lst h n r => .lst h ⟨n.1, fun m => n.2 (List.mem_cons_of_mem _ m)⟩ (RVs.unban r)
  | _, _, .rol h r => .rol h.unban (RVs.unban r)
  | _, _, .ins h n r => .ins h ⟨n.1, fun m => n.2 (List.mem_cons_of_mem _ m)⟩ (RVs.unban r)
  | _, _, .dic h n ee r => .dic h ⟨n.1, fun m => n.2 (List.mem_cons_of_mem _ m)⟩ ee (RVs.unban r)
  | _, _, .loc h => .loc h
theorem RVs.unban {ρ : Ro} {H : Hp} {p : Addr} : ∀ {vs : List V} {ds : List D}, RVs K H (ρ.ban p) vs ds → RVs K H ρ vs ds
  | _, _, .nil => .nil
  | _, _, .cons h r => .cons (RV.unban h) (RVs.unban r)
end
theorem RS.ban {ρ : Ro} {H : Hp} {p : Addr} {o : HO} (h0 : H p = none) : ∀ {σ : St} {δ : Dl}, RS K H ρ σ δ → RS K (upd H p o) (ρ.ban p) σ δ
  | _, _, .nil => .nil
  | _, _, .no r => .no (RS.ban h0 r)
  | _, _, .yes h r => .yes (h.ban h0) (RS.ban h0 r)
theorem RS.banned {ρ : Ro} {H : Hp} {p : Addr} {o : HO} (m : p ∈ ρ.bn) : ∀ {σ : St} {δ : Dl}, RS K H ρ σ δ → RS K (upd H p o) ρ σ δ
  | _, _, .nil => .nil
  | _, _, .no r => .no (RS.banned m r)
  | _, _, .yes h r => .yes (h.banned m) (RS.banned m r)
theorem OR.map {ρ ρ' : Ro} {H H' : Hp} {a : Addr} {o : Ob} (k : H' a = H a) (f : ∀ vs ds, RVs K H ρ vs ds → RVs K H' ρ' vs ds) (h : OR K H ρ a o) : OR K H' ρ' a o := by
  cases o with
  | lst ds => obtain ⟨vs, e, r⟩ := h; exact ⟨vs, k.trans e, f _ _ r⟩
  | ins C gs => obtain ⟨dx, fs, e, n, r⟩ := h; exact ⟨dx, fs, k.trans e, n, f _ _ r⟩
  | dct gs => obtain ⟨fs, e, n, r⟩ := h; exact ⟨fs, k.trans e, n, f _ _ r⟩
theorem SR.ban {ρ : Ro} {H : Hp} {S : Sg} (s : SR K H ρ S) {p : Addr} {o : HO} (h : H p = none) : SR K (upd H p o) (ρ.ban p) S := by
  refine ⟨s.len, s.nd, fun a m => ?_, fun a m z => ?_, fun n a u e1 e2 => ?_⟩
  rotate_left
  · rcases List.mem_cons.mp z with rfl | z
    · exact s.freshP h m
    · exact s.dj a m z
  rotate_left
  · rcases List.mem_cons.mp m with rfl | z
    · rw [upd_same]; intro w; cases w
    · intro e
      exact s.bn a z ((Step.new (o := o) s h).dom a e)
  · have z := s.ob n a u e1 e2
    obtain ⟨w, e⟩ := z.some
    exact z.map (upd_ne (ne_of_none e h)) fun vs ds r => r.ban h
theorem SR.banned {ρ : Ro} {H : Hp} {S : Sg} (s : SR K H ρ S) {p : Addr} {o : HO} (m : p ∈ ρ.bn) (n : p ∉ ρ.pl) : SR K (upd H p o) ρ S := by
  refine ⟨s.len, s.nd, fun a ma e => ?_, s.dj, fun k a u e1 e2 => ?_⟩
  · by_cases z : a = p
    · subst z; rw [upd_same] at e; cases e
    · rw [upd_ne z] at e; exact s.bn a ma e
  · exact (s.ob k a u e1 e2).map (upd_ne (fun z => n (by rw [← z]; exact List.mem_of_getElem? e1))) fun vs ds r => r.banned m
theorem SR.unban {ρ : Ro} {H : Hp} {S : Sg} {p : Addr} (s : SR K H (ρ.ban p) S) : SR K H ρ S :=
  ⟨s.len, s.nd, fun a m => s.bn a (List.mem_cons_of_mem _ m), fun a m z => s.dj a m (List.mem_cons_of_mem _ z), fun n a u e1 e2 => (s.ob n a u e1 e2).map rfl fun vs ds r => r.unban⟩
/-- places alone matter for what is kept -/
theorem Step.reban {ρ ρ' : Ro} {H H' : Hp} {p : Addr} (s : Step ρ ρ' H H') : Step (ρ.ban p) (ρ'.ban p) H H' := ⟨s.ext, by show p :: ρ'.bn = p :: ρ.bn; rw [s.bn], s.keep, s.dom⟩
theorem ban_bn {ρ ρ' : Ro} {p : Addr} {H H' : Hp} (s : Step (ρ.ban p) ρ' H H') : ρ' = (⟨ρ'.pl, ρ.bn⟩ : Ro).ban p := by
  have e := s.bn
  cases ρ'
  dsimp only at e
  subst e
  rfl
theorem Step.unban {ρ ρ' : Ro} {H H' : Hp} {p : Addr} (s : Step (ρ.ban p) (ρ'.ban p) H H') : Step ρ ρ' H H' := ⟨s.ext, (List.cons.inj s.bn).2, s.keep, s.dom⟩
theorem Step.skip {ρ ρ' : Ro} {H H' : Hp} {p : Addr} {o : HO} (s : Step ρ ρ' H H') (h : H p = none) : Step ρ ρ' H (upd H' p o) :=
  ⟨s.ext, s.bn, fun a u e n => by rw [upd_ne (ne_of_none e h)]; exact s.keep a u e n, fun a e => by
    by_cases z : a = p
    · subst z; exact h
    · rw [upd_ne z] at e; exact s.dom a e⟩
theorem RL.banPush {ρ : Ro} {H : Hp} {p : Addr} {a : Addr} {vs : List V} (h : RL K H (ρ.ban p) a vs) : RL K H (ρ.push p) a vs := by
  rcases h with ⟨h, n⟩ | h
  · exact .inl ⟨h, fun m => (List.mem_append.mp m).elim n.1 (fun z => n.2 (by rw [List.mem_singleton.mp z]; exact List.mem_cons_self)), fun m => n.2 (List.mem_cons_of_mem _ m)⟩
  · exact .inr h
theorem out_banPush {ρ : Ro} {p a : Addr} (n : (ρ.ban p).out a) : (ρ.push p).out a := ⟨fun m => (List.mem_append.mp m).elim n.1 (fun z => n.2 (by rw [List.mem_singleton.mp z]; exact List.mem_cons_self)), fun m => n.2 (List.mem_cons_of_mem _ m)⟩
mutual
theorem RV.banPush {ρ : Ro} {H : Hp} {p : Addr} : ∀ {v : V} {d : D}, RV K H (ρ.ban p) v d → RV K H (ρ.push p) v d
  | _, _, .non => .non
  | _, _, .bl => .bl
  | _, _, .int => .int
  | _, _, .str => .str
  | _, _, .ty => .ty
  | _, _, .tup h n r => .tup h (out_banPush n) (RVs.banPush r)
  | _, _, .lst h n r => .lst h (out_banPush n) (RVs.banPush r)
  | _, _, .rol h r => .rol h.banPush (RVs.banPush r)
  | _, _, .ins h n r => .ins h (out_banPush n) (RVs.banPush r)
  | _, _, .dic h n ee r => .dic h (out_banPush n) ee (RVs.banPush r)
  | _, _, .loc h => .loc (by
      show (ρ.pl ++ [p])[_]? = _
      have h : ρ.pl[_]? = _ := h
      rw [List.getElem?_append_left (List.getElem?_eq_some_iff.mp h).1]
      exact h)
theorem RVs.banPush {ρ : Ro} {H : Hp} {p : Addr} : ∀ {vs : List V} {ds : List D}, RVs K H (ρ.ban p) vs ds → RVs K H (ρ.push p) vs ds
  | _, _, .nil => .nil
  | _, _, .cons h r => .cons (RV.banPush h) (RVs.banPush r)
end
/-- the list is made, and nothing names it yet -/
theorem lc_main {wi : TI} {k : Ik} {fa : FA} {g : TG} {o : FG} {c : FT} {f : FE} {vs : List Nat} (hi : LI K wi k fa) (hg : LGW K g o vs) {σ : St} {H : Hp} {Q : VK} {ρ : Ro} {δ : Dl} {S S' : Sg} {out : List D} (hS : SR K H ρ S) (hσ : RS K H ρ σ δ) (e : lcD k fa o c f vs δ S = some (.lst out, S'))
    (q : ∀ H2 ρ2 L vacc, H L = none ∧ Step ρ ρ2 H H2 → SR K H2 (ρ2.ban L) S' → H2 L = some (.lst vacc) → L ∉ ρ2.pl → L ∉ ρ2.bn → RVs K H2 (ρ2.ban L) vacc out → Q (.ref L) H2) : tLc wi g (tDT K c) (tD K f) vs σ H Q := by
  obtain ⟨⟨ds, S1⟩, e1, e⟩ := bnd e
  obtain ⟨items, e2, e⟩ := bnd e
  dsimp only at e2 e
  split at e
  · rename_i hlim
    obtain ⟨⟨out', Sf⟩, e3, e⟩ := bnd e
    dsimp only at e
    obtain ⟨rfl, rfl⟩ : out' = out ∧ Sf = S' := by simpa using e
    clear e
    refine hi _ _ _ _ _ _ _ _ _ hS hσ e1 e2 fun J H1 ρ1 vs0 s1 hS1 rvs0 wk => fun L hL => ?_
    have hw : RS K H1 ρ1 (wipe σ vs) (wipeD δ vs) := (hσ.mono s1).wipe vs
    -- what holds between two turns
    let N : Nat → Hp → Prop := fun i H2 => ∃ ρ2 S2 acc vacc, acc.length ≤ i ∧ Step ρ1 ρ2 H1 H2 ∧ SR K H2 (ρ2.ban L) S2 ∧ H2 L = some (.lst vacc) ∧ L ∉ ρ2.pl ∧ RVs K H2 (ρ2.ban L) vacc acc ∧ RVs K H2 (ρ2.ban L) vs0 ds ∧ RS K H2 (ρ2.ban L) (wipe σ vs) (wipeD δ vs) ∧
        lcGo k ds items o c f (wipeD δ vs) (items.drop i) acc S2 = some (out', Sf)
    refine ⟨fun i m H2 => m = items.length - i ∧ i ≤ items.length ∧ N i H2, ⟨items.length, rfl, Nat.zero_le _, ρ1, S1, [], [], Nat.zero_le _, Step.new hS1 hL, hS1.ban hL, upd_same, hS1.freshP hL, .nil, rvs0.ban hL, hw.ban hL, e3⟩, ?_⟩
    rintro i m H2 ⟨rfl, hil, ρ2, S2, acc, vacc, hal, s2, hS2, hacc, nL, racc, rv0, hw2, e4⟩
    by_cases hlt : i < items.length
    · rw [List.drop_eq_getElem_cons hlt] at e4
      unfold lcGo at e4
      split at e4
      · rename_i hk
        obtain ⟨⟨δ3, S3⟩, e5, e6⟩ := bnd e4
        obtain ⟨⟨b, S4⟩, e7, e8⟩ := bnd e6
        dsimp only at e7 e8
        refine .inr ⟨wk.go i H2 _ S2 rv0 hS2 hk hlt, N (i + 1), fun H' n => ⟨items.length - (i + 1), by omega, rfl, hlt, n⟩, fun x H3 y => ?_⟩
        obtain ⟨st, hS3, d, hd, rd⟩ := wk.yld i H2 _ S2 x H3 rv0 hS2 hk y hlt
        have ed : items[i] = d := by rw [List.getElem?_eq_getElem hlt] at hd; exact Option.some.inj hd
        rw [ed] at e5
        refine hg.gw _ _ _ _ (hg.lg _ _ _ _ _ _ _ _ _ _ hS3 (hw2.mono st) rd e5 fun σ4 H4 ρ4 s4 hS4 hσ4 w4 => ⟨w4.trans (wipe_wipe σ vs), ?_⟩)
        refine ⟨ρ4, δ3, S3, b, S4, hS4, hσ4, e7, fun H5 ρ5 s5 hS5 => ?_⟩
        have sb := (st.trans s4).trans s5
        cases b with
        | false =>
          have eb := ban_bn sb
          rw [eb] at sb hS5
          refine ⟨_, S4, acc, vacc, by omega, s2.trans sb.unban, hS5, sb.keep _ _ hacc nL, sb.ninP hacc nL, racc.mono sb, rv0.mono sb, hw2.mono sb, e8⟩
        | true =>
          obtain ⟨⟨y, S6⟩, e9, e10⟩ := bnd (o := f δ3 S4) e8
          refine ⟨ρ5, δ3, S4, y, S6, hS5, hσ4.mono s5, e9, fun v H6 ρ6 s6 hS6 rv => ?_⟩
          have sc := sb.trans s6
          have ec := ban_bn sc
          rw [ec] at sc hS6 rv
          have nL6 : L ∉ ρ6.pl := sc.ninP hacc nL
          have bL : L ∈ ((⟨ρ6.pl, ρ2.bn⟩ : Ro).ban L).bn := List.mem_cons_self
          refine ⟨vacc, sc.keep _ _ hacc nL, by rw [racc.len]; exact Nat.lt_of_le_of_lt hal (Nat.lt_trans hlt hlim.lt), ?_⟩
          refine ⟨_, S6, acc ++ [y], vacc ++ [v], by rw [List.length_append]; exact Nat.add_le_add_right hal 1, (s2.trans sc.unban).skip hL, hS6.banned bL nL6, upd_same, nL6, ((racc.mono sc).snoc rv).banned bL, (rv0.mono sc).banned bL, (hw2.mono sc).banned bL, e10⟩
      · cases e4
    · have ei : i = items.length := by omega
      subst ei
      rw [List.drop_length] at e4
      unfold lcGo at e4
      split at e4
      · cases e4
        rename_i hk
        refine .inl ⟨wk.stop _ H2 _ _ rv0 hS2 hk (Nat.le_refl _), ?_⟩
        refine q H2 ρ2 L vacc ⟨s1.dom L hL, s1.trans s2⟩ hS2 hacc nL (fun m => ?_) racc
        rw [s2.bn] at m
        exact hS1.bn L m hL
      · cases e4
  · cases e
theorem le_lc {wi : TI} {k : Ik} {fa : FA} {g : TG} {o : FG} {c : FT} {f : FE} {vs : List Nat} (hi : LI K wi k fa) (hg : LGW K g o vs) :
    ∀ σ H Q, tD K (lcD k fa o c f vs) σ H Q → tLc wi g (tDT K c) (tD K f) vs σ H Q := by
  rintro σ H Q ⟨ρ, δ, S, d, S', hS, hσ, e, q⟩
  have hd : ∃ out, d = .lst out := by
    obtain ⟨⟨ds, S1⟩, e1, e⟩ := bnd e
    obtain ⟨items, e2, e⟩ := bnd e
    dsimp only at e
    split at e
    · obtain ⟨⟨out, Sf⟩, e3, e⟩ := bnd e
      cases e
      exact ⟨_, rfl⟩
    · cases e
  obtain ⟨out, rfl⟩ := hd
  exact lc_main hi hg hS hσ e fun H2 ρ2 L vacc s2 hS2 hacc nL nB racc => q _ H2 ρ2 s2.2 hS2.unban (.lst hacc ⟨nL, nB⟩ racc.unban)
end
end DL
end
noncomputable section
namespace DL
open PySem L2
section
variable {K : PySem.W.Frag}
/-! ### what is left behind a def: the places that it made are forgotten -/
mutual
def old (n : Nat) : D → Bool
  | .tup ds => oldL n ds
  | .lst ds => oldL n ds
  | .rol ds => oldL n ds
  | .ins _ _ ds => oldL n ds
  | .dic _ ds => oldL n ds
  | .loc m => decide (m < n)
  | .non => true
  | .bl _ => true
  | .int _ => true
  | .str _ => true
  | .ty _ => true
def oldL (n : Nat) : List D → Bool
  | [] => true
  | d :: r => old n d && oldL n r
end
def oldO (n : Nat) : Ob → Bool
  | .lst ds => oldL n ds
  | .ins _ gs => oldL n (gs.map (·.2))
  | .dct gs => oldL n (gs.map (·.2))
def cut (ρ : Ro) (n : Nat) : Ro := ⟨ρ.pl.take n, ρ.bn⟩
theorem RL.cut {ρ : Ro} {H : Hp} {n : Nat} {a : Addr} {vs : List V} (h : RL K H ρ a vs) : RL K H (cut ρ n) a vs := by
  rcases h with ⟨h, m⟩ | h
  · exact .inl ⟨h, fun z => m.1 (List.mem_of_mem_take z), m.2⟩
  · exact .inr h
mutual
theorem RV.cut {ρ : Ro} {H : Hp} {n : Nat} : ∀ {v : V} {d : D}, old n d = true → RV K H ρ v d → RV K H (cut ρ n) v d
  | _, _, _, .non => .non
  | _, _, _, .bl => .bl
  | _, _, _, .int => .int
  | _, _, _, .str => .str
  | _, _, _, .ty => .ty
  | _, _, o, .tup h m r => .tup h ⟨fun z => m.1 (List.mem_of_mem_take z), m.2⟩ (RVs.cut (by unfold old at o; exact o) r)
  | _, _, o, .lst h m r => .lst h ⟨fun z => m.1 (List.mem_of_mem_take z), m.2⟩ (RVs.cut (by unfold old at o; exact o) r)
  | _, _, o, .rol h r => .rol h.cut (RVs.cut (by unfold old at o; exact o) r)
  | _, _, o, .ins h m r => .ins h ⟨fun z => m.1 (List.mem_of_mem_take z), m.2⟩ (RVs.cut (by unfold old at o; exact o) r)
  | _, _, o, .dic h m e r => .dic h ⟨fun z => m.1 (List.mem_of_mem_take z), m.2⟩ e (RVs.cut (by unfold old at o; exact o) r)
  | _, _, o, .loc h => .loc (by
      unfold old at o
      have o' := of_decide_eq_true o
      show (ρ.pl.take n)[_]? = _
      rw [List.getElem?_take_of_lt o']
      exact h)
theorem RVs.cut {ρ : Ro} {H : Hp} {n : Nat} : ∀ {vs : List V} {ds : List D}, oldL n ds = true → RVs K H ρ vs ds → RVs K H (cut ρ n) vs ds
  | _, _, _, .nil => .nil
  | _, _, o, .cons h r => by
    unfold oldL at o
    rw [Bool.and_eq_true] at o
    exact .cons (RV.cut o.1 h) (RVs.cut o.2 r)
end
theorem OR.cut {ρ : Ro} {H : Hp} {n : Nat} {a : Addr} {o : Ob} (h : oldO n o = true) (r : OR K H ρ a o) : OR K H (cut ρ n) a o := by
  cases o with
  | lst ds => obtain ⟨vs, e, r⟩ := r; exact ⟨vs, e, r.cut h⟩
  | ins C gs => obtain ⟨dx, fs, e, m, r⟩ := r; exact ⟨dx, fs, e, m, r.cut h⟩
  | dct gs => obtain ⟨fs, e, m, r⟩ := r; exact ⟨fs, e, m, r.cut h⟩
theorem SR.cut {ρ : Ro} {H : Hp} {S : Sg} {n : Nat} (s : SR K H ρ S) (h : (S.take n).all (oldO n) = true) : SR K H (cut ρ n) (S.take n) := by
  refine ⟨by show (ρ.pl.take n).length = _; rw [List.length_take, List.length_take, s.len], s.nd.sublist (List.take_sublist _ _), s.bn, fun a m => s.dj a (List.mem_of_mem_take m), fun k a o e1 e2 => ?_⟩
  have e1 : (ρ.pl.take n)[k]? = some a := e1
  have hk : k < n := by
    have := (List.getElem?_eq_some_iff.mp e1).1
    rw [List.length_take] at this
    omega
  have m := List.mem_of_getElem? e2
  rw [List.getElem?_take_of_lt hk] at e1 e2
  exact (s.ob k a o e1 e2).cut (List.all_eq_true.mp h o m)
/-! a value told by a def: a new list is told as it is then; φ tells a new place's thing -/
mutual
def frzG (n : Nat) (φ : Nat → Option D) : D → Option D
  | .tup ds => (frzL n φ ds).bind fun r => some (.tup r)
  | .lst ds => (frzL n φ ds).bind fun r => some (.lst r)
  | .rol ds => if oldL n ds = true then some (.rol ds) else none
  | .ins C ns ds => (frzL n φ ds).bind fun r => some (.ins C ns r)
  | .dic ks ds => (frzL n φ ds).bind fun r => some (.dic ks r)
  | .loc m => if m < n then some (.loc m) else φ m
  | .non => some .non
  | .bl b => some (.bl b)
  | .int i => some (.int i)
  | .str z => some (.str z)
  | .ty z => some (.ty z)
def frzL (n : Nat) (φ : Nat → Option D) : List D → Option (List D)
  | [] => some []
  | d :: r => (frzG n φ d).bind fun x => (frzL n φ r).bind fun y => some (x :: y)
end
def keysT : List (Key × D) → Option (List Str)
  | [] => some []
  | (.inr k, _) :: r => (keysT r).bind fun ks => some (k :: ks)
  | _ => none
theorem keysT_eq : ∀ {gs : List (Key × D)} {ks : List Str}, keysT gs = some ks → gs.map (·.1) = ks.map Sum.inr
  | [], _, h => by cases h; rfl
  | (.inr k, d) :: r, _, h => by
    unfold keysT at h
    obtain ⟨ks, e, h⟩ := bnd h
    cases h
    rw [List.map_cons, List.map_cons, keysT_eq e]
  | (.inl _, _) :: _, _, h => by unfold keysT at h; cases h
/-- k deep -/
def frzP (S : Sg) (n : Nat) : Nat → Nat → Option D
  | 0, _ => none
  | k + 1, m => match S[m]? with
    | some (.lst ds) => (frzL n (frzP S n k) ds).bind fun r => some (.lst r)
    | some (.ins C gs) => (frzL n (frzP S n k) (gs.map (·.2))).bind fun r => some (.ins C (gs.map (·.1)) r)
    | some (.dct gs) => (keysT gs).bind fun ks => (frzL n (frzP S n k) (gs.map (·.2))).bind fun r => some (.dic ks r)
    | none => none
def frz (S : Sg) (n : Nat) (d : D) : Option D := frzG n (frzP S n 4) d
mutual
theorem frzG_old {n : Nat} {φ : Nat → Option D} : ∀ d : D, old n d = true → frzG n φ d = some d
  | .tup ds, h => by unfold old at h; unfold frzG; rw [frzL_old ds h]; rfl
  | .lst ds, h => by unfold old at h; unfold frzG; rw [frzL_old ds h]; rfl
  | .rol ds, h => by unfold old at h; unfold frzG; rw [if_pos h]
  | .ins C ns ds, h => by unfold old at h; unfold frzG; rw [frzL_old ds h]; rfl
  | .dic ks ds, h => by unfold old at h; unfold frzG; rw [frzL_old ds h]; rfl
  | .loc m, h => by unfold old at h; unfold frzG; rw [if_pos (of_decide_eq_true h)]
  | .non, _ => by unfold frzG; rfl
  | .bl _, _ => by unfold frzG; rfl
  | .int _, _ => by unfold frzG; rfl
  | .str _, _ => by unfold frzG; rfl
  | .ty _, _ => by unfold frzG; rfl
theorem frzL_old {n : Nat} {φ : Nat → Option D} : ∀ ds : List D, oldL n ds = true → frzL n φ ds = some ds
  | [], _ => by unfold frzL; rfl
  | d :: r, h => by
    unfold oldL at h
    rw [Bool.and_eq_true] at h
    unfold frzL
    rw [frzG_old d h.1, frzL_old r h.2]
    rfl
end
theorem not_take {ρ : Ro} {H : Hp} {S : Sg} {n m : Nat} {a : Addr} (s : SR K H ρ S) (h : ρ.pl[m]? = some a) (hm : ¬ m < n) : a ∉ ρ.pl.take n := by
  intro z
  obtain ⟨k, hk, e⟩ := List.mem_iff_getElem.mp z
  rw [List.length_take] at hk
  have e2 : ρ.pl[k]? = some a := by
    rw [List.getElem_take] at e
    rw [List.getElem?_eq_getElem (by omega), e]
  obtain ⟨l1, g1⟩ := List.getElem?_eq_some_iff.mp h
  obtain ⟨l2, g2⟩ := List.getElem?_eq_some_iff.mp e2
  exact List.pairwise_iff_getElem.mp s.nd k m l2 l1 (by omega) (g2.trans g1.symm)
/-- what φ tells of a place is right -/
def PhOk (K : PySem.W.Frag) (H : Hp) (ρ : Ro) (n : Nat) (φ : Nat → Option D) : Prop := ∀ m a d, ρ.pl[m]? = some a → ¬ m < n → φ m = some d → RV K H (cut ρ n) (.ref a) d
mutual
theorem RV.frzG {ρ : Ro} {H : Hp} {n : Nat} {φ : Nat → Option D} (hφ : PhOk K H ρ n φ) : ∀ {v : V} {d d' : D}, frzG n φ d = some d' → RV K H ρ v d → RV K H (cut ρ n) v d'
  | _, _, _, e, .non => by unfold DL.frzG at e; cases e; exact .non
  | _, _, _, e, .bl => by unfold DL.frzG at e; cases e; exact .bl
  | _, _, _, e, .int => by unfold DL.frzG at e; cases e; exact .int
  | _, _, _, e, .str => by unfold DL.frzG at e; cases e; exact .str
  | _, _, _, e, .ty => by unfold DL.frzG at e; cases e; exact .ty
  | _, _, _, e, .tup h m r => by
    unfold DL.frzG at e
    obtain ⟨x, e1, e⟩ := bnd e
    cases e
    exact .tup h ⟨fun z => m.1 (List.mem_of_mem_take z), m.2⟩ (RVs.frzL hφ e1 r)
  | _, _, _, e, .lst h m r => by
    unfold DL.frzG at e
    obtain ⟨x, e1, e⟩ := bnd e
    cases e
    exact .lst h ⟨fun z => m.1 (List.mem_of_mem_take z), m.2⟩ (RVs.frzL hφ e1 r)
  | _, _, _, e, .rol h r => by
    unfold DL.frzG at e
    split at e
    · rename_i o
      cases e
      exact .rol h.cut (RVs.cut o r)
    · cases e
  | _, _, _, e, .ins h m r => by
    unfold DL.frzG at e
    obtain ⟨x, e1, e⟩ := bnd e
    cases e
    exact .ins h ⟨fun z => m.1 (List.mem_of_mem_take z), m.2⟩ (RVs.frzL hφ e1 r)
  | _, _, _, e, .dic h m ee r => by
    unfold DL.frzG at e
    obtain ⟨x, e1, e⟩ := bnd e
    cases e
    exact .dic h ⟨fun z => m.1 (List.mem_of_mem_take z), m.2⟩ ee (RVs.frzL hφ e1 r)
  | _, _, _, e, .loc h => by
    unfold DL.frzG at e
    split at e
    · rename_i hm
      cases e
      refine .loc ?_
      show (ρ.pl.take n)[_]? = _
      rw [List.getElem?_take_of_lt hm]
      exact h
    · rename_i hm
      exact hφ _ _ _ h hm e
theorem RVs.frzL {ρ : Ro} {H : Hp} {n : Nat} {φ : Nat → Option D} (hφ : PhOk K H ρ n φ) : ∀ {vs : List V} {ds es : List D}, frzL n φ ds = some es → RVs K H ρ vs ds → RVs K H (cut ρ n) vs es
  | _, _, _, e, .nil => by unfold DL.frzL at e; cases e; exact .nil
  | _, _, _, e, .cons h r => by
    unfold DL.frzL at e
    obtain ⟨x, e1, e⟩ := bnd e
    obtain ⟨y, e2, e⟩ := bnd e
    cases e
    exact .cons (RV.frzG hφ e1 h) (RVs.frzL hφ e2 r)
end
theorem frzP_ok {ρ : Ro} {H : Hp} {S : Sg} {n : Nat} (s : SR K H ρ S) : ∀ k : Nat, PhOk K H ρ n (frzP S n k)
  | 0 => fun m a d h hm e => by cases e
  | k + 1 => fun m a d h hm e => by
    unfold frzP at e
    split at e
    · rename_i hs
      obtain ⟨x, e1, e⟩ := bnd e
      cases e
      obtain ⟨vs, h1, h2⟩ := s.ob _ _ _ h hs
      exact .lst h1 ⟨not_take s h hm, s.dj _ (List.mem_of_getElem? h)⟩ (RVs.frzL (frzP_ok s k) e1 h2)
    · rename_i hs
      obtain ⟨x, e1, e⟩ := bnd e
      cases e
      obtain ⟨dx, fs, h1, h2, h3⟩ := s.ob _ _ _ h hs
      rw [← h2]
      exact .ins h1 ⟨not_take s h hm, s.dj _ (List.mem_of_getElem? h)⟩ (RVs.frzL (frzP_ok s k) e1 h3)
    · rename_i hs
      obtain ⟨ks, e0, e⟩ := bnd e
      obtain ⟨x, e1, e⟩ := bnd e
      cases e
      obtain ⟨fs, h1, h2, h3⟩ := s.ob _ _ _ h hs
      exact .dic h1 ⟨not_take s h hm, s.dj _ (List.mem_of_getElem? h)⟩ (h2.trans (keysT_eq e0)) (RVs.frzL (frzP_ok s k) e1 h3)
    · cases e
theorem RV.frz {ρ : Ro} {H : Hp} {S : Sg} {n : Nat} (s : SR K H ρ S) {v : V} {d d' : D} (e : DL.frz S n d = some d') (r : RV K H ρ v d) : RV K H (DL.cut ρ n) v d' := RV.frzG (frzP_ok s 4) e r
/-- the end of a def: places of its own are gone -/
def fin (n : Nat) (d : D) (S : Sg) : Option (D × Sg) := if S.length = n then some (d, S) else (frz S n d).bind fun x => if (S.take n).all (oldO n) = true then some (x, S.take n) else none
/-- the end of a def whose new places stay -/
def finK (_ : Nat) (d : D) (S : Sg) : Option (D × Sg) := some (d, S)
def FinOk (K : PySem.W.Frag) (φ : Nat → D → Sg → Option (D × Sg)) : Prop := ∀ (ρ ρ' : Ro) (H H' : Hp) (S S' S'' : Sg) (v : V) (d d' : D), SR K H ρ S → Step ρ ρ' H H' → SR K H' ρ' S' → RV K H' ρ' v d → φ S.length d S' = some (d', S'') →
  ∃ ρ2, Step ρ ρ2 H H' ∧ SR K H' ρ2 S'' ∧ RV K H' ρ2 v d'
theorem finK_ok : FinOk K finK := by
  intro ρ ρ' H H' S S' S'' v d d' hS st hS' r e
  cases e
  exact ⟨ρ', st, hS', r⟩
theorem fin_ok : FinOk K fin := by
  intro ρ ρ' H H' S S' S'' v d d' hS st hS' r e
  unfold fin at e
  split at e
  · cases e
    exact ⟨ρ', st, hS', r⟩
  · obtain ⟨x, e1, e⟩ := bnd e
    split at e
    · rename_i ho
      cases e
      refine ⟨cut ρ' S.length, ⟨⟨[], ?_, by simp⟩, st.bn, st.keep, st.dom⟩, hS'.cut ho, RV.frz hS' e1 r⟩
      obtain ⟨nw, e2, _⟩ := st.ext
      show ρ'.pl.take S.length = ρ.pl ++ []
      rw [e2, ← hS.len, List.take_left', List.append_nil]
      rfl
    · cases e
def bodyF (φ : Nat → D → Sg → Option (D × Sg)) (n : Nat) (body : FS) : Fn := fun ds S => (body (ds.map some ++ List.replicate (n - ds.length) none) S).bind fun r => match r.1 with
  | .rt d => φ S.length d r.2.2
  | .nx => φ S.length .non r.2.2
  | _ => none
theorem body_ok {φ : Nat → D → Sg → Option (D × Sg)} (hφ : FinOk K φ) {N : List Str} {n m : Nat} {body : FS} (hn : N.length = n) {vs : List V} {H : Hp} {Q : VK} {E : XK} (h : spD K m (bodyF φ n body) vs H Q E) :
    tDS K body { nx := fun _ H' => Q .non H', rt := Q } (start N vs) H := by
  obtain ⟨ρ, S, ds, d, S', hl, hS, hv, e, q⟩ := h
  obtain ⟨⟨r, δ', S1⟩, e1, e⟩ := bnd e
  refine ⟨ρ, _, S, r, δ', S1, hS, RS.start hv N n hn, e1, ?_⟩
  dsimp only at e
  cases r with
  | rt x =>
    intro v H' ρ' st hS' rv
    obtain ⟨ρ2, s2, hS2, r2⟩ := hφ _ _ _ _ _ _ _ _ _ _ hS st hS' rv e
    exact q v H' ρ2 s2 hS2 r2
  | nx =>
    intro σ' H' ρ' st hS' _
    obtain ⟨ρ2, s2, hS2, r2⟩ := hφ _ _ _ _ _ _ _ _ _ _ hS st hS' .non e
    exact q .non H' ρ2 s2 hS2 r2
  | bk => cases e
  | ct => cases e
theorem spD_len {n : Nat} {F : Fn} {vs : List V} {H : Hp} {Q : VK} {E : XK} (h : spD K n F vs H Q E) : vs.length = n := by
  obtain ⟨_, _, _, _, _, h, _⟩ := h
  exact h
/-! ### methods, new objects -/
def methD (C : Addr) (m : Str) (F : Fn) (dds : List D) (fa : FE) (f : FA) : FE := fun δ S => (fa δ S).bind fun p => (fsOf p.2 C p.1).bind fun gs => if gs.lookup m = none then (f δ p.2).bind fun q => F (p.1 :: (q.1 ++ dds)) q.2 else none
theorem le_meth {C : Addr} {m : Str} {n : Nat} {F : Fn} {dvs : List V} {dds : List D} {E : XK} {fa : FE} {f : FA} (hd : ∀ H ρ, RVs K H ρ dvs dds) (hn : ∀ δ S ds S', f δ S = some (ds, S') → (ds ++ dds).length + 1 = n) :
    ∀ σ H Q, tD K (methD C m F dds fa f) σ H Q → tMeth C m (spD K n F) dvs E (tD K fa) (tDA K f) σ H Q := by
  rintro σ H Q ⟨ρ, δ, S, d, S', hS, hσ, e, q⟩
  obtain ⟨⟨x, S1⟩, e1, e⟩ := bnd e
  obtain ⟨gs, e2, e⟩ := bnd e
  split at e
  · rename_i hno
    obtain ⟨⟨y, S2⟩, e3, e⟩ := bnd e
    refine ⟨ρ, δ, S, x, S1, hS, hσ, e1, fun v H1 ρ1 s1 hS1 rv => ?_⟩
    obtain ⟨a, dx, fs, rfl, h1, h2, h3⟩ := fsOf_sq hS1 rv e2
    refine ⟨a, dx, fs, rfl, h1, look_none h2 hno, ρ1, δ, S1, y, S2, hS1, hσ.mono s1, e3, fun vs H2 ρ2 s2 hS2 rvs => ?_⟩
    have r2 : RVs K H2 ρ2 (.ref a :: (vs ++ dvs)) (x :: (y ++ dds)) := .cons (rv.mono s2) (rvs.append (hd H2 ρ2))
    exact ⟨ρ2, S2, _, d, S', by rw [r2.len]; exact hn _ _ _ _ e3, hS2, r2, e, fun w H3 ρ3 s3 hS3 rw' => q w H3 ρ3 ((s1.trans s2).trans s3) hS3 rw'⟩
  · cases e
/-- C(..): φ says whether the object stays to be changed (finK) or is told as it is (fin) -/
def mkD (φ : Nat → D → Sg → Option (D × Sg)) (C : Addr) (F : Fn) (dds : List D) (f : FA) : FE := fun δ S => (f δ S).bind fun p => (F (.loc p.2.length :: (p.1 ++ dds)) (p.2 ++ [.ins C []])).bind fun q => if isNoneB q.1 = true then φ p.2.length (.loc p.2.length) q.2 else none
theorem le_mk {φ : Nat → D → Sg → Option (D × Sg)} (hφ : FinOk K φ) {C : Addr} {n : Nat} {F : Fn} {dvs : List V} {dds : List D} {E : XK} {f : FA} (hd : ∀ H ρ, RVs K H ρ dvs dds) (hn : ∀ δ S ds S', f δ S = some (ds, S') → (ds ++ dds).length + 1 = n) :
    ∀ σ H Q, tD K (mkD φ C F dds f) σ H Q → tMake C (spD K n F) dvs E (tDA K f) σ H Q := by
  rintro σ H Q ⟨ρ, δ, S, d, S', hS, hσ, e, q⟩
  obtain ⟨⟨y, S1⟩, e1, e⟩ := bnd e
  obtain ⟨⟨w, S2⟩, e2, e⟩ := bnd e
  dsimp only at e
  split at e
  · rename_i hw
    refine ⟨ρ, δ, S, y, S1, hS, hσ, e1, fun vs H1 ρ1 s1 hS1 rvs x dx hx hdx ne => ?_⟩
    have hx2 : (upd H1 dx (.own x)) x = none := by rw [upd_ne (Ne.symm ne)]; exact hx
    have sA : Step ρ1 ρ1 H1 (upd H1 dx (.own x)) := Step.new hS1 hdx
    have hSA : SR K (upd H1 dx (.own x)) ρ1 S1 := hS1.new hdx
    have sB : Step ρ1 (ρ1.push x) (upd H1 dx (.own x)) (upd (upd H1 dx (.own x)) x (.ins C dx [])) := Step.push hSA hx2
    have hSB : SR K (upd (upd H1 dx (.own x)) x (.ins C dx [])) (ρ1.push x) (S1 ++ [.ins C []]) := hSA.push hx2 ⟨dx, [], upd_same, rfl, .nil⟩
    have rx : RV K (upd (upd H1 dx (.own x)) x (.ins C dx [])) (ρ1.push x) (.ref x) (.loc S1.length) := by
      refine .loc ?_
      show (ρ1.pl ++ [x])[S1.length]? = some x
      rw [← hS1.len, List.getElem?_append_right (Nat.le_refl _), Nat.sub_self]
      rfl
    have r2 : RVs K _ (ρ1.push x) (.ref x :: (vs ++ dvs)) (.loc S1.length :: (y ++ dds)) := .cons rx (((rvs.mono (sA.trans sB))).append (hd _ _))
    refine ⟨ρ1.push x, _, _, w, S2, by rw [r2.len]; exact hn _ _ _ _ e1, hSB, r2, e2, fun v H2 ρ2 s2 hS2 rv => ?_⟩
    have ew : w = .non := by cases w <;> first | rfl | cases hw
    subst ew
    cases rv
    refine ⟨rfl, ?_⟩
    obtain ⟨ρ3, s3, hS3, r3⟩ := hφ _ _ _ _ _ _ _ _ _ _ hS1 ((sA.trans sB).trans s2) hS2 (rx.mono s2) e
    exact q _ H2 ρ3 (s1.trans s3) hS3 r3
  · cases e
end
end DL
end
noncomputable section
namespace DL
open PySem L2
section
variable {K : PySem.W.Frag}
/-! ### lists of numbers, truths, texts -/
def intsOf : List D → Option (List Int)
  | [] => some []
  | .int i :: r => (intsOf r).bind fun ns => some (i :: ns)
  | _ => none
def blsOf : List D → Option (List Bool)
  | [] => some []
  | .bl i :: r => (blsOf r).bind fun ns => some (i :: ns)
  | _ => none
def strsOf : List D → Option (List Str)
  | [] => some []
  | .str i :: r => (strsOf r).bind fun ns => some (i :: ns)
  | _ => none
theorem intsOf_map (ns : List Int) : intsOf (ns.map .int) = some ns := by
  induction ns with
  | nil => rfl
  | cons n ns ih => show (intsOf (ns.map .int)).bind _ = _; rw [ih]; rfl
theorem blsOf_map (ns : List Bool) : blsOf (ns.map .bl) = some ns := by
  induction ns with
  | nil => rfl
  | cons n ns ih => show (blsOf (ns.map .bl)).bind _ = _; rw [ih]; rfl
theorem strsOf_map (ns : List Str) : strsOf (ns.map .str) = some ns := by
  induction ns with
  | nil => rfl
  | cons n ns ih => show (strsOf (ns.map .str)).bind _ = _; rw [ih]; rfl
theorem intsOf_eq : ∀ {ds : List D} {ns : List Int}, intsOf ds = some ns → ds = ns.map .int
  | [], ns, h => by cases h; rfl
  | d :: r, ns, h => by
    cases d <;> first | cases h | skip
    obtain ⟨ms, e, h⟩ := bnd (o := intsOf r) h
    cases h
    rw [intsOf_eq e]
    rfl
theorem blsOf_eq : ∀ {ds : List D} {ns : List Bool}, blsOf ds = some ns → ds = ns.map .bl
  | [], ns, h => by cases h; rfl
  | d :: r, ns, h => by
    cases d <;> first | cases h | skip
    obtain ⟨ms, e, h⟩ := bnd (o := blsOf r) h
    cases h
    rw [blsOf_eq e]
    rfl
theorem strsOf_eq : ∀ {ds : List D} {ns : List Str}, strsOf ds = some ns → ds = ns.map .str
  | [], ns, h => by cases h; rfl
  | d :: r, ns, h => by
    cases d <;> first | cases h | skip
    obtain ⟨ms, e, h⟩ := bnd (o := strsOf r) h
    cases h
    rw [strsOf_eq e]
    rfl
theorem rvs_ints {ρ : Ro} {H : Hp} : ∀ {vs : List V} {ns : List Int}, RVs K H ρ vs (ns.map .int) → vs = ns.map V.int
  | _, [], .nil => rfl
  | _, n :: ns, .cons h r => by
    cases h
    rw [rvs_ints r]
    rfl
theorem rvs_bls {ρ : Ro} {H : Hp} : ∀ {vs : List V} {ns : List Bool}, RVs K H ρ vs (ns.map .bl) → vs = ns.map V.bl
  | _, [], .nil => rfl
  | _, n :: ns, .cons h r => by
    cases h
    rw [rvs_bls r]
    rfl
theorem rvs_strs {ρ : Ro} {H : Hp} : ∀ {vs : List V} {ns : List Str}, RVs K H ρ vs (ns.map .str) → vs = ns.map V.str
  | _, [], .nil => rfl
  | _, n :: ns, .cons h r => by
    cases h
    rw [rvs_strs r]
    rfl
theorem ints_rvs {ρ : Ro} {H : Hp} : ∀ ns : List Int, RVs K H ρ (ns.map V.int) (ns.map .int)
  | [] => .nil
  | _ :: ns => .cons .int (ints_rvs ns)
theorem strs_rvs {ρ : Ro} {H : Hp} : ∀ ns : List Str, RVs K H ρ (ns.map V.str) (ns.map .str)
  | [] => .nil
  | _ :: ns => .cons .str (strs_rvs ns)
/-! ### operators -/
theorem opD_str {g : Str → Str → V} {g' : Str → Str → D} {C C' : Str → Str → Prop} [∀ i j, Decidable (C i j)] (hC : ∀ i j, C i j → C' i j) (hg : ∀ i j, Plain (g i j) (g' i j)) :
    OpD K (fun x y H Q => ∃ i j, x = .str i ∧ y = .str j ∧ C' i j ∧ Q (g i j) H) (fun d e S => match d, e with
      | .str i, .str j => if C i j then some (g' i j, S) else none
      | _, _ => none) := by
  intro x y H Q ρ S d e z S' hS rx ry eq q
  dsimp only at eq
  split at eq
  · cases rx; cases ry
    split at eq
    · cases eq
      exact ⟨_, _, rfl, rfl, hC _ _ ‹_›, q _ H ρ (Step.refl _ _) hS (hg _ _).rv⟩
    · cases eq
  · cases eq
def catO : O2 := fun d e S => (plOf S d).bind fun xs => (plOf S e).bind fun ys => if Fits (xs.length + ys.length) then some (.lst (xs ++ ys), S) else none
theorem opD_cat : OpD K rCat catO := by
  intro x y H Q ρ S d e z S' hS rx ry eq q
  obtain ⟨xs, e1, eq⟩ := bnd eq
  obtain ⟨ys, e2, eq⟩ := bnd eq
  split at eq
  · cases eq
    obtain ⟨a, vs, rfl, h1, r1⟩ := plOf_sq hS rx e1
    obtain ⟨b, ws, rfl, h2, r2⟩ := plOf_sq hS ry e2
    refine ⟨a, b, vs, ws, rfl, rfl, h1, h2, by rw [r1.len, r2.len]; exact Fits.le ‹_›, fun p hp => ?_⟩
    exact q _ _ ρ (Step.new hS hp) (hS.new hp) (rv_lst hS hp (r1.append r2))
  · cases eq
def addO : O2 := fun d e S => match d, e with
  | .int i, .int j => some (.int (i + j), S)
  | .str i, .str j => if Fits (i.length + j.length) then some (.str (i ++ j), S) else none
  | d, e => catO d e S
def rAdd3 : R2 := fun x y H Q => (rI0 fun i j => .int (i + j)) x y H Q ∨ (∃ i j, x = .str i ∧ y = .str j ∧ i.length + j.length ≤ sizeLine ∧ Q (.str (i ++ j)) H) ∨ rCat x y H Q
theorem op_add3 {X : Cx} : OpR X (binaryOp .Add) rAdd3 := OpR_or op_add (OpR_or op_add_str op_cat)
theorem opD_add : OpD K rAdd3 addO := by
  intro x y H Q ρ S d e z S' hS rx ry eq q
  unfold addO at eq
  split at eq
  · cases rx; cases ry; cases eq
    exact .inl ⟨_, _, rfl, rfl, q _ H ρ (Step.refl _ _) hS .int⟩
  · cases rx; cases ry
    split at eq
    · cases eq
      exact .inr (.inl ⟨_, _, rfl, rfl, Fits.le ‹_›, q _ H ρ (Step.refl _ _) hS .str⟩)
    · cases eq
  · exact .inr (.inr (opD_cat x y H Q ρ S d e z S' hS rx ry eq q))
def subO : O2 := int0 fun i j => .int (i - j)
def repO : O2 := fun d e S => match e with
  | .int k => (plOf S d).bind fun xs => if R63 k ∧ Fits (xs.length * k.toNat) then some (.lst (List.replicate k.toNat xs).flatten, S) else none
  | _ => none
theorem RVs.flatten {ρ : Ro} {H : Hp} {vs : List V} {ds : List D} (r : RVs K H ρ vs ds) : ∀ n : Nat, RVs K H ρ (List.replicate n vs).flatten (List.replicate n ds).flatten
  | 0 => .nil
  | n + 1 => by
    rw [List.replicate_succ, List.replicate_succ, List.flatten_cons, List.flatten_cons]
    exact r.append (RVs.flatten r n)
theorem opD_rep : OpD K rRep repO := by
  intro x y H Q ρ S d e z S' hS rx ry eq q
  unfold repO at eq
  split at eq
  · cases ry
    obtain ⟨xs, e1, eq⟩ := bnd eq
    split at eq
    · rename_i hb
      cases eq
      obtain ⟨a, vs, rfl, h1, r1⟩ := plOf_sq hS rx e1
      refine ⟨a, _, vs, rfl, rfl, h1, ((r63_iff _).mp hb.1).1, ((r63_iff _).mp hb.1).2, by rw [r1.len]; exact hb.2.le, fun p hp => ?_⟩
      exact q _ _ ρ (Step.new hS hp) (hS.new hp) (rv_lst hS hp (r1.flatten _))
    · cases eq
  · cases eq
def mulO : O2 := fun d e S => match d, e with
  | .int i, .int j => if MulB i j then some (.int (i * j), S) else none
  | d, e => repO d e S
def rMul2 : R2 := fun x y H Q => (rI CMul fun i j => .int (i * j)) x y H Q ∨ rRep x y H Q
theorem op_mul2 {X : Cx} : OpR X (binaryOp .Mult) rMul2 := OpR_or op_mul op_rep
theorem opD_mul : OpD K rMul2 mulO := by
  intro x y H Q ρ S d e z S' hS rx ry eq q
  unfold mulO at eq
  split at eq
  · cases rx; cases ry
    split at eq
    · rename_i hm
      cases eq
      exact .inl ⟨_, _, rfl, rfl, (mulB_iff _ _).mp hm, q _ H ρ (Step.refl _ _) hS .int⟩
    · cases eq
  · exact .inr (opD_rep x y H Q ρ S d e z S' hS rx ry eq q)
def modO : O2 := intO (fun _ j => 0 < j) fun i j => .int (i % j)
theorem opD_mod : OpD K (rI (fun _ j => 0 < j) fun i j => .int (i % j)) modO := opD_int (fun _ _ h => h) fun _ _ => .int
def fdivO : O2 := intO (fun _ j => DivB j) fun i j => .int (i / j)
theorem div_ok {i j : Int} (h : DivB j) : CDivW i j := by
  rw [divB_iff] at h
  have h1 := h.1
  have h2 := h.2
  have h3 : j.natAbs < 1000000000000000000000000000000 := by omega
  exact wide_div (b := 100) h1 (Nat.lt_trans h3 (by decide)) (by decide) (by decide)
theorem opD_fdiv : OpD K (rI CDivW fun i j => .int (i / j)) fdivO := opD_int (fun _ _ h => div_ok h) fun _ _ => .int
def powO : O2 := intO (fun i j => PowB i j) fun i j => .int (i ^ j.toNat)
theorem pow_ok {i j : Int} (h' : PowB i j) : CPow i j := by
  have h := (powB_iff i j).mp h'
  exact ⟨h.1.1, h.1.2, by
  have h1 := h.2.1
  have h2 := h.2.2
  have h3 : i.natAbs < 18446744073709551616 := by omega
  exact h3⟩
theorem opD_pow : OpD K (rI CPow fun i j => .int (i ^ j.toNat)) powO := opD_int (fun _ _ h => pow_ok h) fun _ _ => .int
/-! equality of plain values -/
def eqB : D → D → Option Bool
  | .non, .non => some true | .non, .int _ => some false | .int _, .non => some false | .non, .bl _ => some false | .bl _, .non => some false | .non, .str _ => some false | .str _, .non => some false
  | .int i, .int j => some (decide (i = j)) | .bl a, .bl b => some (decide (a = b)) | .str a, .str b => some (decide (a = b))
  | .int _, .str _ => some false | .str _, .int _ => some false | .bl _, .str _ => some false | .str _, .bl _ => some false
  | _, _ => none
theorem eqB_ok {ρ : Ro} {H : Hp} {x y : V} {d e : D} {b : Bool} (rx : RV K H ρ x d) (ry : RV K H ρ y e) (h : eqB d e = some b) : scal x y = true ∧ decide (x = y) = b := by
  unfold eqB at h
  split at h <;> first
    | (cases h; done)
    | (cases rx; cases ry; cases h; exact ⟨rfl, by simp⟩)
def eqO : O2 := fun d e S => (eqB d e).bind fun b => some (.bl b, S)
def neO : O2 := fun d e S => (eqB d e).bind fun b => some (.bl (!b), S)
theorem opD_eq : OpD K rEq eqO := by
  intro x y H Q ρ S d e z S' hS rx ry eq q
  obtain ⟨b, e1, eq⟩ := bnd eq
  cases eq
  obtain ⟨h1, h2⟩ := eqB_ok rx ry e1
  exact ⟨h1, by rw [h2]; exact q _ H ρ (Step.refl _ _) hS .bl⟩
theorem opD_ne : OpD K rNe neO := by
  intro x y H Q ρ S d e z S' hS rx ry eq q
  obtain ⟨b, e1, eq⟩ := bnd eq
  cases eq
  obtain ⟨h1, h2⟩ := eqB_ok rx ry e1
  exact ⟨h1, by rw [h2]; exact q _ H ρ (Step.refl _ _) hS .bl⟩
/-! ### Python's own functions -/
def lenO : OC := fun ds S => match ds with
  | [d] => match sqOf S d with
    | some xs => some (.int (xs.length : Int), S)
    | none => match d with
      | .str z => if Fits (z.length) then some (.int (z.length : Int), S) else none
      | _ => none
  | _ => none
theorem cbD_len : CbD K (fun xs H Q => ∃ x n, xs = [x] ∧ LenV K x H n ∧ Q (.int n) H) lenO := by
  intro xs H Q ρ S ds z S' hS rs eq q
  unfold lenO at eq
  split at eq
  · cases rs with | cons rx rn => ?_
    cases rn
    split at eq
    · rename_i ys hy
      cases eq
      obtain ⟨a, vs, rfl, hq, r⟩ := sqOf_sq hS rx hy
      refine ⟨_, ys.length, rfl, ?_, q _ H ρ (Step.refl _ _) hS .int⟩
      rcases hq with hq | hq
      · exact .inl ⟨vs, hq, r.len.symm⟩
      · exact .inr ⟨vs, hq, r.len.symm⟩
    · split at eq
      · cases rx
        split at eq
        · cases eq
          exact ⟨_, _, rfl, ⟨Fits.le ‹_›, rfl⟩, q _ H ρ (Step.refl _ _) hS .int⟩
        · cases eq
      · cases eq
  · cases eq
def absO : OC := fun ds S => match ds with
  | [.int i] => some (.int (if i < 0 then -i else i), S)
  | _ => none
theorem cbD_abs : CbD K (fun xs H Q => ∃ i, xs = [.int i] ∧ Q (.int (if i < 0 then -i else i)) H) absO := by
  intro xs H Q ρ S ds z S' hS rs eq q
  unfold absO at eq
  split at eq
  · cases rs with | cons rx rn => ?_
    cases rn; cases rx; cases eq
    exact ⟨_, rfl, q _ H ρ (Step.refl _ _) hS .int⟩
  · cases eq
def max2O : OC := fun ds S => match ds with
  | [.int i, .int j] => some (.int (if j > i then j else i), S)
  | _ => none
def min2O : OC := fun ds S => match ds with
  | [.int i, .int j] => some (.int (if j < i then j else i), S)
  | _ => none
theorem cbD_max2 : CbD K (fun xs H Q => ∃ i j, xs = [.int i, .int j] ∧ Q (.int (if j > i then j else i)) H) max2O := by
  intro xs H Q ρ S ds z S' hS rs eq q
  unfold max2O at eq
  split at eq
  · cases rs with | cons rx rn => ?_
    cases rn with | cons ry rn => ?_
    cases rn; cases rx; cases ry; cases eq
    exact ⟨_, _, rfl, q _ H ρ (Step.refl _ _) hS .int⟩
  · cases eq
theorem cbD_min2 : CbD K (fun xs H Q => ∃ i j, xs = [.int i, .int j] ∧ Q (.int (if j < i then j else i)) H) min2O := by
  intro xs H Q ρ S ds z S' hS rs eq q
  unfold min2O at eq
  split at eq
  · cases rs with | cons rx rn => ?_
    cases rn with | cons ry rn => ?_
    cases rn; cases rx; cases ry; cases eq
    exact ⟨_, _, rfl, q _ H ρ (Step.refl _ _) hS .int⟩
  · cases eq
def int1O : OC := fun ds S => match ds with
  | [.int i] => some (.int i, S)
  | [.bl k] => some (.int (if k then 1 else 0), S)
  | _ => none
theorem cbD_int1 : CbD K (fun xs H Q => (∃ i, xs = [.int i] ∧ Q (.int i) H) ∨ ∃ k, xs = [.bl k] ∧ Q (.int (if k then 1 else 0)) H) int1O := by
  intro xs H Q ρ S ds z S' hS rs eq q
  unfold int1O at eq
  split at eq
  · cases rs with | cons rx rn => ?_
    cases rn; cases rx; cases eq
    exact .inl ⟨_, rfl, q _ H ρ (Step.refl _ _) hS .int⟩
  · cases rs with | cons rx rn => ?_
    cases rn; cases rx; cases eq
    exact .inr ⟨_, rfl, q _ H ρ (Step.refl _ _) hS .int⟩
  · cases eq
/-- list(x): told for good; to be changed -/
def listO : OC := fun ds S => match ds with
  | [d] => (sqOf S d).bind fun xs => some (.lst xs, S)
  | _ => none
def listN : OC := fun ds S => match ds with
  | [d] => (sqOf S d).bind fun xs => some (.loc S.length, S ++ [.lst xs])
  | _ => none
theorem cbD_list : CbD K (fun xs H Q => ∃ p ys, xs = [.ref p] ∧ (SqL K H p ys ∨ SqT K H p ys) ∧ ∀ l, H l = none → Q (.ref l) (upd H l (.lst ys))) listO := by
  intro xs H Q ρ S ds z S' hS rs eq q
  unfold listO at eq
  split at eq
  · cases rs with | cons rx rn => ?_
    cases rn
    obtain ⟨ys, e1, eq⟩ := bnd eq
    cases eq
    obtain ⟨a, vs, rfl, hq, r⟩ := sqOf_sq hS rx e1
    exact ⟨a, vs, rfl, hq, fun p hp => q _ _ ρ (Step.new hS hp) (hS.new hp) (rv_lst hS hp r)⟩
  · cases eq
theorem cbD_listN : CbD K (fun xs H Q => ∃ p ys, xs = [.ref p] ∧ (SqL K H p ys ∨ SqT K H p ys) ∧ ∀ l, H l = none → Q (.ref l) (upd H l (.lst ys))) listN := by
  intro xs H Q ρ S ds z S' hS rs eq q
  unfold listN at eq
  split at eq
  · cases rs with | cons rx rn => ?_
    cases rn
    obtain ⟨ys, e1, eq⟩ := bnd eq
    cases eq
    obtain ⟨a, vs, rfl, hq, r⟩ := sqOf_sq hS rx e1
    refine ⟨a, vs, rfl, hq, fun p hp => ?_⟩
    obtain ⟨c1, c2⟩ := rv_new hS hp r
    exact q _ _ _ (Step.push hS hp) c1 c2
  · cases eq
def tupleO : OC := fun ds S => match ds with
  | [d] => match lsOf S d with
    | some xs => some (.tup xs, S)
    | none => (tpOf d).bind fun xs => some (.tup xs, S)
  | _ => none
theorem cbD_tuple : CbD K (fun xs H Q => ∃ p ys, xs = [.ref p] ∧ ((SqL K H p ys ∧ ∀ l, H l = none → Q (.ref l) (upd H l (.tup ys))) ∨ (SqT K H p ys ∧ Q (.ref p) H))) tupleO := by
  intro xs H Q ρ S ds z S' hS rs eq q
  unfold tupleO at eq
  split at eq
  · cases rs with | cons rx rn => ?_
    cases rn
    split at eq
    · rename_i ys e1
      cases eq
      obtain ⟨a, vs, rfl, hq, r⟩ := lsOf_sq hS rx e1
      exact ⟨a, vs, rfl, .inl ⟨hq, fun p hp => q _ _ ρ (Step.new hS hp) (hS.new hp) (rv_tup hS hp r)⟩⟩
    · obtain ⟨ys, e1, eq⟩ := bnd eq
      cases eq
      obtain ⟨a, vs, rfl, hq, r⟩ := tpOf_sq rx e1
      refine ⟨a, vs, rfl, .inr ⟨hq, q _ H ρ (Step.refl _ _) hS ?_⟩⟩
      unfold tpOf at e1
      split at e1
      · cases e1; exact rx
      · cases e1
  · cases eq
def anyO : OC := fun ds S => match ds with
  | [d] => (lsOf S d).bind fun xs => (blsOf xs).bind fun bs => some (.bl (bs.any id), S)
  | _ => none
def allO : OC := fun ds S => match ds with
  | [d] => (lsOf S d).bind fun xs => (blsOf xs).bind fun bs => some (.bl (bs.all id), S)
  | _ => none
theorem cbD_any : CbD K (rAny K) anyO := by
  intro xs H Q ρ S ds z S' hS rs eq q
  unfold anyO at eq
  split at eq
  · cases rs with | cons rx rn => ?_
    cases rn
    obtain ⟨ys, e1, eq⟩ := bnd eq
    obtain ⟨bs, e2, eq⟩ := bnd eq
    cases eq
    obtain ⟨a, vs, rfl, hq, r⟩ := lsOf_sq hS rx e1
    rw [blsOf_eq e2] at r
    rw [rvs_bls r] at hq
    exact ⟨a, bs, rfl, hq, q _ H ρ (Step.refl _ _) hS .bl⟩
  · cases eq
theorem cbD_all : CbD K (rAll K) allO := by
  intro xs H Q ρ S ds z S' hS rs eq q
  unfold allO at eq
  split at eq
  · cases rs with | cons rx rn => ?_
    cases rn
    obtain ⟨ys, e1, eq⟩ := bnd eq
    obtain ⟨bs, e2, eq⟩ := bnd eq
    cases eq
    obtain ⟨a, vs, rfl, hq, r⟩ := lsOf_sq hS rx e1
    rw [blsOf_eq e2] at r
    rw [rvs_bls r] at hq
    exact ⟨a, bs, rfl, hq, q _ H ρ (Step.refl _ _) hS .bl⟩
  · cases eq
def rSum2 (K : PySem.W.Frag) : List V → Hp → VK → Prop := fun vs H Q => rSum K vs H Q ∨ ∃ (a : Addr) (ns : List Int), vs = [V.ref a] ∧ SqT K H a (ns.map V.int) ∧ Q (.int ns.sum) H
theorem cr_sum2 {X : Cx} (hc : X.calm = true) : CallR X (.builtin "sum") (rSum2 X.K) := fun pins s σ H vs us Q I r h => by
  rcases h with h | ⟨a, ns, ev, hs, q⟩
  · exact cr_sum hc pins s σ H vs us Q I r h
  subst ev
  obtain ⟨its, rv, ht, _⟩ := I.tuple hs
  have hi := rv.ints
  obtain ⟨xs, hx⟩ := hi.allInts.items
  have hn : PySem.numsOf (PySem.intItems xs).toList = ns := hx ▸ hi.numsOf
  rw [PySem.nums_intItems] at hn
  rw [hx] at ht
  rw [Vals.ref1 r]
  refine PySem.W.ktm_sumG (I.ok.hd hc) ht fun h' tk t' hk => ⟨.int _, H, I.kept hk, ⟨_, rfl⟩, ?_⟩
  rw [PySem.preSum_eq, List.take_of_length_le (by simp), hn]; exact q
def sumO : OC := fun ds S => match ds with
  | [d] => (sqOf S d).bind fun xs => (intsOf xs).bind fun ns => some (.int ns.sum, S)
  | _ => none
theorem cbD_sum : CbD K (rSum2 K) sumO := by
  intro xs H Q ρ S ds z S' hS rs eq q
  unfold sumO at eq
  split at eq
  · cases rs with | cons rx rn => ?_
    cases rn
    obtain ⟨ys, e1, eq⟩ := bnd eq
    obtain ⟨ns, e2, eq⟩ := bnd eq
    cases eq
    obtain ⟨a, vs, rfl, hq, r⟩ := sqOf_sq hS rx e1
    rw [intsOf_eq e2] at r
    rw [rvs_ints r] at hq
    rcases hq with hq | hq
    · exact .inl ⟨a, ns, rfl, hq, q _ H ρ (Step.refl _ _) hS .int⟩
    · exact .inr ⟨a, ns, rfl, hq, q _ H ρ (Step.refl _ _) hS .int⟩
  · cases eq
/-! greatest, least, sorted of numbers -/
def maxI : List Int → Option Int
  | [] => none
  | x :: r => some (r.foldl (fun a b => if b > a then b else a) x)
theorem foldmax_le (r : List Int) : ∀ x : Int, x ≤ r.foldl (fun a b => if b > a then b else a) x ∧ (∀ y ∈ r, y ≤ r.foldl (fun a b => if b > a then b else a) x) ∧ (r.foldl (fun a b => if b > a then b else a) x = x ∨ r.foldl (fun a b => if b > a then b else a) x ∈ r) := by
  induction r with
  | nil => intro x; exact ⟨Int.le_refl _, fun y h => (by cases h), .inl rfl⟩
  | cons b r ih =>
    intro x
    obtain ⟨h1, h2, h3⟩ := ih (if b > x then b else x)
    rw [List.foldl_cons]
    refine ⟨Int.le_trans (by split <;> omega) h1, fun y hy => ?_, ?_⟩
    · rcases List.mem_cons.mp hy with rfl | hy
      · exact Int.le_trans (by split <;> omega) h1
      · exact h2 y hy
    · rcases h3 with h3 | h3
      · rw [h3]
        split
        · exact .inr List.mem_cons_self
        · exact .inl rfl
      · exact .inr (List.mem_cons_of_mem _ h3)
theorem maxI_spec {ns : List Int} {m : Int} (h : maxI ns = some m) : m ∈ ns ∧ ∀ y ∈ ns, y ≤ m := by
  cases ns with
  | nil => cases h
  | cons x r =>
    cases h
    obtain ⟨h1, h2, h3⟩ := foldmax_le r x
    refine ⟨?_, fun y hy => ?_⟩
    · rcases h3 with h3 | h3
      · rw [h3]; exact List.mem_cons_self
      · exact List.mem_cons_of_mem _ h3
    · rcases List.mem_cons.mp hy with rfl | hy
      · exact h1
      · exact h2 y hy
def maxO : OC := fun ds S => match ds with
  | [d] => (lsOf S d).bind fun xs => (intsOf xs).bind fun ns => (maxI ns).bind fun m => some (.int m, S)
  | _ => none
theorem cbD_max : CbD K (rMax K) maxO := by
  intro xs H Q ρ S ds z S' hS rs eq q
  unfold maxO at eq
  split at eq
  · cases rs with | cons rx rn => ?_
    cases rn
    obtain ⟨ys, e1, eq⟩ := bnd eq
    obtain ⟨ns, e2, eq⟩ := bnd eq
    obtain ⟨m, e3, eq⟩ := bnd eq
    cases eq
    obtain ⟨a, vs, rfl, hq, r⟩ := lsOf_sq hS rx e1
    rw [intsOf_eq e2] at r
    rw [rvs_ints r] at hq
    obtain ⟨h1, h2⟩ := maxI_spec e3
    refine ⟨a, ns, rfl, hq, List.length_pos_of_mem h1, fun m' hm hle => ?_⟩
    have e : m' = m := Int.le_antisymm (h2 m' hm) (hle m h1)
    subst e
    exact q _ H ρ (Step.refl _ _) hS .int
  · cases eq
def insI (x : Int) : List Int → List Int
  | [] => [x]
  | y :: r => if x ≤ y then x :: y :: r else y :: insI x r
def sortI : List Int → List Int
  | [] => []
  | x :: r => insI x (sortI r)
theorem insI_perm (x : Int) : ∀ l : List Int, (insI x l).Perm (x :: l)
  | [] => .refl _
  | y :: r => by
    unfold insI
    split
    · exact .refl _
    · exact ((insI_perm x r).cons y).trans (.swap x y r)
theorem sortI_perm : ∀ l : List Int, (sortI l).Perm l
  | [] => .refl _
  | x :: r => (insI_perm x (sortI r)).trans ((sortI_perm r).cons x)
theorem insI_sorted (x : Int) : ∀ l : List Int, l.Pairwise (· ≤ ·) → (insI x l).Pairwise (· ≤ ·)
  | [], _ => List.pairwise_singleton _ _
  | y :: r, h => by
    unfold insI
    rw [List.pairwise_cons] at h
    split
    · rename_i hxy
      rw [List.pairwise_cons, List.pairwise_cons]
      exact ⟨fun z hz => (List.mem_cons.mp hz).elim (fun e => e ▸ hxy) fun m => Int.le_trans hxy (h.1 z m), h⟩
    · rename_i hxy
      rw [List.pairwise_cons]
      refine ⟨fun z hz => ?_, insI_sorted x r h.2⟩
      rcases List.mem_cons.mp ((insI_perm x r).mem_iff.mp hz) with rfl | m
      · omega
      · exact h.1 z m
theorem sortI_sorted : ∀ l : List Int, (sortI l).Pairwise (· ≤ ·)
  | [] => .nil
  | x :: r => insI_sorted x _ (sortI_sorted r)
theorem sorted_eq {a b : List Int} (p : a.Perm b) (ha : a.Pairwise (· ≤ ·)) (hb : b.Pairwise (· ≤ ·)) : a = b := p.eq_of_pairwise (fun x y _ _ h1 h2 => Int.le_antisymm h1 h2) ha hb
def sortO : OC := fun ds S => match ds with
  | [d] => (lsOf S d).bind fun xs => (intsOf xs).bind fun ns => if ns.length < 64 then some (.lst ((sortI ns).map .int), S) else none
  | _ => none
theorem cbD_sort : CbD K (rSorted K) sortO := by
  intro xs H Q ρ S ds z S' hS rs eq q
  unfold sortO at eq
  split at eq
  · cases rs with | cons rx rn => ?_
    cases rn
    obtain ⟨ys, e1, eq⟩ := bnd eq
    obtain ⟨ns, e2, eq⟩ := bnd eq
    split at eq
    · cases eq
      obtain ⟨a, vs, rfl, hq, r⟩ := lsOf_sq hS rx e1
      rw [intsOf_eq e2] at r
      rw [rvs_ints r] at hq
      refine ⟨a, ns, rfl, hq, ‹_›, fun ns' p hp hs hn => ?_⟩
      have e : ns' = sortI ns := sorted_eq (hp.trans (sortI_perm ns).symm) hs (sortI_sorted ns)
      subst e
      exact q _ _ ρ (Step.new hS hn) (hS.new hn) (rv_lst hS hn (ints_rvs _))
    · cases eq
  · cases eq
/-! ### methods of Python's own -/
abbrev OM := D → List D → Sg → Option (D × Sg)
def MtD (K : PySem.W.Frag) (T : String) (r : V → List V → Hp → VK → Prop) (o : OM) (ok : Sg → D → Bool) : Prop := (∀ H ρ S v d, SR K H ρ S → RV K H ρ v d → ok S d = true → tyV K T v H) ∧
  ∀ x xs H Q ρ S d ds z S', SR K H ρ S → RV K H ρ x d → RVs K H ρ xs ds → o d ds S = some (z, S') → (∀ v H' ρ', Step ρ ρ' H H' → SR K H' ρ' S' → RV K H' ρ' v z → Q v H') → r x xs H Q
def bmD (ok : Sg → D → Bool) (o : OM) (fa : FE) (f : FA) : FE := fun δ S => (fa δ S).bind fun p => if ok p.2 p.1 = true then (f δ p.2).bind fun q => o p.1 q.1 q.2 else none
theorem le_bm {T : String} {r : V → List V → Hp → VK → Prop} {o : OM} {ok : Sg → D → Bool} {fa : FE} {f : FA} (h : MtD K T r o ok) : ∀ σ H Q, tD K (bmD ok o fa f) σ H Q → tBM K T r (tD K fa) (tDA K f) σ H Q := by
  rintro σ H Q ⟨ρ, δ, S, d, S', hS, hσ, e, q⟩
  obtain ⟨⟨x, S1⟩, e1, e⟩ := bnd e
  dsimp only at e
  split at e
  · rename_i hk
    obtain ⟨⟨y, S2⟩, e2, e⟩ := bnd e
    refine ⟨ρ, δ, S, x, S1, hS, hσ, e1, fun v H1 ρ1 s1 hS1 rv => ⟨h.1 _ _ _ _ _ hS1 rv hk, ρ1, δ, S1, y, S2, hS1, hσ.mono s1, e2, fun ws H2 ρ2 s2 hS2 rw' => ?_⟩⟩
    exact h.2 _ _ _ _ _ _ _ _ _ _ hS2 (rv.mono s2) rw' e fun z H3 ρ3 s3 hS3 rz => q z H3 ρ3 ((s1.trans s2).trans s3) hS3 rz
  · cases e
theorem le_bm0 {T : String} {r : V → List V → Hp → VK → Prop} {o : OM} {ok : Sg → D → Bool} {fa : FE} (h : MtD K T r o ok) : ∀ σ H Q, tD K (bmD ok o fa nilA) σ H Q → tBM0 K T r (tD K fa) σ H Q := by
  rintro σ H Q ⟨ρ, δ, S, d, S', hS, hσ, e, q⟩
  obtain ⟨⟨x, S1⟩, e1, e⟩ := bnd e
  dsimp only at e
  split at e
  · rename_i hk
    obtain ⟨⟨y, S2⟩, e2, e⟩ := bnd e
    cases e2
    refine ⟨ρ, δ, S, x, S1, hS, hσ, e1, fun v H1 ρ1 s1 hS1 rv => ⟨h.1 _ _ _ _ _ hS1 rv hk, ?_⟩⟩
    exact h.2 _ _ _ _ _ _ _ _ _ _ hS1 rv .nil e fun z H3 ρ3 s3 hS3 rz => q z H3 ρ3 (s1.trans s3) hS3 rz
  · cases e
def isLoc (S : Sg) (d : D) : Bool := (lsOf S d).isSome
theorem isLoc_ty {H : Hp} {ρ : Ro} {S : Sg} {v : V} {d : D} (hS : SR K H ρ S) (r : RV K H ρ v d) (h : isLoc S d = true) : tyV K "list" v H := by
  unfold isLoc at h
  cases e : lsOf S d with
  | none => rw [e] at h; cases h
  | some ds =>
    obtain ⟨a, vs, rfl, hq, _⟩ := lsOf_sq hS r e
    exact .inl ⟨rfl, vs, hq⟩
def appO : OM := fun d ds S => match d, ds with
  | .loc n, [y] => match S[n]? with
    | some (.lst xs) => if Fits (xs.length) then some (.non, S.set n (.lst (xs ++ [y]))) else none
    | _ => none
  | _, _ => none
theorem mtD_app : MtD K "list" rAppend appO isLoc := by
  refine ⟨fun _ _ _ _ _ hS r h => isLoc_ty hS r h, ?_⟩
  intro x xs H Q ρ S d ds z S' hS rx rs eq q
  unfold appO at eq
  split at eq
  · cases rs with | @cons vy _ _ _ ry rn => ?_
    cases rn
    cases rx with | loc hn => ?_
    split at eq
    · rename_i ys hy
      split at eq
      · cases eq
        obtain ⟨vs, h1, h2⟩ := hS.ob _ _ _ hn hy
        refine ⟨_, vs, _, rfl, rfl, h1, by rw [h2.len]; exact Fits.lt ‹_›, ?_⟩
        have st : Step ρ ρ H (upd H _ (.lst (vs ++ [vy]))) := Step.write hn h1
        exact q _ _ ρ st (hS.write hn ⟨_, h1⟩ ⟨_, upd_same, (h2.snoc ry).mono st⟩) .non
      · cases eq
    · cases eq
  · cases eq
def revO : OM := fun d ds S => match d, ds with
  | .loc n, [] => match S[n]? with
    | some (.lst xs) => some (.non, S.set n (.lst xs.reverse))
    | _ => none
  | _, _ => none
theorem mtD_rev : MtD K "list" rReverse revO isLoc := by
  refine ⟨fun _ _ _ _ _ hS r h => isLoc_ty hS r h, ?_⟩
  intro x xs H Q ρ S d ds z S' hS rx rs eq q
  unfold revO at eq
  split at eq
  · cases rs
    cases rx with | loc hn => ?_
    split at eq
    · rename_i ys hy
      cases eq
      obtain ⟨vs, h1, h2⟩ := hS.ob _ _ _ hn hy
      refine ⟨_, vs, rfl, rfl, h1, ?_⟩
      have st : Step ρ ρ H (upd H _ (.lst vs.reverse)) := Step.write hn h1
      exact q _ _ ρ st (hS.write hn ⟨_, h1⟩ ⟨_, upd_same, h2.rev.mono st⟩) .non
    · cases eq
  · cases eq
def extO : OM := fun d ds S => match d, ds with
  | .loc n, [e] => match S[n]? with
    | some (.lst xs) => (plOf S e).bind fun ys => if Fits (xs.length + ys.length) then some (.non, S.set n (.lst (xs ++ ys))) else none
    | _ => none
  | _, _ => none
theorem mtD_ext : MtD K "list" rExtend extO isLoc := by
  refine ⟨fun _ _ _ _ _ hS r h => isLoc_ty hS r h, ?_⟩
  intro x xs H Q ρ S d ds z S' hS rx rs eq q
  unfold extO at eq
  split at eq
  · cases rs with | cons ry rn => ?_
    cases rn
    cases rx with | loc hn => ?_
    split at eq
    · rename_i xs' hy
      obtain ⟨ys, e1, eq⟩ := bnd eq
      split at eq
      · cases eq
        obtain ⟨vs, h1, h2⟩ := hS.ob _ _ _ hn hy
        obtain ⟨b, ws, rfl, h3, h4⟩ := plOf_sq hS ry e1
        refine ⟨_, b, vs, ws, rfl, rfl, h1, h3, by rw [h2.len, h4.len]; exact Fits.le ‹_›, ?_⟩
        have st : Step ρ ρ H (upd H _ (.lst (vs ++ ws))) := Step.write hn h1
        exact q _ _ ρ st (hS.write hn ⟨_, h1⟩ ⟨_, upd_same, (h2.append h4).mono st⟩) .non
      · cases eq
    · cases eq
  · cases eq
def isStr (_ : Sg) : D → Bool
  | .str _ => true
  | _ => false
theorem isStr_ty {H : Hp} {ρ : Ro} {S : Sg} {v : V} {d : D} (_ : SR K H ρ S) (r : RV K H ρ v d) (h : isStr S d = true) : tyV K "str" v H := by
  cases d <;> cases h
  cases r
  rfl
def joinO : OM := fun d ds S => match d, ds with
  | .str a, [e] => (sqOf S e).bind fun xs => (strsOf xs).bind fun ys => if Fits ((ys.map (·.length)).sum + ys.length * a.length) then some (.str (Txt.join a ys), S) else none
  | _, _ => none
theorem mtD_join : MtD K "str" (fun x xs H Q => ∃ a p, ∃ ys : List Str, x = .str a ∧ xs = [.ref p] ∧ (SqL K H p (ys.map V.str) ∨ SqT K H p (ys.map V.str)) ∧
    (ys.map (·.length)).sum + ys.length * a.length ≤ 16777216 ∧ Q (.str (Txt.join a ys)) H) joinO isStr := by
  refine ⟨fun _ _ _ _ _ hS r h => isStr_ty hS r h, ?_⟩
  intro x xs H Q ρ S d ds z S' hS rx rs eq q
  unfold joinO at eq
  split at eq
  · cases rs with | cons ry rn => ?_
    cases rn
    cases rx
    obtain ⟨xs', e1, eq⟩ := bnd eq
    obtain ⟨ys, e2, eq⟩ := bnd eq
    split at eq
    · cases eq
      obtain ⟨a, vs, rfl, hq, r⟩ := sqOf_sq hS ry e1
      rw [strsOf_eq e2] at r
      rw [rvs_strs r] at hq
      exact ⟨_, a, ys, rfl, rfl, hq, Nat.le_of_lt (Nat.lt_of_lt_of_le ((fits_iff _).mp ‹_›) (by decide)), q _ H ρ (Step.refl _ _) hS .str⟩
    · cases eq
  · cases eq
/-- t[i:j] of a text -/
def slSO : O3 := fun d lo hi S => match d with
  | .str z => if Fits (z.length) then some (.str (cutS z lo hi), S) else none
  | _ => none
theorem slD_S : SlD K rSlS slSO := by
  intro x lo hi H Q ρ S d z S' hS rx eq q
  unfold slSO at eq
  split at eq
  · cases rx
    split at eq
    · cases eq
      exact ⟨_, rfl, Fits.le ‹_›, q _ H ρ (Step.refl _ _) hS .str⟩
    · cases eq
  · cases eq
end
end DL
end
noncomputable section
namespace DL
open PySem L2
section
variable {X : Cx} {a b c e : Expr} {es : List Expr} {pos p : Pos} {f g h : FE} {fa fb : FA} {ft gt : FT} {fs gs : FS}
theorem jv {i : Nat} (h : PE X e (tVar i)) : JE X e (varD i) := PE.imp h le_var
theorem jc {v : V} {d : D} (h : PE X e (tC v)) (q : Plain v d) : JE X e (cD d) := PE.imp h (le_c fun _ _ => q.rv)
theorem ji {i : Int} {j} : JE X (.Constant (.int i) j pos) (cD (.int i)) := jc pe_int .int
theorem jb {i : Bool} {j} : JE X (.Constant (.bool i) j pos) (cD (.bl i)) := jc pe_bl .bl
theorem js {i : Str} {j} : JE X (.Constant (.str i) j pos) (cD (.str i)) := jc pe_str .str
theorem jn {j} : JE X (.Constant .none j pos) (cD .non) := jc pe_non .non
theorem jgi {x : Str} {i : Int} (h : ∃ t, X.mg x = some (.int i t)) (hg : Gl X x := by rfl) (hd : (x == ("__debug__" : Str)) = false := by decide) : JE X (.Name x pos) (cD (.int i)) := by
  obtain ⟨t, h⟩ := h
  exact jc (pe_glob (v := .int i) hg h ⟨_, rfl⟩ hd) .int
theorem jgs {x z : Str} (h : ∃ t, X.mg x = some (.str z t)) (hg : Gl X x := by rfl) (hd : (x == ("__debug__" : Str)) = false := by decide) : JE X (.Name x pos) (cD (.str z)) := by
  obtain ⟨t, h⟩ := h
  exact jc (pe_glob (v := .str z) hg h ⟨_, rfl⟩ hd) .str
theorem jty {x : Str} {n : String} (hm : X.mg x = none) (hv : bootBuiltins x = some (.type n)) (hg : Gl X x := by rfl) (hn : x ≠ "__name__" := by decide) (hd : (x == ("__debug__" : Str)) = false := by decide) : JE X (.Name x pos) (cD (.ty n)) :=
  jc (pe_bltn (v := .ty n) hg hm hv rfl hn hd) .ty
theorem jop {op : Operator} {r : R2} {o : O2} (ho : OpR X (binaryOp op) r) (hd : OpD X.K r o) (ha : JE X a f) (hb : JE X b g) : JE X (.BinOp a op b pos) (op2D o f g) := PE.imp (pe_op ho ha hb) (le_op hd)
theorem jadd (ha : JE X a f) (hb : JE X b g) : JE X (.BinOp a .Add b pos) (op2D addO f g) := jop op_add3 opD_add ha hb
theorem jsub (ha : JE X a f) (hb : JE X b g) : JE X (.BinOp a .Sub b pos) (op2D subO f g) := jop op_sub (opD_int0 fun _ _ => .int) ha hb
theorem jmul (ha : JE X a f) (hb : JE X b g) : JE X (.BinOp a .Mult b pos) (op2D mulO f g) := jop op_mul2 opD_mul ha hb
theorem jmod (ha : JE X a f) (hb : JE X b g) : JE X (.BinOp a .Mod b pos) (op2D modO f g) := jop op_mod opD_mod ha hb
theorem jfdiv (ha : JE X a f) (hb : JE X b g) : JE X (.BinOp a .FloorDiv b pos) (op2D fdivO f g) := jop op_fdivW opD_fdiv ha hb
theorem jpow (ha : JE X a f) (hb : JE X b g) : JE X (.BinOp a .Pow b pos) (op2D powO f g) := jop op_pow opD_pow ha hb
theorem jneg (ha : JE X a f) : JE X (.UnaryOp .USub a pos) (op1D negO f) := PE.imp (pe_un un_neg ha) (le_un unD_neg)
/-! comparisons -/
theorem le_B' {K : PySem.W.Frag} {t : TE} (q : ∀ σ H Q, tD K f σ H Q → t σ H Q) : ∀ σ H Q, tDT K (tvD f) σ H Q → tB t σ H Q := fun σ H Q x => q σ H _ (le_B σ H Q x)
theorem le_test' {K : PySem.W.Frag} {t : TE} (q : ∀ σ H Q, tD K f σ H Q → t σ H Q) : ∀ σ H Q, tDT K (tvD f) σ H Q → tTest t σ H Q := fun σ H Q x => q σ H _ (le_B σ H Q x)
/-- a comparison's rule with what it does -/
structure JC (X : Cx) (op : CmpOp) (a b : Expr) (f : FE) : Prop where
  ex : ∃ t, PC X op a b t ∧ ∀ σ H Q, tD X.K f σ H Q → t σ H Q
theorem jlt (ha : JE X a f) (hb : JE X b g) : JC X .Lt a b (op2D (cmpO fun i j => decide (i < j)) f g) := ⟨⟨_, pc_lt ha hb, le_cmp⟩⟩
theorem jle (ha : JE X a f) (hb : JE X b g) : JC X .LtE a b (op2D (cmpO fun i j => decide (i ≤ j)) f g) := ⟨⟨_, pc_le ha hb, le_cmp⟩⟩
theorem jgt (ha : JE X a f) (hb : JE X b g) : JC X .Gt a b (op2D (cmpO fun i j => decide (j < i)) f g) := ⟨⟨_, pc_gt ha hb, le_cmp⟩⟩
theorem jge (ha : JE X a f) (hb : JE X b g) : JC X .GtE a b (op2D (cmpO fun i j => decide (j ≤ i)) f g) := ⟨⟨_, pc_ge ha hb, le_cmp⟩⟩
theorem jisN {j} {pos'} (ha : JE X a f) : JC X .Is a (.Constant .none j pos') (op1D (isNO false) f) := ⟨⟨_, pc_isN ha, le_isN⟩⟩
theorem jnotN {j} {pos'} (ha : JE X a f) : JC X .IsNot a (.Constant .none j pos') (op1D (isNO true) f) := ⟨⟨_, pc_notN ha, le_notN⟩⟩
theorem jcmp {op : CmpOp} (q : JC X op a b f) (h1 : behindInMarks op b = false := by first | exact nobehind _ (by decide) (by decide) | rfl) : JE X (.Compare a [op] [b] pos) f := by
  obtain ⟨t, q, i⟩ := q.ex
  exact PE.imp (pe_cmp q h1) i
theorem jtcmp {op : CmpOp} (q : JC X op a b f) (h1 : behindInMarks op b = false := by first | exact nobehind _ (by decide) (by decide) | rfl) : JT X (.Compare a [op] [b] pos) (tvD f) := by
  obtain ⟨t, q, i⟩ := q.ex
  exact PT.imp (pt_cmp q h1) (le_B' i)
theorem jcmpR {op : CmpOp} {r : R2} {o : O2} (ho : OpR X (compareOp op) r) (hd : OpD X.K r o) (ha : JE X a f) (hb : JE X b g) (hm : behindInMarks op b = false := by first | exact nomark _ | rfl) : JE X (.Compare a [op] [b] pos) (op2D o f g) := PE.imp (pe_cmpR ho ha hb hm) (le_op hd)
theorem jtcmpR {op : CmpOp} {r : R2} {o : O2} (ho : OpR X (compareOp op) r) (hd : OpD X.K r o) (ha : JE X a f) (hb : JE X b g) (hm : behindInMarks op b = false := by first | exact nomark _ | rfl) : JT X (.Compare a [op] [b] pos) (tvD (op2D o f g)) := PT.imp (pt_cmpR ho ha hb hm) (le_test' (le_op hd))
theorem jeq (ha : JE X a f) (hb : JE X b g) : JE X (.Compare a [.Eq] [b] pos) (op2D eqO f g) := jcmpR op_eq opD_eq ha hb
theorem jteq (ha : JE X a f) (hb : JE X b g) : JT X (.Compare a [.Eq] [b] pos) (tvD (op2D eqO f g)) := jtcmpR op_eq opD_eq ha hb
theorem jne (ha : JE X a f) (hb : JE X b g) : JE X (.Compare a [.NotEq] [b] pos) (op2D neO f g) := jcmpR op_ne opD_ne ha hb
theorem jtne (ha : JE X a f) (hb : JE X b g) : JT X (.Compare a [.NotEq] [b] pos) (tvD (op2D neO f g)) := jtcmpR op_ne opD_ne ha hb
theorem jchain {op op' : CmpOp} {r r' : R2} {o o' : O2} (ho : OpR X (compareOp op) r) (hd : OpD X.K r o) (ho' : OpR X (compareOp op') r') (hd' : OpD X.K r' o') (ha : JE X a f) (hb : JE X b g) (hc : JE X c h)
    (hm : lastMarks [op, op'] [b, c] = false := by with_unfolding_all rfl) : JE X (.Compare a [op, op'] [b, c] pos) (chainD o o' f g h) := PE.imp (pe_chain ho ho' ha hb hc hm) (le_chain hd hd')
theorem jtchain {op op' : CmpOp} {r r' : R2} {o o' : O2} (ho : OpR X (compareOp op) r) (hd : OpD X.K r o) (ho' : OpR X (compareOp op') r') (hd' : OpD X.K r' o') (ha : JE X a f) (hb : JE X b g) (hc : JE X c h)
    (hm : lastMarks [op, op'] [b, c] = false := by with_unfolding_all rfl) : JT X (.Compare a [op, op'] [b, c] pos) (tvD (chainD o o' f g h)) := PT.imp (pt_chain ho ho' ha hb hc hm) (le_test' (le_chain hd hd'))
theorem dle {K : PySem.W.Frag} : OpD K (rI0 fun i j => .bl (decide (i ≤ j))) (cmpO fun i j => decide (i ≤ j)) := opD_int0 fun _ _ => .bl
theorem dlt {K : PySem.W.Frag} : OpD K (rI0 fun i j => .bl (decide (i < j))) (cmpO fun i j => decide (i < j)) := opD_int0 fun _ _ => .bl
/-! tests -/
theorem jtv (q : JE X e f) (he : ∀ whole, isTrue e X.env whole = (do let v ← whole; standAt e.pos; holding [v] (truthy v)) := by intro _; rfl) : JT X e (tvD f) := PT.imp (pt_val q he) le_B
theorem jtnot (ha : JT X a ft) : JT X (.UnaryOp .Not a pos) (notD ft) := PT.imp (pt_not ha) le_not
theorem PW.imp {e : Expr} {t t' : TT} (q : PW X e t) (i : ∀ σ H Q, t' σ H Q → t σ H Q) : PW X e t' := ⟨fun w pins s σ H Q I x => q.run w pins s σ H Q I (i σ H Q x)⟩
theorem jwand {rest : List Expr} (ha : JT X a ft) (hb : JW X (.BoolOp .And (b :: rest) pos) gt) : JW X (.BoolOp .And (a :: b :: rest) pos) (andD ft gt) := PW.imp (pw_and ha hb) le_and
theorem jwand1 (ha : JT X a ft) : JW X (.BoolOp .And [a] pos) ft := pw_and1 ha
theorem jwor {rest : List Expr} (ha : JT X a ft) (hb : JW X (.BoolOp .Or (b :: rest) pos) gt) : JW X (.BoolOp .Or (a :: b :: rest) pos) (orD ft gt) := PW.imp (pw_or ha hb) le_or
theorem jwor1 (ha : JT X a ft) : JW X (.BoolOp .Or [a] pos) ft := pw_or1 ha
theorem jwt (q : JW X e ft) : JT X e ft := PW.pt q
theorem jand {rest : List Expr} (ha : JE X a f) (hb : JE X (.BoolOp .And (b :: rest) pos) g) : JE X (.BoolOp .And (a :: b :: rest) pos) (andV f g) := PE.imp (pe_and ha hb) le_andV
theorem jor {rest : List Expr} (ha : JE X a f) (hb : JE X (.BoolOp .Or (b :: rest) pos) g) : JE X (.BoolOp .Or (a :: b :: rest) pos) (orV f g) := PE.imp (pe_or ha hb) le_orV
theorem jone {op} (ha : JE X a f) : JE X (.BoolOp op [a] pos) f := pe_one ha
theorem jnot (ha : JE X a f) : JE X (.UnaryOp .Not a pos) (notV f) := PE.imp (pe_not ha) le_notV
theorem jif (hc : JT X c ft) (ha : JE X a f) (hb : JE X b g) : JE X (.IfExp c a b pos) (iteV ft f g) := PE.imp (pe_ifExp hc ha hb) le_ite
/-! arguments, displays -/
theorem janil : JA X [] nilA := PA.imp pa_nil le_nilA
theorem jacons (ha : JE X e f) (hr : JA X es fa) (hs : starEach (e :: es) X.env = (false, eval e X.env) :: starEach es X.env := by rfl) : JA X (e :: es) (consA f fa) := PA.imp (pa_cons ha hr hs) le_consA
theorem jtup {x1} (q : JA X es fa) : JE X (.Tuple es x1 pos) (tupD fa) := PE.imp (pe_tup q) le_tup
theorem jlst (q : JA X es fa) : JE X (.List es pos) (lstD fa) := PE.imp (pe_lst q) le_lst
theorem jnew (q : JA X es fa) : JE X (.List es pos) (newD fa) := PE.imp (pe_lst q) le_new
theorem jix (ha : JE X a f) (hb : JE X b g) (hs : PlainIx b := by exact fun _ _ => rfl) : JE X (.Subscript a b pos) (op2D ixO f g) := PE.imp (pe_ix ix_seq ha hb hs) (le_op opD_ix)
theorem jonone : JO X none noO := by
  exact ⟨fun pins s σ H Q I q => (po_none (X := X)).run pins s σ H Q I (le_noO σ H Q q)⟩
theorem josome (q : JE X e f) : JO X (some e) (someO f) := by
  exact ⟨fun pins s σ H Q I z => (po_some q).run pins s σ H Q I (le_someO σ H Q z)⟩
theorem jsl {lo hi : Option Expr} {p2 : Pos} {r : V → Option Int → Option Int → Hp → VK → Prop} {o : O3} {fl fh : FO} (hr : SlR X r) (hd : SlD X.K r o) (he : JE X e f) (hl : JO X lo fl) (hu : JO X hi fh) : JE X (.Subscript e (.Slice lo hi none p2) pos) (slD o f fl fh) := PE.imp (pe_slice hr he hl hu) (le_sl hd)
theorem jcb {x : Str} {id : String} {r : List V → Hp → VK → Prop} {o : OC} (hc : CallR X (.builtin id) r) (hd : CbD X.K r o) (hm : X.mg x = none) (hv : bootBuiltins x = some (.builtin id)) (ha : JA X (e :: es) fa) (hg : Gl X x := by rfl) (hn : x ≠ "__name__" := by decide) (hdb : (x == ("__debug__" : Str)) = false := by decide)
    (he : starEach (e :: es) X.env = (false, eval e X.env) :: starEach es X.env := by rfl) (hpl : (backTo pos (starEach es X.env)).any (·.1) = false := by rfl) : JE X (.Call (.Name x p) (e :: es) [] pos) (cbD o fa) := PE.imp (pe_callB hc hg hm hv ha hn hdb he hpl) (le_cb hd)
theorem jct {x : Str} {T : String} {r : List V → Hp → VK → Prop} {o : OC} (hc : CallR X (.type T) r) (hd : CbD X.K r o) (hm : X.mg x = none) (hv : bootBuiltins x = some (.type T)) (ha : JA X (e :: es) fa) (hg : Gl X x := by rfl) (hn : x ≠ "__name__" := by decide) (hdb : (x == ("__debug__" : Str)) = false := by decide)
    (he : starEach (e :: es) X.env = (false, eval e X.env) :: starEach es X.env := by rfl) (hpl : (backTo pos (starEach es X.env)).any (·.1) = false := by rfl) : JE X (.Call (.Name x p) (e :: es) [] pos) (cbD o fa) := PE.imp (pe_callTy hc hg hm hv ha hn hdb he hpl) (le_cb hd)
theorem jbm {o : Expr} {name : Str} {apos : Pos} {T id : String} {r : V → List V → Hp → VK → Prop} {od : OM} {ok : Sg → D → Bool} (pa : PlainAttrs T) (slot : Slot T name id) (hty : typeOf (.builtin id) = pure (.type "method_descriptor")) (hm : MtR X id r) (hd : MtD X.K T r od ok) (ho : JE X o f) (ha : JA X (e :: es) fa)
    (hbase : attributeBase o name X.env (eval o X.env) = eval o X.env := by rfl)
    (hfew : ((backTo pos (starEach (e :: es) X.env)).all (fun x => !x.1) && (backToKw pos (keywordEach [] X.env)).all (fun x => x.1.isSome)
      && decide ((e :: es).length + ([] : List Keyword).length + (if ([] : List Keyword).isEmpty then 0 else 1) < 30)) = true := by rfl)
    (hline : (apos.endLine == pos.line) = true := by rfl) (hs : starEach (e :: es) X.env = (false, eval e X.env) :: starEach es X.env := by rfl) (hplain : (backTo pos (starEach es X.env)).any (·.1) = false := by rfl) :
    JE X (.Call (.Attribute o name apos) (e :: es) [] pos) (bmD ok od f fa) := PE.imp (pe_bm pa slot hty hm ho ha hbase hfew hline hs hplain) (le_bm hd)
theorem jbm0 {o : Expr} {name : Str} {apos : Pos} {T id : String} {r : V → List V → Hp → VK → Prop} {od : OM} {ok : Sg → D → Bool} (pa : PlainAttrs T) (slot : Slot T name id) (hty : typeOf (.builtin id) = pure (.type "method_descriptor")) (hm : MtR X id r) (hd : MtD X.K T r od ok) (ho : JE X o f)
    (hbase : attributeBase o name X.env (eval o X.env) = eval o X.env := by rfl) (hline : (apos.endLine == pos.line) = true := by rfl) : JE X (.Call (.Attribute o name apos) [] [] pos) (bmD ok od f nilA) := PE.imp (pe_bm0 pa slot hty hm ho hbase hline) (le_bm0 hd)
theorem jfld {C : Addr} {fl : Str} (cl : Cls X.K C) (n : NoAttr X.K C fl) (he : JE X e f) (hb : attributeBase e fl X.env (eval e X.env) = eval e X.env := by rfl) : JE X (.Attribute e fl pos) (fldD C fl f) := PE.imp (pe_fld he hb) (le_fld cl n)
/-! ### calls of defs of the text -/
/-- the def x does F (at level k) -/
structure Df (P : Program) (w : World) (K : PySem.W.Frag) (mg : Str → Option Value) (base : Heap) (x : Str) (k : Nat) (ps : List Str) (F : Fn) : Prop where
  ex : ∃ (f : Addr) (fd : FuncData), FnOk P w K mg base CX0 k f fd ps (spD K ps.length F) ∧ mg x = some (.ref f) ∧ PySem.W.keepIn K (.ref f) = true ∧ Binds K fd ps []
theorem args_len : ∀ {es : List Expr} {fa : FA}, (∀ δ S ds S', fa δ S = some (ds, S') → ds.length = es.length) → ∀ {e : Expr} {f : FE} δ S ds S', consA f fa δ S = some (ds, S') → ds.length = (e :: es).length := by
  intro es fa h e f δ S ds S' q
  obtain ⟨⟨x, S1⟩, e1, q⟩ := bnd q
  obtain ⟨⟨y, S2⟩, e2, q⟩ := bnd q
  cases q
  rw [List.length_cons, List.length_cons, h _ _ _ _ e2]
/-- how many things are handed in -/
def NA (n : Nat) (fa : FA) : Prop := ∀ δ S ds S', fa δ S = some (ds, S') → ds.length = n
theorem na0 : NA 0 nilA := fun _ _ _ _ h => by cases h; rfl
theorem na {n : Nat} (h : NA n fa) : NA (n + 1) (consA f fa) := fun δ S ds S' q => by
  obtain ⟨⟨x, S1⟩, e1, q⟩ := bnd q
  obtain ⟨⟨y, S2⟩, e2, q⟩ := bnd q
  cases q
  rw [List.length_cons, h _ _ _ _ e2]
theorem jfn {x : Str} {k : Nat} {ps : List Str} {F : Fn} {p : Pos} (Z : Df X.prog X.w X.K X.mg X.base x k ps F) (hr : Room k X.A) (ha : JA X (e :: es) fa) (hn : NA ps.length fa := by repeat (first | exact na0 | apply na))
    (hg : Gl X x := by rfl) (hdb : (x == ("__debug__" : Str)) = false := by decide) (he : starEach (e :: es) X.env = (false, eval e X.env) :: starEach es X.env := by rfl) (hpl : (backTo pos (starEach es X.env)).any (·.1) = false := by rfl) :
    JE X (.Call (.Name x p) (e :: es) [] pos) (fnD F [] fa) := by
  obtain ⟨f, fd, Fk, hm, kp, b⟩ := Z.ex
  exact PE.imp (pe_call Fk hr hg hm kp b .nil pass0 ha hdb he hpl) (le_fn (fun _ _ => .nil) fun δ S ds S' q => by rw [List.append_nil]; exact hn δ S ds S' q)
/-- a method of an own class -/
structure Dm (P : Program) (w : World) (K : PySem.W.Frag) (mg : Str → Option Value) (base : Heap) (C : Addr) (m : Str) (k : Nat) (ps : List Str) (F : Fn) : Prop where
  ex : ∃ (f : Addr) (fd : FuncData), FnOk P w K mg base CX0 k f fd ps (spD K ps.length F) ∧ Cls K C ∧ Meth K C m f ∧ Binds K fd ps []
theorem jmt {C : Addr} {m : Str} {k : Nat} {ps : List Str} {F : Fn} {apos : Pos} {o : Expr} {pl : Sem Bool} (Z : Dm X.prog X.w X.K X.mg X.base C m k ps F) (hr : Room k X.A) (he : JE X o f) (ha : JA X (e :: es) fa) (hn : NA (ps.length - 1) fa := by repeat (first | exact na0 | apply na)) (hps : ps ≠ [] := by decide)
    (hst : starEach (e :: es) X.env = (false, eval e X.env) :: starEach es X.env := by rfl) (hpl : (backTo pos (starEach es X.env)).any (·.1) = false := by rfl)
    (ht : eval (.Call (.Attribute o m apos) (e :: es) [] pos) X.env = (do
      let ov ← eval o X.env
      standAt apos.atName
      let (f, first) ← holding [ov] (getMethod ov m pl)
      callWith pos f first (backTo pos (starEach (e :: es) X.env)) (backToKw pos (keywordEach [] X.env))) := by rfl) :
    JE X (.Call (.Attribute o m apos) (e :: es) [] pos) (methD C m F [] f fa) := by
  obtain ⟨f, fd, Fk, c, m, b⟩ := Z.ex
  refine PE.imp (pe_meth he c m Fk hr b .nil pass0 ha hst hpl ht) (le_meth (fun _ _ => .nil) fun δ S ds S' q => ?_)
  rw [List.append_nil, hn δ S ds S' q]
  have : 0 < ps.length := List.length_pos_iff.mpr hps
  omega
theorem jmt0 {C : Addr} {m : Str} {k : Nat} {ps : List Str} {F : Fn} {apos : Pos} {o : Expr} {pl : Sem Bool} (Z : Dm X.prog X.w X.K X.mg X.base C m k ps F) (hr : Room k X.A) (he : JE X o f) (hps : ps.length = 1 := by rfl)
    (ht : eval (.Call (.Attribute o m apos) [] [] pos) X.env = (do
      let ov ← eval o X.env
      standAt apos.atName
      let (f, first) ← holding [ov] (getMethod ov m pl)
      callWith pos f first (backTo pos (starEach [] X.env)) (backToKw pos (keywordEach [] X.env))) := by rfl) :
    JE X (.Call (.Attribute o m apos) [] [] pos) (methD C m F [] f nilA) := by
  obtain ⟨f, fd, Fk, c, m, b⟩ := Z.ex
  refine PE.imp (pe_meth0 he c m Fk hr b .nil pass0 ht) (fun σ H Q z => ?_)
  have z1 := le_meth (K := X.K) (E := E0) (n := ps.length) (fun _ _ => .nil) (fun δ S ds S' q => by cases q; rw [hps]; rfl) σ H Q z
  obtain ⟨ρ, δ, S, d, S', h1, h2, h3, q⟩ := z1
  refine ⟨ρ, δ, S, d, S', h1, h2, h3, fun v H' ρ' s hS r => ?_⟩
  obtain ⟨a, dx, fs, e1, e2, e3, t⟩ := q v H' ρ' s hS r
  exact ⟨a, dx, fs, e1, e2, e3, le_nilA σ H' _ t⟩
/-- a class of the text, made with all arguments, or with the last ones left out (dvs) -/
structure Dk (P : Program) (w : World) (K : PySem.W.Frag) (mg : Str → Option Value) (base : Heap) (x : Str) (C : Addr) (k : Nat) (ps : List Str) (dvs : List V) (F : Fn) : Prop where
  ex : ∃ (f : Addr) (fd : FuncData) (ds : List Value), Mk K C f ∧ FnOk P w K mg base CX0 k f fd ps (spD K ps.length F) ∧ mg x = some (.ref C) ∧ Vals dvs ds ∧ Binds K fd ps ds
theorem jmk {φ : Nat → D → Sg → Option (D × Sg)} {x : Str} {C : Addr} {k : Nat} {ps : List Str} {dvs : List V} {dds : List D} {F : Fn} {p : Pos} (hφ : FinOk X.K φ) (Z : Dk X.prog X.w X.K X.mg X.base x C k ps dvs F) (hd : ∀ H ρ, RVs X.K H ρ dvs dds) (hr : Room (k + 1) X.A) (ha : JA X (e :: es) fa) (hn : NA (ps.length - 1 - dds.length) fa := by repeat (first | exact na0 | apply na)) (hl : dds.length + 1 ≤ ps.length := by decide)
    (hg : Gl X x := by rfl) (hdb : (x == ("__debug__" : Str)) = false := by decide) (he : starEach (e :: es) X.env = (false, eval e X.env) :: starEach es X.env := by rfl) (hpl : (backTo pos (starEach es X.env)).any (·.1) = false := by rfl) :
    JE X (.Call (.Name x p) (e :: es) [] pos) (mkD φ C F dds fa) := by
  obtain ⟨f, fd, ds, M, Fk, hm, hv, b⟩ := Z.ex
  refine PE.imp (pe_make M Fk hr hg hm b hv pass0 ha hdb he hpl) (le_mk hφ hd fun δ S ds S' q => ?_)
  rw [List.length_append, hn δ S ds S' q]
  omega
/-! ### statements -/
theorem jsset {i : Nat} {x : Str} {pos' : Pos} (hN : X.N.Nodup) (hi : X.N[i]? = some x) (hx : Loc X.env.scope x) (he : JE X e f) (hs : swapsWith e (some (.Name x pos')) pos.line X.env = pure false := by rfl) (hf : X.fn x = true ∨ X.env.scope.names.lookup x = some .local := by first | exact .inl rfl | exact .inr rfl | assumption) :
    JS X (.Assign [.Name x pos'] e pos) (setS i f) := PS.imp (ps_set hN hi hx he hs hf) ls_set
theorem jsasg {tg : Expr} {gr : TG} {o : FG} (he : JE X e f) (hg : PG X tg gr) (lg : LG X.K gr o) (hs : swapsWithSole [tg] e pos.line X.env = pure false := by rfl) (hw : swappedStores [tg] e X.env = pure none := by rfl)
    (h1 : (assignEach [tg] X.env).map (·.2) = [assign tg X.env] := by rfl) : JS X (.Assign [tg] e pos) (asgS f o) := PS.imp (ps_asg he hg hs hw h1) (ls_asg lg)
theorem jsret (he : JE X e f) : JS X (.Return (some e) pos) (retS f) := PS.imp (ps_ret he) ls_ret
theorem jsretN : JS X (.Return none pos) retNS := PS.imp ps_retN ls_retN
theorem jsexpr (he : JE X e f) (hs : swapsWith e none pos.line X.env = pure false := by rfl) : JS X (.Expr e pos) (dropS f) := PS.imp (ps_expr he hs) ls_drop
theorem jspass : JS X (.Pass pos) nextS := PS.imp ps_pass ls_next
theorem jsbreak : JS X (.Break pos) breakS := PS.imp ps_break ls_break
theorem jscont : JS X (.Continue pos) contS := PS.imp ps_continue ls_cont
theorem jsif {sa sb : List Stmt} (hc : JT X c ft) (ha : JSs X sa fs) (hb : JSs X sb gs) : JS X (.If c sa sb pos) (ifS ft fs gs) := PS.imp (ps_if hc ha hb) ls_if
theorem jsnever {st : Stmt} : JS X st neverS := PS.imp ps_never ls_never
theorem jsaug {i : Nat} {x : Str} {op : Operator} {ti : TIp} {o : O2} {pos' : Pos} (hN : X.N.Nodup) (hi : X.N[i]? = some x) (hx : Loc X.env.scope x) (he : JE X e f) (ho : PIp X op ti) (hd : OpD X.K ti o) (hf : X.fn x = true ∨ X.env.scope.names.lookup x = some .local := by first | exact .inl rfl | exact .inr rfl | assumption) :
    JS X (.AugAssign (.Name x pos') op e pos) (augS i f o) := PS.imp (ps_aug hN hi hx he ho hf) (ls_aug hd)
theorem jsfld {C : Addr} {fl : Str} {o value : Expr} {pos' : Pos} (cl : Cls X.K C) (n : NoAttr X.K C fl) (ha : JE X o f) (hv : JE X value g) (hs : swapsWith value (some (.Attribute o fl pos')) pos.line X.env = pure false := by rfl) : JS X (.Assign [.Attribute o fl pos'] value pos) (fldS C fl f g) := PS.imp (ps_fld ha hv hs) (ls_fld cl n)
theorem jspar {i j : Nat} {x y : Str} {px py pt : Pos} {kt k2 pt2} (hc : X.calm = true) (hN : X.N.Nodup) (hi : X.N[i]? = some x) (hj : X.N[j]? = some y) (hij : i ≠ j)
    (hx : X.env.scope.names.lookup x = some .local) (hy : X.env.scope.names.lookup y = some .local) (ha : JA X [a, b] fa)
    (hw : swappedStores [.Tuple [.Name x px, .Name y py] kt pt] (.Tuple [a, b] k2 pt2) X.env = pure (some [x, y]))
    (hs : swapsWithSole [.Tuple [.Name x px, .Name y py] kt pt] (.Tuple [a, b] k2 pt2) pos.line X.env = pure false := by rfl) :
    JS X (.Assign [.Tuple [.Name x px, .Name y py] kt pt] (.Tuple [a, b] k2 pt2) pos) (parS i j fa) := PS.imp (ps_par hc hN hi hj hij hx hy ha hw hs) ls_par
theorem jsfor {tg iter : Expr} {body : List Stmt} {wi : TI} {k : Ik} {gr : TG} {o : FG} (hp : PassesOwn (model X.prog X.w) X.A X.env X.xe) (hc : X.calm = true) (hi : PI X tg iter wi) (li : LI X.K wi k fa) (hg : PG X tg gr) (lg : LG X.K gr o) (hb : JSs X body fs)
    (hs : ∀ x, foldedSetIterable iter X.env x = pure x := by intro _; rfl) : JS X (.For tg iter body [] pos) (forS k fa o fs) := PS.imp (ps_for hp hc hi hg hb hs) (ls_for li lg)
theorem jswhile {body : List Stmt} (hp : PassesOwn (model X.prog X.w) X.A X.env X.xe) (hc : JT X c ft) (hb : JSs X body fs) : JS X (.While c body [] pos) (whileS ft fs) := PS.imp (ps_while hp hc hb) ls_while
theorem jssnil : JSs X [] nextS := PSs.imp pss_nil ls_next
theorem jssone {st : Stmt} (q : JS X st fs) : JSs X [st] fs := pss_one q
theorem jsscons {st : Stmt} {rest : List Stmt} (q : JS X st fs) (q2 : JSs X rest gs) : JSs X (st :: rest) (seqS fs gs) := PSs.imp (pss_cons q q2) ls_seq
theorem jlc {elt tg iter : Expr} {ifs : List Expr} {scope : Scope} {own : List (Str × Nat)} {wi : TI} {k : Ik} {gr : TG} {o : FG} (hc : X.calm = true) (hN : X.N.Nodup) (hi : PI X tg iter wi) (li : LI X.K wi k fa) (ok : BlkOk X.N X.env.scope scope own)
    (hg : ∀ (s : Shared) (H : Hp) (C : Addr) (cl : List (Str × Addr)) (fp : List Addr), PG (X.blk s H scope (compEnvC scope cl C X.env) fp) tg gr) (lg : LGW X.K gr o (own.map (·.2))) (ht : ∀ (s : Shared) (H : Hp) (C : Addr) (cl : List (Str × Addr)) (fp : List Addr), PTs (X.blk s H scope (compEnvC scope cl C X.env) fp) ifs (tDT X.K ft))
    (he : ∀ (s : Shared) (H : Hp) (C : Addr) (cl : List (Str × Addr)) (fp : List Addr), JE (X.blk s H scope (compEnvC scope cl C X.env) fp) elt f) (hs : ∀ x, foldedSetIterable iter X.env x = pure x := by intro _; rfl) :
    JE X (.ListComp elt [⟨tg, iter, ifs, 0⟩] scope pos) (lcD k fa o ft f (own.map (·.2))) := PE.imp (pe_lc (te := tD X.K f) hc hN hi ok hg ht he hs) (le_lc li lg)
theorem jssetLc {i : Nat} {y : Str} {py : Pos} {elt tg iter : Expr} {ifs : List Expr} {scope : Scope} {own : List (Str × Nat)} {spos : Pos} {wi : TI} {k : Ik} {gr : TG} {o : FG} (hc : X.calm = true) (hN : X.N.Nodup) (hy : X.N[i]? = some y) (hyl : X.env.scope.names.lookup y = some .local)
    (hsw : swapsWith (.ListComp elt [⟨tg, iter, ifs, 0⟩] scope pos) (some (.Name y py)) spos.line X.env = pure true) (hi : PI X tg iter wi) (li : LI X.K wi k fa) (ok : BlkOk X.N X.env.scope scope own)
    (hg : ∀ (s : Shared) (H : Hp) (C : Addr) (cl : List (Str × Addr)) (fp : List Addr), PG (X.blk s H scope (compEnvC scope cl C X.env) fp) tg gr) (lg : LGW X.K gr o (own.map (·.2))) (ht : ∀ (s : Shared) (H : Hp) (C : Addr) (cl : List (Str × Addr)) (fp : List Addr), PTs (X.blk s H scope (compEnvC scope cl C X.env) fp) ifs (tDT X.K ft))
    (he : ∀ (s : Shared) (H : Hp) (C : Addr) (cl : List (Str × Addr)) (fp : List Addr), JE (X.blk s H scope (compEnvC scope cl C X.env) fp) elt f) (hs : ∀ x, foldedSetIterable iter X.env x = pure x := by intro _; rfl) :
    JS X (.Assign [.Name y py] (.ListComp elt [⟨tg, iter, ifs, 0⟩] scope pos) spos) (setS i (lcD k fa o ft f (own.map (·.2)))) :=
  PS.imp (ps_setLc (te := tD X.K f) hc hN hy hyl hsw hi ok hg ht he hs) fun D σ H q => le_lc li lg σ H _ (by
    obtain ⟨ρ, δ, S, r, δ', S', hS, hσ, e, z⟩ := q
    obtain ⟨⟨x, S1⟩, e1, e⟩ := bnd e
    cases e
    exact ⟨ρ, δ, S, x, S1, hS, hσ, e1, fun v H1 ρ1 s1 hS1 rv => z _ H1 ρ1 s1 hS1 ((hσ.mono s1).set i rv)⟩)
theorem jtsnil {K : PySem.W.Frag} : PTs X [] (tDT K yesT) := ⟨fun pins s σ H Q I q => (pts_nil (X := X)).run pins s σ H Q I (le_yes σ H Q q)⟩
theorem jtsone (q : JT X c ft) : PTs X [c] (tDT X.K ft) := pts_one q
end
/-! ### a def's own promise -/
section
variable {P : Program} {w : World} {K : PySem.W.Frag} {mg : Str → Option Value} {base : Heap}
theorem fn_ok {φ : Nat → D → Sg → Option (D × Sg)} (hφ : FinOk K φ) {x qual : Str} {st : Stmt} {f : Addr} {fd : FuncData} {N ps : List Str} {k : Nat} {body : FS} (F : Fun K x qual st f fd) (sc : FnScope N ps (defScope st))
    (hb : ∀ (cdv : Value) (A : Around) (outer : List Env) (s : Shared) (H : Hp) (E : XK), Room k (A.deeper (PyProof.Rows.envOfC qual (defScope st) s.heap.objs.size f cdv)) → JSs (cxOf CX0 P w K mg base N qual (defScope st) f cdv A outer s H E).nox (defBody st) body) :
    FnOk P w K mg base CX0 (k + 1) f fd ps (spD K ps.length (bodyF φ N.length body)) :=
  F.ok sc (fun _ _ _ _ h => spD_len h) fun cdv A outer s H vs Q E hr h => ⟨_, hb cdv A outer s H E hr, body_ok hφ rfl h⟩
theorem fn_okD {φ : Nat → D → Sg → Option (D × Sg)} (hφ : FinOk K φ) {x qual : Str} {st : Stmt} {dvs : List V} {f : Addr} {fd : FuncData} {N ps : List Str} {k : Nat} {body : FS} (F : FunD K x qual (defArgs st) (defBody st) (defScope st) dvs [] f fd) (sc : FnScope N ps (defScope st))
    (hb : ∀ (cdv : Value) (A : Around) (outer : List Env) (s : Shared) (H : Hp) (E : XK), Room k (A.deeper (PyProof.Rows.envOfC qual (defScope st) s.heap.objs.size f cdv)) → JSs (cxOf CX0 P w K mg base N qual (defScope st) f cdv A outer s H E).nox (defBody st) body) :
    FnOk P w K mg base CX0 (k + 1) f fd ps (spD K ps.length (bodyF φ N.length body)) :=
  F.ok sc (fun _ _ _ _ h => spD_len h) fun cdv A outer s H vs Q E hr h => ⟨_, PSs.nox (hb cdv A outer s H E hr), body_ok hφ rfl h⟩
end
end DL
end
noncomputable section
namespace DL
open PySem L2
section
variable {K : PySem.W.Frag}
/-! ### lists joined, repeated, to be changed behind -/
def addNO : O2 := fun d e S => (plOf S d).bind fun xs => (plOf S e).bind fun ys => if Fits (xs.length + ys.length) then some (.loc S.length, S ++ [.lst (xs ++ ys)]) else none
theorem opD_addN : OpD K rCat addNO := by
  intro x y H Q ρ S d e z S' hS rx ry eq q
  obtain ⟨xs, e1, eq⟩ := bnd eq
  obtain ⟨ys, e2, eq⟩ := bnd eq
  split at eq
  · cases eq
    obtain ⟨a, vs, rfl, h1, r1⟩ := plOf_sq hS rx e1
    obtain ⟨b, ws, rfl, h2, r2⟩ := plOf_sq hS ry e2
    refine ⟨a, b, vs, ws, rfl, rfl, h1, h2, by rw [r1.len, r2.len]; exact Fits.le ‹_›, fun p hp => ?_⟩
    obtain ⟨c1, c2⟩ := rv_new hS hp (r1.append r2)
    exact q _ _ _ (Step.push hS hp) c1 c2
  · cases eq
def mulNO : O2 := fun d e S => match e with
  | .int k => (plOf S d).bind fun xs => if R63 k ∧ Fits (xs.length * k.toNat) then some (.loc S.length, S ++ [.lst (List.replicate k.toNat xs).flatten]) else none
  | _ => none
theorem opD_mulN : OpD K rRep mulNO := by
  intro x y H Q ρ S d e z S' hS rx ry eq q
  unfold mulNO at eq
  split at eq
  · cases ry
    obtain ⟨xs, e1, eq⟩ := bnd eq
    split at eq
    · rename_i hb
      cases eq
      obtain ⟨a, vs, rfl, h1, r1⟩ := plOf_sq hS rx e1
      refine ⟨a, _, vs, rfl, rfl, h1, ((r63_iff _).mp hb.1).1, ((r63_iff _).mp hb.1).2, by rw [r1.len]; exact hb.2.le, fun p hp => ?_⟩
      obtain ⟨c1, c2⟩ := rv_new hS hp (r1.flatten _)
      exact q _ _ _ (Step.push hS hp) c1 c2
    · cases eq
  · cases eq
/-! ### truth of any value -/
def truB (S : Sg) : D → Option Bool
  | .non => some false
  | .bl b => some b
  | .int i => some (i != 0)
  | .str z => if Fits (z.length) then some ((z.length : Int) != 0) else none
  | d => (sqOf S d).bind fun xs => some (!xs.isEmpty)
def truD (f : FE) : FT := fun δ S => (f δ S).bind fun p => (truB p.2 p.1).bind fun b => some (b, p.2)
theorem empty_rv {ρ : Ro} {H : Hp} {vs : List V} {ds : List D} (r : RVs K H ρ vs ds) : vs.isEmpty = ds.isEmpty := by cases r <;> rfl
theorem truB_ok {ρ : Ro} {H : Hp} {S : Sg} {v : V} {d : D} {b : Bool} (hS : SR K H ρ S) (r : RV K H ρ v d) (h : truB S d = some b) : TruV K v H b := by
  have sq : ∀ {d : D}, RV K H ρ v d → (sqOf S d).bind (fun xs => some (!xs.isEmpty)) = some b → TruV K v H b := fun {d} r h => by
    obtain ⟨xs, e, h⟩ := bnd h
    cases h
    obtain ⟨a, vs, rfl, hq, rs⟩ := sqOf_sq hS r e
    rcases hq with hq | hq
    · exact .inl ⟨vs, hq, by rw [empty_rv rs]⟩
    · exact .inr (.inl ⟨vs, hq, by rw [empty_rv rs]⟩)
  cases d with
  | non => cases h; cases r; rfl
  | bl _ => cases h; cases r; rfl
  | int _ => cases h; cases r; rfl
  | str z =>
    cases r
    unfold truB at h
    dsimp only at h
    split at h
    · cases h; exact ⟨Fits.le ‹_›, rfl⟩
    · cases h
  | ty _ => cases h
  | tup _ => exact sq r h
  | lst _ => exact sq r h
  | rol _ => exact sq r h
  | ins _ _ _ => exact sq r h
  | dic _ _ => exact sq r h
  | loc _ => exact sq r h
/-! ### in -/
def flatD : D → Bool
  | .non => true
  | .bl _ => true
  | .int _ => true
  | .str _ => true
  | _ => false
def eqF : D → D → Bool
  | .non, .non => true
  | .bl a, .bl b => a == b
  | .bl a, .int b => (if a then 1 else 0) == b
  | .int a, .bl b => a == (if b then 1 else 0)
  | .int a, .int b => a == b
  | .str a, .str b => a == b
  | _, _ => false
def inF (x : D) (xs : List D) : Bool := xs.any fun y => eqF y x
theorem flat_rv {ρ : Ro} {H : Hp} {v : V} {d : D} (r : RV K H ρ v d) (h : flatD d = true) : flatV v = true := by cases r <;> first | rfl | cases h
theorem flats_rv {ρ : Ro} {H : Hp} {vs : List V} {ds : List D} (r : RVs K H ρ vs ds) (h : ds.all flatD = true) : vs.all flatV = true := by
  induction vs generalizing ds with
  | nil => rfl
  | cons v vs ih =>
    cases r with
    | cons h1 r =>
      rw [List.all_cons, Bool.and_eq_true] at h ⊢
      exact ⟨flat_rv h1 h.1, ih r h.2⟩
theorem eqF_rv {ρ : Ro} {H : Hp} {v w : V} {d e : D} (r : RV K H ρ v d) (q : RV K H ρ w e) (h1 : flatD d = true) (h2 : flatD e = true) : eqV v w = eqF d e := by
  cases r <;> first | (cases h1; done) | skip
  all_goals (cases q <;> first | (cases h2; done) | rfl)
theorem inF_rv {ρ : Ro} {H : Hp} {v : V} {d : D} {vs : List V} {ds : List D} (r : RV K H ρ v d) (h1 : flatD d = true) (rs : RVs K H ρ vs ds) (h2 : ds.all flatD = true) : inV v vs = inF d ds := by
  induction vs generalizing ds with
  | nil => cases rs; rfl
  | cons w vs ih =>
    cases rs with
    | cons q rs =>
      rw [List.all_cons, Bool.and_eq_true] at h2
      unfold inV inF at ih ⊢
      rw [List.any_cons, List.any_cons, eqF_rv q r h2.1 h1, ih rs h2.2]
def inseqO : O2 := fun d e S => (sqOf S e).bind fun xs => if flatD d = true ∧ xs.all flatD = true then some (.bl (inF d xs), S) else none
theorem opD_inseq : OpD K (rIn K false) inseqO := by
  intro x y H Q ρ S d e z S' hS rx ry eq q
  obtain ⟨xs, e1, eq⟩ := bnd eq
  split at eq
  · rename_i hf
    cases eq
    obtain ⟨a, vs, rfl, hq, rs⟩ := sqOf_sq hS ry e1
    refine ⟨a, vs, rfl, hq, flat_rv rx hf.1, flats_rv rs hf.2, ?_⟩
    rw [if_neg (by decide), inF_rv rx hf.1 rs hf.2]
    exact q _ H ρ (Step.refl _ _) hS .bl
  · cases eq
def insignO : O2 := fun d e S => match d, e with
  | .str y, .str z => match y.cps.toList with
    | [c] => some (.bl (decide (c ∈ z.cps.toList)), S)
    | _ => none
  | _, _ => none
theorem opD_insign : OpD K (fun x y H Q => ∃ (c : Nat) (z : Str), x = .str ⟨#[c]⟩ ∧ y = .str z ∧ Q (.bl (decide (c ∈ z.cps.toList))) H) insignO := by
  intro x y H Q ρ S d e z S' hS rx ry eq q
  unfold insignO at eq
  split at eq
  · cases rx; cases ry
    split at eq
    · rename_i y z0 l c hc
      cases eq
      have ey : y = ⟨#[c]⟩ := by
        refine Str.ext' (Array.toList_inj.mp ?_)
        rw [hc]
      exact ⟨c, _, by rw [ey], rfl, q _ H ρ (Step.refl _ _) hS .bl⟩
    · cases eq
  · cases eq
/-! ### slices of a list, a tuple, a text -/
def rSl3 (K : PySem.W.Frag) : V → Option Int → Option Int → Hp → VK → Prop := fun x lo hi H Q => rSlL K x lo hi H Q ∨ rSlT K x lo hi H Q ∨ rSlS x lo hi H Q
theorem sl_any {X : Cx} : SlR X (rSl3 X.K) := SlR.or sl_list (SlR.or sl_tup sl_str)
def slO : O3 := fun d lo hi S => match d with
  | .str z => slSO (.str z) lo hi S
  | .tup ds => slTO (.tup ds) lo hi S
  | d => slLO d lo hi S
theorem slD_any : SlD K (rSl3 K) slO := by
  intro x lo hi H Q ρ S d z S' hS rx eq q
  unfold slO at eq
  split at eq
  · exact .inr (.inr (slD_S x lo hi H Q ρ S _ z S' hS rx eq q))
  · exact .inr (.inl (slD_T x lo hi H Q ρ S _ z S' hS rx eq q))
  · exact .inl (slD_L x lo hi H Q ρ S d z S' hS rx eq q)
/-! ### isinstance -/
def tyN (S : Sg) : D → Option String
  | .non => some "NoneType"
  | .bl _ => some "bool"
  | .int _ => some "int"
  | .str _ => some "str"
  | .tup _ => some "tuple"
  | .lst _ => some "list"
  | .rol _ => some "list"
  | .loc n => match S[n]? with
    | some (.lst _) => some "list"
    | _ => none
  | _ => none
theorem tyN_ok {ρ : Ro} {H : Hp} {S : Sg} {v : V} {d : D} {t : String} (hS : SR K H ρ S) (r : RV K H ρ v d) (h : tyN S d = some t) : TyX K H v (.type t) := by
  cases r with
  | non => cases h; exact .base .non
  | bl => cases h; exact .base (.bl _)
  | int => cases h; exact .base (.int _)
  | str => cases h; exact .base (.str _)
  | ty => cases h
  | tup e => cases h; exact .base (.tup e)
  | lst e => cases h; exact .base (.lst e)
  | rol e =>
    cases h
    rcases e with ⟨e, _⟩ | ⟨o, its, n, e, c, _⟩
    · rcases e with e | ⟨o, e⟩
      · exact .base (.lst e)
      · exact .base (.frz e)
    · exact .kList e c
  | ins => cases h
  | dic => cases h
  | loc hn =>
    unfold tyN at h
    dsimp only at h
    split at h
    · rename_i hs
      cases h
      obtain ⟨vs, h1, _⟩ := hS.ob _ _ _ hn hs
      exact .base (.lst h1)
    · cases h
def isiO : OC := fun ds S => match ds with
  | [d, .ty b] => (tyN S d).bind fun a => (kitB a b).bind fun r => some (.bl r, S)
  | _ => none
theorem cbD_isi : CbD K (rIsi K) isiO := by
  intro xs H Q ρ S ds z S' hS rs eq q
  unfold isiO at eq
  split at eq
  · cases rs with | cons rx rn => ?_
    cases rn with | cons ry rn => ?_
    cases rn; cases ry
    obtain ⟨a, e1, eq⟩ := bnd eq
    obtain ⟨r, e2, eq⟩ := bnd eq
    cases eq
    exact ⟨_, _, _, _, r, rfl, .ty _, tyN_ok hS rx e1, kit_ty e2, q _ H ρ (Step.refl _ _) hS .bl⟩
  · cases eq
def tysOf : List D → Option (List String)
  | [] => some []
  | .ty b :: r => (tysOf r).bind fun l => some (b :: l)
  | _ => none
def kitL (a : String) : List String → Option Bool
  | [] => some false
  | b :: r => match kitB a b with
    | some true => some true
    | some false => kitL a r
    | none => none
theorem kitL_ok {a : String} {r : Bool} : ∀ {bs : List String}, kitL a bs = some r → PySem.W.kitAny K (.type a) (bs.map Value.type) = some r
  | [], h => h
  | b :: bs, h => by
    unfold kitL at h
    rw [List.map_cons]
    unfold PySem.W.kitAny
    split at h
    · rename_i e
      rw [kit_ty e]
      exact h
    · rename_i e
      rw [kit_ty e]
      exact kitL_ok h
    · cases h
theorem tysOf_rv {ρ : Ro} {H : Hp} : ∀ {vs : List V} {ds : List D} {bs : List String}, tysOf ds = some bs → RVs K H ρ vs ds → Paired ClsV vs (bs.map Value.type)
  | _, _, _, h, .nil => by cases h; exact .nil
  | _, _, _, h, .cons r rs => by
    unfold tysOf at h
    split at h
    · rename_i e; cases e
    · rename_i b ds' e
      obtain ⟨rfl, rfl⟩ : _ = D.ty b ∧ _ = ds' := by simpa using e
      obtain ⟨l, e1, h⟩ := bnd h
      cases h
      cases r
      exact .cons (.ty b) (tysOf_rv e1 rs)
    · cases h
def isiTO : OC := fun ds S => match ds with
  | [d, .tup cs] => (tyN S d).bind fun a => (tysOf cs).bind fun bs => (kitL a bs).bind fun r => some (.bl r, S)
  | _ => none
theorem cbD_isiT : CbD K (rIsiT K) isiTO := by
  intro xs H Q ρ S ds z S' hS rs eq q
  unfold isiTO at eq
  split at eq
  · cases rs with | cons rx rn => ?_
    cases rn with | cons ry rn => ?_
    cases rn
    cases ry with | tup h n r => ?_
    obtain ⟨a, e1, eq⟩ := bnd eq
    obtain ⟨bs, e2, eq⟩ := bnd eq
    obtain ⟨r', e3, eq⟩ := bnd eq
    cases eq
    exact ⟨_, _, _, _, _, r', rfl, h, tysOf_rv e2 r, tyN_ok hS rx e1, kitL_ok e3, q _ H ρ (Step.refl _ _) hS .bl⟩
  · cases eq
/-! ### three at once -/
def parS3 (i j l : Nat) (f : FA) : FS := fun δ S => (f δ S).bind fun p => match p.1 with
  | [x, y, z] => some (.nx, ((δ.set i (some x)).set j (some y)).set l (some z), p.2)
  | _ => none
theorem ls_par3 {i j l : Nat} {f : FA} : ∀ D σ H, tDS K (parS3 i j l f) D σ H → tPar3 i j l (tDA K f) D σ H := by
  rintro D σ H ⟨ρ, δ, S, r, δ', S', hS, hσ, e, q⟩
  obtain ⟨⟨x, S1⟩, e1, e⟩ := bnd e
  dsimp only at e
  split at e
  · cases e
    refine ⟨ρ, δ, S, _, _, hS, hσ, e1, fun vs H1 ρ1 s1 hS1 rv => ?_⟩
    cases rv with | cons r1 rv => cases rv with | cons r2 rv => cases rv with | cons r3 rv => cases rv with | nil =>
      exact ⟨_, _, _, rfl, q _ H1 ρ1 s1 hS1 ((((hσ.mono s1).set i r1).set j r2).set l r3)⟩
  · cases e
/-! ### a list, item by item, to be changed behind -/
def lcDN (k : Ik) (fa : FA) (g : FG) (c : FT) (f : FE) (vs : List Nat) : FE := fun δ S => (lcD k fa g c f vs δ S).bind fun p => match p.1 with
  | .lst ds => some (.loc p.2.length, p.2 ++ [.lst ds])
  | _ => none
theorem le_lcN {wi : TI} {k : Ik} {fa : FA} {g : TG} {o : FG} {c : FT} {f : FE} {vs : List Nat} (hi : LI K wi k fa) (hg : LGW K g o vs) :
    ∀ σ H Q, tD K (lcDN k fa o c f vs) σ H Q → tLc wi g (tDT K c) (tD K f) vs σ H Q := by
  rintro σ H Q ⟨ρ, δ, S, d, S', hS, hσ, e, q⟩
  obtain ⟨⟨y, S1⟩, e1, e⟩ := bnd e
  dsimp only at e
  split at e
  · rename_i out
    cases e
    refine lc_main hi hg hS hσ e1 fun H2 ρ2 L vacc s2 hS2 hacc nL nB racc => ?_
    have hp : SR K H2 (ρ2.push L) (S1 ++ [.lst out]) := by
      refine ⟨by show (ρ2.pl ++ [L]).length = _; rw [List.length_append, List.length_append, ← hS2.len]; rfl, ?_, fun a m => hS2.bn a (List.mem_cons_of_mem _ m), fun a m => ?_, fun j a w h1 h2 => ?_⟩
      · show (ρ2.pl ++ [L]).Nodup
        rw [List.nodup_append]
        refine ⟨hS2.nd, by simp, fun a ha b hb e => ?_⟩
        rw [List.mem_singleton] at hb
        subst hb; subst e
        exact nL ha
      · rcases List.mem_append.mp m with m | m
        · exact fun z => hS2.dj a m (List.mem_cons_of_mem _ z)
        · rw [List.mem_singleton.mp m]; exact nB
      · have h1 : (ρ2.pl ++ [L])[j]? = some a := h1
        have hl : ρ2.pl.length = S1.length := hS2.len
        by_cases hn : j < ρ2.pl.length
        · rw [List.getElem?_append_left hn] at h1
          rw [List.getElem?_append_left (by rw [← hl]; exact hn)] at h2
          exact (hS2.ob j a w h1 h2).map rfl fun vs ds r => r.banPush
        · have hj : j = ρ2.pl.length := by
            have := (List.getElem?_eq_some_iff.mp h1).1
            rw [List.length_append] at this
            simp at this
            omega
          subst hj
          rw [List.getElem?_append_right (Nat.le_refl _), Nat.sub_self] at h1
          rw [hl, List.getElem?_append_right (Nat.le_refl _), Nat.sub_self] at h2
          have h1' : L = a := Option.some.inj h1
          have h2' : Ob.lst out = w := Option.some.inj h2
          subst h1'; subst h2'
          exact ⟨vacc, hacc, racc.banPush⟩
    have st : Step ρ (ρ2.push L) H H2 := by
      obtain ⟨nw, en, hf⟩ := s2.2.ext
      refine ⟨⟨nw ++ [L], by show ρ2.pl ++ [L] = _; rw [en, List.append_assoc], fun a m => ?_⟩, s2.2.bn, s2.2.keep, s2.2.dom⟩
      rcases List.mem_append.mp m with m | m
      · exact hf a m
      · rw [List.mem_singleton.mp m]; exact s2.1
    refine q _ H2 _ st hp (.loc ?_)
    show (ρ2.pl ++ [L])[S1.length]? = some L
    rw [← show ρ2.pl.length = S1.length from hS2.len, List.getElem?_append_right (Nat.le_refl _), Nat.sub_self]
    rfl
  · cases e
end
section
variable {X : Cx} {a b c e : Expr} {es : List Expr} {pos p : Pos} {f g : FE} {fa : FA} {ft : FT}
theorem jaddN (ha : JE X a f) (hb : JE X b g) : JE X (.BinOp a .Add b pos) (op2D addNO f g) := jop op_cat opD_addN ha hb
theorem jmulN (ha : JE X a f) (hb : JE X b g) : JE X (.BinOp a .Mult b pos) (op2D mulNO f g) := jop op_rep opD_mulN ha hb
theorem jtruth (q : JE X e f) (he : ∀ whole, isTrue e X.env whole = (do let v ← whole; standAt e.pos; holding [v] (truthy v)) := by intro _; rfl) : JT X e (truD f) := by
  refine PT.imp (pt_truth q he) ?_
  rintro σ H Q ⟨ρ, δ, S, b, S', hS, hσ, e, z⟩
  obtain ⟨⟨x, S1⟩, e1, e⟩ := bnd e
  obtain ⟨b', e2, e⟩ := bnd e
  cases e
  exact ⟨ρ, δ, S, x, S1, hS, hσ, e1, fun v H1 ρ1 s1 hS1 rv => ⟨_, truB_ok hS1 rv e2, z H1 ρ1 s1 hS1⟩⟩
theorem jinseq (ha : JE X a f) (hb : JE X b g) (hm : behindInMarks .In b = false := by rfl) : JE X (.Compare a [.In] [b] pos) (op2D inseqO f g) := jcmpR op_in_seq opD_inseq ha hb hm
theorem jtinseq (ha : JE X a f) (hb : JE X b g) (hm : behindInMarks .In b = false := by rfl) : JT X (.Compare a [.In] [b] pos) (tvD (op2D inseqO f g)) := jtcmpR op_in_seq opD_inseq ha hb hm
theorem jinsign (ha : JE X a f) (hb : JE X b g) (hm : behindInMarks .In b = false := by rfl) : JE X (.Compare a [.In] [b] pos) (op2D insignO f g) := jcmpR op_in_sign opD_insign ha hb hm
theorem jtinsign (ha : JE X a f) (hb : JE X b g) (hm : behindInMarks .In b = false := by rfl) : JT X (.Compare a [.In] [b] pos) (tvD (op2D insignO f g)) := jtcmpR op_in_sign opD_insign ha hb hm
theorem jspar3 {i j l : Nat} {x y z : Str} {px py pz pt : Pos} {kt k2 pt2} (hc : X.calm = true) (hN : X.N.Nodup) (hi : X.N[i]? = some x) (hj : X.N[j]? = some y) (hl : X.N[l]? = some z) (hij : i ≠ j) (hil : i ≠ l) (hjl : j ≠ l)
    (hx : X.env.scope.names.lookup x = some .local) (hy : X.env.scope.names.lookup y = some .local) (hz : X.env.scope.names.lookup z = some .local) (ha : JA X [a, b, c] fa)
    (hw : swappedStores [.Tuple [.Name x px, .Name y py, .Name z pz] kt pt] (.Tuple [a, b, c] k2 pt2) X.env = pure (some [x, y, z]))
    (hs : swapsWithSole [.Tuple [.Name x px, .Name y py, .Name z pz] kt pt] (.Tuple [a, b, c] k2 pt2) pos.line X.env = pure false := by rfl) :
    JS X (.Assign [.Tuple [.Name x px, .Name y py, .Name z pz] kt pt] (.Tuple [a, b, c] k2 pt2) pos) (parS3 i j l fa) := PS.imp (ps_par3 hc hN hi hj hl hij hil hjl hx hy hz ha hw hs) ls_par3
theorem jlcN {elt tg iter : Expr} {ifs : List Expr} {scope : Scope} {own : List (Str × Nat)} {wi : TI} {k : Ik} {gr : TG} {o : FG} (hc : X.calm = true) (hN : X.N.Nodup) (hi : PI X tg iter wi) (li : LI X.K wi k fa) (ok : BlkOk X.N X.env.scope scope own)
    (hg : ∀ (s : Shared) (H : Hp) (C : Addr) (cl : List (Str × Addr)) (fp : List Addr), PG (X.blk s H scope (compEnvC scope cl C X.env) fp) tg gr) (lg : LGW X.K gr o (own.map (·.2))) (ht : ∀ (s : Shared) (H : Hp) (C : Addr) (cl : List (Str × Addr)) (fp : List Addr), PTs (X.blk s H scope (compEnvC scope cl C X.env) fp) ifs (tDT X.K ft))
    (he : ∀ (s : Shared) (H : Hp) (C : Addr) (cl : List (Str × Addr)) (fp : List Addr), JE (X.blk s H scope (compEnvC scope cl C X.env) fp) elt f) (hs : ∀ x, foldedSetIterable iter X.env x = pure x := by intro _; rfl) :
    JE X (.ListComp elt [⟨tg, iter, ifs, 0⟩] scope pos) (lcDN k fa o ft f (own.map (·.2))) := PE.imp (pe_lc (te := tD X.K f) hc hN hi ok hg ht he hs) (le_lcN li lg)
theorem jssetLcN {i : Nat} {y : Str} {py : Pos} {elt tg iter : Expr} {ifs : List Expr} {scope : Scope} {own : List (Str × Nat)} {spos : Pos} {wi : TI} {k : Ik} {gr : TG} {o : FG} (hc : X.calm = true) (hN : X.N.Nodup) (hy : X.N[i]? = some y) (hyl : X.env.scope.names.lookup y = some .local)
    (hsw : swapsWith (.ListComp elt [⟨tg, iter, ifs, 0⟩] scope pos) (some (.Name y py)) spos.line X.env = pure true) (hi : PI X tg iter wi) (li : LI X.K wi k fa) (ok : BlkOk X.N X.env.scope scope own)
    (hg : ∀ (s : Shared) (H : Hp) (C : Addr) (cl : List (Str × Addr)) (fp : List Addr), PG (X.blk s H scope (compEnvC scope cl C X.env) fp) tg gr) (lg : LGW X.K gr o (own.map (·.2))) (ht : ∀ (s : Shared) (H : Hp) (C : Addr) (cl : List (Str × Addr)) (fp : List Addr), PTs (X.blk s H scope (compEnvC scope cl C X.env) fp) ifs (tDT X.K ft))
    (he : ∀ (s : Shared) (H : Hp) (C : Addr) (cl : List (Str × Addr)) (fp : List Addr), JE (X.blk s H scope (compEnvC scope cl C X.env) fp) elt f) (hs : ∀ x, foldedSetIterable iter X.env x = pure x := by intro _; rfl) :
    JS X (.Assign [.Name y py] (.ListComp elt [⟨tg, iter, ifs, 0⟩] scope pos) spos) (setS i (lcDN k fa o ft f (own.map (·.2)))) :=
  PS.imp (ps_setLc (te := tD X.K f) hc hN hy hyl hsw hi ok hg ht he hs) fun D σ H q => le_lcN li lg σ H _ (by
    obtain ⟨ρ, δ, S, r, δ', S', hS, hσ, e, z⟩ := q
    obtain ⟨⟨x, S1⟩, e1, e⟩ := bnd e
    cases e
    exact ⟨ρ, δ, S, x, S1, hS, hσ, e1, fun v H1 ρ1 s1 hS1 rv => z _ H1 ρ1 s1 hS1 ((hσ.mono s1).set i rv)⟩)
theorem jfn0 {x : Str} {k : Nat} {F : Fn} {p : Pos} (Z : Df X.prog X.w X.K X.mg X.base x k [] F) (hr : Room k X.A) (hg : Gl X x := by rfl) (hdb : (x == ("__debug__" : Str)) = false := by decide) : JE X (.Call (.Name x p) [] [] pos) (fnD F [] nilA) := by
  obtain ⟨f, fd, Fk, hm, kp, b⟩ := Z.ex
  refine PE.imp (pe_call0 Fk hr hg hm kp b .nil pass0 hdb) fun σ H Q z => ?_
  exact le_nilA σ H _ (le_fn (K := X.K) (E := E0) (n := 0) (fun _ _ => .nil) (fun δ S ds S' q => by cases q; rfl) σ H Q z)
/-- a def whose last arguments are left out -/
structure DfD (P : Program) (w : World) (K : PySem.W.Frag) (mg : Str → Option Value) (base : Heap) (x : Str) (k : Nat) (ps : List Str) (dvs : List V) (F : Fn) : Prop where
  ex : ∃ (f : Addr) (fd : FuncData) (ds : List Value), FnOk P w K mg base CX0 k f fd ps (spD K ps.length F) ∧ mg x = some (.ref f) ∧ PySem.W.keepIn K (.ref f) = true ∧ Vals dvs ds ∧ Binds K fd ps ds
theorem jfnD {x : Str} {k : Nat} {ps : List Str} {dvs : List V} {dds : List D} {F : Fn} {p : Pos} (Z : DfD X.prog X.w X.K X.mg X.base x k ps dvs F) (hd : ∀ H ρ, RVs X.K H ρ dvs dds) (hr : Room k X.A) (ha : JA X (e :: es) fa) (hn : NA (ps.length - dds.length) fa := by repeat (first | exact na0 | apply na)) (hl : dds.length ≤ ps.length := by decide)
    (hg : Gl X x := by rfl) (hdb : (x == ("__debug__" : Str)) = false := by decide) (he : starEach (e :: es) X.env = (false, eval e X.env) :: starEach es X.env := by rfl) (hpl : (backTo pos (starEach es X.env)).any (·.1) = false := by rfl) :
    JE X (.Call (.Name x p) (e :: es) [] pos) (fnD F dds fa) := by
  obtain ⟨f, fd, ds, Fk, hm, kp, v, b⟩ := Z.ex
  refine PE.imp (pe_call Fk hr hg hm kp b v pass0 ha hdb he hpl) (le_fn hd fun δ S ds S' q => ?_)
  rw [List.length_append, hn δ S ds S' q]
  omega
end
end DL
end
noncomputable section
namespace DL
open PySem L2
/-! ### reckoning: each piece where its slots and store are known -/
theorem mulL {i j : Int} (h : -18446744073709551616 < i ∧ i < 18446744073709551616) : MulB i j := (mulB_iff i j).mpr (.inl h)
theorem mulR {i j : Int} (h : -18446744073709551616 < j ∧ j < 18446744073709551616) : MulB i j := (mulB_iff i j).mpr (.inr h)
theorem divP {j : Int} (h : 0 < j ∧ j < 1000000000000000000000000000000) : DivB j := (divB_iff j).mpr h
theorem powP {i j : Int} (h : (0 ≤ j ∧ j ≤ 1000000) ∧ -18446744073709551616 < i ∧ i < 18446744073709551616) : PowB i j := (powB_iff i j).mpr h
theorem r62P {j : Int} (h : -4611686018427387904 ≤ j ∧ j < 4611686018427387904) : R62 j := (r62_iff j).mpr h
theorem r63P {j : Int} (h : -9223372036854775808 ≤ j ∧ j < 9223372036854775808) : R63 j := (r63_iff j).mpr h
/-! an own bind: simp visits its head alone, as the answer's type names what follows -/
abbrev Rz {α β : Type} (_ : α → Option β) : Type := Option β
def _root_.Option.bd {α β : Type} (o : Option α) (f : α → Option β) (_h : True := trivial) : Rz f := o.bind f
theorem bd_some {α β : Type} (a : α) (f : α → Option β) (h : True) : Option.bd (some a) f h = f a := rfl
theorem bd_none {α β : Type} (f : α → Option β) (h : True) : Option.bd none f h = none := rfl
section
variable (δ : Dl) (S : Sg)
theorem varD_ap (i : Nat) : varD i δ S = (δ[i]?).bd fun o => o.bd fun d => some (d, S) := rfl
theorem cD_ap (d : D) : cD d δ S = some (d, S) := rfl
theorem op2D_ap (o : O2) (f g : FE) : op2D o f g δ S = (f δ S).bd fun p => (g δ p.2).bd fun q => o p.1 q.1 q.2 := rfl
theorem op1D_ap (o : O1) (f : FE) : op1D o f δ S = (f δ S).bd fun p => o p.1 p.2 := rfl
theorem tvD_ap (f : FE) : tvD f δ S = (f δ S).bd fun p => (isB p.1).bd fun b => some (b, p.2) := rfl
theorem truD_ap (f : FE) : truD f δ S = (f δ S).bd fun p => (truB p.2 p.1).bd fun b => some (b, p.2) := rfl
theorem notD_ap (f : FT) : notD f δ S = (f δ S).bd fun p => some (!p.1, p.2) := rfl
theorem andD_ap (f g : FT) : andD f g δ S = (f δ S).bd fun p => if p.1 = true then g δ p.2 else some (false, p.2) := rfl
theorem orD_ap (f g : FT) : orD f g δ S = (f δ S).bd fun p => if p.1 = true then some (true, p.2) else g δ p.2 := rfl
theorem andV_ap (f g : FE) : andV f g δ S = (f δ S).bd fun p => (isB p.1).bd fun b => if b = true then g δ p.2 else some (.bl false, p.2) := rfl
theorem orV_ap (f g : FE) : orV f g δ S = (f δ S).bd fun p => (isB p.1).bd fun b => if b = true then some (.bl true, p.2) else g δ p.2 := rfl
theorem notV_ap (f : FE) : notV f δ S = (f δ S).bd fun p => (isB p.1).bd fun b => some (.bl (!b), p.2) := rfl
theorem iteV_ap (c : FT) (f g : FE) : iteV c f g δ S = (c δ S).bd fun p => if p.1 = true then f δ p.2 else g δ p.2 := rfl
theorem chainD_ap (o o' : O2) (f g h : FE) : chainD o o' f g h δ S = (f δ S).bd fun p => (g δ p.2).bd fun q => (o p.1 q.1 q.2).bd fun z => (isB z.1).bd fun b => if b = true then (h δ z.2).bd fun w => o' q.1 w.1 w.2 else some (.bl false, z.2) := rfl
theorem nilA_ap : nilA δ S = some ([], S) := rfl
theorem consA_ap (f : FE) (g : FA) : consA f g δ S = (f δ S).bd fun p => (g δ p.2).bd fun q => some (p.1 :: q.1, q.2) := rfl
theorem oneA_ap (f : FE) : oneA f δ S = (f δ S).bd fun p => some ([p.1], p.2) := by
  show (f δ S).bind _ = _
  rfl
theorem tupD_ap (f : FA) : tupD f δ S = (f δ S).bd fun p => if Fits (p.1.length) then some (.tup p.1, p.2) else none := rfl
theorem lstD_ap (f : FA) : lstD f δ S = (f δ S).bd fun p => if Fits (p.1.length) then some (.lst p.1, p.2) else none := rfl
theorem newD_ap (f : FA) : newD f δ S = (f δ S).bd fun p => if Fits (p.1.length) then some (.loc p.2.length, p.2 ++ [.lst p.1]) else none := rfl
theorem noO_ap : noO δ S = some (none, S) := rfl
theorem someO_ap (f : FE) : someO f δ S = (f δ S).bd fun p => (isI p.1).bd fun i => some (some i, p.2) := rfl
theorem slD_ap (o : O3) (f : FE) (g h : FO) : slD o f g h δ S = (f δ S).bd fun p => (g δ p.2).bd fun q => (h δ q.2).bd fun r => o p.1 q.1 r.1 r.2 := rfl
theorem cbD_ap (o : OC) (f : FA) : cbD o f δ S = (f δ S).bd fun p => o p.1 p.2 := rfl
theorem fnD_ap (F : Fn) (dds : List D) (f : FA) : fnD F dds f δ S = (f δ S).bd fun p => F (p.1 ++ dds) p.2 := rfl
theorem methD_ap (C : Addr) (m : Str) (F : Fn) (dds : List D) (fa : FE) (f : FA) : methD C m F dds fa f δ S = (fa δ S).bd fun p => (fsOf p.2 C p.1).bd fun gs => if gs.lookup m = none then (f δ p.2).bd fun q => F (p.1 :: (q.1 ++ dds)) q.2 else none := rfl
theorem mkD_ap (φ : Nat → D → Sg → Option (D × Sg)) (C : Addr) (F : Fn) (dds : List D) (f : FA) : mkD φ C F dds f δ S = (f δ S).bd fun p => (F (.loc p.2.length :: (p.1 ++ dds)) (p.2 ++ [.ins C []])).bd fun q => if isNoneB q.1 = true then φ p.2.length (.loc p.2.length) q.2 else none := rfl
theorem bmD_ap (ok : Sg → D → Bool) (o : OM) (fa : FE) (f : FA) : bmD ok o fa f δ S = (fa δ S).bd fun p => if ok p.2 p.1 = true then (f δ p.2).bd fun q => o p.1 q.1 q.2 else none := rfl
theorem fldD_ap (C : Addr) (f : Str) (fa : FE) : fldD C f fa δ S = (fa δ S).bd fun p => (fsOf p.2 C p.1).bd fun gs => (gs.lookup f).bd fun d => some (d, p.2) := rfl
theorem nextS_ap : nextS δ S = some (.nx, δ, S) := rfl
def onNx (r : Fl × Dl × Sg) (g : FS) : Option (Fl × Dl × Sg) := match r.1 with
  | .nx => g r.2.1 r.2.2
  | _ => some r
theorem onNx_nx (δ1 : Dl) (S1 : Sg) (g : FS) : onNx (.nx, δ1, S1) g = g δ1 S1 := rfl
theorem onNx_rt (d : D) (δ1 : Dl) (S1 : Sg) (g : FS) : onNx (.rt d, δ1, S1) g = some (.rt d, δ1, S1) := rfl
theorem onNx_bk (δ1 : Dl) (S1 : Sg) (g : FS) : onNx (.bk, δ1, S1) g = some (.bk, δ1, S1) := rfl
theorem onNx_ct (δ1 : Dl) (S1 : Sg) (g : FS) : onNx (.ct, δ1, S1) g = some (.ct, δ1, S1) := rfl
theorem seqS_ap (f g : FS) : seqS f g δ S = (f δ S).bd fun r => onNx r g := rfl
theorem ifS_ap (c : FT) (f g : FS) : ifS c f g δ S = (c δ S).bd fun p => if p.1 = true then f δ p.2 else g δ p.2 := rfl
theorem retS_ap (f : FE) : retS f δ S = (f δ S).bd fun p => some (.rt p.1, δ, p.2) := rfl
theorem retNS_ap : retNS δ S = some (.rt .non, δ, S) := rfl
theorem dropS_ap (f : FE) : dropS f δ S = (f δ S).bd fun p => some (.nx, δ, p.2) := rfl
theorem asgS_ap (f : FE) (g : FG) : asgS f g δ S = (f δ S).bd fun p => (g p.1 δ p.2).bd fun q => some (.nx, q.1, q.2) := rfl
theorem setS_ap (i : Nat) (f : FE) : setS i f δ S = (f δ S).bd fun p => some (.nx, δ.set i (some p.1), p.2) := rfl
theorem parS_ap (i j : Nat) (f : FA) : parS i j f δ S = (f δ S).bd fun p => match p.1 with
  | [x, y] => some (.nx, (δ.set i (some x)).set j (some y), p.2)
  | _ => none := rfl
theorem parS3_ap (i j l : Nat) (f : FA) : parS3 i j l f δ S = (f δ S).bd fun p => match p.1 with
  | [x, y, z] => some (.nx, ((δ.set i (some x)).set j (some y)).set l (some z), p.2)
  | _ => none := rfl
theorem augS_ap (i : Nat) (f : FE) (o : O2) : augS i f o δ S = (varD i δ S).bd fun x => (f δ x.2).bd fun p => (o x.1 p.1 p.2).bd fun z => some (.nx, δ.set i (some z.1), z.2) := rfl
theorem fldS_ap (C : Addr) (f : Str) (fa fv : FE) : fldS C f fa fv δ S = (fv δ S).bd fun y => (fa δ y.2).bd fun p => match p.1 with
  | .loc n => match p.2[n]? with
    | some (.ins C' gs) => if C' = C ∧ gs.length < 1000 then some (.nx, δ, p.2.set n (.ins C (putD f y.1 gs))) else none
    | _ => none
  | _ => none := rfl
theorem nmG_ap (i : Nat) (d : D) : nmG i d δ S = some (δ.set i (some d), S) := rfl
theorem nilG_ap : nilG [] δ S = some (δ, S) := rfl
theorem consG_ap (t : FG) (u : FGs) (d : D) (r : List D) : consG t u (d :: r) δ S = (t d δ S).bd fun p => u r p.1 p.2 := rfl
theorem tupG_ap (n : Nat) (u : FGs) (ds : List D) : tupG n u (.tup ds) δ S = if ds.length = n then u ds δ S else none := rfl
theorem subG_ap (o : OSt) (fo fi : FE) (d : D) : subG o fo fi d δ S = (fo δ S).bd fun p => (fi δ p.2).bd fun q => (o p.1 q.1 d q.2).bd fun S' => some (δ, S') := rfl
theorem forS_ap (k : Ik) (f : FA) (g : FG) (body : FS) : forS k f g body δ S = (f δ S).bd fun p => (k p.1 p.2).bd fun items => forGo k p.1 items g body items δ p.2 := rfl
theorem lcD_ap (k : Ik) (fa : FA) (g : FG) (c : FT) (f : FE) (vs : List Nat) : lcD k fa g c f vs δ S = (fa δ S).bd fun p => (k p.1 p.2).bd fun items => if Fits (items.length) then (lcGo k p.1 items g c f (wipeD δ vs) items [] p.2).bd fun r => some (.lst r.1, r.2) else none := rfl
theorem lcDN_ap (k : Ik) (fa : FA) (g : FG) (c : FT) (f : FE) (vs : List Nat) : lcDN k fa g c f vs δ S = (lcD k fa g c f vs δ S).bd fun p => match p.1 with
  | .lst ds => some (.loc p.2.length, p.2 ++ [.lst ds])
  | _ => none := rfl
def endB (φ : Nat → D → Sg → Option (D × Sg)) (n : Nat) (r : Fl × Dl × Sg) : Option (D × Sg) := match r.1 with
  | .rt d => φ n d r.2.2
  | .nx => φ n .non r.2.2
  | _ => none
theorem bodyF_ap (φ : Nat → D → Sg → Option (D × Sg)) (n : Nat) (body : FS) (ds : List D) : bodyF φ n body ds S = (body (ds.map some ++ List.replicate (n - ds.length) none) S).bd fun r => endB φ S.length r := rfl
theorem endB_rt (φ : Nat → D → Sg → Option (D × Sg)) (n : Nat) (d : D) : endB φ n (.rt d, δ, S) = φ n d S := rfl
theorem endB_nx (φ : Nat → D → Sg → Option (D × Sg)) (n : Nat) : endB φ n (.nx, δ, S) = φ n .non S := rfl
theorem fin_eq {n : Nat} (d : D) (h : S.length = n) : fin n d S = some (d, S) := if_pos h
theorem finK_ap (n : Nat) (d : D) : finK n d S = some (d, S) := rfl
/-! values -/
theorem isB_bl (b : Bool) : isB (.bl b) = some b := rfl
theorem isI_int (i : Int) : isI (.int i) = some i := rfl
theorem cmpO_int (p : Int → Int → Bool) (i j : Int) : cmpO p (.int i) (.int j) S = some (.bl (p i j), S) := rfl
theorem int0_int (g : Int → Int → D) (i j : Int) : int0 g (.int i) (.int j) S = some (g i j, S) := rfl
theorem addO_int (i j : Int) : addO (.int i) (.int j) S = some (.int (i + j), S) := rfl
theorem subO_int (i j : Int) : subO (.int i) (.int j) S = some (.int (i - j), S) := rfl
theorem mulO_int (i j : Int) : mulO (.int i) (.int j) S = if MulB i j then some (.int (i * j), S) else none := rfl
theorem modO_int (i j : Int) : modO (.int i) (.int j) S = if 0 < j then some (.int (i % j), S) else none := rfl
theorem fdivO_int (i j : Int) : fdivO (.int i) (.int j) S = if DivB j then some (.int (i / j), S) else none := rfl
theorem powO_int (i j : Int) : powO (.int i) (.int j) S = if PowB i j then some (.int (i ^ j.toNat), S) else none := rfl
def obL : Ob → Option (List D)
  | .lst ds => some ds
  | _ => none
def obI (C : Addr) : Ob → Option (List (Str × D))
  | .ins C' gs => if C' = C then some gs else none
  | _ => none
theorem obL_lst (ds : List D) : obL (.lst ds) = some ds := rfl
theorem obI_ins (C C' : Addr) (gs : List (Str × D)) : obI C (.ins C' gs) = if C' = C then some gs else none := rfl
theorem ixv_lst (ds : List D) (i : Int) : ixO (.lst ds) (.int i) S = (atI ds i).bd fun x => some (x, S) := rfl
theorem ixv_rol (ds : List D) (i : Int) : ixO (.rol ds) (.int i) S = (atI ds i).bd fun x => some (x, S) := rfl
theorem ixv_tup (ds : List D) (i : Int) : ixO (.tup ds) (.int i) S = (atI ds i).bd fun x => some (x, S) := rfl
theorem ixv_str (z : Str) (i : Int) : ixO (.str z) (.int i) S = if Fits (z.length) then (atI z.cps.toList i).bd fun c => some (.str ⟨#[c]⟩, S) else none := rfl
theorem joinv_lst (a : Str) (xs : List D) : joinO (.str a) [.lst xs] S = (strsOf xs).bd fun ys => if Fits ((ys.map (·.length)).sum + ys.length * a.length) then some (.str (Txt.join a ys), S) else none := rfl
theorem isStrv (z : Str) : isStr S (.str z) = true := rfl
theorem lsv_lst (ds : List D) : lsOf S (.lst ds) = some ds := rfl
theorem lsv_rol (ds : List D) : lsOf S (.rol ds) = some ds := rfl
theorem lsv_tup (ds : List D) : lsOf S (.tup ds) = none := rfl
theorem lsv_loc (n : Nat) : lsOf S (.loc n) = (S[n]?).bd obL := by
  unfold lsOf
  dsimp only
  cases S[n]? with
  | none => rfl
  | some o => cases o <;> rfl
theorem plv_lst (ds : List D) : plOf S (.lst ds) = some ds := rfl
theorem plv_loc (n : Nat) : plOf S (.loc n) = (S[n]?).bd obL := by
  unfold plOf
  dsimp only
  cases S[n]? with
  | none => rfl
  | some o => cases o <;> rfl
theorem tpv_tup (ds : List D) : tpOf (.tup ds) = some ds := rfl
theorem sqv_lst (ds : List D) : sqOf S (.lst ds) = some ds := rfl
theorem sqv_rol (ds : List D) : sqOf S (.rol ds) = some ds := rfl
theorem sqv_tup (ds : List D) : sqOf S (.tup ds) = some ds := rfl
theorem sqv_loc (n : Nat) : sqOf S (.loc n) = (S[n]?).bd obL := by
  unfold sqOf
  rw [lsv_loc]
  cases (S[n]?).bd obL <;> rfl
theorem ixv_loc (n : Nat) (i : Int) : ixO (.loc n) (.int i) S = ((S[n]?).bd obL).bd fun ds => (atI ds i).bd fun x => some (x, S) := by
  unfold ixO
  simp only [sqv_loc]
  cases (S[n]?).bd obL <;> rfl
theorem setL_loc (n : Nat) (k : Int) (z : D) : setLO (.loc n) (.int k) z S = ((S[n]?).bd obL).bd fun ds => (ixN ds.length k).bd fun j => some (S.set n (.lst (ds.set j z))) := by
  unfold setLO
  dsimp only
  cases S[n]? with
  | none => rfl
  | some o => cases o <;> rfl
theorem app_loc (n : Nat) (y : D) : appO (.loc n) [y] S = ((S[n]?).bd obL).bd fun xs => if Fits (xs.length) then some (.non, S.set n (.lst (xs ++ [y]))) else none := by
  unfold appO
  dsimp only
  cases S[n]? with
  | none => rfl
  | some o => cases o <;> rfl
theorem isLoc_loc (n : Nat) : isLoc S (.loc n) = ((S[n]?).bd obL).isSome := by
  unfold isLoc
  rw [lsv_loc]
theorem fsv_loc (C : Addr) (n : Nat) : fsOf S C (.loc n) = (S[n]?).bd (obI C) := by
  unfold fsOf
  dsimp only
  cases S[n]? with
  | none => rfl
  | some o => cases o <;> rfl
theorem fsv_ins (C C' : Addr) (ns : List Str) (ds : List D) : fsOf S C (.ins C' ns ds) = if C' = C then some (ns.zip ds) else none := rfl
theorem tyv_loc (n : Nat) : tyN S (.loc n) = ((S[n]?).bd obL).bd fun _ => some "list" := by
  unfold tyN
  dsimp only
  cases S[n]? with
  | none => rfl
  | some o => cases o <;> rfl
theorem tyv_non : tyN S .non = some "NoneType" := rfl
theorem tyv_bl (b : Bool) : tyN S (.bl b) = some "bool" := rfl
theorem tyv_int (i : Int) : tyN S (.int i) = some "int" := rfl
theorem tyv_str (z : Str) : tyN S (.str z) = some "str" := rfl
theorem tyv_tup (ds : List D) : tyN S (.tup ds) = some "tuple" := rfl
theorem tyv_lst (ds : List D) : tyN S (.lst ds) = some "list" := rfl
theorem truv_loc (n : Nat) : truB S (.loc n) = ((S[n]?).bd obL).bd fun xs => some (!xs.isEmpty) := by
  show (sqOf S (.loc n)).bind _ = _
  rw [sqv_loc]
  rfl
theorem isNv_non : isNoneB .non = true := rfl
theorem isNv_int (i : Int) : isNoneB (.int i) = false := rfl
theorem isNv_lst (ds : List D) : isNoneB (.lst ds) = false := rfl
theorem isNv_loc (n : Nat) : isNoneB (.loc n) = false := rfl
theorem isNv_tup (ds : List D) : isNoneB (.tup ds) = false := rfl
theorem isNv_rol (ds : List D) : isNoneB (.rol ds) = false := rfl
theorem sqK_1 (d : D) : sqK [d] S = sqOf S d := rfl
theorem enK_1 (d : D) : enK [d] S = (lsOf S d).bd fun xs => some (enumL xs) := rfl
theorem r1K_1 (j : Int) : r1K [.int j] S = if R62 j then some (rngL 0 j.toNat) else none := rfl
theorem r2K_1 (i j : Int) : r2K [.int i, .int j] S = if R62 i ∧ R62 j then some (rngL i (j - i).toNat) else none := rfl
theorem lenv_seq (d : D) : lenO [d] S = match sqOf S d with
    | some xs => some (.int (xs.length : Int), S)
    | none => match d with
      | .str z => if Fits (z.length) then some (.int (z.length : Int), S) else none
      | _ => none := rfl
theorem lenv_lst (ds : List D) : lenO [.lst ds] S = some (.int (ds.length : Int), S) := rfl
theorem lenv_rol (ds : List D) : lenO [.rol ds] S = some (.int (ds.length : Int), S) := rfl
theorem lenv_tup (ds : List D) : lenO [.tup ds] S = some (.int (ds.length : Int), S) := rfl
theorem lenv_loc (n : Nat) : lenO [.loc n] S = ((S[n]?).bd obL).bd fun xs => some (.int (xs.length : Int), S) := by
  rw [lenv_seq, sqv_loc]
  cases (S[n]?).bd obL <;> rfl
theorem lenv_str (z : Str) : lenO [.str z] S = if Fits (z.length) then some (.int (z.length : Int), S) else none := rfl
theorem absv (i : Int) : absO [.int i] S = some (.int (if i < 0 then -i else i), S) := rfl
theorem max2v (i j : Int) : max2O [.int i, .int j] S = some (.int (if j > i then j else i), S) := rfl
theorem min2v (i j : Int) : min2O [.int i, .int j] S = some (.int (if j < i then j else i), S) := rfl
theorem int1v_i (i : Int) : int1O [.int i] S = some (.int i, S) := rfl
theorem int1v_b (k : Bool) : int1O [.bl k] S = some (.int (if k then 1 else 0), S) := rfl
theorem tuplev (d : D) : tupleO [d] S = match lsOf S d with
    | some xs => some (.tup xs, S)
    | none => (tpOf d).bd fun xs => some (.tup xs, S) := rfl
theorem tuplev_lst (ds : List D) : tupleO [.lst ds] S = some (.tup ds, S) := rfl
theorem tuplev_tup (ds : List D) : tupleO [.tup ds] S = some (.tup ds, S) := rfl
theorem tuplev_loc {n : Nat} {ds : List D} (h : S[n]? = some (.lst ds)) : tupleO [.loc n] S = some (.tup ds, S) := by
  rw [tuplev, lsv_loc, h]
  rfl
theorem eqv_int (i j : Int) : eqO (.int i) (.int j) S = some (.bl (decide (i = j)), S) := rfl
theorem eqv_str (i j : Str) : eqO (.str i) (.str j) S = some (.bl (decide (i = j)), S) := rfl
theorem eqv_bl (i j : Bool) : eqO (.bl i) (.bl j) S = some (.bl (decide (i = j)), S) := rfl
theorem nev_int (i j : Int) : neO (.int i) (.int j) S = some (.bl (!decide (i = j)), S) := rfl
theorem nev_bl (i j : Bool) : neO (.bl i) (.bl j) S = some (.bl (!decide (i = j)), S) := rfl
theorem isN_ap (neg : Bool) (d : D) : isNO neg d S = some (.bl (if neg then !isNoneB d else isNoneB d), S) := rfl
theorem isiv (d : D) (b : String) : isiO [d, .ty b] S = (tyN S d).bd fun a => (kitB a b).bd fun r => some (.bl r, S) := rfl
theorem isiTv (d : D) (cs : List D) : isiTO [d, .tup cs] S = (tyN S d).bd fun a => (tysOf cs).bd fun bs => (kitL a bs).bd fun r => some (.bl r, S) := rfl
theorem allv (ds : List D) : allO [.lst ds] S = (blsOf ds).bd fun bs => some (.bl (bs.all id), S) := rfl
theorem anyv (ds : List D) : anyO [.lst ds] S = (blsOf ds).bd fun bs => some (.bl (bs.any id), S) := rfl
theorem sortv (ds : List D) : sortO [.lst ds] S = (intsOf ds).bd fun ns => if ns.length < 64 then some (.lst ((sortI ns).map .int), S) else none := rfl
theorem catv (d e : D) (h1 : ∀ i, d ≠ .int i) (h2 : ∀ i, d ≠ .str i) : addO d e S = catO d e S := by
  unfold addO
  split
  · exact absurd rfl (h1 _)
  · exact absurd rfl (h2 _)
  · rfl
theorem addv_ll (xs ys : List D) : addO (.lst xs) (.lst ys) S = if Fits (xs.length + ys.length) then some (.lst (xs ++ ys), S) else none := rfl
theorem addv_cl (n : Nat) (ys : List D) : addO (.loc n) (.lst ys) S = ((S[n]?).bd obL).bd fun xs => if Fits (xs.length + ys.length) then some (.lst (xs ++ ys), S) else none := by
  show catO (.loc n) (.lst ys) S = _
  unfold catO
  rw [plv_loc]
  rfl
theorem addv_str (i j : Str) : addO (.str i) (.str j) S = if Fits (i.length + j.length) then some (.str (i ++ j), S) else none := rfl
theorem mulv_li (xs : List D) (k : Int) : mulO (.lst xs) (.int k) S = if R63 k ∧ Fits (xs.length * k.toNat) then some (.lst (List.replicate k.toNat xs).flatten, S) else none := rfl
theorem slv_lst (ds : List D) (lo hi : Option Int) : slO (.lst ds) lo hi S = some (.lst (cutD ds lo hi), S) := rfl
theorem slv_loc (n : Nat) (lo hi : Option Int) : slO (.loc n) lo hi S = ((S[n]?).bd obL).bd fun ds => some (.lst (cutD ds lo hi), S) := by
  show slLO (.loc n) lo hi S = _
  unfold slLO
  rw [lsv_loc]
  rfl
theorem atI_0 {α : Type} (x : α) (r : List α) : atI (x :: r) 0 = some x := by
  unfold atI ixN
  rw [if_pos (by decide), if_pos (by simp only [List.length_cons]; omega)]
  rfl
theorem atI_ofNat {α : Type} (l : List α) (i : Nat) : atI l (i : Int) = l[i]? := by
  unfold atI ixN
  rw [if_pos (by omega)]
  split
  · rfl
  · rw [List.getElem?_eq_none (by omega)]; rfl
end
end DL
end
noncomputable section
namespace DL
open PySem L2
/-! ### loops, reckoned -/
def stepLc (g : FG) (c : FT) (f : FE) (δ : Dl) (d : D) (S : Sg) : Option (Option D × Sg) := (g d δ S).bind fun p => (c p.1 p.2).bind fun b => if b.1 = true then (f p.1 b.2).bind fun y => some (some y.1, y.2) else some (none, b.2)
theorem lcGo_nil {k : Ik} {ds items : List D} {g : FG} {c : FT} {f : FE} {δ : Dl} {acc : List D} {S : Sg} (hk : k ds S = some items) : lcGo k ds items g c f δ [] acc S = some (acc, S) := by
  unfold lcGo
  rw [if_pos hk]
theorem lcGo_cons {k : Ik} {ds items : List D} {g : FG} {c : FT} {f : FE} {δ : Dl} {d : D} {r acc : List D} {S : Sg} {y : Option D} {S' : Sg} (hk : k ds S = some items) (hs : stepLc g c f δ d S = some (y, S')) :
    lcGo k ds items g c f δ (d :: r) acc S = lcGo k ds items g c f δ r (acc ++ y.toList) S' := by
  rw [lcGo, if_pos hk]
  obtain ⟨⟨δ1, S1⟩, e1, h⟩ := bnd hs
  obtain ⟨⟨b, S2⟩, e2, h⟩ := bnd h
  rw [e1]
  show (c δ1 S1).bind _ = _
  rw [e2]
  cases b with
  | true =>
    obtain ⟨⟨z, S3⟩, e3, h⟩ := bnd (o := f δ1 S2) h
    cases h
    show (f δ1 S2).bind _ = _
    rw [e3]
    rfl
  | false =>
    cases h
    show lcGo k ds items g c f δ r acc _ = _
    simp
theorem lcGo_pure {k : Ik} {ds items : List D} {g : FG} {c : FT} {f : FE} {δ : Dl} {S : Sg} {h : D → Option D} (hk : k ds S = some items) : ∀ {r acc : List D}, (∀ d ∈ r, stepLc g c f δ d S = some (h d, S)) → lcGo k ds items g c f δ r acc S = some (acc ++ r.filterMap h, S)
  | [], acc, _ => by rw [lcGo_nil hk]; simp
  | d :: r, acc, hs => by
    rw [lcGo_cons hk (hs d (by simp)), lcGo_pure hk fun x hx => hs x (by simp [hx])]
    cases e : h d <;> simp [List.filterMap_cons, e]
theorem lcGo_map {k : Ik} {ds items : List D} {g : FG} {c : FT} {f : FE} {δ : Dl} {S : Sg} {h : D → D} (hk : k ds S = some items) {r acc : List D} (hs : ∀ d ∈ r, stepLc g c f δ d S = some (some (h d), S)) : lcGo k ds items g c f δ r acc S = some (acc ++ r.map h, S) := by
  rw [lcGo_pure (h := fun d => some (h d)) hk hs, List.filterMap_eq_map' ]
/-- a list whose making changes the store: P of the store is kept, each item has R -/
theorem lcGo_inv {k : Ik} {ds items : List D} {g : FG} {c : FT} {f : FE} {δ : Dl} (P : Nat → Sg → Prop) (R : D → Prop) (m : Nat) (hk : ∀ i S, P i S → k ds S = some items) (hs : ∀ i d S, i < m → d ∈ items → P i S → ∃ y S', stepLc g c f δ d S = some (some y, S') ∧ P (i + 1) S' ∧ R y) :
    ∀ {r acc : List D} {i : Nat} {S : Sg}, i + r.length ≤ m → (∀ d ∈ r, d ∈ items) → P i S → ∃ out S', lcGo k ds items g c f δ r acc S = some (acc ++ out, S') ∧ P (i + r.length) S' ∧ out.length = r.length ∧ ∀ y ∈ out, R y
  | [], acc, i, S, _, _, p => ⟨[], S, by rw [lcGo_nil (hk i S p)]; simp, p, rfl, fun y h => (by cases h)⟩
  | d :: r, acc, i, S, hi, hm, p => by
    rw [List.length_cons] at hi
    obtain ⟨y, S1, e, p1, ry⟩ := hs i d S (by omega) (hm d (by simp)) p
    obtain ⟨out, S2, e2, p2, l2, r2⟩ := lcGo_inv P R m hk hs (r := r) (acc := acc ++ [y]) (by omega) (fun x hx => hm x (by simp [hx])) p1
    refine ⟨y :: out, S2, ?_, ?_, by simp [l2], fun z hz => ?_⟩
    · rw [lcGo_cons (hk i S p) e, show acc ++ (some y).toList = acc ++ [y] from rfl, e2]
      simp
    · rw [List.length_cons, show i + (r.length + 1) = i + 1 + r.length by omega]
      exact p2
    · rcases List.mem_cons.mp hz with rfl | hz
      · exact ry
      · exact r2 z hz
def stepFor (g : FG) (body : FS) (d : D) (δ : Dl) (S : Sg) : Option (Fl × Dl × Sg) := (g d δ S).bind fun p => body p.1 p.2
theorem forGo_nil {k : Ik} {ds items : List D} {g : FG} {body : FS} {δ : Dl} {S : Sg} (hk : k ds S = some items) : forGo k ds items g body [] δ S = some (.nx, δ, S) := by
  unfold forGo
  rw [if_pos hk]
theorem forGo_cons {k : Ik} {ds items : List D} {g : FG} {body : FS} {d : D} {r : List D} {δ δ' : Dl} {S S' : Sg} (hk : k ds S = some items) (hs : stepFor g body d δ S = some (.nx, δ', S')) : forGo k ds items g body (d :: r) δ S = forGo k ds items g body r δ' S' := by
  rw [forGo, if_pos hk]
  obtain ⟨⟨δ1, S1⟩, e1, h⟩ := bnd hs
  rw [e1]
  show (body δ1 S1).bind _ = _
  rw [h]
  rfl
theorem forGo_ret {k : Ik} {ds items : List D} {g : FG} {body : FS} {d v : D} {r : List D} {δ δ' : Dl} {S S' : Sg} (hk : k ds S = some items) (hs : stepFor g body d δ S = some (.rt v, δ', S')) : forGo k ds items g body (d :: r) δ S = some (.rt v, δ', S') := by
  rw [forGo, if_pos hk]
  obtain ⟨⟨δ1, S1⟩, e1, h⟩ := bnd hs
  rw [e1]
  show (body δ1 S1).bind _ = _
  rw [h]
  rfl
/-- a loop by what holds between two turns -/
theorem forGo_inv {k : Ik} {ds items : List D} {g : FG} {body : FS} (I : Nat → Dl → Sg → Prop) (hk : ∀ i δ S, I i δ S → k ds S = some items) (hs : ∀ i d δ S, items[i]? = some d → I i δ S → ∃ δ' S', stepFor g body d δ S = some (.nx, δ', S') ∧ I (i + 1) δ' S') :
    ∀ {r : List D} {i : Nat} {δ : Dl} {S : Sg}, i ≤ items.length → items.drop i = r → I i δ S → ∃ δ' S', forGo k ds items g body r δ S = some (.nx, δ', S') ∧ I items.length δ' S'
  | [], i, δ, S, hl, hr, p => ⟨δ, S, forGo_nil (hk i δ S p), by
      have : items.length ≤ i := List.drop_eq_nil_iff.mp hr
      rw [show items.length = i by omega]
      exact p⟩
  | d :: r, i, δ, S, hl, hr, p => by
    have hi : items[i]? = some d := by
      have := congrArg (fun l => l[0]?) hr
      simpa using this
    obtain ⟨δ1, S1, e, p1⟩ := hs i d δ S hi p
    obtain ⟨δ2, S2, e2, p2⟩ := forGo_inv I hk hs (r := r) (i := i + 1) (List.getElem?_eq_some_iff.mp hi).1 (by rw [← List.drop_drop, hr]; rfl) p1
    exact ⟨δ2, S2, by rw [forGo_cons (hk i δ S p) e, e2], p2⟩
theorem mapC {f : D → D} {δ : Dl} {S : Sg} {d : D} {g : FG} {fe : FE} {δ' : Dl} (h1 : g d δ S = some (δ', S)) (h2 : fe δ' S = some (f d, S)) : stepLc g yesT fe δ d S = some (some (f d), S) := by
  unfold stepLc
  rw [h1]
  show (fe δ' S).bind _ = _
  rw [h2]
  rfl
theorem mapC' {δ : Dl} {S S' : Sg} {d y : D} {g : FG} {fe : FE} {δ' : Dl} (h1 : g d δ S = some (δ', S)) (h2 : fe δ' S = some (y, S')) : stepLc g yesT fe δ d S = some (some y, S') := by
  unfold stepLc
  rw [h1]
  show (fe δ' S).bind _ = _
  rw [h2]
  rfl
end DL
end
noncomputable section
namespace DL
open PySem L2
/-! ### dicts that are made once, of texts, and only read -/
section
variable {K : PySem.W.Frag}
def slotsD (δ : Dl) : List Nat → Option (List D)
  | [] => some []
  | i :: r => (δ[i]?).bind fun o => o.bind fun d => (slotsD δ r).bind fun ds => some (d :: ds)
def dicD (ks : List Str) (is : List Nat) : FE := fun δ S => (slotsD δ is).bind fun ds => some (.dic ks ds, S)
def dicTrs (ks : List Str) (is : List Nat) : List (TE × TE) := (ks.zip is).map fun p => (tC (.str p.1), tVar p.2)
inductive SlV (σ : St) : List Nat → List V → Prop
  | nil : SlV σ [] []
  | cons {i : Nat} {v : V} {is : List Nat} {vs : List V} (h : σ[i]? = some (some v)) (r : SlV σ is vs) : SlV σ (i :: is) (v :: vs)
theorem RS.slots {H : Hp} {ρ : Ro} {σ : St} {δ : Dl} (h : RS K H ρ σ δ) : ∀ {is : List Nat} {ds : List D}, slotsD δ is = some ds → ∃ vs, SlV σ is vs ∧ RVs K H ρ vs ds
  | [], _, e => by cases e; exact ⟨[], .nil, .nil⟩
  | i :: r, _, e => by
    unfold slotsD at e
    obtain ⟨o, e1, e⟩ := bnd e
    obtain ⟨d, e2, e⟩ := bnd e
    obtain ⟨ds, e3, e⟩ := bnd e
    cases e
    subst e2
    obtain ⟨v, hv, rv⟩ := h.get e1
    obtain ⟨vs, h1, h2⟩ := RS.slots h e3
    exact ⟨v :: vs, .cons hv h1, .cons rv h2⟩
theorem SlV.len {σ : St} : ∀ {is : List Nat} {vs : List V}, SlV σ is vs → is.length = vs.length
  | _, _, .nil => rfl
  | _, _, .cons _ r => by rw [List.length_cons, List.length_cons, SlV.len r]
theorem dic_pairs {σ : St} {H : Hp} : ∀ {ks : List Str} {is : List Nat} {vs : List V} {Q : List (V × V) → Hp → Prop}, SlV σ is vs → Q ((ks.zip vs).map fun p => (V.str p.1, p.2)) H → tPairs (dicTrs ks is) σ H Q
  | [], is, vs, Q, _, h => h
  | k :: ks, _, _, Q, .nil, h => h
  | k :: ks, _, _, Q, .cons hv r, h => ⟨_, hv, dic_pairs (ks := ks) r h⟩
theorem mergeK_new : ∀ (more kvs : List (Key × V)), (kvs.map (·.1) ++ more.map (·.1)).Nodup → mergeK kvs more = kvs ++ more
  | [], kvs, _ => by rw [List.append_nil]; rfl
  | p :: r, kvs, h => by
    have hn : valV kvs p.1 = none := by
      cases q : valV kvs p.1 with
      | none => rfl
      | some x =>
        have a : (kvs.any fun kv => decide (kv.1 = p.1)) = true := by rw [valV_any, q]; rfl
        obtain ⟨kv, hm, he⟩ := List.any_eq_true.mp a
        rw [List.map_cons, List.nodup_append] at h
        exact (h.2.2 kv.1 (List.mem_map_of_mem hm) p.1 (List.mem_cons_self ..) (of_decide_eq_true he)).elim
    show mergeK (putK kvs p.1 p.2) r = _
    rw [putK_new _ hn, mergeK_new r (kvs ++ [(p.1, p.2)])]
    · rw [List.append_assoc]; rfl
    · rw [List.map_append, List.append_assoc]
      exact h
theorem le_dic {ks : List Str} {is : List Nat} (hn : ks.Nodup) (hl : ks.length = is.length) (h15 : ks.length ≤ 15) : ∀ σ H Q, tD K (dicD ks is) σ H Q → tDisp (dicTrs ks is) σ H Q := by
  rintro σ H Q ⟨ρ, δ, S, d, S', hS, hσ, e, q⟩
  obtain ⟨ds, e1, e⟩ := bnd e
  cases e
  obtain ⟨vs, h1, h2⟩ := hσ.slots e1
  have lv : ks.length = vs.length := hl.trans h1.len
  intro p hp
  have k1 : ((ks.zip vs).map fun p => ((Sum.inr p.1 : Key), p.2)).map (·.1) = ks.map Sum.inr := by
    rw [List.map_map]
    show (ks.zip vs).map (fun p => (Sum.inr p.1 : Key)) = _
    rw [show (fun p : Str × V => (Sum.inr p.1 : Key)) = Sum.inr ∘ Prod.fst from rfl, ← List.map_map, List.map_fst_zip (by omega)]
  have k2 : ((ks.zip vs).map fun p => ((Sum.inr p.1 : Key), p.2)).map (·.2) = vs := by
    rw [List.map_map]
    show (ks.zip vs).map (fun p => p.2) = _
    rw [show (fun p : Str × V => p.2) = Prod.snd from rfl, List.map_snd_zip (by omega)]
  refine dic_pairs h1 ⟨upd_same, (ks.zip vs).map fun p => ((Sum.inr p.1 : Key), p.2), ?_, ?_, ?_⟩
  · rw [List.map_map]; rfl
  · rw [List.length_map, List.length_zip]; omega
  · rw [upd_upd, mergeK_new _ [] (by rw [k1]; exact List.pairwise_map.mpr (hn.imp fun h z => h (Sum.inr.inj z))), List.nil_append]
    refine q _ _ ρ (Step.new hS hp) (hS.new hp) (.dic upd_same (hS.fresh hp) k1 ?_)
    rw [k2]
    exact h2.mono (Step.new hS hp)
def dgO : O2 := fun d e S => match d, e with
  | .dic ks ds, .str k => ((ks.zip ds).lookup k).bind fun x => some (x, S)
  | _, _ => none
theorem dic_look {H : Hp} {ρ : Ro} {k : Str} {d : D} : ∀ {kvs : List (Key × V)} {ks : List Str} {ds : List D}, kvs.map (·.1) = ks.map Sum.inr → RVs K H ρ (kvs.map (·.2)) ds → (ks.zip ds).lookup k = some d → ∃ v, valV kvs (.inr k) = some v ∧ RV K H ρ v d
  | [], [], _, _, _, h => by simp at h
  | p :: kvs, [], _, e, _, h => by simp at e
  | [], k' :: ks, _, e, _, _ => by simp at e
  | p :: kvs, k' :: ks, _, e, r, h => by
    rw [List.map_cons, List.map_cons] at e
    injection e with e1 e2
    rw [List.map_cons] at r
    cases r with
    | @cons _ d0 _ ds hv hr =>
      rw [List.zip_cons_cons, List.lookup_cons] at h
      by_cases hk : k = k'
      · subst hk
        rw [beq_self_eq_true] at h
        cases h
        exact ⟨p.2, valV_pos e1, hv⟩
      · have hb : (k == k') = false := beq_eq_false_iff_ne.mpr hk
        rw [hb] at h
        obtain ⟨v, h1, h2⟩ := dic_look e2 hr h
        refine ⟨v, ?_, h2⟩
        rw [valV_neg (p := p) (fun z => hk (Sum.inr.inj (z.symm.trans e1))), h1]
theorem dgO_some {d e z : D} {S S' : Sg} (h : dgO d e S = some (z, S')) : ∃ ks ds k, d = .dic ks ds ∧ e = .str k ∧ (ks.zip ds).lookup k = some z ∧ S' = S := by
  unfold dgO at h
  split at h
  · obtain ⟨x, e3, h⟩ := bnd h
    cases h
    exact ⟨_, _, _, rfl, rfl, e3, rfl⟩
  · cases h
theorem le_dget {fa fb : FE} : ∀ σ H Q, tD K (op2D dgO fa fb) σ H Q → tDGet (tD K fa) (tD K fb) σ H Q := by
  rintro σ H Q ⟨ρ, δ, S, d, S', hS, hσ, e, q⟩
  obtain ⟨⟨x, S1⟩, e1, e⟩ := bnd e
  obtain ⟨⟨y, S2⟩, e2, e⟩ := bnd e
  obtain ⟨ks, ds, k, rfl, rfl, e3, rfl⟩ := dgO_some e
  refine ⟨ρ, δ, S, _, S1, hS, hσ, e1, fun v H1 ρ1 s1 hS1 rv => ⟨ρ1, δ, S1, _, S', hS1, hσ.mono s1, e2, fun w H2 ρ2 s2 hS2 rw' => ?_⟩⟩
  have rv2 := rv.mono s2
  cases rw'
  cases rv2 with
  | dic h n ee r =>
    obtain ⟨v, h1, h2⟩ := dic_look ee r e3
    exact ⟨_, v, rfl, .inl ⟨_, .inr _, .inl h, rfl, h1.symm⟩, q _ _ _ (s1.trans s2) hS2 h2⟩
end
section
variable {X : Cx} {a b : Expr} {pos : Pos} {f g : FE}
theorem jdget (hu : X.A.units + 1 < cLine) (ha : JE X a f) (hb : JE X b g) (hs : NoSl b := by exact fun _ _ => rfl) : JE X (.Subscript a b pos) (op2D dgO f g) := PE.imp (pe_dget hu ha hb hs) le_dget
theorem jdic {keys : List (Option Expr)} {values : List Expr} {ks : List Str} {is : List Nat} (h : PPs X pos keys values (dicTrs ks is)) (hall : keys.all (·.isSome) = true := by rfl) (hl : keys.length = values.length := by rfl) (h0 : keys ≠ [] := by simp)
    (h15 : keys.length ≤ 15 := by decide) (hn : ks.Nodup := by decide +kernel) (hk : ks.length = is.length := by rfl) (hk15 : ks.length ≤ 15 := by decide) : JE X (.Dict keys values pos) (dicD ks is) := PE.imp (pe_disp h hall hl h0 h15) (le_dic hn hk hk15)
theorem jdk {k : Str} {j} {ks : List (Option Expr)} {v : Expr} {vs : List Expr} {i : Nat} {ks' : List Str} {is' : List Nat} {p2 : Pos} (hv : PE X v (tVar i)) (hr : PPs X pos ks vs (dicTrs ks' is')) : PPs X pos (some (.Constant (.str k) j p2) :: ks) (v :: vs) (dicTrs (k :: ks') (i :: is')) := pps_cons pe_str hv hr
theorem jdknil : PPs X pos [] [] (dicTrs [] []) := pps_nil
end
theorem dgv (ks : List Str) (ds : List D) (k : Str) (S : Sg) : dgO (.dic ks ds) (.str k) S = ((ks.zip ds).lookup k).bd fun x => some (x, S) := rfl
theorem dicD_ap (ks : List Str) (is : List Nat) (δ : Dl) (S : Sg) : dicD ks is δ S = (slotsD δ is).bd fun ds => some (.dic ks ds, S) := rfl
end DL
end
noncomputable section
namespace DL
open PySem L2
/-! ### == and != of lists and tuples at any depth -/
mutual
def pyD : D → Option PyData
  | .non => some .none
  | .bl b => some (.bool b)
  | .int i => some (.int i)
  | .str z => some (.str z)
  | .tup ds => (pyL ds).bind fun r => some (.tuple r)
  | .lst ds => (pyL ds).bind fun r => some (.list r)
  | .rol ds => (pyL ds).bind fun r => some (.list r)
  | .ty _ => none
  | .ins _ _ _ => none
  | .dic _ _ => none
  | .loc _ => none
def pyL : List D → Option (List PyData)
  | [] => some []
  | d :: r => (pyD d).bind fun x => (pyL r).bind fun y => some (x :: y)
end
def pyT (S : Sg) (d : D) : Option PyData := match d with
  | .loc n => (lsOf S (.loc n)).bind fun ds => (pyL ds).bind fun r => some (.list r)
  | d => pyD d
def deepO (g : PyData → PyData → Bool) : O2 := fun d e S => (pyT S d).bind fun p => (pyT S e).bind fun q => if (SeqAt.shaped p && SeqAt.shaped q) = true then some (.bl (g p q), S) else none
def eqDO : O2 := deepO fun p q => PyData.eqv p q
def neDO : O2 := deepO fun p q => !PyData.eqv p q
section
variable {K : PySem.W.Frag}
mutual
theorem RV.dp {ρ : Ro} {H : Hp} : ∀ {v : V} {d : D} {p : PyData}, RV K H ρ v d → pyD d = some p → Dp K H v p
  | _, _, _, .non, e => by unfold pyD at e; cases e; exact .non
  | _, _, _, .bl, e => by unfold pyD at e; cases e; exact .bl _
  | _, _, _, .int, e => by unfold pyD at e; cases e; exact .int _
  | _, _, _, .str, e => by unfold pyD at e; cases e; exact .str _
  | _, _, _, .ty, e => by unfold pyD at e; cases e
  | _, _, _, .tup h n r, e => by
    unfold pyD at e
    obtain ⟨x, e1, e⟩ := bnd e
    cases e
    exact .tup (.inl (.inl h)) (RVs.dp r e1)
  | _, _, _, .lst h n r, e => by
    unfold pyD at e
    obtain ⟨x, e1, e⟩ := bnd e
    cases e
    exact .lst (.inl (.inl h)) (RVs.dp r e1)
  | _, _, _, .rol h r, e => by
    unfold pyD at e
    obtain ⟨x, e1, e⟩ := bnd e
    cases e
    exact .lst h.sq (RVs.dp r e1)
  | _, _, _, .ins h n r, e => by unfold pyD at e; cases e
  | _, _, _, .dic h n ee r, e => by unfold pyD at e; cases e
  | _, _, _, .loc h, e => by unfold pyD at e; cases e
theorem RVs.dp {ρ : Ro} {H : Hp} : ∀ {vs : List V} {ds : List D} {ps : List PyData}, RVs K H ρ vs ds → pyL ds = some ps → DpAll K H vs ps
  | _, _, _, .nil, e => by unfold pyL at e; cases e; exact .nil
  | _, _, _, .cons h r, e => by
    unfold pyL at e
    obtain ⟨x, e1, e⟩ := bnd e
    obtain ⟨y, e2, e⟩ := bnd e
    cases e
    exact .cons (RV.dp h e1) (RVs.dp r e2)
end
theorem pyT_dp {ρ : Ro} {H : Hp} {S : Sg} {v : V} {d : D} {p : PyData} (hS : SR K H ρ S) (r : RV K H ρ v d) (e : pyT S d = some p) : Dp K H v p := by
  cases d with
  | loc n =>
    unfold pyT at e
    dsimp only at e
    obtain ⟨ds, e1, e⟩ := bnd e
    obtain ⟨x, e2, e⟩ := bnd e
    cases e
    unfold lsOf at e1
    dsimp only at e1
    cases r with
    | loc hn =>
      split at e1
      · rename_i hs
        cases e1
        obtain ⟨vs, h1, h2⟩ := hS.ob _ _ _ hn hs
        exact .lst (.inl (.inl h1)) (RVs.dp h2 e2)
      · cases e1
  | _ => exact RV.dp r e
theorem opD_deep {r : (PyData → PyData → Bool) → R2} {g : PyData → PyData → Bool} (hr : ∀ x y H Q d e, Dp K H x d → Dp K H y e → SeqAt.shaped d = true → SeqAt.shaped e = true → Q (.bl (g d e)) H → r g x y H Q) : OpD K (r g) (deepO g) := by
  intro x y H Q ρ S d e z S' hS rx ry eq q
  unfold deepO at eq
  obtain ⟨p, e1, eq⟩ := bnd eq
  obtain ⟨p2, e2, eq⟩ := bnd eq
  split at eq
  · rename_i hs
    cases eq
    rw [Bool.and_eq_true] at hs
    exact hr _ _ _ _ _ _ (pyT_dp hS rx e1) (pyT_dp hS ry e2) hs.1 hs.2 (q _ H ρ (Step.refl _ _) hS .bl)
  · cases eq
theorem opD_eqD : OpD K (rEqD K) eqDO := opD_deep (r := fun _ => rEqD K) fun _ _ _ _ _ _ h1 h2 h3 h4 q => ⟨_, _, h1, h2, h3, h4, q⟩
theorem opD_neD : OpD K (rNeD K) neDO := opD_deep (r := fun _ => rNeD K) fun _ _ _ _ _ _ h1 h2 h3 h4 q => ⟨_, _, h1, h2, h3, h4, q⟩
end
section
variable {X : Cx} {a b : Expr} {pos : Pos} {f g : FE}
theorem jeqD (hu : X.A.units + 64 < cLine) (ha : JE X a f) (hb : JE X b g) : JE X (.Compare a [.Eq] [b] pos) (op2D eqDO f g) := jcmpR (op_eqD hu) opD_eqD ha hb
theorem jteqD (hu : X.A.units + 64 < cLine) (ha : JE X a f) (hb : JE X b g) : JT X (.Compare a [.Eq] [b] pos) (tvD (op2D eqDO f g)) := jtcmpR (op_eqD hu) opD_eqD ha hb
theorem jneD (hu : X.A.units + 64 < cLine) (ha : JE X a f) (hb : JE X b g) : JE X (.Compare a [.NotEq] [b] pos) (op2D neDO f g) := jcmpR (op_neD hu) opD_neD ha hb
theorem jtneD (hu : X.A.units + 64 < cLine) (ha : JE X a f) (hb : JE X b g) : JT X (.Compare a [.NotEq] [b] pos) (tvD (op2D neDO f g)) := jtcmpR (op_neD hu) opD_neD ha hb
end
theorem un1 {k : Nat} {A : Around} (h : Room k A) : A.units + 1 < cLine := by have := h.un; omega
theorem un64 {k : Nat} {A : Around} (h : Room k A) : A.units + 64 < cLine := by have := h.un; omega
/-! reckoning: a list of numbers and the empty list -/
theorem pyL_ints : ∀ ns : List Int, pyL (ns.map .int) = some (ns.map .int)
  | [] => by unfold pyL; rfl
  | n :: r => by
    rw [List.map_cons]
    unfold pyL pyD
    rw [pyL_ints r]
    rfl
theorem lay_ints : ∀ ns : List Int, PyData.canLayAll0 (ns.map .int) = true
  | [] => by unfold PyData.canLayAll0; rfl
  | n :: r => by
    rw [List.map_cons]
    unfold PyData.canLayAll0 PyData.canLay0
    rw [lay_ints r]
    rfl
theorem dep_ints : ∀ ns : List Int, PyData.depthAll (ns.map .int) ≤ 1
  | [] => by rw [List.map_nil]; unfold PyData.depthAll; exact Nat.zero_le _
  | n :: r => by
    rw [List.map_cons]
    unfold PyData.depthAll PyData.depth
    have := dep_ints r
    omega
theorem shaped_ints (ns : List Int) : SeqAt.shaped (.list (ns.map .int)) = true := by
  unfold SeqAt.shaped PyData.canLay0 PyData.depth
  rw [lay_ints, Bool.true_and]
  have := dep_ints ns
  exact decide_eq_true (by omega)
theorem eqv_nil (ps : List PyData) : PyData.eqv (.list ps) (.list []) = ps.isEmpty := by
  cases ps with
  | nil => unfold PyData.eqv PyData.eqvAll; rfl
  | cons p r => unfold PyData.eqv PyData.eqvAll; rfl
theorem neD_nil {d : D} {S : Sg} {ns : List Int} (h : pyT S d = some (.list (ns.map .int))) : neDO d (.lst []) S = some (.bl (!ns.isEmpty), S) := by
  unfold neDO deepO
  rw [h, show pyT S (.lst []) = some (.list (([] : List Int).map .int)) from by unfold pyT pyD pyL; rfl]
  show (if (SeqAt.shaped _ && SeqAt.shaped _) = true then _ else _) = _
  rw [shaped_ints, shaped_ints, if_pos (by rfl)]
  show some (D.bl (!PyData.eqv (.list (ns.map .int)) (.list [])), S) = _
  rw [eqv_nil, List.isEmpty_map]
end DL
end
noncomputable section
namespace DL
open PySem L2
/-! ### rules for walking: a piece's answer from its parts' -/
section
variable {δ δ1 δ2 : Dl} {S S1 S2 S3 S4 : Sg}
theorem r_c {d : D} : cD d δ S = some (d, S) := rfl
theorem r_v {i : Nat} {d : D} (h : δ[i]? = some (some d)) : varD i δ S = some (d, S) := by rw [varD_ap, h]; rfl
theorem r_nil : nilA δ S = some ([], S) := rfl
theorem r_cons {f : FE} {g : FA} {d : D} {ds : List D} (h : f δ S = some (d, S1)) (h2 : g δ S1 = some (ds, S2)) : consA f g δ S = some (d :: ds, S2) := by
  rw [consA_ap, h, bd_some, h2]; rfl
theorem r_one {f : FE} {d : D} (h : f δ S = some (d, S1)) : oneA f δ S = some ([d], S1) := by
  rw [oneA_ap, h]; rfl
theorem r_tup {f : FA} {ds : List D} (h : f δ S = some (ds, S1)) (l : ds.length < 1000000) : tupD f δ S = some (.tup ds, S1) := by
  rw [tupD_ap, h, bd_some, if_pos ((fits_iff _).mpr l)]
theorem r_lst {f : FA} {ds : List D} (h : f δ S = some (ds, S1)) (l : ds.length < 1000000) : lstD f δ S = some (.lst ds, S1) := by
  rw [lstD_ap, h, bd_some, if_pos ((fits_iff _).mpr l)]
theorem r_new {f : FA} {ds : List D} (h : f δ S = some (ds, S1)) (l : ds.length < 1000000) : newD f δ S = some (.loc S1.length, S1 ++ [.lst ds]) := by
  rw [newD_ap, h, bd_some, if_pos ((fits_iff _).mpr l)]
theorem r_op2 {o : O2} {f g : FE} {d e x : D} (h : f δ S = some (d, S1)) (h2 : g δ S1 = some (e, S2)) (h3 : o d e S2 = some (x, S3)) : op2D o f g δ S = some (x, S3) := by
  rw [op2D_ap, h, bd_some, h2, bd_some, h3]
theorem r_op1 {o : O1} {f : FE} {d x : D} (h : f δ S = some (d, S1)) (h2 : o d S1 = some (x, S2)) : op1D o f δ S = some (x, S2) := by
  rw [op1D_ap, h, bd_some, h2]
theorem r_cb {o : OC} {f : FA} {ds : List D} {x : D} (h : f δ S = some (ds, S1)) (h2 : o ds S1 = some (x, S2)) : cbD o f δ S = some (x, S2) := by
  rw [cbD_ap, h, bd_some, h2]
theorem r_fn {F : Fn} {dds ds as : List D} {f : FA} {x : D} (h : f δ S = some (ds, S1)) (e : ds ++ dds = as) (h2 : F as S1 = some (x, S2)) : fnD F dds f δ S = some (x, S2) := by
  rw [fnD_ap, h, bd_some, e, h2]
theorem r_bm {ok : Sg → D → Bool} {o : OM} {fa : FE} {f : FA} {d x : D} {ds : List D} (h : fa δ S = some (d, S1)) (k : ok S1 d = true) (h2 : f δ S1 = some (ds, S2)) (h3 : o d ds S2 = some (x, S3)) : bmD ok o fa f δ S = some (x, S3) := by
  rw [bmD_ap, h, bd_some]
  dsimp only
  rw [k, if_pos rfl, h2, bd_some, h3]
theorem r_fld {C : Addr} {f : Str} {fa : FE} {d x : D} {gs : List (Str × D)} (h : fa δ S = some (d, S1)) (h1 : fsOf S1 C d = some gs) (h2 : gs.lookup f = some x) : fldD C f fa δ S = some (x, S1) := by
  rw [fldD_ap, h, bd_some]
  dsimp only
  rw [h1, bd_some, h2]
  rfl
theorem r_meth {C : Addr} {m : Str} {F : Fn} {dds ds as : List D} {fa : FE} {f : FA} {d x : D} {gs : List (Str × D)} (h : fa δ S = some (d, S1)) (h1 : fsOf S1 C d = some gs) (h2 : gs.lookup m = none) (h3 : f δ S1 = some (ds, S2)) (e : d :: (ds ++ dds) = as) (h4 : F as S2 = some (x, S3)) : methD C m F dds fa f δ S = some (x, S3) := by
  rw [methD_ap, h, bd_some]
  dsimp only
  rw [h1, bd_some, if_pos h2, h3, bd_some, e, h4]
theorem r_tv {f : FE} {q : Bool} (h : f δ S = some (.bl q, S1)) : tvD f δ S = some (q, S1) := by rw [tvD_ap, h]; rfl
theorem r_tru {f : FE} {d : D} {q : Bool} (h : f δ S = some (d, S1)) (h2 : truB S1 d = some q) : truD f δ S = some (q, S1) := by
  rw [truD_ap, h, bd_some]
  dsimp only
  rw [h2]
  rfl
theorem r_not {f : FT} {q : Bool} (h : f δ S = some (q, S1)) : notD f δ S = some (!q, S1) := by rw [notD_ap, h]; rfl
theorem r_and {f g : FT} {q : Bool} {r : Option (Bool × Sg)} (h : f δ S = some (q, S1)) (h2 : (if q = true then g δ S1 else some (false, S1)) = r) : andD f g δ S = r := by rw [andD_ap, h, ← h2]; rfl
theorem r_or {f g : FT} {q : Bool} {r : Option (Bool × Sg)} (h : f δ S = some (q, S1)) (h2 : (if q = true then some (true, S1) else g δ S1) = r) : orD f g δ S = r := by rw [orD_ap, h, ← h2]; rfl
theorem r_andV {f g : FE} {q : Bool} {r : Option (D × Sg)} (h : f δ S = some (.bl q, S1)) (h2 : (if q = true then g δ S1 else some (.bl false, S1)) = r) : andV f g δ S = r := by rw [andV_ap, h, ← h2]; rfl
theorem r_orV {f g : FE} {q : Bool} {r : Option (D × Sg)} (h : f δ S = some (.bl q, S1)) (h2 : (if q = true then some (.bl true, S1) else g δ S1) = r) : orV f g δ S = r := by rw [orV_ap, h, ← h2]; rfl
theorem r_notV {f : FE} {q : Bool} (h : f δ S = some (.bl q, S1)) : notV f δ S = some (.bl (!q), S1) := by rw [notV_ap, h]; rfl
theorem r_ite {c : FT} {f g : FE} {q : Bool} {r : Option (D × Sg)} (h : c δ S = some (q, S1)) (h2 : (if q = true then f δ S1 else g δ S1) = r) : iteV c f g δ S = r := by rw [iteV_ap, h, ← h2]; rfl
theorem r_chain {o o' : O2} {f g h : FE} {a b w x : D} {q : Bool} (h1 : f δ S = some (a, S1)) (h2 : g δ S1 = some (b, S2)) (h3 : o a b S2 = some (.bl q, S2)) (hq : q = true) (h4 : h δ S2 = some (w, S3)) (h5 : o' b w S3 = some (x, S4)) : chainD o o' f g h δ S = some (x, S4) := by
  subst hq
  rw [chainD_ap, h1, bd_some, h2, bd_some]
  dsimp only
  rw [h3, bd_some]
  dsimp only
  rw [isB_bl, bd_some, if_pos rfl, h4, bd_some]
  exact h5
theorem r_chainN {o o' : O2} {f g h : FE} {a b : D} {q : Bool} (h1 : f δ S = some (a, S1)) (h2 : g δ S1 = some (b, S2)) (h3 : o a b S2 = some (.bl q, S2)) (hq : q = false) : chainD o o' f g h δ S = some (.bl false, S2) := by
  subst hq
  rw [chainD_ap, h1, bd_some, h2, bd_some]
  dsimp only
  rw [h3]
  rfl
theorem r_noO : noO δ S = some (none, S) := rfl
theorem r_someO {f : FE} {i : Int} (h : f δ S = some (.int i, S1)) : someO f δ S = some (some i, S1) := by rw [someO_ap, h]; rfl
theorem r_sl {o : O3} {f : FE} {g h : FO} {d x : D} {lo hi : Option Int} (h1 : f δ S = some (d, S1)) (h2 : g δ S1 = some (lo, S2)) (h3 : h δ S2 = some (hi, S3)) (h4 : o d lo hi S3 = some (x, S4)) : slD o f g h δ S = some (x, S4) := by
  rw [slD_ap, h1, bd_some, h2, bd_some, h3, bd_some, h4]
/-! statements -/
theorem r_seq {f g : FS} {r : Option (Fl × Dl × Sg)} (h : f δ S = some (.nx, δ1, S1)) (h2 : g δ1 S1 = r) : seqS f g δ S = r := by
  rw [seqS_ap, h, bd_some, onNx_nx, h2]
theorem r_seqr {f g : FS} {d : D} (h : f δ S = some (.rt d, δ1, S1)) : seqS f g δ S = some (.rt d, δ1, S1) := by rw [seqS_ap, h]; rfl
theorem r_drop {f : FE} {d : D} (h : f δ S = some (d, S1)) : dropS f δ S = some (.nx, δ, S1) := by rw [dropS_ap, h]; rfl
theorem r_set {i : Nat} {f : FE} {d : D} (h : f δ S = some (d, S1)) : setS i f δ S = some (.nx, δ.set i (some d), S1) := by rw [setS_ap, h]; rfl
theorem r_par2 {i j : Nat} {f : FA} {x y : D} (h : f δ S = some ([x, y], S1)) : parS i j f δ S = some (.nx, (δ.set i (some x)).set j (some y), S1) := by rw [parS_ap, h]; rfl
theorem r_par3 {i j l : Nat} {f : FA} {x y z : D} (h : f δ S = some ([x, y, z], S1)) : parS3 i j l f δ S = some (.nx, ((δ.set i (some x)).set j (some y)).set l (some z), S1) := by rw [parS3_ap, h]; rfl
theorem r_asg {f : FE} {g : FG} {d : D} (h : f δ S = some (d, S1)) (h2 : g d δ S1 = some (δ1, S2)) : asgS f g δ S = some (.nx, δ1, S2) := by
  rw [asgS_ap, h, bd_some]
  dsimp only
  rw [h2]
  rfl
theorem r_nmG {i : Nat} {d : D} : nmG i d δ S = some (δ.set i (some d), S) := rfl
theorem r_tupG {n : Nat} {u : FGs} {ds : List D} {r : Option (Dl × Sg)} (h : ds.length = n) (h2 : u ds δ S = r) : tupG n u (.tup ds) δ S = r := by rw [tupG_ap, if_pos h, h2]
theorem r_consG {t : FG} {u : FGs} {d : D} {ds : List D} {r : Option (Dl × Sg)} (h : t d δ S = some (δ1, S1)) (h2 : u ds δ1 S1 = r) : consG t u (d :: ds) δ S = r := by rw [consG_ap, h, bd_some, h2]
theorem r_nilG : nilG [] δ S = some (δ, S) := rfl
theorem r_subG {o : OSt} {fo fi : FE} {d a b : D} (h : fo δ S = some (a, S1)) (h2 : fi δ S1 = some (b, S2)) (h3 : o a b d S2 = some S3) : subG o fo fi d δ S = some (δ, S3) := by
  rw [subG_ap, h, bd_some]
  dsimp only
  rw [h2, bd_some]
  dsimp only
  rw [h3]
  rfl
theorem r_ret {f : FE} {d : D} (h : f δ S = some (d, S1)) : retS f δ S = some (.rt d, δ, S1) := by rw [retS_ap, h]; rfl
theorem r_retN : retNS δ S = some (.rt .non, δ, S) := rfl
theorem r_next : nextS δ S = some (.nx, δ, S) := rfl
theorem r_if {c : FT} {g h : FS} {q : Bool} {r : Option (Fl × Dl × Sg)} (e : c δ S = some (q, S1)) (e2 : (if q = true then g δ S1 else h δ S1) = r) : ifS c g h δ S = r := by rw [ifS_ap, e, bd_some, ← e2]
theorem r_aug {i : Nat} {f : FE} {o : O2} {a b x : D} (h : δ[i]? = some (some a)) (h2 : f δ S = some (b, S1)) (h3 : o a b S1 = some (x, S2)) : augS i f o δ S = some (.nx, δ.set i (some x), S2) := by
  rw [augS_ap, r_v h, bd_some]
  dsimp only
  rw [h2, bd_some]
  dsimp only
  rw [h3]
  rfl
theorem r_fldS {C : Addr} {f : Str} {fa fv : FE} {n : Nat} {y : D} {gs : List (Str × D)} (h : fv δ S = some (y, S1)) (h2 : fa δ S1 = some (.loc n, S2)) (h3 : S2[n]? = some (.ins C gs)) (h4 : gs.length < 1000) : fldS C f fa fv δ S = some (.nx, δ, S2.set n (.ins C (putD f y gs))) := by
  rw [fldS_ap, h, bd_some]
  dsimp only
  rw [h2, bd_some]
  dsimp only
  rw [h3]
  dsimp only
  rw [if_pos ⟨rfl, h4⟩]
theorem r_for {k : Ik} {f : FA} {g : FG} {body : FS} {ds items : List D} {r : Option (Fl × Dl × Sg)} (h : f δ S = some (ds, S1)) (h2 : k ds S1 = some items) (h3 : forGo k ds items g body items δ S1 = r) : forS k f g body δ S = r := by
  rw [forS_ap, h, bd_some]
  dsimp only
  rw [h2, bd_some, h3]
theorem r_lc {k : Ik} {fa : FA} {g : FG} {c : FT} {f : FE} {vs : List Nat} {ds items out : List D} (h : fa δ S = some (ds, S1)) (h2 : k ds S1 = some items) (hl : items.length < 1000000) (h3 : lcGo k ds items g c f (wipeD δ vs) items [] S1 = some (out, S2)) : lcD k fa g c f vs δ S = some (.lst out, S2) := by
  rw [lcD_ap, h, bd_some]
  dsimp only
  rw [h2, bd_some, if_pos ((fits_iff _).mpr hl), h3]
  rfl
theorem r_lcN {k : Ik} {fa : FA} {g : FG} {c : FT} {f : FE} {vs : List Nat} {out : List D} (h : lcD k fa g c f vs δ S = some (.lst out, S1)) : lcDN k fa g c f vs δ S = some (.loc S1.length, S1 ++ [.lst out]) := by
  rw [lcDN_ap, h, bd_some]
theorem r_body {φ : Nat → D → Sg → Option (D × Sg)} {n : Nat} {body : FS} {ds : List D} {d : D} {r : Option (D × Sg)} (h : body (ds.map some ++ List.replicate (n - ds.length) none) S = some (.rt d, δ1, S1)) (h2 : φ S.length d S1 = r) : bodyF φ n body ds S = r := by
  rw [bodyF_ap, h, bd_some, endB_rt, h2]
theorem r_bodyN {φ : Nat → D → Sg → Option (D × Sg)} {n : Nat} {body : FS} {ds : List D} {r : Option (D × Sg)} (h : body (ds.map some ++ List.replicate (n - ds.length) none) S = some (.nx, δ1, S1)) (h2 : φ S.length .non S1 = r) : bodyF φ n body ds S = r := by
  rw [bodyF_ap, h, bd_some, endB_nx, h2]
theorem i_y {α : Type} {q : Bool} {a b r : α} (h : q = true) (h2 : a = r) : (if q = true then a else b) = r := by rw [if_pos h, h2]
theorem i_n {α : Type} {q : Bool} {a b r : α} (h : q = false) (h2 : b = r) : (if q = true then a else b) = r := by rw [if_neg (by rw [h]; decide), h2]
/-! values -/
theorem v_mul {i j : Int} (h : MulB i j) : mulO (.int i) (.int j) S = some (.int (i * j), S) := by rw [mulO_int, if_pos h]
theorem v_mod {i j : Int} (h : 0 < j) : modO (.int i) (.int j) S = some (.int (i % j), S) := by rw [modO_int, if_pos h]
theorem v_div {i j : Int} (h : DivB j) : fdivO (.int i) (.int j) S = some (.int (i / j), S) := by rw [fdivO_int, if_pos h]
theorem v_pow {i j : Int} (h : PowB i j) : powO (.int i) (.int j) S = some (.int (i ^ j.toNat), S) := by rw [powO_int, if_pos h]
theorem v_ixl {ds : List D} {i : Int} {y : D} (h : atI ds i = some y) : ixO (.lst ds) (.int i) S = some (y, S) := by rw [ixv_lst, h]; rfl
theorem v_ixt {ds : List D} {i : Int} {y : D} (h : atI ds i = some y) : ixO (.tup ds) (.int i) S = some (y, S) := by rw [ixv_tup, h]; rfl
theorem v_ixr {ds : List D} {i : Int} {y : D} (h : atI ds i = some y) : ixO (.rol ds) (.int i) S = some (y, S) := by rw [ixv_rol, h]; rfl
theorem v_ixc {n : Nat} {ds : List D} {i : Int} {y : D} (h : S[n]? = some (.lst ds)) (h2 : atI ds i = some y) : ixO (.loc n) (.int i) S = some (y, S) := by rw [ixv_loc, h, bd_some, obL_lst, bd_some, h2]; rfl
theorem v_ixs {z : Str} {i : Int} {c : Nat} (l : z.length < 1000000) (h : atI z.cps.toList i = some c) : ixO (.str z) (.int i) S = some (.str ⟨#[c]⟩, S) := by rw [ixv_str, if_pos ((fits_iff _).mpr l), h]; rfl
theorem v_app {n : Nat} {xs : List D} {y : D} (h : S[n]? = some (.lst xs)) (l : xs.length < 1000000) : appO (.loc n) [y] S = some (.non, S.set n (.lst (xs ++ [y]))) := by rw [app_loc, h, bd_some, obL_lst, bd_some, if_pos ((fits_iff _).mpr l)]
theorem v_isLoc {n : Nat} {xs : List D} (h : S[n]? = some (.lst xs)) : isLoc S (.loc n) = true := by rw [isLoc_loc, h]; rfl
theorem v_addll {xs ys : List D} (l : xs.length + ys.length < 1000000) : addO (.lst xs) (.lst ys) S = some (.lst (xs ++ ys), S) := by rw [addv_ll, if_pos ((fits_iff _).mpr l)]
theorem v_addcl {n : Nat} {xs ys : List D} (h : S[n]? = some (.lst xs)) (l : xs.length + ys.length < 1000000) : addO (.loc n) (.lst ys) S = some (.lst (xs ++ ys), S) := by
  rw [addv_cl, h, bd_some, obL_lst, bd_some, if_pos ((fits_iff _).mpr l)]
theorem v_adds {x y : Str} (l : x.length + y.length < 1000000) : addO (.str x) (.str y) S = some (.str (x ++ y), S) := by rw [addv_str, if_pos ((fits_iff _).mpr l)]
theorem v_rep {xs : List D} {k : Int} (h : R63 k) (l : xs.length * k.toNat < 1000000) : mulO (.lst xs) (.int k) S = some (.lst (List.replicate k.toNat xs).flatten, S) := by rw [mulv_li, if_pos ⟨h, (fits_iff _).mpr l⟩]
theorem v_lenc {n : Nat} {xs : List D} (h : S[n]? = some (.lst xs)) : lenO [.loc n] S = some (.int (xs.length : Int), S) := by rw [lenv_loc, h]; rfl
theorem v_lens {z : Str} (l : z.length < 1000000) : lenO [.str z] S = some (.int (z.length : Int), S) := by rw [lenv_str, if_pos ((fits_iff _).mpr l)]
theorem v_setc {n j : Nat} {k : Int} {xs : List D} {z : D} (h : S[n]? = some (.lst xs)) (hj : ixN xs.length k = some j) : setLO (.loc n) (.int k) z S = some (S.set n (.lst (xs.set j z))) := by
  rw [setL_loc, h, bd_some, obL_lst, bd_some, hj]; rfl
theorem v_slc {n : Nat} {ds : List D} {lo hi : Option Int} (h : S[n]? = some (.lst ds)) : slO (.loc n) lo hi S = some (.lst (cutD ds lo hi), S) := by rw [slv_loc, h]; rfl
theorem v_dg {ks : List Str} {ds : List D} {k : Str} {x : D} (h : (ks.zip ds).lookup k = some x) : dgO (.dic ks ds) (.str k) S = some (x, S) := by rw [dgv, h]; rfl
theorem v_sum {ns : List Int} {ds : List D} (h : intsOf ds = some ns) : sumO [.lst ds] S = some (.int ns.sum, S) := by
  unfold sumO
  dsimp only
  rw [sqv_lst, Option.bind_some, h]; rfl
theorem v_sumt {ns : List Int} {ds : List D} (h : intsOf ds = some ns) : sumO [.tup ds] S = some (.int ns.sum, S) := by
  unfold sumO
  dsimp only
  rw [sqv_tup, Option.bind_some, h]; rfl
theorem v_max {ns : List Int} {ds : List D} {m : Int} (h : intsOf ds = some ns) (h2 : maxI ns = some m) : maxO [.lst ds] S = some (.int m, S) := by
  unfold maxO
  dsimp only
  rw [lsv_lst, Option.bind_some, h, Option.bind_some, h2]; rfl
end
theorem bd_bind {α β : Type} (o : Option α) (f : α → Option β) : o.bind f = o.bd f := rfl
/-! ### a text times 0 or 1 -/
section
variable {K : PySem.W.Frag}
def rMulS : R2 := fun x y H Q => ∃ z n, x = .str z ∧ y = .int n ∧ MulOk z n ∧ Q (.str (Txt.mul z n)) H
theorem op_mul_str {X : Cx} : OpR X (binaryOp .Mult) rMulS := by
  intro pins s σ H x y v u Q I rx ry h
  obtain ⟨z, n, rfl, rfl, hz, q⟩ := h
  obtain ⟨t, rfl⟩ := rx
  obtain ⟨t', rfl⟩ := ry
  exact SB.mul hz fun t' tk => ⟨.str (Txt.mul z n), H, I.tok _, ⟨_, rfl⟩, q⟩
def mulTO : O2 := fun d e S => match d, e with
  | .str z, .int n => if n = 0 ∨ n = 1 then some (.str (Txt.mul z n), S) else none
  | _, _ => none
theorem mul_ok01 {z : Str} {n : Int} (h : n = 0 ∨ n = 1) : MulOk z n := by
  rcases h with rfl | rfl
  · exact ⟨by decide, fun h => absurd (by decide) h, fun h => absurd (by decide) h⟩
  · exact ⟨by decide, fun _ h => by simp at h, fun _ h => by simp at h⟩
theorem opD_mulT : OpD K rMulS mulTO := by
  intro x y H Q ρ S d e z S' hS rx ry eq q
  unfold mulTO at eq
  split at eq
  · split at eq
    · cases eq
      cases rx; cases ry
      exact ⟨_, _, rfl, rfl, mul_ok01 ‹_›, q _ H ρ (Step.refl _ _) hS .str⟩
    · cases eq
  · cases eq
section
variable {X : Cx} {a b : Expr} {pos : Pos} {f g : FE}
theorem jmulT (ha : JE X a f) (hb : JE X b g) : JE X (.BinOp a .Mult b pos) (op2D mulTO f g) := jop op_mul_str opD_mulT ha hb
end
theorem v_mulT {S : Sg} {z : Str} {n : Int} (h : n = 0 ∨ n = 1) : mulTO (.str z) (.int n) S = some (.str (if n = 1 then z else Str.empty), S) := by
  show (if n = 0 ∨ n = 1 then some (D.str (Txt.mul z n), S) else none) = _
  rw [if_pos h]
  rcases h with rfl | rfl <;> rfl
end
end DL
end
noncomputable section
namespace DL
open PySem L2
/-! ### loops over typed lists -/
section
variable {δ δ' : Dl} {S S1 S2 S3 : Sg}
theorem st_y {g : FG} {c : FT} {f : FE} {d y : D} (h1 : g d δ S = some (δ', S1)) (h2 : c δ' S1 = some (true, S2)) (h3 : f δ' S2 = some (y, S3)) : stepLc g c f δ d S = some (some y, S3) := by
  unfold stepLc
  rw [h1, Option.bind_some]
  dsimp only
  rw [h2, Option.bind_some]
  dsimp only
  rw [if_pos rfl, h3]
  rfl
theorem st_q {g : FG} {c : FT} {f : FE} {d y : D} {q : Bool} (h1 : g d δ S = some (δ', S1)) (h2 : c δ' S1 = some (q, S2)) (h3 : q = true → f δ' S2 = some (y, S2)) : stepLc g c f δ d S = some (if q = true then some y else none, S2) := by
  unfold stepLc
  rw [h1, Option.bind_some]
  dsimp only
  rw [h2, Option.bind_some]
  cases q with
  | false => rfl
  | true =>
    dsimp only
    rw [if_pos rfl, h3 rfl]
    rfl
theorem st_for {g : FG} {body : FS} {d : D} {r : Option (Fl × Dl × Sg)} (h1 : g d δ S = some (δ', S1)) (h2 : body δ' S1 = r) : stepFor g body d δ S = r := by
  unfold stepFor
  rw [h1, Option.bind_some, h2]
theorem r_yes : yesT δ S = some (true, S) := rfl
theorem lc_typ {α : Type} {k : Ik} {fa : FA} {g : FG} {c : FT} {f : FE} {vs : List Nat} {ds : List D} (xs : List α) (e : α → D) (p : α → Bool) (h : α → D) (hfa : fa δ S = some (ds, S1)) (hk : k ds S1 = some (xs.map e)) (hl : xs.length < 1000000)
    (hs : ∀ x ∈ xs, stepLc g c f (wipeD δ vs) (e x) S1 = some (if p x = true then some (h x) else none, S1)) : lcD k fa g c f vs δ S = some (.lst ((xs.filter p).map h), S1) := by
  have key : ∀ (r : List α) (acc : List D), (∀ x ∈ r, x ∈ xs) → lcGo k ds (xs.map e) g c f (wipeD δ vs) (r.map e) acc S1 = some (acc ++ (r.filter p).map h, S1) := by
    intro r
    induction r with
    | nil => intro acc _; rw [List.map_nil, lcGo_nil hk, List.filter_nil, List.map_nil, List.append_nil]
    | cons x r ih =>
      intro acc hm
      rw [List.map_cons, lcGo_cons hk (hs x (hm x (by simp))), ih _ fun y hy => hm y (by simp [hy]), List.filter_cons]
      by_cases q : p x = true
      · rw [if_pos q, if_pos q, List.map_cons]
        simp
      · rw [if_neg q, if_neg q]
        simp
  refine r_lc hfa hk (by rw [List.length_map]; exact hl) ?_
  rw [key xs [] fun x hx => hx, List.nil_append]
theorem lc_all {α : Type} {k : Ik} {fa : FA} {g : FG} {f : FE} {vs : List Nat} {ds : List D} (xs : List α) (e : α → D) (h : α → D) (hfa : fa δ S = some (ds, S1)) (hk : k ds S1 = some (xs.map e)) (hl : xs.length < 1000000)
    (hs : ∀ x ∈ xs, ∃ δ', g (e x) (wipeD δ vs) S1 = some (δ', S1) ∧ f δ' S1 = some (h x, S1)) : lcD k fa g yesT f vs δ S = some (.lst (xs.map h), S1) := by
  have := lc_typ (g := g) (c := yesT) (f := f) (vs := vs) xs e (fun _ => true) h hfa hk hl fun x hx => by
    obtain ⟨δ', h1, h2⟩ := hs x hx
    rw [if_pos rfl]
    exact st_y h1 r_yes h2
  rwa [List.filter_eq_self.mpr fun _ _ => rfl] at this
theorem k_rng {m : Nat} (hm : m < 1000000) (S : Sg) : r1K [.int (m : Int)] S = some ((List.range m).map fun (i : Nat) => .int (i : Int)) := by
  rw [r1K_1, if_pos (r62P (by omega))]
  unfold rngL
  rw [Int.toNat_natCast]
  simp only [Int.zero_add]
theorem k_sql (xs : List D) (S : Sg) : sqK [.lst xs] S = some xs := rfl
theorem k_sqt (xs : List D) (S : Sg) : sqK [.tup xs] S = some xs := rfl
theorem k_enl (xs : List D) (S : Sg) : enK [.lst xs] S = some (xs.zipIdx.map fun p => .tup [.int (p.2 : Int), p.1]) := by
  rw [enK_1, lsv_lst, bd_some]
  congr 1
  refine List.ext_getElem? fun i => ?_
  cases q : xs[i]? with
  | none =>
    have hl : xs.length ≤ i := List.getElem?_eq_none_iff.mp q
    rw [List.getElem?_eq_none (by rw [enumL_len]; exact hl), List.getElem?_eq_none (by rw [List.length_map, List.length_zipIdx]; exact hl)]
  | some d =>
    rw [enumL_get q, List.getElem?_map, List.getElem?_zipIdx, q]
    simp
theorem k_zpl {α β : Type} (xs : List α) (ys : List β) (e : α → D) (e' : β → D) (hl : xs.length = ys.length) (S : Sg) : zpK2 [.lst (xs.map e), .lst (ys.map e')] S = some ((xs.zip ys).map fun p => .tup [e p.1, e' p.2]) := by
  show ((some (xs.map e)).bind fun as => (some (ys.map e')).bind fun bs => if as.length = bs.length then some (zipL as bs) else none).or _ = _
  rw [Option.bind_some, Option.bind_some, if_pos (by rw [List.length_map, List.length_map]; exact hl), Option.some_or]
  unfold zipL
  rw [List.zipWith_map, List.map_zip_eq_zipWith]
  rfl
theorem k_zpt {α β : Type} (xs : List α) (ys : List β) (e : α → D) (e' : β → D) (hl : xs.length = ys.length) (S : Sg) : zpK2 [.tup (xs.map e), .tup (ys.map e')] S = some ((xs.zip ys).map fun p => .tup [e p.1, e' p.2]) := by
  show (none : Option (List D)).or ((some (xs.map e)).bind fun as => (some (ys.map e')).bind fun bs => if as.length = bs.length then some (zipL as bs) else none) = _
  rw [Option.bind_some, Option.bind_some, if_pos (by rw [List.length_map, List.length_map]; exact hl), Option.none_or]
  unfold zipL
  rw [List.zipWith_map, List.map_zip_eq_zipWith]
  rfl
/-- a loop over a typed list, by what holds between two turns -/
theorem for_typ {α : Type} {k : Ik} {g : FG} {body : FS} {ds : List D} (xs : List α) (e : α → D) (I : List α → Dl → Sg → Prop) (hk : ∀ r δ S, I r δ S → k ds S = some (xs.map e)) (hs : ∀ pre x post δ S, xs = pre ++ x :: post → I pre δ S → ∃ δ' S', stepFor g body (e x) δ S = some (.nx, δ', S') ∧ I (pre ++ [x]) δ' S') :
    ∀ (pre post : List α) (δ : Dl) (S : Sg), xs = pre ++ post → I pre δ S → ∃ δ' S', forGo k ds (xs.map e) g body (post.map e) δ S = some (.nx, δ', S') ∧ I xs δ' S'
  | pre, [], δ, S, h, p => ⟨δ, S, forGo_nil (hk pre δ S p), by rw [h, List.append_nil]; exact p⟩
  | pre, x :: post, δ, S, h, p => by
    obtain ⟨δ1, S1, e1, p1⟩ := hs pre x post δ S h p
    obtain ⟨δ2, S2, e2, p2⟩ := for_typ xs e I hk hs (pre ++ [x]) post δ1 S1 (by rw [h, List.append_assoc]; rfl) p1
    exact ⟨δ2, S2, by rw [List.map_cons, forGo_cons (hk pre δ S p) e1, e2], p2⟩
theorem r_forT {α : Type} {k : Ik} {f : FA} {g : FG} {body : FS} {ds : List D} (xs : List α) (e : α → D) (I : List α → Dl → Sg → Prop) (h : f δ S = some (ds, S1)) (h0 : I [] δ S1) (hk : ∀ r δ S, I r δ S → k ds S = some (xs.map e)) (hs : ∀ pre x post δ S, xs = pre ++ x :: post → I pre δ S → ∃ δ' S', stepFor g body (e x) δ S = some (.nx, δ', S') ∧ I (pre ++ [x]) δ' S') :
    ∃ δ' S', forS k f g body δ S = some (.nx, δ', S') ∧ I xs δ' S' := by
  obtain ⟨δ', S', e1, p⟩ := for_typ xs e I hk hs [] xs δ S1 rfl h0
  exact ⟨δ', S', r_for h (hk [] δ S1 h0) e1, p⟩
end
end DL
end
noncomputable section
namespace DL
open PySem L2
/-! ### calls with keywords: from where each parameter comes -/
inductive Sr where
  | p (i : Nat) | k (i : Nat) | d (i : Nat)
def pick1 {α : Type} (us ws ds : List α) : Sr → Option α
  | .p i => us[i]?
  | .k i => ws[i]?
  | .d i => ds[i]?
def pickS {α : Type} (src : List Sr) (us ws ds : List α) : List α := src.filterMap (pick1 us ws ds)
theorem vals_pick {vs zs dvs : List V} {us ws its : List Value} (h1 : Vals vs us) (h2 : Vals zs ws) (h3 : Vals dvs its) : ∀ src : List Sr, Vals (pickS src vs zs dvs) (pickS src us ws its)
  | [] => .nil
  | s :: src => by
    have ih := vals_pick h1 h2 h3 src
    have key : ∀ {xs : List V} {ys : List Value} (i : Nat), Vals xs ys → (xs[i]? = none ∧ ys[i]? = none) ∨ ∃ x y, xs[i]? = some x ∧ ys[i]? = some y ∧ RelV x y := fun {xs ys} i r => by
      cases e : xs[i]? with
      | none => exact .inl ⟨rfl, r.none_of e⟩
      | some x =>
        obtain ⟨y, e2, r2⟩ := r.get e
        exact .inr ⟨x, y, rfl, e2, r2⟩
    have one : (pick1 vs zs dvs s = none ∧ pick1 us ws its s = none) ∨ ∃ x y, pick1 vs zs dvs s = some x ∧ pick1 us ws its s = some y ∧ RelV x y := by
      cases s with
      | p i => exact key i h1
      | k i => exact key i h2
      | d i => exact key i h3
    unfold pickS at ih ⊢
    rcases one with ⟨e1, e2⟩ | ⟨x, y, e1, e2, r⟩
    · rw [List.filterMap_cons_none e1, List.filterMap_cons_none e2]
      exact ih
    · rw [List.filterMap_cons_some e1, List.filterMap_cons_some e2]
      exact .cons r ih
section
variable {K : PySem.W.Frag}
theorem rvs_pick {H : Hp} {ρ : Ro} {vs zs dvs : List V} {us ws its : List D} (h1 : RVs K H ρ vs us) (h2 : RVs K H ρ zs ws) (h3 : RVs K H ρ dvs its) : ∀ src : List Sr, RVs K H ρ (pickS src vs zs dvs) (pickS src us ws its)
  | [] => .nil
  | s :: src => by
    have ih := rvs_pick h1 h2 h3 src
    have key : ∀ {xs : List V} {ys : List D} (i : Nat), RVs K H ρ xs ys → (xs[i]? = none ∧ ys[i]? = none) ∨ ∃ x y, xs[i]? = some x ∧ ys[i]? = some y ∧ RV K H ρ x y := fun {xs ys} i r => by
      cases e : xs[i]? with
      | none =>
        refine .inl ⟨rfl, ?_⟩
        rw [List.getElem?_eq_none_iff] at e ⊢
        rw [← r.len]
        exact e
      | some x =>
        obtain ⟨y, e2, r2⟩ := r.getV e
        exact .inr ⟨x, y, rfl, e2, r2⟩
    have one : (pick1 vs zs dvs s = none ∧ pick1 us ws its s = none) ∨ ∃ x y, pick1 vs zs dvs s = some x ∧ pick1 us ws its s = some y ∧ RV K H ρ x y := by
      cases s with
      | p i => exact key i h1
      | k i => exact key i h2
      | d i => exact key i h3
    unfold pickS at ih ⊢
    rcases one with ⟨e1, e2⟩ | ⟨x, y, e1, e2, r⟩
    · rw [List.filterMap_cons_none e1, List.filterMap_cons_none e2]
      exact ih
    · rw [List.filterMap_cons_some e1, List.filterMap_cons_some e2]
      exact .cons r ih
/-- a def without defaults -/
theorem fun_kbn {x qual : Str} {st : Stmt} {f : Addr} {fd : FuncData} {ps : List Str} (F : Fun K x qual st f fd) (n : Nat) (ks : List Str) (src : List Sr)
    (h : ∀ (kV doc pm : Value) (an : Option Addr) (cdv ct : Value) (us ws : List Value), us.length = n → ws.length = ks.length → bindArgs (PySem.W.fnOf x qual (defArgs st) (defBody st) (defScope st) .none kV doc pm an cdv ct) ⟨us, ks.zip ws⟩ = pure (ps.zip (pickS src us ws []))) :
    ∃ its : List Value, Vals [] its ∧ KBn K fd ps n ks (fun us ws => pickS src us ws its) (fun vs zs => pickS src vs zs []) := by
  obtain ⟨oc, od, kV, doc, pm, an, cdv, ct, osl, rfl, lk, hcd⟩ := F.ex
  exact ⟨[], .nil, fun s us ws _ l1 l2 => .of_eq (h kV doc pm an cdv ct us ws l1 l2), fun r1 r2 => vals_pick r1 r2 .nil src⟩
/-- a def with defaults -/
theorem fund_kbn {x qual : Str} {params : Arguments} {body : List Stmt} {scope : Scope} {dvs : List V} {f : Addr} {fd : FuncData} {ps : List Str} (F : FunD K x qual params body scope dvs [] f fd) (hd : dvs ≠ []) (n : Nat) (ks : List Str) (src : List Sr)
    (h : ∀ (T : Addr) (kV doc pm : Value) (an : Option Addr) (cdv ct : Value) (us its ws : List Value), us.length = n → its.length = dvs.length → ws.length = ks.length →
      ∃ k, bindArgs (PySem.W.fnOf x qual params body scope (.ref T) kV doc pm an cdv ct) ⟨us, ks.zip ws⟩ = seqItems? (.ref T) >>= k ∧ k (some its.toArray) = pure (ps.zip (pickS src us ws its))) :
    ∃ its : List Value, Vals dvs its ∧ KBn K fd ps n ks (fun us ws => pickS src us ws its) (fun vs zs => pickS src vs zs dvs) := by
  obtain ⟨oc, od, dV, kV, doc, pm, an, cdv, ct, osl, rfl, lk, hcd, hD, hK⟩ := F.ex
  rcases hD with ⟨e, _⟩ | ⟨_, T, o, its, m, rfl, lT, oT, rT⟩
  · exact absurd e hd
  · refine ⟨its, rT, fun s us ws X l1 l2 => ?_, fun r1 r2 => vals_pick r1 r2 rT src⟩
    obtain ⟨k, e1, e2⟩ := h T kV doc pm an cdv ct us its ws l1 rT.length.symm l2
    refine BindsTo.of_looks fun M => ?_
    rw [e1]
    exact looks_items X lT oT (.of_pure e2)
def fnK (F : Fn) (src : List Sr) (dds : List D) (f g : FA) : FE := fun δ S => (f δ S).bind fun p => (g δ p.2).bind fun q => F (pickS src p.1 q.1 dds) q.2
theorem le_fnK {n m N : Nat} {F : Fn} {src : List Sr} {dvs : List V} {dds : List D} {E : XK} {f g : FA} (hd : ∀ H ρ, RVs K H ρ dvs dds) (hn : NA n f) (hm : NA m g) (hN : ∀ us ws : List V, us.length = n → ws.length = m → (pickS src us ws dvs).length = N) :
    ∀ σ H Q, tD K (fnK F src dds f g) σ H Q → tCallN n m (spD K N F) (fun vs zs => pickS src vs zs dvs) E (tDA K f) (tDA K g) σ H Q := by
  rintro σ H Q ⟨ρ, δ, S, d, S', hS, hσ, e, q⟩
  obtain ⟨⟨x, S1⟩, e1, e⟩ := bnd e
  obtain ⟨⟨y, S2⟩, e2, e⟩ := bnd e
  refine ⟨ρ, δ, S, x, S1, hS, hσ, e1, fun vs H1 ρ1 s1 hS1 rv => ⟨ρ1, δ, S1, y, S2, hS1, hσ.mono s1, e2, fun zs H2 ρ2 s2 hS2 rz => ?_⟩⟩
  have l1 : vs.length = n := by rw [rv.len]; exact hn _ _ _ _ e1
  have l2 : zs.length = m := by rw [rz.len]; exact hm _ _ _ _ e2
  exact ⟨l1, l2, ρ2, S2, _, d, S', hN vs zs l1 l2, hS2, rvs_pick (rv.mono s2) rz (hd H2 ρ2) src, e, fun v H3 ρ3 s3 hS3 r => q v H3 ρ3 ((s1.trans s2).trans s3) hS3 r⟩
/-- keywords alone -/
def tCallK0 (m : Nat) (sp : Sp) (gV : List V → List V → List V) (E : XK) (tk : TA) : TE := fun σ H Q => tk σ H fun zs H2 => zs.length = m ∧ sp (gV [] zs) H2 Q E
theorem le_fnK0 {m N : Nat} {F : Fn} {src : List Sr} {dvs : List V} {dds : List D} {E : XK} {g : FA} (hd : ∀ H ρ, RVs K H ρ dvs dds) (hm : NA m g) (hN : ∀ ws : List V, ws.length = m → (pickS src [] ws dvs).length = N) :
    ∀ σ H Q, tD K (fnK F src dds nilA g) σ H Q → tCallK0 m (spD K N F) (fun vs zs => pickS src vs zs dvs) E (tDA K g) σ H Q := by
  rintro σ H Q ⟨ρ, δ, S, d, S', hS, hσ, e, q⟩
  obtain ⟨⟨x, S1⟩, e1, e⟩ := bnd e
  cases e1
  obtain ⟨⟨y, S2⟩, e2, e⟩ := bnd e
  refine ⟨ρ, δ, S, y, S2, hS, hσ, e2, fun zs H2 ρ2 s2 hS2 rz => ?_⟩
  have l2 : zs.length = m := by rw [rz.len]; exact hm _ _ _ _ e2
  exact ⟨l2, ρ2, S2, _, d, S', hN zs l2, hS2, rvs_pick .nil rz (hd H2 ρ2) src, e, fun v H3 ρ3 s3 hS3 r => q v H3 ρ3 (s2.trans s3) hS3 r⟩
end
/-- a def called with n values and the keywords ks -/
structure DfN (P : Program) (w : World) (K : PySem.W.Frag) (mg : Str → Option Value) (base : Heap) (x : Str) (k : Nat) (ps : List Str) (n : Nat) (ks : List Str) (src : List Sr) (dvs : List V) (F : Fn) : Prop where
  ex : ∃ (f : Addr) (fd : FuncData) (its : List Value), FnOk P w K mg base CX0 k f fd ps (spD K ps.length F) ∧ mg x = some (.ref f) ∧ PySem.W.keepIn K (.ref f) = true ∧ Vals dvs its ∧ KBn K fd ps n ks (fun us ws => pickS src us ws its) (fun vs zs => pickS src vs zs dvs)
section
variable {X : Cx} {e : Expr} {es : List Expr} {f g : FA} {pos : Pos}
theorem jknil : PK X [] (tDA X.K nilA) := ⟨fun pos pins s σ H Q I h => pk_nil.run pos pins s σ H Q I (le_nilA σ H Q h)⟩
theorem jkcons {nm : Option Str} {kpos : Pos} {kws : List Keyword} {fe : FE} {fa : FA} (he : JE X e fe) (hr : PK X kws (tDA X.K fa)) : PK X (⟨nm, e, kpos⟩ :: kws) (tDA X.K (consA fe fa)) := ⟨fun pos pins s σ H Q I h => (pk_cons he hr).run pos pins s σ H Q I (le_consA σ H Q h)⟩
theorem jfnK {x : Str} {k n : Nat} {ps ks : List Str} {src : List Sr} {dvs : List V} {dds : List D} {F : Fn} {p : Pos} {kws : List Keyword} (Z : DfN X.prog X.w X.K X.mg X.base x k ps n ks src dvs F) (hd : ∀ H ρ, RVs X.K H ρ dvs dds) (hr : Room k X.A) (ha : JA X (e :: es) f) (hk : PK X kws (tDA X.K g))
    (hN : ∀ us ws : List V, us.length = n → ws.length = ks.length → (pickS src us ws dvs).length = ps.length) (hn : NA n f := by repeat (first | exact na0 | apply na)) (hm : NA ks.length g := by repeat (first | exact na0 | apply na))
    (hall : (backToKw pos (keywordEach kws X.env)).all (·.1.isSome) = true := by rfl) (hks : (backToKw pos (keywordEach kws X.env)).filterMap (·.1) = ks := by rfl) (hg : Gl X x := by rfl) (hdb : (x == ("__debug__" : Str)) = false := by decide) (he : starEach (e :: es) X.env = (false, eval e X.env) :: starEach es X.env := by rfl)
    (hpl : ((backTo pos (starEach (e :: es) X.env)).any (·.1) || (backToKw pos (keywordEach kws X.env)).any (·.1.isNone)) = false := by rfl) :
    JE X (.Call (.Name x p) (e :: es) kws pos) (fnK F src dds f g) := by
  obtain ⟨f, fd, its, Fk, hm', kp, v, b⟩ := Z.ex
  exact PE.imp (pe_callN Fk hr hg hm' kp b pass0 ha hk hall hks hdb he hpl) (le_fnK hd hn hm hN)
theorem jfnK0 {x : Str} {k : Nat} {ps ks : List Str} {src : List Sr} {dvs : List V} {dds : List D} {F : Fn} {p : Pos} {kws : List Keyword} (Z : DfN X.prog X.w X.K X.mg X.base x k ps 0 ks src dvs F) (hd : ∀ H ρ, RVs X.K H ρ dvs dds) (hr : Room k X.A) (hk : PK X kws (tDA X.K g))
    (hN : ∀ ws : List V, ws.length = ks.length → (pickS src [] ws dvs).length = ps.length) (hm : NA ks.length g := by repeat (first | exact na0 | apply na))
    (hall : (backToKw pos (keywordEach kws X.env)).all (·.1.isSome) = true := by rfl) (hks : (backToKw pos (keywordEach kws X.env)).filterMap (·.1) = ks := by rfl) (hg : Gl X x := by rfl) (hdb : (x == ("__debug__" : Str)) = false := by decide)
    (hpl : ((backTo pos (starEach [] X.env)).any (·.1) || (backToKw pos (keywordEach kws X.env)).any (·.1.isNone)) = false := by rfl) :
    JE X (.Call (.Name x p) [] kws pos) (fnK F src dds nilA g) := by
  obtain ⟨f, fd, its, Fk, hm', kp, v, b⟩ := Z.ex
  refine PE.imp ⟨fun pins s σ H Q I h => ?_⟩ (le_fnK0 (E := E0) hd hm hN)
  refine wpAny_Call_Name_kw (ld_glob I hg hm' ?_ hdb)
  refine PySem.W.callWith_KW0 (first := []) (h₀ := X.base) I.ok.mod.kin kp hall ?_ hpl
  refine thn (hk.run pos pins s σ H _ I h) fun ws s2 ⟨zs, H2, I2, rz, l2, q2⟩ => ⟨I2.kIn, ?_⟩
  rw [hks]
  exact run_fnN (us := []) (vs := []) Fk hr b pass0 I2 .nil rz rfl l2 q2
end
section
variable {δ : Dl} {S S1 S2 S3 : Sg}
theorem r_fnK {F : Fn} {src : List Sr} {dds ds es as : List D} {f g : FA} {x : D} (h : f δ S = some (ds, S1)) (h1 : g δ S1 = some (es, S2)) (e : pickS src ds es dds = as) (h2 : F as S2 = some (x, S3)) : fnK F src dds f g δ S = some (x, S3) := by
  unfold fnK
  rw [h, Option.bind_some]
  dsimp only
  rw [h1, Option.bind_some]
  dsimp only
  rw [e, h2]
end
/-! ### is, of truths -/
section
variable {K : PySem.W.Frag}
theorem op_is_b {X : Cx} : OpR X (compareOp .Is) (fun x y H Q => ∃ a b, x = .bl a ∧ y = .bl b ∧ Q (.bl (decide (a = b))) H) := by
  intro pins s σ H x y v u Q I rx ry h
  obtain ⟨a, b, rfl, rfl, q⟩ := h
  cases (show v = Value.bool a from rx)
  cases (show u = Value.bool b from ry)
  by_cases e : a = b
  · subst e
    exact wpAny_is_self rfl ⟨.bl true, H, I, rfl, by simpa using q⟩
  · exact wpAny_is_other rfl (fun z => e (Value.bool.inj z)) ⟨.bl false, H, I, rfl, by simpa [e] using q⟩
theorem op_isnot_b {X : Cx} : OpR X (compareOp .IsNot) (fun x y H Q => ∃ a b, x = .bl a ∧ y = .bl b ∧ Q (.bl (!decide (a = b))) H) := by
  intro pins s σ H x y v u Q I rx ry h
  obtain ⟨a, b, rfl, rfl, q⟩ := h
  cases (show v = Value.bool a from rx)
  cases (show u = Value.bool b from ry)
  by_cases e : a = b
  · subst e
    exact wpAny_isNot_self rfl ⟨.bl false, H, I, rfl, by simpa using q⟩
  · exact wpAny_isNot_other rfl (fun z => e (Value.bool.inj z)) ⟨.bl true, H, I, rfl, by simpa [e] using q⟩
def isBO (neg : Bool) : O2 := fun d e S => match d, e with
  | .bl a, .bl b => some (.bl (if neg then !decide (a = b) else decide (a = b)), S)
  | _, _ => none
theorem opD_isB : OpD K (fun x y H Q => ∃ a b, x = .bl a ∧ y = .bl b ∧ Q (.bl (decide (a = b))) H) (isBO false) := by
  intro x y H Q ρ S d e z S' hS rx ry eq q
  unfold isBO at eq
  split at eq
  · cases eq; cases rx; cases ry
    exact ⟨_, _, rfl, rfl, q _ H ρ (Step.refl _ _) hS .bl⟩
  · cases eq
theorem opD_isnotB : OpD K (fun x y H Q => ∃ a b, x = .bl a ∧ y = .bl b ∧ Q (.bl (!decide (a = b))) H) (isBO true) := by
  intro x y H Q ρ S d e z S' hS rx ry eq q
  unfold isBO at eq
  split at eq
  · cases eq; cases rx; cases ry
    exact ⟨_, _, rfl, rfl, q _ H ρ (Step.refl _ _) hS .bl⟩
  · cases eq
section
variable {X : Cx} {a b : Expr} {pos : Pos} {f g : FE}
theorem jisB (ha : JE X a f) (hb : JE X b g) : JE X (.Compare a [.Is] [b] pos) (op2D (isBO false) f g) := jcmpR op_is_b opD_isB ha hb
theorem jtisB (ha : JE X a f) (hb : JE X b g) : JT X (.Compare a [.Is] [b] pos) (tvD (op2D (isBO false) f g)) := jtcmpR op_is_b opD_isB ha hb
theorem jisnotB (ha : JE X a f) (hb : JE X b g) : JE X (.Compare a [.IsNot] [b] pos) (op2D (isBO true) f g) := jcmpR op_isnot_b opD_isnotB ha hb
theorem jtisnotB (ha : JE X a f) (hb : JE X b g) : JT X (.Compare a [.IsNot] [b] pos) (tvD (op2D (isBO true) f g)) := jtcmpR op_isnot_b opD_isnotB ha hb
end
end
end DL
end
noncomputable section
namespace DL
open PySem L2
/-! ### dicts that are changed: keys are numbers and texts -/
def keyOf : D → Option Key
  | .int i => some (.inl i)
  | .str z => some (.inr z)
  | _ => none
def dsOf (S : Sg) : D → Option (List (Key × D))
  | .dic ks ds => if ks.length = ds.length then some ((ks.map Sum.inr).zip ds) else none
  | .loc n => match S[n]? with
    | some (.dct gs) => some gs
    | _ => none
  | _ => none
def valG (gs : List (Key × D)) (k : Key) : Option D := (gs.find? fun kv => decide (kv.1 = k)).map (·.2)
def putG (gs : List (Key × D)) (k : Key) (d : D) : List (Key × D) := if (gs.any fun kv => decide (kv.1 = k)) = true then gs.map (fun kv => if kv.1 = k then (kv.1, d) else kv) else gs ++ [(k, d)]
section
variable {K : PySem.W.Frag} {H : Hp} {ρ : Ro}
theorem keyOf_rv {v : V} {d : D} {k : Key} (r : RV K H ρ v d) (h : keyOf d = some k) : v = kV k := by
  cases r <;> cases h <;> rfl
/-- the pairs of a dict, side by side -/
structure DR (K : PySem.W.Frag) (H : Hp) (ρ : Ro) (kvs : List (Key × V)) (gs : List (Key × D)) : Prop where
  ks : kvs.map (·.1) = gs.map (·.1)
  vs : RVs K H ρ (kvs.map (·.2)) (gs.map (·.2))
theorem dsOf_rd {S : Sg} {v : V} {d : D} {gs : List (Key × D)} (hS : SR K H ρ S) (r : RV K H ρ v d) (h : dsOf S d = some gs) : ∃ a kvs, v = .ref a ∧ H a = some (.dK kvs) ∧ DR K H ρ kvs gs := by
  unfold dsOf at h
  split at h
  · split at h
    · rename_i hl
      cases h
      cases r with
      | dic e n k rs => exact ⟨_, _, rfl, e, by rw [k, List.map_fst_zip (by rw [List.length_map]; omega)], by rw [List.map_snd_zip (by rw [List.length_map]; omega)]; exact rs⟩
    · cases h
  · cases r with
    | loc hn =>
      split at h
      · rename_i gs' e
        cases h
        obtain ⟨fs, h1, h2, h3⟩ := hS.ob _ _ _ hn e
        exact ⟨_, fs, rfl, h1, h2, h3⟩
      · cases h
  · cases h
theorem DR.len {kvs : List (Key × V)} {gs : List (Key × D)} (h : DR K H ρ kvs gs) : kvs.length = gs.length := by
  have := congrArg List.length h.ks
  rwa [List.length_map, List.length_map] at this
theorem DR.yes {k : Key} {d : D} : ∀ {kvs : List (Key × V)} {gs : List (Key × D)}, DR K H ρ kvs gs → valG gs k = some d → ∃ v, valV kvs k = some v ∧ RV K H ρ v d
  | [], [], _, h => by cases h
  | [], _ :: _, r, _ => by have := r.len; cases this
  | _ :: _, [], r, _ => by have := r.len; cases this
  | p :: kvs, q :: gs, r, h => by
    have hk : p.1 = q.1 := (List.cons.inj r.ks).1
    have hvs := r.vs
    rw [List.map_cons, List.map_cons] at hvs
    cases hvs with
    | cons h1 h2 =>
      have r' : DR K H ρ kvs gs := ⟨(List.cons.inj r.ks).2, h2⟩
      by_cases c : q.1 = k
      · have e : d = q.2 := by
          unfold valG at h
          rw [List.find?_cons, decide_eq_true c] at h
          exact (Option.some.inj h).symm
        subst e
        exact ⟨p.2, valV_pos (hk.trans c), h1⟩
      · have e : valG gs k = some d := by
          unfold valG at h ⊢
          rw [List.find?_cons, decide_eq_false c] at h
          exact h
        obtain ⟨v, e1, e2⟩ := DR.yes r' e
        exact ⟨v, by rw [valV_neg (p := p) (fun z => c (hk ▸ z)), e1], e2⟩
theorem DR.nope {k : Key} : ∀ {kvs : List (Key × V)} {gs : List (Key × D)}, DR K H ρ kvs gs → valG gs k = none → valV kvs k = none
  | [], [], _, _ => rfl
  | [], _ :: _, r, _ => by have := r.len; cases this
  | _ :: _, [], r, _ => by have := r.len; cases this
  | p :: kvs, q :: gs, r, h => by
    have hk : p.1 = q.1 := (List.cons.inj r.ks).1
    have hvs := r.vs
    rw [List.map_cons, List.map_cons] at hvs
    cases hvs with
    | cons h1 h2 =>
      have r' : DR K H ρ kvs gs := ⟨(List.cons.inj r.ks).2, h2⟩
      by_cases c : q.1 = k
      · unfold valG at h
        rw [List.find?_cons, decide_eq_true c] at h
        cases h
      · have e : valG gs k = none := by
          unfold valG at h ⊢
          rw [List.find?_cons, decide_eq_false c] at h
          exact h
        rw [valV_neg (p := p) (fun z => c (hk ▸ z)), DR.nope r' e]
theorem DR.any {k : Key} : ∀ {kvs : List (Key × V)} {gs : List (Key × D)}, DR K H ρ kvs gs → (kvs.any fun kv => decide (kv.1 = k)) = gs.any fun kv => decide (kv.1 = k) := fun {kvs gs} r => by
  have h1 : (kvs.any fun kv => decide (kv.1 = k)) = (kvs.map (·.1)).any fun x => decide (x = k) := by rw [List.any_map]; rfl
  have h2 : (gs.any fun kv => decide (kv.1 = k)) = (gs.map (·.1)).any fun x => decide (x = k) := by rw [List.any_map]; rfl
  rw [h1, h2, r.ks]
theorem DR.mapped {k : Key} {v : V} {d : D} (rv : RV K H ρ v d) : ∀ {kvs : List (Key × V)} {gs : List (Key × D)}, DR K H ρ kvs gs → DR K H ρ (kvs.map fun kv => if kv.1 = k then (kv.1, v) else kv) (gs.map fun kv => if kv.1 = k then (kv.1, d) else kv)
  | [], [], _ => ⟨rfl, .nil⟩
  | [], _ :: _, r => by have := r.len; cases this
  | _ :: _, [], r => by have := r.len; cases this
  | p :: kvs, q :: gs, r => by
    have hk : p.1 = q.1 := (List.cons.inj r.ks).1
    have hvs := r.vs
    rw [List.map_cons, List.map_cons] at hvs
    cases hvs with
    | cons h1 h2 =>
      have r' := DR.mapped (k := k) rv (kvs := kvs) (gs := gs) ⟨(List.cons.inj r.ks).2, h2⟩
      rw [List.map_cons, List.map_cons]
      by_cases c : q.1 = k
      · rw [if_pos c, if_pos (hk.trans c)]
        exact ⟨by rw [List.map_cons, List.map_cons, r'.ks, hk], .cons rv r'.vs⟩
      · rw [if_neg c, if_neg (fun z => c (hk ▸ z))]
        exact ⟨by rw [List.map_cons, List.map_cons, r'.ks, hk], .cons h1 r'.vs⟩
theorem DR.put {k : Key} {v : V} {d : D} (rv : RV K H ρ v d) {kvs : List (Key × V)} {gs : List (Key × D)} (r : DR K H ρ kvs gs) : DR K H ρ (putK kvs k v) (putG gs k d) := by
  unfold putK putG
  rw [r.any]
  split
  · exact r.mapped rv
  · refine ⟨by rw [List.map_append, List.map_append, r.ks]; rfl, ?_⟩
    rw [List.map_append, List.map_append]
    exact r.vs.append (.cons rv .nil)
theorem DR.mono {ρ' : Ro} {H' : Hp} (s : Step ρ ρ' H H') {kvs : List (Key × V)} {gs : List (Key × D)} (r : DR K H ρ kvs gs) : DR K H' ρ' kvs gs := ⟨r.ks, r.vs.mono s⟩
/-! reading -/
def dgK : O2 := fun d e S => (dsOf S d).bind fun gs => (keyOf e).bind fun k => (valG gs k).bind fun x => some (x, S)
theorem le_dgetK {fa fb : FE} : ∀ σ H Q, tD K (op2D dgK fa fb) σ H Q → tDGet (tD K fa) (tD K fb) σ H Q := by
  rintro σ H Q ⟨ρ, δ, S, d, S', hS, hσ, e, q⟩
  obtain ⟨⟨x, S1⟩, e1, e⟩ := bnd e
  obtain ⟨⟨y, S2⟩, e2, e⟩ := bnd e
  obtain ⟨gs, e3, e⟩ := bnd e
  obtain ⟨k, e4, e⟩ := bnd e
  obtain ⟨z, e5, e⟩ := bnd e
  cases e
  refine ⟨ρ, δ, S, _, S1, hS, hσ, e1, fun v H1 ρ1 s1 hS1 rv => ⟨ρ1, δ, S1, _, _, hS1, hσ.mono s1, e2, fun w H2 ρ2 s2 hS2 rw' => ?_⟩⟩
  obtain ⟨a, kvs, rfl, h1, r⟩ := dsOf_rd hS2 (rv.mono s2) e3
  obtain rfl := keyOf_rv rw' e4
  obtain ⟨u, e6, ru⟩ := r.yes e5
  exact ⟨a, u, rfl, .inl ⟨kvs, k, .inl h1, rfl, e6.symm⟩, q _ _ _ (s1.trans s2) hS2 ru⟩
def inKO (neg : Bool) : O2 := fun e d S => (keyOf e).bind fun k => (dsOf S d).bind fun gs => some (.bl (if neg then !(valG gs k).isSome else (valG gs k).isSome), S)
theorem DR.there {k : Key} {kvs : List (Key × V)} {gs : List (Key × D)} (r : DR K H ρ kvs gs) : (valV kvs k).isSome = (valG gs k).isSome := by
  cases e : valG gs k with
  | none => rw [r.nope e]; rfl
  | some d => obtain ⟨v, e1, _⟩ := r.yes e; rw [e1]; rfl
theorem le_dinK {fa fb : FE} : ∀ σ H Q, tD K (op2D (inKO false) fa fb) σ H Q → tDIn (tD K fa) (tD K fb) σ H Q := by
  rintro σ H Q ⟨ρ, δ, S, d, S', hS, hσ, e, q⟩
  obtain ⟨⟨x, S1⟩, e1, e⟩ := bnd e
  obtain ⟨⟨y, S2⟩, e2, e⟩ := bnd e
  obtain ⟨k, e4, e⟩ := bnd e
  obtain ⟨gs, e3, e⟩ := bnd e
  cases e
  refine ⟨ρ, δ, S, _, S1, hS, hσ, e1, fun v H1 ρ1 s1 hS1 rv => ⟨ρ1, δ, S1, _, _, hS1, hσ.mono s1, e2, fun w H2 ρ2 s2 hS2 rw' => ?_⟩⟩
  obtain ⟨a, kvs, rfl, h1, r⟩ := dsOf_rd hS2 rw' e3
  obtain rfl := keyOf_rv (rv.mono s2) e4
  refine ⟨a, valV kvs k, rfl, .inl ⟨kvs, k, .inl h1, rfl, rfl⟩, ?_⟩
  rw [r.there]
  exact q _ _ _ (s1.trans s2) hS2 .bl
theorem le_dninK {fa fb : FE} : ∀ σ H Q, tD K (op2D (inKO true) fa fb) σ H Q → tDNotIn (tD K fa) (tD K fb) σ H Q := by
  rintro σ H Q ⟨ρ, δ, S, d, S', hS, hσ, e, q⟩
  obtain ⟨⟨x, S1⟩, e1, e⟩ := bnd e
  obtain ⟨⟨y, S2⟩, e2, e⟩ := bnd e
  obtain ⟨k, e4, e⟩ := bnd e
  obtain ⟨gs, e3, e⟩ := bnd e
  cases e
  refine ⟨ρ, δ, S, _, S1, hS, hσ, e1, fun v H1 ρ1 s1 hS1 rv => ⟨ρ1, δ, S1, _, _, hS1, hσ.mono s1, e2, fun w H2 ρ2 s2 hS2 rw' => ?_⟩⟩
  obtain ⟨a, kvs, rfl, h1, r⟩ := dsOf_rd hS2 rw' e3
  obtain rfl := keyOf_rv (rv.mono s2) e4
  refine ⟨a, valV kvs k, rfl, .inl ⟨kvs, k, .inl h1, rfl, rfl⟩, ?_⟩
  rw [r.there]
  exact q _ _ _ (s1.trans s2) hS2 .bl
/-! storing -/
def dputS (fd fk fv : FE) : FS := fun δ S => (fv δ S).bind fun v => (fd δ v.2).bind fun p => (fk δ p.2).bind fun q => match p.1 with
  | .loc n => match q.2[n]? with
    | some (.dct gs) => if Fits gs.length then (keyOf q.1).bind fun k => some (.nx, δ, q.2.set n (.dct (putG gs k v.1))) else none
    | _ => none
  | _ => none
theorem ls_dput {fd fk fv : FE} : ∀ D σ H, tDS K (dputS fd fk fv) D σ H → sDPut (tD K fd) (tD K fk) (tD K fv) D σ H := by
  rintro Dn σ H ⟨ρ, δ, S, r, δ', S', hS, hσ, e, q⟩
  obtain ⟨⟨v, S1⟩, e1, e⟩ := bnd e
  obtain ⟨⟨x, S2⟩, e2, e⟩ := bnd e
  obtain ⟨⟨y, S3⟩, e3, e⟩ := bnd e
  dsimp only at e
  split at e
  · rename_i n
    split at e
    · rename_i gs hg
      split at e
      · rename_i hfit
        obtain ⟨k, e4, e⟩ := bnd e
        cases e
        refine ⟨ρ, δ, S, v, S1, hS, hσ, e1, fun vv H1 ρ1 s1 hS1 rv => ⟨ρ1, δ, S1, _, S2, hS1, hσ.mono s1, e2, fun xv H2 ρ2 s2 hS2 rx => ⟨ρ2, δ, S2, y, S3, hS2, hσ.mono (s1.trans s2), e3, fun yv H3 ρ3 s3 hS3 ry => ?_⟩⟩⟩
        have rx3 := rx.mono s3
        cases rx3 with
        | @loc a _ hn =>
          obtain ⟨fs, h1, h2, h3⟩ := hS3.ob _ _ _ hn hg
          have dr : DR K H3 ρ3 fs gs := ⟨h2, h3⟩
          obtain rfl := keyOf_rv ry e4
          have st : Step ρ3 ρ3 H3 (upd H3 a (.dK (putK fs k vv))) := Step.write hn h1
          have dp := (dr.put (k := k) (rv.mono (s2.trans s3))).mono st
          refine ⟨a, upd H3 a (.dK (putK fs k vv)), rfl, .inl ⟨fs, k, h1, rfl, by rw [dr.len]; exact hfit.lt, rfl⟩, ?_⟩
          have s13 := (s1.trans s2).trans s3
          exact q σ _ ρ3 (s13.trans st) (hS3.write hn ⟨_, h1⟩ ⟨_, upd_same, dp.ks, dp.vs⟩) (hσ.mono (s13.trans st))
      · cases e
    · cases e
  · cases e
/-! a copy, to be changed -/
def dictN : OC := fun ds S => match ds with
  | [d] => (dsOf S d).bind fun gs => some (.loc S.length, S ++ [.dct gs])
  | _ => none
theorem cbD_dictN : CbD K (fun xs H Q => ∃ (a : Addr) (kvs : List (Key × V)), xs = [.ref a] ∧ Rd H a (.dK kvs) ∧ ∀ p, H p = none → Q (.ref p) (upd H p (.dK kvs))) dictN := by
  intro xs H Q ρ S ds z S' hS rs eq q
  unfold dictN at eq
  split at eq
  · cases rs with | cons rx rn => ?_
    cases rn
    obtain ⟨gs, e, eq⟩ := bnd eq
    cases eq
    obtain ⟨a, kvs, rfl, h1, r⟩ := dsOf_rd hS rx e
    refine ⟨a, kvs, rfl, .inl h1, fun p hp => ?_⟩
    have st := Step.push hS (o := .dK kvs) hp
    have r' := r.mono st
    refine q _ _ _ st (hS.push hp ⟨kvs, upd_same, r'.ks, r'.vs⟩) (.loc ?_)
    show (ρ.pl ++ [p])[S.length]? = some p
    rw [← hS.len, List.getElem?_append_right (Nat.le_refl _), Nat.sub_self]
    rfl
  · cases eq
end
section
variable {X : Cx} {a b v : Expr} {pos : Pos} {f g h : FE}
theorem jdgetK (hu : X.A.units + 1 < cLine) (ha : JE X a f) (hb : JE X b g) (hs : NoSl b := by exact fun _ _ => rfl) : JE X (.Subscript a b pos) (op2D dgK f g) := PE.imp (pe_dget hu ha hb hs) le_dgetK
theorem jinK (hu : X.A.units + 1 < cLine) (ha : JE X a f) (hb : JE X b g) : JC X .In a b (op2D (inKO false) f g) := ⟨⟨_, pc_din hu ha hb, le_dinK⟩⟩
theorem jninK (hu : X.A.units + 1 < cLine) (ha : JE X a f) (hb : JE X b g) : JC X .NotIn a b (op2D (inKO true) f g) := ⟨⟨_, pc_dnotin hu ha hb, le_dninK⟩⟩
theorem jsdput {pos' : Pos} (hu : X.A.units + 1 < cLine) (ho : JE X a f) (hi : JE X b g) (hv : JE X v h) (hs : swapsWith v (some (.Subscript a b pos')) pos.line X.env = pure false := by rfl) : JS X (.Assign [.Subscript a b pos'] v pos) (dputS f g h) := PS.imp (ps_dput hu ho hi hv hs) ls_dput
end
section
variable {δ : Dl} {S S1 S2 S3 : Sg}
theorem r_dput {fd fk fv : FE} {v y : D} {n : Nat} {gs : List (Key × D)} {k : Key} (h : fv δ S = some (v, S1)) (h2 : fd δ S1 = some (.loc n, S2)) (h3 : fk δ S2 = some (y, S3)) (h4 : S3[n]? = some (.dct gs)) (l : gs.length < 1000000) (h5 : keyOf y = some k) : dputS fd fk fv δ S = some (.nx, δ, S3.set n (.dct (putG gs k v))) := by
  unfold dputS
  rw [h, Option.bind_some]
  dsimp only
  rw [h2, Option.bind_some]
  dsimp only
  rw [h3, Option.bind_some]
  dsimp only
  rw [h4]
  dsimp only
  rw [if_pos ((fits_iff _).mpr l), h5]
  rfl
theorem v_dgK {d e x : D} {gs : List (Key × D)} {k : Key} (h : dsOf S d = some gs) (h2 : keyOf e = some k) (h3 : valG gs k = some x) : dgK d e S = some (x, S) := by
  unfold dgK
  rw [h, Option.bind_some, h2, Option.bind_some, h3]
  rfl
theorem v_inK {neg : Bool} {d e : D} {gs : List (Key × D)} {k : Key} (h : dsOf S d = some gs) (h2 : keyOf e = some k) : inKO neg e d S = some (.bl (if neg then !(valG gs k).isSome else (valG gs k).isSome), S) := by
  unfold inKO
  rw [h2, Option.bind_some, h]
  rfl
theorem v_dictN {d : D} {gs : List (Key × D)} (h : dsOf S d = some gs) : dictN [d] S = some (.loc S.length, S ++ [.dct gs]) := by
  show (dsOf S d).bind _ = _
  rw [h]
  rfl
end
end DL
end
noncomputable section
namespace DL
open PySem L2
/-! ### tuples joined, neither empty -/
section
variable {K : PySem.W.Frag}
def catTO : O2 := fun d e S => match d, e with
  | .tup xs, .tup ys => if xs ≠ [] ∧ ys ≠ [] ∧ Fits (xs.length + ys.length) then some (.tup (xs ++ ys), S) else none
  | _, _ => none
theorem opD_catT : OpD K (rCatT K) catTO := by
  intro x y H Q ρ S d e z S' hS rx ry eq q
  unfold catTO at eq
  split at eq
  · rename_i xs ys
    split at eq
    · rename_i hc
      cases eq
      obtain ⟨a, vs, rfl, h1, r1⟩ := tpOf_sq rx (show tpOf (.tup xs) = some xs from rfl)
      obtain ⟨b, ws, rfl, h2, r2⟩ := tpOf_sq ry (show tpOf (.tup ys) = some ys from rfl)
      have n1 : vs ≠ [] := fun z => hc.1 (List.eq_nil_of_length_eq_zero (by rw [← r1.len, z]; rfl))
      have n2 : ws ≠ [] := fun z => hc.2.1 (List.eq_nil_of_length_eq_zero (by rw [← r2.len, z]; rfl))
      refine ⟨a, b, vs, ws, rfl, rfl, h1, h2, n1, by rw [r1.len, r2.len]; exact hc.2.2.le, fun z => (n2 z).elim, fun _ p hp => ?_⟩
      exact q _ _ ρ (Step.new hS hp) (hS.new hp) (rv_tup hS hp (r1.append r2))
    · cases eq
  · cases eq
section
variable {X : Cx} {a b : Expr} {pos : Pos} {f g : FE}
theorem jaddT (ha : JE X a f) (hb : JE X b g) : JE X (.BinOp a .Add b pos) (op2D catTO f g) := jop op_catT opD_catT ha hb
end
theorem v_catT {S : Sg} {xs ys : List D} (h1 : xs ≠ []) (h2 : ys ≠ []) (l : xs.length + ys.length < 1000000) : catTO (.tup xs) (.tup ys) S = some (.tup (xs ++ ys), S) := by
  show (if xs ≠ [] ∧ ys ≠ [] ∧ Fits (xs.length + ys.length) then _ else none) = _
  rw [if_pos ⟨h1, h2, (fits_iff _).mpr l⟩]
end
end DL
end
noncomputable section
namespace DL
open PySem L2
/-! ### a dict that is written down and will be changed -/
section
variable {K : PySem.W.Frag}
def argsL : List FE → FA
  | [] => nilA
  | f :: r => consA f (argsL r)
def dicTr (ks : List Str) (fs : List FE) : List (TE × TE) := (ks.zip fs).map fun p => (tC (.str p.1), tD K p.2)
theorem pairs_run : ∀ {ks : List Str} {fs : List FE} {σ : St} {H : Hp} {Q : List (V × V) → Hp → Prop} {ρ : Ro} {δ : Dl} {S S' : Sg} {ds : List D}, ks.length = fs.length → SR K H ρ S → RS K H ρ σ δ → argsL fs δ S = some (ds, S') →
    (∀ vs H' ρ', Step ρ ρ' H H' → SR K H' ρ' S' → RVs K H' ρ' vs ds → Q ((ks.zip vs).map fun p => (V.str p.1, p.2)) H') → tPairs (dicTr (K := K) ks fs) σ H Q
  | [], [], σ, H, Q, ρ, δ, S, S', ds, _, hS, hσ, e, q => by
    cases e
    exact q [] H ρ (Step.refl _ _) hS .nil
  | [], _ :: _, _, _, _, _, _, _, _, _, hl, _, _, _, _ => by cases hl
  | _ :: _, [], _, _, _, _, _, _, _, _, hl, _, _, _, _ => by cases hl
  | k :: ks, f :: fs, σ, H, Q, ρ, δ, S, S', ds, hl, hS, hσ, e, q => by
    obtain ⟨⟨x, S1⟩, e1, e⟩ := bnd e
    obtain ⟨⟨y, S2⟩, e2, e⟩ := bnd e
    cases e
    refine ⟨ρ, δ, S, x, S1, hS, hσ, e1, fun v H1 ρ1 s1 hS1 rv => ?_⟩
    refine pairs_run (ks := ks) (fs := fs) (by rw [List.length_cons, List.length_cons] at hl; omega) hS1 (hσ.mono s1) e2 fun vs H2 ρ2 s2 hS2 rvs => ?_
    exact q (v :: vs) H2 ρ2 (s1.trans s2) hS2 (.cons (rv.mono s2) rvs)
/-- what was in the making becomes a place -/
theorem SR.unbanPush {ρ2 : Ro} {H2 : Hp} {S1 : Sg} {L : Addr} {ob : Ob} (hS2 : SR K H2 (ρ2.ban L) S1) (nL : L ∉ ρ2.pl) (nB : L ∉ ρ2.bn) (ho : OR K H2 (ρ2.push L) L ob) : SR K H2 (ρ2.push L) (S1 ++ [ob]) := by
  refine ⟨by show (ρ2.pl ++ [L]).length = _; rw [List.length_append, List.length_append, ← hS2.len]; rfl, ?_, fun a m => hS2.bn a (List.mem_cons_of_mem _ m), fun a m => ?_, fun j a w h1 h2 => ?_⟩
  · show (ρ2.pl ++ [L]).Nodup
    rw [List.nodup_append]
    refine ⟨hS2.nd, by simp, fun a ha b hb e => ?_⟩
    rw [List.mem_singleton] at hb
    subst hb; subst e
    exact nL ha
  · rcases List.mem_append.mp m with m | m
    · exact fun z => hS2.dj a m (List.mem_cons_of_mem _ z)
    · rw [List.mem_singleton.mp m]; exact nB
  · have h1 : (ρ2.pl ++ [L])[j]? = some a := h1
    have hl : ρ2.pl.length = S1.length := hS2.len
    by_cases hn : j < ρ2.pl.length
    · rw [List.getElem?_append_left hn] at h1
      rw [List.getElem?_append_left (by rw [← hl]; exact hn)] at h2
      exact (hS2.ob j a w h1 h2).map rfl fun vs ds r => r.banPush
    · have hj : j = ρ2.pl.length := by
        have := (List.getElem?_eq_some_iff.mp h1).1
        rw [List.length_append] at this
        simp at this
        omega
      subst hj
      rw [List.getElem?_append_right (Nat.le_refl _), Nat.sub_self] at h1
      rw [hl, List.getElem?_append_right (Nat.le_refl _), Nat.sub_self] at h2
      have h1' : L = a := Option.some.inj h1
      have h2' : ob = w := Option.some.inj h2
      subst h1'; subst h2'
      exact ho
def dicN (ks : List Str) (fs : List FE) : FE := fun δ S => (argsL fs δ S).bind fun p => if p.1.length = ks.length then some (.loc p.2.length, p.2 ++ [.dct ((ks.map Sum.inr).zip p.1)]) else none
theorem le_dicN {ks : List Str} {fs : List FE} (hn : ks.Nodup) (hl : ks.length = fs.length) (h15 : ks.length ≤ 15) : ∀ σ H Q, tD K (dicN ks fs) σ H Q → tDisp (dicTr (K := K) ks fs) σ H Q := by
  rintro σ H Q ⟨ρ, δ, S, d, S', hS, hσ, e, q⟩
  obtain ⟨⟨ds, S1⟩, e1, e⟩ := bnd e
  dsimp only at e
  split at e
  · rename_i hdl
    cases e
    intro p hp
    have np : p ∉ ρ.pl := hS.freshP hp
    have nb : p ∉ ρ.bn := fun m => hS.bn p m hp
    refine pairs_run hl (hS.ban (o := .dK []) hp) (hσ.ban hp) e1 fun vs H2 ρ2 s2 hS2 rvs => ?_
    obtain ⟨pl2, bn2⟩ := ρ2
    have hb2 : bn2 = p :: ρ.bn := s2.bn
    subst hb2
    have hkeep : H2 p = some (.dK []) := s2.keep p _ upd_same np
    have np2 : p ∉ pl2 := s2.ninP (upd_same (H := H) (a := p) (o := .dK [])) np
    have lv : ks.length = vs.length := by rw [rvs.len]; exact hdl.symm
    have k1 : ((ks.zip vs).map fun p => ((Sum.inr p.1 : Key), p.2)).map (·.1) = ks.map Sum.inr := by
      rw [List.map_map]
      show (ks.zip vs).map (fun p => (Sum.inr p.1 : Key)) = _
      rw [show (fun p : Str × V => (Sum.inr p.1 : Key)) = Sum.inr ∘ Prod.fst from rfl, ← List.map_map, List.map_fst_zip (by omega)]
    have k2 : ((ks.zip vs).map fun p => ((Sum.inr p.1 : Key), p.2)).map (·.2) = vs := by
      rw [List.map_map]
      show (ks.zip vs).map (fun p => p.2) = _
      rw [show (fun p : Str × V => p.2) = Prod.snd from rfl, List.map_snd_zip (by omega)]
    refine ⟨hkeep, (ks.zip vs).map fun p => ((Sum.inr p.1 : Key), p.2), ?_, ?_, ?_⟩
    · rw [List.map_map]; rfl
    · rw [List.length_map, List.length_zip]; omega
    · rw [mergeK_new _ [] (by rw [k1]; exact List.pairwise_map.mpr (hn.imp fun h z => h (Sum.inr.inj z))), List.nil_append]
      have mp : p ∈ ((⟨pl2, ρ.bn⟩ : Ro).ban p).bn := List.mem_cons_self ..
      have hS3 : SR K (upd H2 p (.dK ((ks.zip vs).map fun p => ((Sum.inr p.1 : Key), p.2)))) ((⟨pl2, ρ.bn⟩ : Ro).ban p) S1 := SR.banned hS2 mp np2
      have rv3 : RVs K (upd H2 p (.dK ((ks.zip vs).map fun p => ((Sum.inr p.1 : Key), p.2)))) ((⟨pl2, ρ.bn⟩ : Ro).ban p) vs ds := RVs.banned mp rvs
      have hpush := SR.unbanPush (ρ2 := ⟨pl2, ρ.bn⟩) (ob := .dct ((ks.map Sum.inr).zip ds)) hS3 np2 nb ⟨_, upd_same, by rw [k1, List.map_fst_zip (by rw [List.length_map]; omega)], by rw [k2, List.map_snd_zip (by rw [List.length_map]; omega)]; exact rv3.banPush⟩
      have st : Step ρ ((⟨pl2, ρ.bn⟩ : Ro).push p) H (upd H2 p (.dK ((ks.zip vs).map fun p => ((Sum.inr p.1 : Key), p.2)))) := by
        obtain ⟨nw, en, hf⟩ := s2.ext
        have en : pl2 = ρ.pl ++ nw := en
        refine ⟨⟨nw ++ [p], by show pl2 ++ [p] = _; rw [en, List.append_assoc], fun a m => ?_⟩, rfl, fun a o h1 h2 => ?_, fun a h1 => ?_⟩
        · rcases List.mem_append.mp m with m | m
          · have := hf a m
            by_cases c : a = p
            · rw [c]; exact hp
            · rw [upd_ne c] at this; exact this
          · rw [List.mem_singleton.mp m]; exact hp
        · have hap : a ≠ p := ne_of_none h1 hp
          rw [upd_ne hap]
          exact s2.keep a o (by rw [upd_ne hap]; exact h1) h2
        · by_cases c : a = p
          · rw [c]; exact hp
          · rw [upd_ne c] at h1
            have := s2.dom a h1
            rw [upd_ne c] at this
            exact this
      refine q _ _ _ st hpush (.loc ?_)
      show (pl2 ++ [p])[S1.length]? = some p
      have hl2 : pl2.length = S1.length := hS2.len
      rw [← hl2, List.getElem?_append_right (Nat.le_refl _), Nat.sub_self]
      rfl
  · cases e
end
section
variable {X : Cx} {pos : Pos}
theorem jdN {keys : List (Option Expr)} {values : List Expr} {ks : List Str} {fs : List FE} (h : PPs X pos keys values (dicTr (K := X.K) ks fs)) (hall : keys.all (·.isSome) = true := by rfl) (hl : keys.length = values.length := by rfl) (h0 : keys ≠ [] := by simp)
    (h15 : keys.length ≤ 15 := by decide) (hn : ks.Nodup := by decide +kernel) (hk : ks.length = fs.length := by rfl) (hk15 : ks.length ≤ 15 := by decide) : JE X (.Dict keys values pos) (dicN ks fs) := PE.imp (pe_disp h hall hl h0 h15) (le_dicN hn hk hk15)
theorem jdkN {k : Str} {j} {ks : List (Option Expr)} {v : Expr} {vs : List Expr} {f : FE} {ks' : List Str} {fs' : List FE} {p2 : Pos} (hv : JE X v f) (hr : PPs X pos ks vs (dicTr (K := X.K) ks' fs')) : PPs X pos (some (.Constant (.str k) j p2) :: ks) (v :: vs) (dicTr (K := X.K) (k :: ks') (f :: fs')) := pps_cons pe_str hv hr
theorem jdknilN : PPs X pos [] [] (dicTr (K := X.K) [] []) := pps_nil
end
theorem r_dicN {δ : Dl} {S S1 : Sg} {ks : List Str} {fs : List FE} {ds : List D} (h : argsL fs δ S = some (ds, S1)) (hl : ds.length = ks.length) : dicN ks fs δ S = some (.loc S1.length, S1 ++ [.dct ((ks.map Sum.inr).zip ds)]) := by
  unfold dicN
  rw [h, Option.bind_some]
  dsimp only
  rw [if_pos hl]
end DL
end
noncomputable section
namespace DL
open PySem L2
/-! ### a dict that is written down and will be changed -/
/-! dict(xs) of a list of pairs -/
def pairsG : List D → Option (List (Key × D))
  | [] => some []
  | .tup [a, b] :: r => (keyOf a).bind fun k => (pairsG r).bind fun gs => some ((k, b) :: gs)
  | _ => none
def mergeG (gs more : List (Key × D)) : List (Key × D) := more.foldl (fun acc kv => putG acc kv.1 kv.2) gs
def dictP : OC := fun ds S => match ds with
  | [.lst xs] => (pairsG xs).bind fun gs => some (.loc S.length, S ++ [.dct (mergeG [] gs)])
  | _ => none
section
variable {K : PySem.W.Frag} {H : Hp} {ρ : Ro}
theorem pairsG_rd : ∀ {xs : List D} {vs : List V} {gs : List (Key × D)}, RVs K H ρ vs xs → pairsG xs = some gs → ∃ (ps : List Addr) (kvs : List (Key × V)), vs = ps.map V.ref ∧ Paired (fun p kv => SqT K H p [kV kv.1, kv.2]) ps kvs ∧ DR K H ρ kvs gs
  | [], _, _, r, h => by
    cases r
    cases h
    exact ⟨[], [], rfl, .nil, rfl, .nil⟩
  | x :: xs, vs, gs, r, h => by
    cases r with
    | cons rx rr =>
      unfold pairsG at h
      split at h
      · rename_i e; cases e
      · rename_i a b r' e
        cases e
        obtain ⟨k, hk, h⟩ := bnd h
        obtain ⟨gs', hg, h⟩ := bnd h
        cases h
        obtain ⟨ps, kvs, rfl, hp, hd⟩ := pairsG_rd rr hg
        cases rx with
        | tup h1 n r2 =>
          cases r2 with
          | cons ra r3 =>
            cases r3 with
            | cons rb r4 =>
              cases r4
              have := keyOf_rv ra hk
              subst this
              refine ⟨_ :: ps, (k, _) :: kvs, rfl, .cons (.inl (.inl h1)) hp, ?_, ?_⟩
              · show k :: kvs.map (·.1) = k :: gs'.map (·.1)
                rw [hd.ks]
              · exact .cons rb hd.vs
      · cases h
theorem DR.merge : ∀ {more : List (Key × V)} {more' : List (Key × D)} {kvs : List (Key × V)} {gs : List (Key × D)}, DR K H ρ more more' → DR K H ρ kvs gs → DR K H ρ (mergeK kvs more) (mergeG gs more')
  | [], [], _, _, _, q => q
  | [], _ :: _, _, _, r, _ => by have := r.len; cases this
  | _ :: _, [], _, _, r, _ => by have := r.len; cases this
  | p :: more, p' :: more', kvs, gs, r, q => by
    obtain ⟨k, v⟩ := p
    obtain ⟨k', d⟩ := p'
    have hk : k = k' := (List.cons.inj r.ks).1
    subst hk
    have hvs := r.vs
    rw [List.map_cons, List.map_cons] at hvs
    cases hvs with
    | cons h1 h2 => exact DR.merge (more := more) (more' := more') ⟨(List.cons.inj r.ks).2, h2⟩ (q.put h1)
theorem cbD_dictP : CbD K (fun xs H Q => ∃ (a : Addr) (ps : List Addr) (kvs : List (Key × V)), xs = [.ref a] ∧ SqL K H a (ps.map V.ref) ∧ Paired (fun p kv => SqT K H p [kV kv.1, kv.2]) ps kvs ∧
    ∀ p, H p = none → Q (.ref p) (upd H p (.dK (mergeK [] kvs)))) dictP := by
  intro xs H Q ρ S ds z S' hS rs eq q
  unfold dictP at eq
  split at eq
  · cases rs with | cons rx rn => ?_
    cases rn
    obtain ⟨gs, e, eq⟩ := bnd eq
    cases eq
    cases rx with
    | lst h1 n r =>
      obtain ⟨ps, kvs, rfl, hp, hd⟩ := pairsG_rd r e
      refine ⟨_, ps, kvs, rfl, .inl (.inl h1), hp, fun p hq => ?_⟩
      have st := Step.push hS (o := .dK (mergeK [] kvs)) hq
      have r' := (DR.merge hd (kvs := []) (gs := []) ⟨rfl, .nil⟩).mono st
      refine q _ _ _ st (hS.push hq ⟨mergeK [] kvs, upd_same, r'.ks, r'.vs⟩) (.loc ?_)
      show (ρ.pl ++ [p])[S.length]? = some p
      rw [← hS.len, List.getElem?_append_right (Nat.le_refl _), Nat.sub_self]
      rfl
  · cases eq
theorem v_dictP {S : Sg} {xs : List D} {gs : List (Key × D)} (h : pairsG xs = some gs) : dictP [.lst xs] S = some (.loc S.length, S ++ [.dct (mergeG [] gs)]) := by
  show (pairsG xs).bind _ = _
  rw [h]
  rfl
end
end DL
end
noncomputable section
namespace DL
open PySem L2
/-! o[k] = v of a dict, as a target -/
def setDO : OSt := fun d e z S => match d with
  | .loc n => match S[n]? with
    | some (.dct gs) => if Fits gs.length then (keyOf e).bind fun k => some (S.set n (.dct (putG gs k z))) else none
    | _ => none
  | _ => none
section
variable {K : PySem.W.Frag}
theorem stD_D : StD K rSetD setDO := by
  intro o i v H Q ρ S d e z S' hS ro ri rv eq q
  unfold setDO at eq
  split at eq
  · rename_i n
    split at eq
    · rename_i gs hg
      split at eq
      · rename_i hfit
        obtain ⟨k, e4, eq⟩ := bnd eq
        cases eq
        cases ro with
        | @loc a _ hn =>
          obtain ⟨fs, h1, h2, h3⟩ := hS.ob _ _ _ hn hg
          have dr : DR K H ρ fs gs := ⟨h2, h3⟩
          obtain rfl := keyOf_rv ri e4
          have st : Step ρ ρ H (upd H a (.dK (putK fs k v))) := Step.write hn h1
          have dp := (dr.put (k := k) rv).mono st
          refine ⟨a, upd H a (.dK (putK fs k v)), rfl, .inl ⟨fs, k, h1, rfl, by rw [dr.len]; exact hfit.lt, rfl⟩, ?_⟩
          exact q _ st (hS.write hn ⟨_, h1⟩ ⟨_, upd_same, dp.ks, dp.vs⟩)
      · cases eq
    · cases eq
  · cases eq
theorem v_setDc {S : Sg} {n : Nat} {y z : D} {gs : List (Key × D)} {k : Key} (h : S[n]? = some (.dct gs)) (l : gs.length < 1000000) (hk : keyOf y = some k) : setDO (.loc n) y z S = some (S.set n (.dct (putG gs k z))) := by
  unfold setDO
  dsimp only
  rw [h]
  dsimp only
  rw [if_pos ((fits_iff _).mpr l), hk]
  rfl
end
end DL
end
noncomputable section
namespace DL
open PySem L2
/-! ### walking forward: what holds of a piece's answer -/
def W {α : Type} (o : Option (α × Sg)) (Q : α → Sg → Prop) : Prop := ∃ d S', o = some (d, S') ∧ Q d S'
def Wd (dds : List D) (o : Option (List D × Sg)) (Q : List D → Sg → Prop) : Prop := W o fun ds S => Q (ds ++ dds) S
def WS (o : Option (Fl × Dl × Sg)) (Q : Fl → Dl → Sg → Prop) : Prop := ∃ r δ' S', o = some (r, δ', S') ∧ Q r δ' S'
def WG (o : Option (Dl × Sg)) (Q : Dl → Sg → Prop) : Prop := ∃ δ' S', o = some (δ', S') ∧ Q δ' S'
/-- a truth -/
def TB (d : D) (P : Bool → Prop) : Prop := ∃ b, d = .bl b ∧ P b
def Br (q : Bool) (A B : Prop) : Prop := (q = true → A) ∧ (q = false → B)
theorem tb {b : Bool} {P : Bool → Prop} (h : P b) : TB (.bl b) P := ⟨b, rfl, h⟩
theorem br_t {q : Bool} {A B : Prop} (h : q = true) (a : A) : Br q A B := ⟨fun _ => a, fun e => absurd (h.symm.trans e) (by decide)⟩
theorem br_f {q : Bool} {A B : Prop} (h : q = false) (b : B) : Br q A B := ⟨fun e => absurd (h.symm.trans e) (by decide), fun _ => b⟩
theorem br_c {q : Bool} {A B : Prop} (a : q = true → A) (b : q = false → B) : Br q A B := ⟨a, b⟩
theorem br_d {p : Prop} [Decidable p] {A B : Prop} (a : p → A) (b : ¬ p → B) : Br (decide p) A B := ⟨fun h => a (of_decide_eq_true h), fun h => b (of_decide_eq_false h)⟩
theorem br_tr {A B : Prop} (a : A) : Br true A B := br_t rfl a
theorem br_fa {A B : Prop} (b : B) : Br false A B := br_f rfl b
section
variable {δ : Dl} {S S1 : Sg}
section
variable {Q : D → Sg → Prop}
theorem w_ex {α : Type} {o : Option (α × Sg)} {d : α} {Q : α → Sg → Prop} (e : o = some (d, S1)) (q : Q d S1) : W o Q := ⟨_, _, e, q⟩
theorem w_imp {α : Type} {o : Option (α × Sg)} {Q Q' : α → Sg → Prop} (h : W o Q') (k : ∀ d S, Q' d S → Q d S) : W o Q := by
  obtain ⟨d, S1, e, q⟩ := h
  exact ⟨d, S1, e, k _ _ q⟩
theorem ws_imp {o : Option (Fl × Dl × Sg)} {Q Q' : Fl → Dl → Sg → Prop} (h : WS o Q') (k : ∀ r δ S, Q' r δ S → Q r δ S) : WS o Q := by
  obtain ⟨r, δ', S1, e, q⟩ := h
  exact ⟨r, δ', S1, e, k _ _ _ q⟩
theorem w_c {d : D} (q : Q d S) : W (cD d δ S) Q := ⟨_, _, rfl, q⟩
theorem w_v {i : Nat} {d : D} (h : δ[i]? = some (some d)) (q : Q d S) : W (varD i δ S) Q := ⟨_, _, r_v h, q⟩
theorem w_op2 {o : O2} {f g : FE} (h : W (f δ S) fun x S1 => W (g δ S1) fun y S2 => W (o x y S2) Q) : W (op2D o f g δ S) Q := by
  obtain ⟨x, S1, e1, y, S2, e2, z, S3, e3, q⟩ := h
  exact ⟨_, _, r_op2 e1 e2 e3, q⟩
theorem w_op1 {o : O1} {f : FE} (h : W (f δ S) fun x S1 => W (o x S1) Q) : W (op1D o f δ S) Q := by
  obtain ⟨x, S1, e1, z, S3, e3, q⟩ := h
  exact ⟨_, _, r_op1 e1 e3, q⟩
theorem w_nil {Q : List D → Sg → Prop} (q : Q [] S) : W (nilA δ S) Q := ⟨_, _, rfl, q⟩
theorem w_cons {f : FE} {g : FA} {Q : List D → Sg → Prop} (h : W (f δ S) fun x S1 => W (g δ S1) fun xs S2 => Q (x :: xs) S2) : W (consA f g δ S) Q := by
  obtain ⟨x, S1, e1, y, S2, e2, q⟩ := h
  exact ⟨_, _, r_cons e1 e2, q⟩
theorem w_one {f : FE} {Q : List D → Sg → Prop} (h : W (f δ S) fun x S1 => Q [x] S1) : W (oneA f δ S) Q := by
  obtain ⟨x, S1, e1, q⟩ := h
  exact ⟨_, _, r_one e1, q⟩
theorem wd_nil {dds : List D} {Q : List D → Sg → Prop} (q : Q dds S) : Wd dds (nilA δ S) Q := ⟨_, _, rfl, q⟩
theorem wd_cons {dds : List D} {f : FE} {g : FA} {Q : List D → Sg → Prop} (h : W (f δ S) fun x S1 => Wd dds (g δ S1) fun xs S2 => Q (x :: xs) S2) : Wd dds (consA f g δ S) Q := by
  obtain ⟨x, S1, e1, y, S2, e2, q⟩ := h
  exact ⟨_, _, r_cons e1 e2, q⟩
theorem w_tup {f : FA} (h : W (f δ S) fun ds S1 => ds.length < 1000000 ∧ Q (.tup ds) S1) : W (tupD f δ S) Q := by
  obtain ⟨x, S1, e1, l, q⟩ := h
  exact ⟨_, _, r_tup e1 l, q⟩
theorem w_lst {f : FA} (h : W (f δ S) fun ds S1 => ds.length < 1000000 ∧ Q (.lst ds) S1) : W (lstD f δ S) Q := by
  obtain ⟨x, S1, e1, l, q⟩ := h
  exact ⟨_, _, r_lst e1 l, q⟩
theorem w_cb {o : OC} {f : FA} (h : W (f δ S) fun ds S1 => W (o ds S1) Q) : W (cbD o f δ S) Q := by
  obtain ⟨x, S1, e1, z, S3, e3, q⟩ := h
  exact ⟨_, _, r_cb e1 e3, q⟩
theorem w_fn {F : Fn} {dds : List D} {f : FA} (h : Wd dds (f δ S) fun ds S1 => W (F ds S1) Q) : W (fnD F dds f δ S) Q := by
  obtain ⟨x, S1, e1, z, S3, e3, q⟩ := h
  exact ⟨_, _, r_fn e1 rfl e3, q⟩
theorem w_fnK {F : Fn} {src : List Sr} {dds : List D} {f g : FA} (h : W (f δ S) fun ds S1 => W (g δ S1) fun es S2 => W (F (pickS src ds es dds) S2) Q) : W (fnK F src dds f g δ S) Q := by
  obtain ⟨x, S1, e1, y, S2, e2, z, S3, e3, q⟩ := h
  exact ⟨_, _, r_fnK e1 e2 rfl e3, q⟩
theorem w_bm {ok : Sg → D → Bool} {o : OM} {fa : FE} {f : FA} (h : W (fa δ S) fun d S1 => ok S1 d = true ∧ W (f δ S1) fun ds S2 => W (o d ds S2) Q) : W (bmD ok o fa f δ S) Q := by
  obtain ⟨x, S1, e1, k, y, S2, e2, z, S3, e3, q⟩ := h
  exact ⟨_, _, r_bm e1 k e2 e3, q⟩
theorem w_fld {C : Addr} {f : Str} {fa : FE} (h : W (fa δ S) fun d S1 => ∃ gs x, fsOf S1 C d = some gs ∧ gs.lookup f = some x ∧ Q x S1) : W (fldD C f fa δ S) Q := by
  obtain ⟨x, S1, e1, gs, y, e2, e3, q⟩ := h
  exact ⟨_, _, r_fld e1 e2 e3, q⟩
theorem w_meth {C : Addr} {m : Str} {F : Fn} {dds : List D} {fa : FE} {f : FA} (h : W (fa δ S) fun d S1 => ∃ gs, fsOf S1 C d = some gs ∧ gs.lookup m = none ∧ Wd dds (f δ S1) fun ds S2 => W (F (d :: ds) S2) Q) : W (methD C m F dds fa f δ S) Q := by
  obtain ⟨x, S1, e1, gs, e2, e3, y, S2, e4, z, S3, e5, q⟩ := h
  exact ⟨_, _, r_meth e1 e2 e3 e4 rfl e5, q⟩
theorem w_andV {f g : FE} (h : W (f δ S) fun d S1 => TB d fun q => Br q (W (g δ S1) Q) (Q (.bl false) S1)) : W (andV f g δ S) Q := by
  obtain ⟨x, S1, e1, q, rfl, a, b⟩ := h
  cases q with
  | true =>
    obtain ⟨z, S2, e2, k⟩ := a rfl
    exact ⟨_, _, r_andV e1 (i_y rfl e2), k⟩
  | false => exact ⟨_, _, r_andV e1 (i_n rfl rfl), b rfl⟩
theorem w_orV {f g : FE} (h : W (f δ S) fun d S1 => TB d fun q => Br q (Q (.bl true) S1) (W (g δ S1) Q)) : W (orV f g δ S) Q := by
  obtain ⟨x, S1, e1, q, rfl, a, b⟩ := h
  cases q with
  | true => exact ⟨_, _, r_orV e1 (i_y rfl rfl), a rfl⟩
  | false =>
    obtain ⟨z, S2, e2, k⟩ := b rfl
    exact ⟨_, _, r_orV e1 (i_n rfl e2), k⟩
theorem w_notV {f : FE} (h : W (f δ S) fun d S1 => TB d fun q => Q (.bl (!q)) S1) : W (notV f δ S) Q := by
  obtain ⟨x, S1, e1, q, rfl, k⟩ := h
  exact ⟨_, _, r_notV e1, k⟩
theorem w_ite {c : FT} {f g : FE} (h : W (c δ S) fun q S1 => Br q (W (f δ S1) Q) (W (g δ S1) Q)) : W (iteV c f g δ S) Q := by
  obtain ⟨q, S1, e1, a, b⟩ := h
  cases q with
  | true =>
    obtain ⟨z, S2, e2, k⟩ := a rfl
    exact ⟨_, _, r_ite e1 (i_y rfl e2), k⟩
  | false =>
    obtain ⟨z, S2, e2, k⟩ := b rfl
    exact ⟨_, _, r_ite e1 (i_n rfl e2), k⟩
theorem w_chain {o o' : O2} {f g h : FE} (e : W (f δ S) fun x S1 => W (g δ S1) fun y S2 => W (o x y S2) fun z S3 => TB z fun q => Br q (W (h δ S3) fun w S4 => W (o' y w S4) Q) (Q (.bl false) S3)) : W (chainD o o' f g h δ S) Q := by
  obtain ⟨x, S1, e1, y, S2, e2, z, S3, e3, q, rfl, a, b⟩ := e
  cases q with
  | true =>
    obtain ⟨w, S4, e4, v, S5, e5, k⟩ := a rfl
    refine ⟨v, S5, ?_, k⟩
    rw [chainD_ap, e1, bd_some, e2, bd_some]
    dsimp only
    rw [e3, bd_some]
    dsimp only
    rw [isB_bl, bd_some, if_pos rfl, e4, bd_some]
    exact e5
  | false =>
    refine ⟨_, _, ?_, b rfl⟩
    rw [chainD_ap, e1, bd_some, e2, bd_some]
    dsimp only
    rw [e3]
    rfl
theorem w_sl {o : O3} {f : FE} {g h : FO} (e : W (f δ S) fun x S1 => W (g δ S1) fun lo S2 => W (h δ S2) fun hi S3 => W (o x lo hi S3) Q) : W (slD o f g h δ S) Q := by
  obtain ⟨x, S1, e1, lo, S2, e2, hi, S3, e3, z, S4, e4, q⟩ := e
  exact ⟨_, _, r_sl e1 e2 e3 e4, q⟩
theorem w_noO {Q : Option Int → Sg → Prop} (q : Q none S) : W (noO δ S) Q := ⟨_, _, rfl, q⟩
theorem w_someO {f : FE} {Q : Option Int → Sg → Prop} (h : W (f δ S) fun d S1 => ∃ i, d = .int i ∧ Q (some i) S1) : W (someO f δ S) Q := by
  obtain ⟨x, S1, e1, i, rfl, q⟩ := h
  exact ⟨_, _, r_someO e1, q⟩
end
section
variable {Q : Bool → Sg → Prop}
theorem w_tv {f : FE} (h : W (f δ S) fun d S1 => TB d fun q => Q q S1) : W (tvD f δ S) Q := by
  obtain ⟨x, S1, e1, q, rfl, k⟩ := h
  exact ⟨_, _, r_tv e1, k⟩
theorem w_tru {f : FE} (h : W (f δ S) fun d S1 => ∃ q, truB S1 d = some q ∧ Q q S1) : W (truD f δ S) Q := by
  obtain ⟨x, S1, e1, q, e2, k⟩ := h
  exact ⟨_, _, r_tru e1 e2, k⟩
theorem w_not {f : FT} (h : W (f δ S) fun q S1 => Q (!q) S1) : W (notD f δ S) Q := by
  obtain ⟨x, S1, e1, k⟩ := h
  exact ⟨_, _, r_not e1, k⟩
theorem w_and {f g : FT} (h : W (f δ S) fun q S1 => Br q (W (g δ S1) Q) (Q false S1)) : W (andD f g δ S) Q := by
  obtain ⟨q, S1, e1, a, b⟩ := h
  cases q with
  | true =>
    obtain ⟨z, S2, e2, k⟩ := a rfl
    exact ⟨_, _, r_and e1 (i_y rfl e2), k⟩
  | false => exact ⟨_, _, r_and e1 (i_n rfl rfl), b rfl⟩
theorem w_or {f g : FT} (h : W (f δ S) fun q S1 => Br q (Q true S1) (W (g δ S1) Q)) : W (orD f g δ S) Q := by
  obtain ⟨q, S1, e1, a, b⟩ := h
  cases q with
  | true => exact ⟨_, _, r_or e1 (i_y rfl rfl), a rfl⟩
  | false =>
    obtain ⟨z, S2, e2, k⟩ := b rfl
    exact ⟨_, _, r_or e1 (i_n rfl e2), k⟩
theorem w_yes (q : Q true S) : W (yesT δ S) Q := ⟨_, _, rfl, q⟩
end
/-! statements -/
section
variable {Q : Fl → Dl → Sg → Prop}
/-- what comes behind a statement -/
def Nx (Q : Fl → Dl → Sg → Prop) (g : Dl → Sg → Prop) : Fl → Dl → Sg → Prop := fun r δ S => match r with
  | .nx => g δ S
  | _ => Q r δ S
theorem nx_nx {g : Dl → Sg → Prop} (h : g δ S) : Nx Q g .nx δ S := h
theorem nx_rt {g : Dl → Sg → Prop} {d : D} (h : Q (.rt d) δ S) : Nx Q g (.rt d) δ S := h
theorem nx_bk {g : Dl → Sg → Prop} (h : Q .bk δ S) : Nx Q g .bk δ S := h
theorem nx_ct {g : Dl → Sg → Prop} (h : Q .ct δ S) : Nx Q g .ct δ S := h
theorem ws_ex {o : Option (Fl × Dl × Sg)} {r : Fl} {δ1 : Dl} (e : o = some (r, δ1, S1)) (q : Q r δ1 S1) : WS o Q := ⟨_, _, _, e, q⟩
theorem w_seq {f g : FS} (h : WS (f δ S) (Nx Q fun δ1 S1 => WS (g δ1 S1) Q)) : WS (seqS f g δ S) Q := by
  obtain ⟨r, δ1, S1, e, k⟩ := h
  cases r with
  | nx =>
    obtain ⟨r2, δ2, S2, e2, k2⟩ := k
    exact ⟨r2, δ2, S2, r_seq e e2, k2⟩
  | rt d => exact ⟨_, _, _, by rw [seqS_ap, e]; rfl, k⟩
  | bk => exact ⟨_, _, _, by rw [seqS_ap, e]; rfl, k⟩
  | ct => exact ⟨_, _, _, by rw [seqS_ap, e]; rfl, k⟩
theorem w_next (q : Q .nx δ S) : WS (nextS δ S) Q := ⟨_, _, _, rfl, q⟩
theorem w_break (q : Q .bk δ S) : WS (breakS δ S) Q := ⟨_, _, _, rfl, q⟩
theorem w_cont (q : Q .ct δ S) : WS (contS δ S) Q := ⟨_, _, _, rfl, q⟩
theorem w_drop {f : FE} (h : W (f δ S) fun _ S1 => Q .nx δ S1) : WS (dropS f δ S) Q := by
  obtain ⟨d, S1, e, k⟩ := h
  exact ⟨_, _, _, r_drop e, k⟩
theorem w_set {i : Nat} {f : FE} (h : W (f δ S) fun d S1 => Q .nx (δ.set i (some d)) S1) : WS (setS i f δ S) Q := by
  obtain ⟨d, S1, e, k⟩ := h
  exact ⟨_, _, _, r_set e, k⟩
theorem w_par2 {i j : Nat} {f : FA} (h : W (f δ S) fun ds S1 => ∃ x y, ds = [x, y] ∧ Q .nx ((δ.set i (some x)).set j (some y)) S1) : WS (parS i j f δ S) Q := by
  obtain ⟨_, S1, e, x, y, rfl, k⟩ := h
  exact ⟨_, _, _, r_par2 e, k⟩
theorem w_par3 {i j l : Nat} {f : FA} (h : W (f δ S) fun ds S1 => ∃ x y z, ds = [x, y, z] ∧ Q .nx (((δ.set i (some x)).set j (some y)).set l (some z)) S1) : WS (parS3 i j l f δ S) Q := by
  obtain ⟨_, S1, e, x, y, z, rfl, k⟩ := h
  exact ⟨_, _, _, r_par3 e, k⟩
theorem w_asg {f : FE} {g : FG} (h : W (f δ S) fun d S1 => WG (g d δ S1) fun δ1 S2 => Q .nx δ1 S2) : WS (asgS f g δ S) Q := by
  obtain ⟨d, S1, e, δ1, S2, e2, k⟩ := h
  exact ⟨_, _, _, r_asg e e2, k⟩
theorem w_nmG {i : Nat} {d : D} {Q : Dl → Sg → Prop} (q : Q (δ.set i (some d)) S) : WG (nmG i d δ S) Q := ⟨_, _, rfl, q⟩
theorem w_tupG {n : Nat} {u : FGs} {ds : List D} {Q : Dl → Sg → Prop} (h : ds.length = n) (k : WG (u ds δ S) Q) : WG (tupG n u (.tup ds) δ S) Q := by
  obtain ⟨δ1, S1, e, q⟩ := k
  exact ⟨_, _, r_tupG h e, q⟩
theorem w_consG {t : FG} {u : FGs} {d : D} {ds : List D} {Q : Dl → Sg → Prop} (h : WG (t d δ S) fun δ1 S1 => WG (u ds δ1 S1) Q) : WG (consG t u (d :: ds) δ S) Q := by
  obtain ⟨δ1, S1, e, δ2, S2, e2, q⟩ := h
  exact ⟨_, _, r_consG e e2, q⟩
theorem w_nilG {Q : Dl → Sg → Prop} (q : Q δ S) : WG (nilG [] δ S) Q := ⟨_, _, rfl, q⟩
theorem w_subG {o : OSt} {fo fi : FE} {d : D} {Q : Dl → Sg → Prop} (h : W (fo δ S) fun a S1 => W (fi δ S1) fun b S2 => ∃ S3, o a b d S2 = some S3 ∧ Q δ S3) : WG (subG o fo fi d δ S) Q := by
  obtain ⟨a, S1, e1, b, S2, e2, S3, e3, q⟩ := h
  exact ⟨_, _, r_subG e1 e2 e3, q⟩
theorem w_ret {f : FE} (h : W (f δ S) fun d S1 => Q (.rt d) δ S1) : WS (retS f δ S) Q := by
  obtain ⟨d, S1, e, k⟩ := h
  exact ⟨_, _, _, r_ret e, k⟩
theorem w_retN (q : Q (.rt .non) δ S) : WS (retNS δ S) Q := ⟨_, _, _, rfl, q⟩
theorem w_if {c : FT} {g h : FS} (k : W (c δ S) fun q S1 => Br q (WS (g δ S1) Q) (WS (h δ S1) Q)) : WS (ifS c g h δ S) Q := by
  obtain ⟨q, S1, e1, a, b⟩ := k
  cases q with
  | true =>
    obtain ⟨r, δ2, S2, e2, k⟩ := a rfl
    exact ⟨_, _, _, r_if e1 (i_y rfl e2), k⟩
  | false =>
    obtain ⟨r, δ2, S2, e2, k⟩ := b rfl
    exact ⟨_, _, _, r_if e1 (i_n rfl e2), k⟩
theorem w_aug {i : Nat} {f : FE} {o : O2} {a : D} (h : δ[i]? = some (some a)) (k : W (f δ S) fun b S1 => W (o a b S1) fun x S2 => Q .nx (δ.set i (some x)) S2) : WS (augS i f o δ S) Q := by
  obtain ⟨b, S1, e1, x, S2, e2, q⟩ := k
  exact ⟨_, _, _, r_aug h e1 e2, q⟩
theorem w_fldS {C : Addr} {f : Str} {fa fv : FE} (h : W (fv δ S) fun y S1 => W (fa δ S1) fun d S2 => ∃ n gs, d = .loc n ∧ S2[n]? = some (.ins C gs) ∧ gs.length < 1000 ∧ Q .nx δ (S2.set n (.ins C (putD f y gs)))) : WS (fldS C f fa fv δ S) Q := by
  obtain ⟨y, S1, e1, _, S2, e2, n, gs, rfl, e3, l, q⟩ := h
  exact ⟨_, _, _, r_fldS e1 e2 e3 l, q⟩
/-- a def's end -/
def Bd (φ : Nat → D → Sg → Option (D × Sg)) (n : Nat) (Q : D → Sg → Prop) : Fl → Dl → Sg → Prop := fun r _ S1 => match r with
  | .rt d => W (φ n d S1) Q
  | .nx => W (φ n .non S1) Q
  | _ => False
theorem bd_rt {φ : Nat → D → Sg → Option (D × Sg)} {n : Nat} {d : D} {Q : D → Sg → Prop} (h : W (φ n d S) Q) : Bd φ n Q (.rt d) δ S := h
theorem bd_nx {φ : Nat → D → Sg → Option (D × Sg)} {n : Nat} {Q : D → Sg → Prop} (h : W (φ n .non S) Q) : Bd φ n Q .nx δ S := h
theorem w_body {φ : Nat → D → Sg → Option (D × Sg)} {n : Nat} {body : FS} {ds : List D} {Q : D → Sg → Prop}
    (h : WS (body (ds.map some ++ List.replicate (n - ds.length) none) (S ++ [])) (Bd φ S.length Q)) : W (bodyF φ n body ds S) Q := by
  rw [List.append_nil] at h
  obtain ⟨r, δ1, S1, e, k⟩ := h
  cases r with
  | rt d =>
    obtain ⟨x, S2, e2, q⟩ := k
    exact ⟨x, S2, r_body e e2, q⟩
  | nx =>
    obtain ⟨x, S2, e2, q⟩ := k
    exact ⟨x, S2, r_bodyN e e2, q⟩
  | bk => exact k.elim
  | ct => exact k.elim
/-! loops -/
/-- what a turn of a loop leaves -/
def Tn (Q : Fl → Dl → Sg → Prop) (I : Dl → Sg → Prop) : Fl → Dl → Sg → Prop := fun r δ S => match r with
  | .nx => I δ S
  | .ct => I δ S
  | .bk => Q .nx δ S
  | .rt d => Q (.rt d) δ S
theorem tn_nx {I : Dl → Sg → Prop} (h : I δ S) : Tn Q I .nx δ S := h
theorem tn_ct {I : Dl → Sg → Prop} (h : I δ S) : Tn Q I .ct δ S := h
theorem tn_bk {I : Dl → Sg → Prop} (h : Q .nx δ S) : Tn Q I .bk δ S := h
theorem tn_rt {I : Dl → Sg → Prop} {d : D} (h : Q (.rt d) δ S) : Tn Q I (.rt d) δ S := h
theorem forGo_w {k : Ik} {ds items : List D} {g : FG} {body : FS} (I : Nat → Dl → Sg → Prop) (hk : ∀ i δ S, I i δ S → k ds S = some items)
    (hs : ∀ i d δ S, items[i]? = some d → I i δ S → WG (g d δ S) fun δ1 S1 => WS (body δ1 S1) (Tn Q (I (i + 1)))) (hq : ∀ δ S, I items.length δ S → Q .nx δ S) :
    ∀ (r : List D) (i : Nat) (δ : Dl) (S : Sg), items.drop i = r → i ≤ items.length → I i δ S → WS (forGo k ds items g body r δ S) Q
  | [], i, δ, S, hd, hi, p => by
    have : items.length ≤ i := by
      have h := congrArg List.length hd
      rw [List.length_drop] at h
      simp at h
      omega
    have e : i = items.length := by omega
    subst e
    exact ⟨_, _, _, forGo_nil (hk _ _ _ p), hq _ _ p⟩
  | d :: r, i, δ, S, hd, hi, p => by
    have hd' : items[i]? = some d := by
      have := congrArg (fun l => l[0]?) hd
      simpa using this
    have hr : items.drop (i + 1) = r := by
      have := congrArg List.tail hd
      simpa using this
    have hi' : i + 1 ≤ items.length := (List.getElem?_eq_some_iff.mp hd').1
    obtain ⟨δ1, S1, e1, fl, δ2, S2, e2, q⟩ := hs i d δ S hd' p
    have e3 : stepFor g body d δ S = some (fl, δ2, S2) := st_for e1 e2
    cases fl with
    | nx =>
      obtain ⟨r3, δ3, S3, e4, q4⟩ := forGo_w I hk hs hq r (i + 1) δ2 S2 hr hi' q
      exact ⟨_, _, _, (forGo_cons (hk i δ S p) e3).trans e4, q4⟩
    | ct =>
      obtain ⟨r3, δ3, S3, e4, q4⟩ := forGo_w I hk hs hq r (i + 1) δ2 S2 hr hi' q
      refine ⟨_, _, _, Eq.trans ?_ e4, q4⟩
      rw [forGo, if_pos (hk i δ S p), e1, Option.bind_some]
      dsimp only
      rw [e2]
      rfl
    | bk =>
      refine ⟨_, _, _, ?_, q⟩
      rw [forGo, if_pos (hk i δ S p), e1, Option.bind_some]
      dsimp only
      rw [e2]
      rfl
    | rt x =>
      refine ⟨_, _, _, ?_, q⟩
      rw [forGo, if_pos (hk i δ S p), e1, Option.bind_some]
      dsimp only
      rw [e2]
      rfl
end
end
end DL
end
noncomputable section
namespace DL
open PySem L2
section
variable {δ : Dl} {S S1 : Sg}
/-! ### loops over typed lists, forward -/
theorem w_forT {α : Type} {k : Ik} {f : FA} {g : FG} {body : FS} {Q : Fl → Dl → Sg → Prop} {ds : List D} (xs : List α) (e : α → D) (I : List α → Dl → Sg → Prop)
    (hf : W (f δ S) fun ds' S1 => ds' = ds ∧ I [] δ S1) (hk : ∀ r δ S, I r δ S → k ds S = some (xs.map e))
    (hs : ∀ pre x post δ S, xs = pre ++ x :: post → I pre δ S → WG (g (e x) δ S) fun δ1 S1 => WS (body δ1 S1) (Tn Q (I (pre ++ [x]))))
    (hq : ∀ δ S, I xs δ S → Q .nx δ S) : WS (forS k f g body δ S) Q := by
  obtain ⟨ds', S1, hf, eds, h0⟩ := hf
  rw [eds] at hf
  have main := forGo_w (Q := Q) (k := k) (items := xs.map e) (g := g) (body := body) (fun i δ S => I (xs.take i) δ S) (fun i δ S p => hk _ δ S p)
    (fun i d δ S hi p => by
      rw [List.getElem?_map] at hi
      cases hx : xs[i]? with
      | none => rw [hx] at hi; cases hi
      | some x =>
        rw [hx] at hi
        cases hi
        have hil := (List.getElem?_eq_some_iff.mp hx).1
        have e1 : xs = xs.take i ++ x :: xs.drop (i + 1) := by
          have := List.take_append_drop i xs
          rw [List.drop_eq_getElem_cons hil] at this
          rw [(List.getElem?_eq_some_iff.mp hx).2] at this
          exact this.symm
        have e2 : xs.take (i + 1) = xs.take i ++ [x] := by rw [List.take_succ, hx]; rfl
        have := hs (xs.take i) x (xs.drop (i + 1)) δ S e1 p
        rw [← e2] at this
        exact this)
    (fun δ S p => by
      rw [List.length_map, List.take_length] at p
      exact hq δ S p) (xs.map e) 0 δ S1 rfl (Nat.zero_le _) (by rw [List.take_zero]; exact h0)
  obtain ⟨r, δ', S', e1, q⟩ := main
  exact ⟨r, δ', S', r_for hf (hk [] δ S1 h0) e1, q⟩
/-- numbers from 0 -/
theorem w_forN {f : FA} {g : FG} {body : FS} {Q : Fl → Dl → Sg → Prop} (m : Nat) (I : Nat → Dl → Sg → Prop) (hm : m < 1000000)
    (hf : W (f δ S) fun ds' S1 => ds' = [.int (m : Int)] ∧ I 0 δ S1)
    (hs : ∀ i δ S, i < m → I i δ S → WG (g (.int (i : Int)) δ S) fun δ1 S1 => WS (body δ1 S1) (Tn Q (I (i + 1))))
    (hq : ∀ δ S, I m δ S → Q .nx δ S) : WS (forS r1K f g body δ S) Q := by
  refine w_forT (List.range m) (fun (i : Nat) => .int (i : Int)) (fun pre δ S => I pre.length δ S) hf (fun _ _ S _ => k_rng hm S) ?_ (fun δ S p => hq δ S (by rw [List.length_range] at p; exact p))
  intro pre x post δ S hx p
  have hi : pre.length < (List.range m).length := by rw [hx, List.length_append, List.length_cons]; omega
  have hxx : x = pre.length := by
    have h1 : (List.range m)[pre.length]? = some x := by rw [hx, List.getElem?_append_right (Nat.le_refl _), Nat.sub_self]; rfl
    rw [List.getElem?_range (by rwa [List.length_range] at hi)] at h1
    exact (Option.some.inj h1).symm
  subst hxx
  rw [List.length_append, List.length_singleton]
  exact hs _ δ S (by rwa [List.length_range] at hi) p
/-- a comprehension whose making may change the store -/
theorem w_lcI {α : Type} {k : Ik} {fa : FA} {g : FG} {c : FT} {f : FE} {vs : List Nat} {Q : D → Sg → Prop} {ds : List D} (xs : List α) (e : α → D) (I : List α → List D → Sg → Prop)
    (hf : W (fa δ S) fun ds' S1 => ds' = ds ∧ I [] [] S1) (hl : xs.length < 1000000) (hk : ∀ r o S, I r o S → k ds S = some (xs.map e))
    (hs : ∀ pre x post out S, xs = pre ++ x :: post → I pre out S → WG (g (e x) (wipeD δ vs) S) fun δ1 S1 => W (c δ1 S1) fun q S2 => Br q (W (f δ1 S2) fun d S3 => I (pre ++ [x]) (out ++ [d]) S3) (I (pre ++ [x]) out S2))
    (hq : ∀ out S, I xs out S → Q (.lst out) S) : W (lcD k fa g c f vs δ S) Q := by
  obtain ⟨ds', S1, hf, eds, h0⟩ := hf
  rw [eds] at hf
  have main : ∀ (r pre : List α) (acc : List D) (S : Sg), xs = pre ++ r → I pre acc S → ∃ out S', lcGo k ds (xs.map e) g c f (wipeD δ vs) (r.map e) acc S = some (out, S') ∧ I xs out S' := by
    intro r
    induction r with
    | nil =>
      intro pre acc S hx p
      rw [List.append_nil] at hx
      subst hx
      exact ⟨acc, S, lcGo_nil (hk _ _ _ p), p⟩
    | cons x r ih =>
      intro pre acc S hx p
      obtain ⟨δ1, Sa, e1, q, Sb, e2, a, b⟩ := hs pre x r acc S hx p
      cases q with
      | true =>
        obtain ⟨d, Sc, e3, p2⟩ := a rfl
        obtain ⟨out, S', e4, p3⟩ := ih (pre ++ [x]) (acc ++ [d]) Sc (by rw [hx, List.append_assoc]; rfl) p2
        exact ⟨out, S', by rw [List.map_cons, lcGo_cons (hk _ _ _ p) (st_y e1 e2 e3)]; exact e4, p3⟩
      | false =>
        obtain ⟨out, S', e4, p3⟩ := ih (pre ++ [x]) acc Sb (by rw [hx, List.append_assoc]; rfl) (b rfl)
        refine ⟨out, S', ?_, p3⟩
        have : stepLc g c f (wipeD δ vs) (e x) S = some (none, Sb) := by
          unfold stepLc
          rw [e1, Option.bind_some]
          dsimp only
          rw [e2]
          rfl
        rw [List.map_cons, lcGo_cons (hk _ _ _ p) this]
        simpa using e4
  obtain ⟨out, S', e1, p⟩ := main xs [] [] S1 rfl h0
  exact ⟨_, _, r_lc hf (hk _ _ _ h0) (by rw [List.length_map]; exact hl) e1, hq out S' p⟩
/-- one that leaves the store, all items -/
theorem w_lcA {α : Type} {k : Ik} {fa : FA} {g : FG} {f : FE} {vs : List Nat} {Q : D → Sg → Prop} {ds : List D} (xs : List α) (e : α → D) (h : α → D)
    (hf : W (fa δ S) fun ds' S1' => ds' = ds ∧ S1' = S1) (hk : k ds S1 = some (xs.map e)) (hl : xs.length < 1000000)
    (hs : ∀ x ∈ xs, WG (g (e x) (wipeD δ vs) S1) fun δ1 S2 => W (f δ1 S2) fun d S3 => d = h x ∧ S3 = S1) (hq : Q (.lst (xs.map h)) S1) : W (lcD k fa g yesT f vs δ S) Q := by
  obtain ⟨ds', S1', hf, eds, eS⟩ := hf
  rw [eds, eS] at hf
  have hs' : ∀ x ∈ xs, stepLc g yesT f (wipeD δ vs) (e x) S1 = some (some (h x), S1) := fun x hx => by
    obtain ⟨δ1, S2, e1, d, S3, e2, rfl, rfl⟩ := hs x hx
    exact st_y e1 r_yes e2
  have := lc_typ (g := g) (c := yesT) (f := f) (vs := vs) xs e (fun _ => true) h hf hk hl fun x hx => by rw [if_pos rfl]; exact hs' x hx
  rw [List.filter_eq_self.mpr fun _ _ => rfl] at this
  exact ⟨_, _, this, hq⟩
/-- one that leaves the store, some items -/
theorem w_lcF {α : Type} {k : Ik} {fa : FA} {g : FG} {c : FT} {f : FE} {vs : List Nat} {Q : D → Sg → Prop} {ds : List D} (xs : List α) (e : α → D) (p : α → Bool) (h : α → D)
    (hf : W (fa δ S) fun ds' S1' => ds' = ds ∧ S1' = S1) (hk : k ds S1 = some (xs.map e)) (hl : xs.length < 1000000)
    (hs : ∀ x ∈ xs, WG (g (e x) (wipeD δ vs) S1) fun δ1 S2 => W (c δ1 S2) fun q S3 => S3 = S1 ∧ q = p x ∧ (p x = true → W (f δ1 S3) fun d S4 => d = h x ∧ S4 = S1)) (hq : Q (.lst ((xs.filter p).map h)) S1) : W (lcD k fa g c f vs δ S) Q := by
  obtain ⟨ds', S1', hf, eds, eS⟩ := hf
  rw [eds, eS] at hf
  have hs' : ∀ x ∈ xs, stepLc g c f (wipeD δ vs) (e x) S1 = some (if p x = true then some (h x) else none, S1) := fun x hx => by
    obtain ⟨δ1, S2, e1, q, S3, e2, rfl, rfl, k⟩ := hs x hx
    refine st_q e1 e2 fun hp => ?_
    obtain ⟨d, S4, e3, rfl, rfl⟩ := k hp
    exact e3
  exact ⟨_, _, lc_typ (g := g) (c := c) (f := f) (vs := vs) xs e p h hf hk hl hs', hq⟩
/-- one that is to be changed -/
theorem w_lcN {k : Ik} {fa : FA} {g : FG} {c : FT} {f : FE} {vs : List Nat} {Q : D → Sg → Prop} (h : W (lcD k fa g c f vs δ S) fun d S1 => ∃ out, d = .lst out ∧ Q (.loc S1.length) (S1 ++ [.lst out])) : W (lcDN k fa g c f vs δ S) Q := by
  obtain ⟨_, S1, e, out, rfl, q⟩ := h
  exact ⟨_, _, r_lcN e, q⟩
/-! ### while -/
theorem w_while {c : FT} {b : FS} {Q : Fl → Dl → Sg → Prop} (I : Nat → Dl → Sg → Prop) (m : Nat) (hm : m < 10 ^ 60) (h0 : I m δ S)
    (hs : ∀ n δ S, I n δ S → W (c δ S) fun q S1 => Br q (WS (b δ S1) (Tn Q fun δ2 S2 => ∃ n', n' < n ∧ I n' δ2 S2)) (Q .nx δ S1)) : WS (whileS c b δ S) Q := by
  have main : ∀ (fu n : Nat) (δ : Dl) (S : Sg), n < fu → I n δ S → WS (whileGo c b fu δ S) Q := by
    intro fu
    induction fu with
    | zero => intro n δ S h _; omega
    | succ fu ih =>
      intro n δ S hn p
      obtain ⟨q, S1, e1, a, k⟩ := hs n δ S p
      cases q with
      | false =>
        refine ⟨_, _, _, ?_, k rfl⟩
        unfold whileGo
        rw [e1]
        rfl
      | true =>
        obtain ⟨fl, δ2, S2, e2, t⟩ := a rfl
        cases fl with
        | nx =>
          obtain ⟨n', hn', p'⟩ := t
          obtain ⟨r3, δ3, S3, e3, q3⟩ := ih n' δ2 S2 (by omega) p'
          refine ⟨r3, δ3, S3, Eq.trans ?_ e3, q3⟩
          rw [whileGo, e1, Option.bind_some]
          dsimp only
          rw [if_pos rfl, e2]
          rfl
        | ct =>
          obtain ⟨n', hn', p'⟩ := t
          obtain ⟨r3, δ3, S3, e3, q3⟩ := ih n' δ2 S2 (by omega) p'
          refine ⟨r3, δ3, S3, Eq.trans ?_ e3, q3⟩
          rw [whileGo, e1, Option.bind_some]
          dsimp only
          rw [if_pos rfl, e2]
          rfl
        | bk =>
          refine ⟨_, _, _, ?_, t⟩
          rw [whileGo, e1, Option.bind_some]
          dsimp only
          rw [if_pos rfl, e2]
          rfl
        | rt x =>
          refine ⟨_, _, _, ?_, t⟩
          rw [whileGo, e1, Option.bind_some]
          dsimp only
          rw [if_pos rfl, e2]
          rfl
  exact main FUEL m δ S hm h0
end
/-! ### a store whose own part is known: A ++ L, A as long as it was -/
section
variable {A : Sg} {L : List Ob} {N k : Nat}
theorem al_get (hl : A.length = N) : (A ++ L)[N + k]? = L[k]? := by
  rw [List.getElem?_append_right (by omega), show N + k - A.length = k by omega]
theorem al_set (hl : A.length = N) {o : Ob} : (A ++ L).set (N + k) o = A ++ L.set k o := by
  rw [List.set_append_right _ _ (by omega), show N + k - A.length = k by omega]
variable {Q : D → Sg → Prop} {δ : Dl}
theorem wl_new {f : FA} {S : Sg} (h : W (f δ S) fun ds S1 => ∃ (A : Sg) (L : List Ob) (N : Nat), S1 = A ++ L ∧ A.length = N ∧ ds.length < 1000000 ∧ Q (.loc (N + L.length)) (A ++ (L ++ [.lst ds]))) : W (newD f δ S) Q := by
  obtain ⟨ds, S1, e, A, L, N, rfl, hN, l, q⟩ := h
  refine ⟨_, _, r_new e l, ?_⟩
  rw [List.length_append, hN, List.append_assoc]
  exact q
theorem wl_lcN {kk : Ik} {fa : FA} {g : FG} {c : FT} {f : FE} {vs : List Nat} {S : Sg} (h : W (lcD kk fa g c f vs δ S) fun d S1 => ∃ (out : List D) (A : Sg) (L : List Ob) (N : Nat), d = .lst out ∧ S1 = A ++ L ∧ A.length = N ∧ Q (.loc (N + L.length)) (A ++ (L ++ [.lst out]))) : W (lcDN kk fa g c f vs δ S) Q := by
  obtain ⟨_, S1, e, out, A, L, N, rfl, rfl, hN, q⟩ := h
  refine ⟨_, _, r_lcN e, ?_⟩
  rw [List.length_append, hN, List.append_assoc]
  exact q
theorem wl_isLoc (hl : A.length = N) {xs : List D} (h : L[k]? = some (.lst xs)) : isLoc (A ++ L) (.loc (N + k)) = true := v_isLoc (by rw [al_get hl]; exact h)
theorem wl_app (hl : A.length = N) {xs : List D} {y : D} (h : L[k]? = some (.lst xs)) (l : xs.length < 1000000) (q : Q .non (A ++ L.set k (.lst (xs ++ [y])))) : W (appO (.loc (N + k)) [y] (A ++ L)) Q :=
  ⟨_, _, by rw [v_app (by rw [al_get hl]; exact h) l, al_set hl], q⟩
theorem wl_ix (hl : A.length = N) {xs : List D} {i : Int} {y : D} (h : L[k]? = some (.lst xs)) (h2 : atI xs i = some y) (q : Q y (A ++ L)) : W (ixO (.loc (N + k)) (.int i) (A ++ L)) Q :=
  ⟨_, _, v_ixc (by rw [al_get hl]; exact h) h2, q⟩
theorem wl_len (hl : A.length = N) {xs : List D} (h : L[k]? = some (.lst xs)) (q : Q (.int (xs.length : Int)) (A ++ L)) : W (lenO [.loc (N + k)] (A ++ L)) Q :=
  ⟨_, _, v_lenc (by rw [al_get hl]; exact h), q⟩
theorem wl_sl (hl : A.length = N) {xs : List D} {lo hi : Option Int} (h : L[k]? = some (.lst xs)) (q : Q (.lst (cutD xs lo hi)) (A ++ L)) : W (slO (.loc (N + k)) lo hi (A ++ L)) Q :=
  ⟨_, _, v_slc (by rw [al_get hl]; exact h), q⟩
theorem wl_addl (hl : A.length = N) {xs ys : List D} (h : L[k]? = some (.lst xs)) (l : xs.length + ys.length < 1000000) (q : Q (.lst (xs ++ ys)) (A ++ L)) : W (addO (.loc (N + k)) (.lst ys) (A ++ L)) Q :=
  ⟨_, _, v_addcl (by rw [al_get hl]; exact h) l, q⟩
theorem wl_set (hl : A.length = N) {xs : List D} {i : Int} {j : Nat} {z : D} {P : Sg → Prop} (h : L[k]? = some (.lst xs)) (hj : ixN xs.length i = some j) (q : P (A ++ L.set k (.lst (xs.set j z)))) : ∃ S3, setLO (.loc (N + k)) (.int i) z (A ++ L) = some S3 ∧ P S3 :=
  ⟨_, by rw [v_setc (by rw [al_get hl]; exact h) hj, al_set hl], q⟩
theorem wl_setD (hl : A.length = N) {gs : List (Key × D)} {y : D} {z : D} {kk : Key} {P : Sg → Prop} (h : L[k]? = some (.dct gs)) (l : gs.length < 1000000) (hj : keyOf y = some kk) (q : P (A ++ L.set k (.dct (putG gs kk z)))) : ∃ S3, setDO (.loc (N + k)) y z (A ++ L) = some S3 ∧ P S3 :=
  ⟨_, by rw [v_setDc (by rw [al_get hl]; exact h) l hj, al_set hl], q⟩
theorem wl_ds (hl : A.length = N) {gs : List (Key × D)} (h : L[k]? = some (.dct gs)) : dsOf (A ++ L) (.loc (N + k)) = some gs := by
  unfold dsOf
  dsimp only
  rw [al_get hl, h]
theorem wl_dg (hl : A.length = N) {gs : List (Key × D)} {e x : D} {kk : Key} (h : L[k]? = some (.dct gs)) (h2 : keyOf e = some kk) (h3 : valG gs kk = some x) (q : Q x (A ++ L)) : W (dgK (.loc (N + k)) e (A ++ L)) Q :=
  ⟨_, _, v_dgK (wl_ds hl h) h2 h3, q⟩
theorem wl_dicN {ks : List Str} {fs : List FE} {S : Sg} (h : W (argsL fs δ S) fun ds S1 => ∃ (A : Sg) (L : List Ob) (N : Nat), S1 = A ++ L ∧ A.length = N ∧ ds.length = ks.length ∧ Q (.loc (N + L.length)) (A ++ (L ++ [.dct ((ks.map Sum.inr).zip ds)]))) : W (dicN ks fs δ S) Q := by
  obtain ⟨ds, S1, e, A, L, N, rfl, hN, l, q⟩ := h
  refine ⟨_, _, r_dicN e l, ?_⟩
  rw [List.length_append, hN, List.append_assoc]
  exact q
/-- the end of a def: what is its own goes -/
theorem wl_fin (hl : A.length = N) {d x : D} (hL : L ≠ []) (hz : frz (A ++ L) N d = some x) (hc : A.all (oldO N) = true) (q : Q x A) : W (fin N d (A ++ L)) Q := by
  refine ⟨x, A, ?_, q⟩
  unfold fin
  have h0 : 0 < L.length := List.length_pos_iff.mpr hL
  rw [if_neg (by intro h; rw [List.length_append] at h; omega), hz]
  show (if ((A ++ L).take N).all (oldO N) = true then some (x, (A ++ L).take N) else none) = _
  rw [List.take_left' hl, if_pos hc]
theorem wl_fin0 (hl : A.length = N) {d : D} (q : Q d A) : W (fin N d (A ++ [])) Q := by
  rw [List.append_nil]
  exact ⟨d, A, if_pos hl, q⟩
end
end DL
end
noncomputable section
namespace DL
open PySem L2
/-! ### values, forward -/
section
variable {S : Sg} {Q : D → Sg → Prop}
theorem x_add {i j : Int} (q : Q (.int (i + j)) S) : W (addO (.int i) (.int j) S) Q := ⟨_, _, rfl, q⟩
theorem x_sub {i j : Int} (q : Q (.int (i - j)) S) : W (subO (.int i) (.int j) S) Q := ⟨_, _, rfl, q⟩
theorem x_mul {i j : Int} (h : MulB i j) (q : Q (.int (i * j)) S) : W (mulO (.int i) (.int j) S) Q := ⟨_, _, v_mul h, q⟩
theorem x_mod {i j : Int} (h : 0 < j) (q : Q (.int (i % j)) S) : W (modO (.int i) (.int j) S) Q := ⟨_, _, v_mod h, q⟩
theorem x_div {i j : Int} (h : DivB j) (q : Q (.int (i / j)) S) : W (fdivO (.int i) (.int j) S) Q := ⟨_, _, v_div h, q⟩
theorem x_pow {i j : Int} (h : PowB i j) (q : Q (.int (i ^ j.toNat)) S) : W (powO (.int i) (.int j) S) Q := ⟨_, _, v_pow h, q⟩
theorem x_cmp {p : Int → Int → Bool} {i j : Int} (q : Q (.bl (p i j)) S) : W (cmpO p (.int i) (.int j) S) Q := ⟨_, _, rfl, q⟩
theorem x_int0 {g : Int → Int → D} {i j : Int} (q : Q (g i j) S) : W (int0 g (.int i) (.int j) S) Q := ⟨_, _, rfl, q⟩
theorem x_eqI {i j : Int} (q : Q (.bl (decide (i = j))) S) : W (eqO (.int i) (.int j) S) Q := ⟨_, _, eqv_int .., q⟩
theorem x_neI {i j : Int} (q : Q (.bl (!decide (i = j))) S) : W (neO (.int i) (.int j) S) Q := ⟨_, _, nev_int .., q⟩
theorem x_eqS {i j : Str} (q : Q (.bl (decide (i = j))) S) : W (eqO (.str i) (.str j) S) Q := ⟨_, _, eqv_str .., q⟩
theorem x_eqB {i j : Bool} (q : Q (.bl (decide (i = j))) S) : W (eqO (.bl i) (.bl j) S) Q := ⟨_, _, eqv_bl .., q⟩
theorem x_neB {i j : Bool} (q : Q (.bl (!decide (i = j))) S) : W (neO (.bl i) (.bl j) S) Q := ⟨_, _, nev_bl .., q⟩
theorem x_ixl {ds : List D} {i : Int} {y : D} (h : atI ds i = some y) (q : Q y S) : W (ixO (.lst ds) (.int i) S) Q := ⟨_, _, v_ixl h, q⟩
theorem x_ixt {ds : List D} {i : Int} {y : D} (h : atI ds i = some y) (q : Q y S) : W (ixO (.tup ds) (.int i) S) Q := ⟨_, _, v_ixt h, q⟩
theorem x_ixr {ds : List D} {i : Int} {y : D} (h : atI ds i = some y) (q : Q y S) : W (ixO (.rol ds) (.int i) S) Q := ⟨_, _, v_ixr h, q⟩
theorem x_ixs {z : Str} {i : Int} {c : Nat} (l : z.length < 1000000) (h : atI z.cps.toList i = some c) (q : Q (.str ⟨#[c]⟩) S) : W (ixO (.str z) (.int i) S) Q := ⟨_, _, v_ixs l h, q⟩
theorem x_addll {xs ys : List D} (l : xs.length + ys.length < 1000000) (q : Q (.lst (xs ++ ys)) S) : W (addO (.lst xs) (.lst ys) S) Q := ⟨_, _, v_addll l, q⟩
theorem x_adds {x y : Str} (l : x.length + y.length < 1000000) (q : Q (.str (x ++ y)) S) : W (addO (.str x) (.str y) S) Q := ⟨_, _, v_adds l, q⟩
theorem x_rep {xs : List D} {k : Int} (h : R63 k) (l : xs.length * k.toNat < 1000000) (q : Q (.lst (List.replicate k.toNat xs).flatten) S) : W (mulO (.lst xs) (.int k) S) Q := ⟨_, _, v_rep h l, q⟩
theorem x_max2 {i j : Int} (q : Q (.int (if j > i then j else i)) S) : W (max2O [.int i, .int j] S) Q := ⟨_, _, max2v .., q⟩
theorem x_min2 {i j : Int} (q : Q (.int (if j < i then j else i)) S) : W (min2O [.int i, .int j] S) Q := ⟨_, _, min2v .., q⟩
theorem x_abs {i : Int} (q : Q (.int (if i < 0 then -i else i)) S) : W (absO [.int i] S) Q := ⟨_, _, absv .., q⟩
theorem x_int1b {b : Bool} (q : Q (.int (if b = true then 1 else 0)) S) : W (int1O [.bl b] S) Q := ⟨_, _, int1v_b .., q⟩
theorem x_int1i {i : Int} (q : Q (.int i) S) : W (int1O [.int i] S) Q := ⟨_, _, int1v_i .., q⟩
theorem x_lenl {ds : List D} (q : Q (.int (ds.length : Int)) S) : W (lenO [.lst ds] S) Q := ⟨_, _, lenv_lst .., q⟩
theorem x_lenr {ds : List D} (q : Q (.int (ds.length : Int)) S) : W (lenO [.rol ds] S) Q := ⟨_, _, lenv_rol .., q⟩
theorem x_lent {ds : List D} (q : Q (.int (ds.length : Int)) S) : W (lenO [.tup ds] S) Q := ⟨_, _, lenv_tup .., q⟩
theorem x_lens {z : Str} (l : z.length < 1000000) (q : Q (.int (z.length : Int)) S) : W (lenO [.str z] S) Q := ⟨_, _, v_lens l, q⟩
theorem x_tuplel {ds : List D} (q : Q (.tup ds) S) : W (tupleO [.lst ds] S) Q := ⟨_, _, tuplev_lst .., q⟩
theorem x_tuplet {ds : List D} (q : Q (.tup ds) S) : W (tupleO [.tup ds] S) Q := ⟨_, _, tuplev_tup .., q⟩
theorem x_sll {ds : List D} {lo hi : Option Int} (q : Q (.lst (cutD ds lo hi)) S) : W (slO (.lst ds) lo hi S) Q := ⟨_, _, slv_lst .., q⟩
theorem x_slr {ds : List D} {lo hi : Option Int} (q : Q (.lst (cutD ds lo hi)) S) : W (slO (.rol ds) lo hi S) Q := ⟨_, _, rfl, q⟩
theorem x_dg {ks : List Str} {ds : List D} {k : Str} {x : D} (h : (ks.zip ds).lookup k = some x) (q : Q x S) : W (dgO (.dic ks ds) (.str k) S) Q := ⟨_, _, v_dg h, q⟩
theorem x_sum {ns : List Int} {ds : List D} (h : intsOf ds = some ns) (q : Q (.int ns.sum) S) : W (sumO [.lst ds] S) Q := ⟨_, _, v_sum h, q⟩
theorem x_sumt {ns : List Int} {ds : List D} (h : intsOf ds = some ns) (q : Q (.int ns.sum) S) : W (sumO [.tup ds] S) Q := ⟨_, _, v_sumt h, q⟩
theorem x_sumi {ns : List Int} (q : Q (.int ns.sum) S) : W (sumO [.lst (ns.map .int)] S) Q := ⟨_, _, v_sum (intsOf_map _), q⟩
theorem x_sumti {ns : List Int} (q : Q (.int ns.sum) S) : W (sumO [.tup (ns.map .int)] S) Q := ⟨_, _, v_sumt (intsOf_map _), q⟩
theorem x_max {ns : List Int} {ds : List D} {m : Int} (h : intsOf ds = some ns) (h2 : maxI ns = some m) (q : Q (.int m) S) : W (maxO [.lst ds] S) Q := ⟨_, _, v_max h h2, q⟩
theorem x_isN {neg : Bool} {d : D} {b : Bool} (h : isNO neg d S = some (.bl b, S)) (q : Q (.bl b) S) : W (isNO neg d S) Q := ⟨_, _, h, q⟩
theorem x_isN_n (q : Q (.bl true) S) : W (isNO false .non S) Q := ⟨_, _, rfl, q⟩
theorem x_isN_nn (q : Q (.bl false) S) : W (isNO true .non S) Q := ⟨_, _, rfl, q⟩
theorem x_isN_i {i : Int} (q : Q (.bl false) S) : W (isNO false (.int i) S) Q := ⟨_, _, rfl, q⟩
theorem x_isN_ni {i : Int} (q : Q (.bl true) S) : W (isNO true (.int i) S) Q := ⟨_, _, rfl, q⟩
theorem x_isN_l {ds : List D} (q : Q (.bl false) S) : W (isNO false (.lst ds) S) Q := ⟨_, _, rfl, q⟩
theorem x_isN_nl {ds : List D} (q : Q (.bl true) S) : W (isNO true (.lst ds) S) Q := ⟨_, _, rfl, q⟩
theorem x_allb {bs : List Bool} (q : Q (.bl (bs.all id)) S) : W (allO [.lst (bs.map .bl)] S) Q := ⟨_, _, by rw [allv, blsOf_map]; rfl, q⟩
theorem x_anyb {bs : List Bool} (q : Q (.bl (bs.any id)) S) : W (anyO [.lst (bs.map .bl)] S) Q := ⟨_, _, by rw [anyv, blsOf_map]; rfl, q⟩
theorem par2x {d e : D} {P : D → D → Prop} (q : P d e) : ∃ x y, [d, e] = [x, y] ∧ P x y := ⟨_, _, rfl, q⟩
theorem par3x {d e f : D} {P : D → D → D → Prop} (q : P d e f) : ∃ x y z, [d, e, f] = [x, y, z] ∧ P x y z := ⟨_, _, _, rfl, q⟩
theorem someI {i : Int} {P : Int → Prop} (q : P i) : ∃ j, D.int i = .int j ∧ P j := ⟨_, rfl, q⟩
theorem lstX {ds : List D} {P : List D → Prop} (q : P ds) : ∃ out, D.lst ds = .lst out ∧ P out := ⟨_, rfl, q⟩
theorem newX {A : Sg} {L : List Ob} {N : Nat} {ds : List D} {P : Sg → List Ob → Nat → Prop} (hl : A.length = N) (l : ds.length < 1000000) (q : P A L N) : ∃ (A' : Sg) (L' : List Ob) (N' : Nat), A ++ L = A' ++ L' ∧ A'.length = N' ∧ ds.length < 1000000 ∧ P A' L' N' := ⟨A, L, N, rfl, hl, l, q⟩
end
end DL
end
noncomputable section
namespace DL
open PySem L2
/-! ### the greatest, the least of a list or a tuple -/
section
variable {prog : Program} {w : World} {A : Around} {E : Value → Shared → Prop} {s : Shared} {t : Addr} {xs : Array (Int × Tok)}
theorem tup_fp (ht : s.heap.IsTuple t (PySem.intItems xs)) : t ≠ s.heap.objs.size ∧ (∀ b ∈ [s.heap.objs.size, t], b < (s.heap.push { cls := .type "tuple_iterator", data := .fields #[.ref t, .int 0 0] }).objs.size) ∧
    (s.heap.push { cls := .type "tuple_iterator", data := .fields #[.ref t, .int 0 0] }).IsTupleIter s.heap.objs.size t 0 ∧ (s.heap.push { cls := .type "tuple_iterator", data := .fields #[.ref t, .int 0 0] }).IsTuple t (PySem.intItems xs) := by
  obtain ⟨o, ho, hc, n, hd⟩ := id ht
  refine ⟨Nat.ne_of_lt (Heap.lt_size ho), fun b hb => ?_, ⟨_, Heap.get?_push_size _ rfl, rfl, rfl⟩, ht.at fun o e => Heap.get?_push_of_some _ e⟩
  rcases List.mem_cons.mp hb with rfl | hb
  · exact Heap.lt_size (Heap.get?_push_size _ rfl)
  · obtain rfl := List.mem_singleton.mp hb
    exact Heap.lt_size (Heap.get?_push_of_some _ ho)
theorem tup_kept {h' : Heap} (hk : ∀ b o, b ∉ [s.heap.objs.size] → (s.heap.push { cls := .type "tuple_iterator", data := .fields #[.ref t, .int 0 0] }).get? b = some o → h'.get? b = some o) :
    ∀ b o, s.heap.get? b = some o → h'.get? b = some o := fun b o e => by
  refine hk b o (fun hm => ?_) (Heap.get?_push_of_some _ e)
  rcases List.mem_cons.mp hm with e1 | hm
  · exact absurd (e1 ▸ Heap.lt_size e) (Nat.lt_irrefl _)
  · cases hm
theorem max_intTup {Q : Value → Shared → Prop} (hh : A.handled = none) (ht : s.heap.IsTuple t (PySem.intItems xs)) (hne : 0 < xs.size)
    (h : ∀ v h' tk, (PySem.intItems xs)[PySem.argBest (fun i j => decide (PySem.numAt xs i > PySem.numAt xs j)) (xs.size - 1)]? = some v → (∀ b o, s.heap.get? b = some o → h'.get? b = some o) → Q v { s with heap := h', toks := tk }) :
    wpAny (model prog w) A (call (.builtin "max") [.ref t]) Q E s := by
  obtain ⟨h1, h2, h3, h4⟩ := tup_fp ht
  refine PySem.call_max_walk (PySem.wpAny_pyIter_tuple ht ?_)
  refine ⟨_, _, _, _, _, _, _, rfl, PySem.Walks.tuple (A := A.in1) hh _ t h1 (PySem.intItems xs), ⟨h3, h4⟩, h2, by simpa [PySem.intItems] using hne, PySem.CmpOf.ints_gt (PySem.numAt xs) (fun _ _ => PySem.intItems_at), fun v h' tk hP hk => ?_⟩
  exact h v h' tk (by simpa [PySem.intItems] using hP) (tup_kept hk)
theorem min_intTup {Q : Value → Shared → Prop} (hh : A.handled = none) (ht : s.heap.IsTuple t (PySem.intItems xs)) (hne : 0 < xs.size)
    (h : ∀ v h' tk, (PySem.intItems xs)[PySem.argBest (fun i j => decide (PySem.numAt xs i < PySem.numAt xs j)) (xs.size - 1)]? = some v → (∀ b o, s.heap.get? b = some o → h'.get? b = some o) → Q v { s with heap := h', toks := tk }) :
    wpAny (model prog w) A (call (.builtin "min") [.ref t]) Q E s := by
  obtain ⟨h1, h2, h3, h4⟩ := tup_fp ht
  refine PySem.call_min_walk (PySem.wpAny_pyIter_tuple ht ?_)
  refine ⟨_, _, _, _, _, _, _, rfl, PySem.Walks.tuple (A := A.in1) hh _ t h1 (PySem.intItems xs), ⟨h3, h4⟩, h2, by simpa [PySem.intItems] using hne, PySem.CmpOf.ints_lt (PySem.numAt xs) (fun _ _ => PySem.intItems_at), fun v h' tk hP hk => ?_⟩
  exact h v h' tk (by simpa [PySem.intItems] using hP) (tup_kept hk)
theorem max_rawT {its : List Value} {ns : List Int} {Q : Value → Shared → Prop} (hh : A.handled = none) (hl : s.heap.IsTuple t its.toArray) (hi : PyProof.Rows.IntsAre its ns) (hne : 0 < ns.length)
    (h : ∀ h' tk M t', (∀ b o, s.heap.get? b = some o → h'.get? b = some o) → M ∈ ns → (∀ a, a ∈ ns → a ≤ M) → Q (.int M t') { s with heap := h', toks := tk }) : wpAny (model prog w) A (call (.builtin "max") [.ref t]) Q E s := by
  obtain ⟨xs, e⟩ := hi.allInts.items
  have hn : PySem.numsOf (PySem.intItems xs).toList = ns := by rw [← e]; exact hi.numsOf
  rw [PySem.nums_intItems] at hn
  subst hn
  rw [e] at hl
  have hsz : 0 < xs.size := by simpa using hne
  refine max_intTup hh hl hsz fun v h' tk hv hk => ?_
  obtain ⟨t, rfl⟩ := PySem.intItems_at hv
  obtain ⟨h1, h2⟩ := argBest_gt (PySem.numAt xs) (xs.size - 1)
  refine h h' tk _ t hk ?_ fun a ha => ?_
  · rw [numAt_eq]; exact PySem.getD_mem (by rw [List.length_map, Array.length_toList]; omega)
  · obtain ⟨j, hj, rfl⟩ := mem_getD ha
    rw [List.length_map, Array.length_toList] at hj
    rw [← numAt_eq]; exact h2 j (by omega)
theorem min_rawT {its : List Value} {ns : List Int} {Q : Value → Shared → Prop} (hh : A.handled = none) (hl : s.heap.IsTuple t its.toArray) (hi : PyProof.Rows.IntsAre its ns) (hne : 0 < ns.length)
    (h : ∀ h' tk M t', (∀ b o, s.heap.get? b = some o → h'.get? b = some o) → M ∈ ns → (∀ a, a ∈ ns → M ≤ a) → Q (.int M t') { s with heap := h', toks := tk }) : wpAny (model prog w) A (call (.builtin "min") [.ref t]) Q E s := by
  obtain ⟨xs, e⟩ := hi.allInts.items
  have hn : PySem.numsOf (PySem.intItems xs).toList = ns := by rw [← e]; exact hi.numsOf
  rw [PySem.nums_intItems] at hn
  subst hn
  rw [e] at hl
  have hsz : 0 < xs.size := by simpa using hne
  refine min_intTup hh hl hsz fun v h' tk hv hk => ?_
  obtain ⟨t, rfl⟩ := PySem.intItems_at hv
  obtain ⟨h1, h2⟩ := argBest_lt (PySem.numAt xs) (xs.size - 1)
  refine h h' tk _ t hk ?_ fun a ha => ?_
  · rw [numAt_eq]; exact PySem.getD_mem (by rw [List.length_map, Array.length_toList]; omega)
  · obtain ⟨j, hj, rfl⟩ := mem_getD ha
    rw [List.length_map, Array.length_toList] at hj
    rw [← numAt_eq]; exact h2 j (by omega)
end
def rMaxA (K : PySem.W.Frag) : List V → Hp → VK → Prop := fun vs H Q => ∃ (a : Addr) (ns : List Int), vs = [V.ref a] ∧ (SqL K H a (ns.map V.int) ∨ SqT K H a (ns.map V.int)) ∧ 0 < ns.length ∧ ∀ m, m ∈ ns → (∀ y, y ∈ ns → y ≤ m) → Q (.int m) H
def rMinA (K : PySem.W.Frag) : List V → Hp → VK → Prop := fun vs H Q => ∃ (a : Addr) (ns : List Int), vs = [V.ref a] ∧ (SqL K H a (ns.map V.int) ∨ SqT K H a (ns.map V.int)) ∧ 0 < ns.length ∧ ∀ m, m ∈ ns → (∀ y, y ∈ ns → m ≤ y) → Q (.int m) H
section
variable {X : Cx}
theorem cr_maxA (hc : X.calm = true) : CallR X (.builtin "max") (rMaxA X.K) := by
  intro pins s σ H vs us Q I r h
  obtain ⟨a, ns, rfl, hs, hne, q⟩ := h
  rcases hs with hs | hs
  · exact cr_max hc pins s σ H _ us Q I r ⟨a, ns, rfl, hs, hne, q⟩
  · obtain ⟨its, rv, hl, _⟩ := I.tuple hs
    rw [Vals.ref1 r]
    exact max_rawT (I.ok.hd hc) hl rv.ints hne fun h' tk m t' hk h1 h2 => ⟨.int _, H, I.kept hk, ⟨_, rfl⟩, q m h1 h2⟩
theorem cr_minA (hc : X.calm = true) : CallR X (.builtin "min") (rMinA X.K) := by
  intro pins s σ H vs us Q I r h
  obtain ⟨a, ns, rfl, hs, hne, q⟩ := h
  rcases hs with hs | hs
  · exact cr_min hc pins s σ H _ us Q I r ⟨a, ns, rfl, hs, hne, q⟩
  · obtain ⟨its, rv, hl, _⟩ := I.tuple hs
    rw [Vals.ref1 r]
    exact min_rawT (I.ok.hd hc) hl rv.ints hne fun h' tk m t' hk h1 h2 => ⟨.int _, H, I.kept hk, ⟨_, rfl⟩, q m h1 h2⟩
end
def maxAO : OC := fun ds S => match ds with
  | [d] => (sqOf S d).bind fun xs => (intsOf xs).bind fun ns => (maxI ns).bind fun m => some (.int m, S)
  | _ => none
def minI : List Int → Option Int
  | [] => none
  | x :: r => some (r.foldl (fun a b => if b < a then b else a) x)
theorem foldmin_le (r : List Int) : ∀ x : Int, r.foldl (fun a b => if b < a then b else a) x ≤ x ∧ (∀ y ∈ r, r.foldl (fun a b => if b < a then b else a) x ≤ y) ∧ (r.foldl (fun a b => if b < a then b else a) x = x ∨ r.foldl (fun a b => if b < a then b else a) x ∈ r) := by
  induction r with
  | nil => intro x; exact ⟨Int.le_refl _, fun y h => (by cases h), .inl rfl⟩
  | cons b r ih =>
    intro x
    obtain ⟨h1, h2, h3⟩ := ih (if b < x then b else x)
    rw [List.foldl_cons]
    refine ⟨Int.le_trans h1 (by split <;> omega), fun y hy => ?_, ?_⟩
    · rcases List.mem_cons.mp hy with rfl | hy
      · exact Int.le_trans h1 (by split <;> omega)
      · exact h2 y hy
    · rcases h3 with h3 | h3
      · rw [h3]
        split
        · exact .inr List.mem_cons_self
        · exact .inl rfl
      · exact .inr (List.mem_cons_of_mem _ h3)
theorem minI_spec {ns : List Int} {m : Int} (h : minI ns = some m) : m ∈ ns ∧ ∀ y ∈ ns, m ≤ y := by
  cases ns with
  | nil => cases h
  | cons x r =>
    cases h
    obtain ⟨h1, h2, h3⟩ := foldmin_le r x
    refine ⟨?_, fun y hy => ?_⟩
    · rcases h3 with h3 | h3
      · rw [h3]; exact List.mem_cons_self
      · exact List.mem_cons_of_mem _ h3
    · rcases List.mem_cons.mp hy with rfl | hy
      · exact h1
      · exact h2 y hy
def minAO : OC := fun ds S => match ds with
  | [d] => (sqOf S d).bind fun xs => (intsOf xs).bind fun ns => (minI ns).bind fun m => some (.int m, S)
  | _ => none
section
variable {K : PySem.W.Frag}
theorem cbD_maxA : CbD K (rMaxA K) maxAO := by
  intro xs H Q ρ S ds z S' hS rs eq q
  unfold maxAO at eq
  split at eq
  · cases rs with | cons rx rn => ?_
    cases rn
    obtain ⟨ys, e1, eq⟩ := bnd eq
    obtain ⟨ns, e2, eq⟩ := bnd eq
    obtain ⟨m, e3, eq⟩ := bnd eq
    cases eq
    obtain ⟨a, vs, rfl, hq, r⟩ := sqOf_sq hS rx e1
    rw [intsOf_eq e2] at r
    rw [rvs_ints r] at hq
    obtain ⟨h1, h2⟩ := maxI_spec e3
    refine ⟨a, ns, rfl, hq, List.length_pos_of_mem h1, fun m' hm hle => ?_⟩
    have e : m' = m := Int.le_antisymm (h2 m' hm) (hle m h1)
    subst e
    exact q _ H ρ (Step.refl _ _) hS .int
  · cases eq
theorem cbD_minA : CbD K (rMinA K) minAO := by
  intro xs H Q ρ S ds z S' hS rs eq q
  unfold minAO at eq
  split at eq
  · cases rs with | cons rx rn => ?_
    cases rn
    obtain ⟨ys, e1, eq⟩ := bnd eq
    obtain ⟨ns, e2, eq⟩ := bnd eq
    obtain ⟨m, e3, eq⟩ := bnd eq
    cases eq
    obtain ⟨a, vs, rfl, hq, r⟩ := sqOf_sq hS rx e1
    rw [intsOf_eq e2] at r
    rw [rvs_ints r] at hq
    obtain ⟨h1, h2⟩ := minI_spec e3
    refine ⟨a, ns, rfl, hq, List.length_pos_of_mem h1, fun m' hm hle => ?_⟩
    have e : m' = m := Int.le_antisymm (hle m h1) (h2 m' hm)
    subst e
    exact q _ H ρ (Step.refl _ _) hS .int
  · cases eq
end
section
variable {S : Sg} {Q : D → Sg → Prop}
theorem x_maxA {ns : List Int} {d : D} {m : Int} (h : sqOf S d = some (ns.map .int)) (h2 : maxI ns = some m) (q : Q (.int m) S) : W (maxAO [d] S) Q := by
  refine ⟨_, _, ?_, q⟩
  unfold maxAO
  dsimp only
  rw [h, Option.bind_some, intsOf_map, Option.bind_some, h2]
  rfl
theorem x_minA {ns : List Int} {d : D} {m : Int} (h : sqOf S d = some (ns.map .int)) (h2 : minI ns = some m) (q : Q (.int m) S) : W (minAO [d] S) Q := by
  refine ⟨_, _, ?_, q⟩
  unfold minAO
  dsimp only
  rw [h, Option.bind_some, intsOf_map, Option.bind_some, h2]
  rfl
theorem maxI_some {ns : List Int} (h : ns ≠ []) : ∃ m, maxI ns = some m ∧ m ∈ ns ∧ ∀ y ∈ ns, y ≤ m := by
  cases ns with
  | nil => exact (h rfl).elim
  | cons x r => exact ⟨_, rfl, maxI_spec rfl⟩
theorem minI_some {ns : List Int} (h : ns ≠ []) : ∃ m, minI ns = some m ∧ m ∈ ns ∧ ∀ y ∈ ns, m ≤ y := by
  cases ns with
  | nil => exact (h rfl).elim
  | cons x r => exact ⟨_, rfl, minI_spec rfl⟩
theorem x_maxL {ns : List Int} (h : ns ≠ []) (q : ∀ m, maxI ns = some m → m ∈ ns → (∀ y ∈ ns, y ≤ m) → Q (.int m) S) : W (maxAO [.lst (ns.map .int)] S) Q := by
  obtain ⟨m, e, h1, h2⟩ := maxI_some h
  exact x_maxA (sqv_lst ..) e (q m e h1 h2)
theorem x_maxT {ns : List Int} (h : ns ≠ []) (q : ∀ m, maxI ns = some m → m ∈ ns → (∀ y ∈ ns, y ≤ m) → Q (.int m) S) : W (maxAO [.tup (ns.map .int)] S) Q := by
  obtain ⟨m, e, h1, h2⟩ := maxI_some h
  exact x_maxA (sqv_tup ..) e (q m e h1 h2)
theorem x_minL {ns : List Int} (h : ns ≠ []) (q : ∀ m, minI ns = some m → m ∈ ns → (∀ y ∈ ns, m ≤ y) → Q (.int m) S) : W (minAO [.lst (ns.map .int)] S) Q := by
  obtain ⟨m, e, h1, h2⟩ := minI_some h
  exact x_minA (sqv_lst ..) e (q m e h1 h2)
end
end DL
end
noncomputable section
namespace DL
open PySem L2
/-! ### enumerate of a tuple -/
section
open AutoSeq1 (wpAny_loadPart')
theorem meets_enumerate_newT (l : Addr) (items : Array Value) (n : Nat) (dct : Option Addr) (sl : Array (Option Value)) :
    Meets (Builtin.«enumerate.__new__» ⟨[.type "enumerate", .ref l], []⟩) (fun _ R s => s.heap.get? l = some { cls := .type "tuple", dict := dct, data := .seq items n, slots := sl } ∧
      R (.ok (.ret (.ref (s.heap.push { cls := .type "tuple_iterator", data := .fields #[.ref l, .int 0 0] }).objs.size)))
        { s with heap := (s.heap.push { cls := .type "tuple_iterator", data := .fields #[.ref l, .int 0 0] }).push { cls := .type "enumerate", data := .fields #[.none, .bool false, .ref s.heap.objs.size, rawInt 0, .none, .none] } }) :=
  .of_wp fun prog w A R s h => by
    obtain ⟨hp, g, d, tk, os⟩ := s; obtain ⟨hl, h⟩ := h
    have hsub := sub_enumerate
    have hL : Heap.IsTuple (Shared.heap ⟨hp, g, d, tk, os⟩) l items := ⟨_, hl, rfl, n, rfl⟩
    wp_walk using wpAny_loadPart' hl
    refine wpAny_stack_any fun st => wpAny_pure ?_
    split
    · rename_i c _ _ _ _ _
      cases (c == Value.type "enumerate")
      · wp_walk using wpAny_loadPart' hl, wpAny_pyIter_tuple hL
        exact ⟨_, rfl, h⟩
      · wp_walk using wpAny_loadPart' hl, wpAny_pyIter_tuple hL
        exact ⟨_, rfl, h⟩
    · wp_walk using wpAny_loadPart' hl, wpAny_pyIter_tuple hL
      exact ⟨_, rfl, h⟩
theorem call_enumerate_tuple {prog : Program} {w : World} {A : Around} {E : Value → Shared → Prop} {s : Shared} {l : Addr} {items : Array Value} {Q : Value → Shared → Prop} (hL : s.heap.IsTuple l items)
    (h : ∀ h', IsEnum h' (s.heap.objs.size + 1) s.heap.objs.size 0 .none → h'.IsTupleIter s.heap.objs.size l 0 → h'.objs.size = s.heap.objs.size + 2 →
      (∀ b o, s.heap.get? b = some o → h'.get? b = some o) → Q (.ref (s.heap.objs.size + 1)) { s with heap := h' }) :
    wpAny (model prog w) A (call (.type "enumerate") [.ref l]) Q E s := by
  obtain ⟨⟨c, dct, dt, sl⟩, hl, hc, n, hd⟩ := hL
  replace hc : c = .type "tuple" := hc
  replace hd : dt = .seq items n := hd
  subst hc hd
  refine callType_new F.called_enumerate (by decide) (F.typeCall_enumerate_1 _) (F.newCall_enumerate_1 _) (fun obj => F.args_object_init_2 obj _) F.entry_enumerate_new
    (meets_enumerate_newT l items n dct sl) ⟨hl, ?_⟩
  have hz : (s.heap.push { cls := .type "tuple_iterator", data := .fields #[.ref l, .int 0 0] }).objs.size = s.heap.objs.size + 1 := Heap.size_push ..
  show _ ∧ _
  rw [hz]
  have he : IsEnum ((s.heap.push { cls := .type "tuple_iterator", data := .fields #[.ref l, .int 0 0] }).push
      { cls := .type "enumerate", data := .fields #[.none, .bool false, .ref s.heap.objs.size, rawInt 0, .none, .none] }) (s.heap.objs.size + 1) s.heap.objs.size 0 .none := by
    have := Heap.get?_push_size (s.heap.push { cls := .type "tuple_iterator", data := .fields #[.ref l, .int 0 0] })
      (o := { cls := .type "enumerate", data := .fields #[.none, .bool false, .ref s.heap.objs.size, rawInt 0, .none, .none] }) rfl
    rw [hz] at this; exact this
  refine ⟨⟨_, he, rfl⟩, h _ he ⟨_, Heap.get?_push_of_some _ (Heap.get?_push_size _ rfl), rfl, rfl⟩ (by rw [Heap.size_push, hz]) fun b o x => Heap.get?_push_of_some _ (Heap.get?_push_of_some _ x)⟩
end
/-- the tuple at a as it stands at each turn, each item in a new pair -/
def IteT (K : PySem.W.Frag) (a : Addr) : It :=
  ⟨fun i H => ∃ (xs : List V) (x : V), SqT K H a xs ∧ xs[i]? = some x, fun i H v H' => ∃ T x, v = .ref T ∧ H T = none ∧ H' = upd H T (.tup [.int (i : Nat), x]) ∧ ∀ xs, SqT K H a xs → xs[i]? = some x, fun i H => ∃ xs : List V, SqT K H a xs ∧ xs.length ≤ i⟩
theorem turn_enumT {P : Program} {w : World} {K : PySem.W.Frag} {elts : List Expr} {kk : Nat} {tpos : Pos} (a e it : Addr) :
    Turn P w K (.Tuple elts kk tpos) (IteT K a) [e, it] e (fun i h => (∃ old, IsEnum h e it ((i : Nat) : Int) old) ∧ h.IsTupleIter it a i ∧ e ≠ it ∧ a ≠ it ∧ a ≠ e) where
  mem := by simp
  obj := fun i h st b hb => by
    obtain ⟨⟨old, he⟩, ⟨o, ho, hc, hd⟩, _⟩ := st
    have e' : b = e ∨ b = it := by simpa using hb
    rcases e' with z | z
    · rw [z]; exact ⟨_, he, fun v q => nomatch q⟩
    · rw [z]; exact ⟨o, ho, fun v q => by rw [hd] at q; cases q⟩
  keep := fun i h h' st k => let ⟨⟨old, he⟩, hi, hne⟩ := st; ⟨⟨old, k e (by simp) _ he⟩, hi.at fun o q => k it (by simp) o q, hne⟩
  item := by
    intro X hP hw hK hc i pins s σ H E I hf st hg
    subst hP hw hK
    obtain ⟨⟨old, he⟩, hit, hne, hai, hae⟩ := st
    obtain ⟨xs, x, hq, hx⟩ := hg
    obtain ⟨its, rv, p, hz⟩ := I.tuple hq
    obtain ⟨u, hu, ru⟩ := rv.get hx
    have hel : e < s.heap.objs.size := Heap.lt_size he
    have hil : it < s.heap.objs.size := by obtain ⟨_, q, _⟩ := hit; exact Heap.lt_size q
    have hli : i < its.toArray.size := by
      have := (List.getElem?_eq_some_iff.mp hu).1
      simpa using this
    refine wpAny_pyNext_enum_itemD (Draws.tuple (A := X.A.in1) (I.ok.hd hc) it a hai its.toArray) he ⟨hit, p⟩ hli hne (by simp [hne, Ne.symm hae]) fun y h' tk hy ho hst' hT hsz hk => ?_
    obtain ⟨hit', p'⟩ := hst'
    have ey : y = u := by
      have hy' : its[i]? = some y := by simpa using hy
      rw [hu] at hy'
      exact (Option.some.inj hy').symm
    subst ey
    refine ⟨_, rfl, wpAny_letOwnedTupleGo_enum (s := { s with heap := h', toks := tk + 1 }) ho fun h'' he' sb => ?_⟩
    have hT2 : h''.get? s.heap.objs.size = some { cls := .type "tuple", data := .seq #[.int i tk, y] } := (sb.2 _ (Nat.ne_of_gt hel)).trans hT
    have new : ObjOk X.prog X.w (upd H s.heap.objs.size (.tup [.int (i : Nat), x])) h'' s.heap.objs.size (.tup [.int (i : Nat), x]) :=
      ⟨by show 2 ≤ sizeLine; decide, [.int i tk, y], .cons ⟨_, rfl⟩ (.cons ru .nil), ⟨_, hT2, rfl, _, rfl⟩⟩
    have I1 : Inv X pins σ (upd H s.heap.objs.size (.tup [.int (i : Nat), x])) { s with heap := h'', toks := tk + 1 } :=
      I.turnedNew (ch := [e, it]) (fun b ob hb q => (sb.2 b (fun z => hb (by simp [z]))).trans (hk b ob (fun z => hb (by simp [z])) (fun z => hb (by simp [z])) q)) hf (Nat.le_refl _) new
    refine ⟨.ref s.heap.objs.size, _, I1, rfl, ⟨_, x, rfl, I.hok.fresh (Nat.le_refl _), rfl, fun ys hy => by rw [I.tuple_inj hy hq]; exact hx⟩, ⟨⟨y, ?_⟩, hit'.at fun o q => (sb.2 it (Ne.symm hne)).trans q, hne, hai, hae⟩, fun b hb => ?_⟩
    · have e1 : ((i + 1 : Nat) : Int) = (i : Int) + 1 := by omega
      rw [e1]; exact he'
    · have hb' : b < s.heap.objs.size := by
        have e' : b = e ∨ b = it := by simpa using hb
        rcases e' with z | z
        · rw [z]; exact hel
        · rw [z]; exact hil
      rw [upd_ne (Nat.ne_of_lt hb')]
      exact (hf b hb).1
  done := by
    intro X hP hw hK hc i pins s σ H E I hf st hg
    subst hP hw hK
    obtain ⟨⟨old, he⟩, hit, hne, hai, hae⟩ := st
    obtain ⟨xs, hq, hx⟩ := hg
    obtain ⟨its, rv, p, hz⟩ := I.tuple hq
    obtain ⟨f0, f1, f2, f3, f4, f5⟩ := hf it (by simp)
    have hl := rv.length
    have T : s.TypeIs (.ref e) "enumerate" := ⟨_, he, rfl⟩
    unfold pyNext
    refine wpAny_bind (wpAny_attempt (wpAny_callSpecial?_slot (name := Str.ofString "__next__") T F.slot_enumerate_next
      (wpAny_call_entry F.slot_enumerate_next T F.entry_enumerate_next ?_ (F.args_enumerate_next_1 _))))
    show wpAny _ _ (field (.ref e) 2 >>= _) _ _ _
    refine wpAny_bind (wpAny_field he rfl (x := .ref it) rfl ?_)
    refine wpAny_bind (wpAny_nextOf_tuple_end (I.ok.hd hc) hit p (by simp; omega) fun h' x he' hx' => ?_)
    obtain ⟨o, ho, hc'⟩ := hx'
    refine wpAny_bind (wpAny_isInstance (T := "StopIteration") (b := true) ⟨o, ho, hc'⟩ isSubtype_stop ?_)
    exact wpAny_pure ⟨rfl, I.turned (t' := s.toks) (fun b o hb q => he' b o hb q) f0 f1 f3 f4 f5⟩
  self := fun A i s Q E st h => let ⟨⟨_, he⟩, _⟩ := st; wpAny_pyIter_enum he h
/-- enumerate of a list or a tuple -/
def iEnumA (K : PySem.W.Frag) (ta : TA) : TI := fun σ H R => ta σ H fun vs H1 => ∃ a xs, vs = [.ref a] ∧ ((SqL K H1 a xs ∧ R (Ite K a) H1) ∨ (SqT K H1 a xs ∧ R (IteT K a) H1))
theorem pi_enumA {X : Cx} {e : Expr} {ta : TA} {p pos tpos : Pos} {elts : List Expr} {kk : Nat} (hg : Gl X "enumerate") (hm : X.mg "enumerate" = none) (ha : PA X [e] ta) (hs : starEach [e] X.env = [(false, eval e X.env)] := by rfl) :
    PI X (.Tuple elts kk tpos) (.Call (.Name "enumerate" p) [e] [] pos) (iEnumA X.K ta) := by
  refine ⟨fun pins s σ H R I h => ?_⟩
  refine PyProof.Rows.Call_ (ld_blt I hg hm PyProof.Rows.boot_enumerate (PyProof.Rows.callWith_type1 (thn (ha.run pos pins s σ H _ I h) fun us s1 ⟨vs, H1, I1, r1, q1⟩ => ?_) hs rfl))
  obtain ⟨a, xs, ex, q1⟩ := q1
  subst ex
  cases r1 with
  | cons r rr =>
    cases rr
    cases r
    have fresh2 : ∀ b ∈ [s1.heap.objs.size + 1, s1.heap.objs.size], FpOk X pins H1 b := fun b hb => by
      have e' : b = s1.heap.objs.size + 1 ∨ b = s1.heap.objs.size := by simpa using hb
      have hle : s1.heap.objs.size ≤ b := by
        rcases e' with z | z
        · rw [z]; exact Nat.le_add_right _ _
        · rw [z]; exact Nat.le_refl _
      exact I1.fpOk hle (I1.hok.fresh hle)
    rcases q1 with ⟨hq, q⟩ | ⟨hq, q⟩
    · obtain ⟨its, rv, p', hz⟩ := I1.list hq
      refine call_enumerate_list p'.isList fun h' he hit hsz hk => wpAny_pyIter_enum he ?_
      have I2 : Inv X pins σ H1 { s1 with heap := h' } := I1.kept (t' := s1.toks) hk
      exact ⟨s1.heap.objs.size + 1, [s1.heap.objs.size + 1, s1.heap.objs.size], _, _, H1, rfl, I2, turn_enum a (s1.heap.objs.size + 1) s1.heap.objs.size, ⟨⟨.none, he⟩, hit, Nat.succ_ne_self _⟩, fresh2, q⟩
    · obtain ⟨its, rv, p', hz⟩ := I1.tuple hq
      obtain ⟨o, ho, _⟩ := id p'
      have hal : a < s1.heap.objs.size := Heap.lt_size ho
      refine call_enumerate_tuple (show s1.heap.IsTuple a its.toArray from p') fun h' he hit hsz hk => wpAny_pyIter_enum he ?_
      have I2 : Inv X pins σ H1 { s1 with heap := h' } := I1.kept (t' := s1.toks) hk
      exact ⟨s1.heap.objs.size + 1, [s1.heap.objs.size + 1, s1.heap.objs.size], _, _, H1, rfl, I2, turn_enumT a (s1.heap.objs.size + 1) s1.heap.objs.size, ⟨⟨.none, he⟩, hit, Nat.succ_ne_self _, Nat.ne_of_lt hal, Nat.ne_of_lt (Nat.lt_succ_of_lt hal)⟩, fresh2, q⟩
section
variable {K : PySem.W.Frag}
def enAK : Ik := fun ds S => match ds with
  | [d] => (sqOf S d).bind fun xs => some (enumL xs)
  | _ => none
theorem li_enA {f : FA} : LI K (iEnumA K (tDA K f)) enAK f := by
  intro σ H R ρ δ S ds items S' hS hσ e ek q
  refine ⟨ρ, δ, S, ds, S', hS, hσ, e, fun vs H1 ρ1 s1 hS1 rvs => ?_⟩
  unfold enAK at ek
  split at ek
  · rename_i d
    obtain ⟨xs, e2, ek⟩ := bnd ek
    cases ek
    cases rvs with | cons rv rn => cases rn with | nil =>
      rcases sqOf_cases e2 with rfl | hl
      · obtain ⟨a, vs, rfl, hq, rs⟩ := tpOf_sq rv rfl
        refine ⟨a, vs, rfl, .inr ⟨hq, q _ H1 ρ1 [.ref a] s1 hS1 (.cons rv .nil) ⟨?_, ?_, ?_⟩⟩⟩
        · intro i H2 ρ2 S2 rvs hS2 k2 hi
          cases rvs with | cons rv2 rn2 => ?_
          obtain ⟨a', vs', e', hq', rs'⟩ := tpOf_sq rv2 rfl
          cases e'
          rw [enumL_len] at hi
          obtain ⟨v, hv, _⟩ := rs'.get (List.getElem?_eq_getElem hi)
          exact ⟨vs', v, hq', hv⟩
        · intro i H2 ρ2 S2 x H3 rvs hS2 k2 y hi
          cases rvs with | cons rv2 rn2 => ?_
          obtain ⟨T, z, rfl, hT, rfl, y⟩ := y
          obtain ⟨a', vs', e', hq', rs'⟩ := tpOf_sq rv2 rfl
          cases e'
          obtain ⟨d2, hd, rd⟩ := rs'.getV (y vs' hq')
          exact ⟨Step.new hS2 hT, hS2.new hT, _, enumL_get hd, rv_tup hS2 hT (.cons .int (.cons rd .nil))⟩
        · intro i H2 ρ2 S2 rvs hS2 k2 hi
          cases rvs with | cons rv2 rn2 => ?_
          obtain ⟨a', vs', e', hq', rs'⟩ := tpOf_sq rv2 rfl
          cases e'
          rw [enumL_len] at hi
          exact ⟨vs', hq', by rw [rs'.len]; exact hi⟩
      · obtain ⟨a, vs, rfl, hq, rs⟩ := lsOf_sq hS1 rv (hl _ _ e2)
        have again : ∀ S2, enAK [d] S2 = some (enumL xs) → lsOf S2 d = some xs := fun S2 h => by
          obtain ⟨ys, e3, e4⟩ := bnd (o := sqOf S2 d) h
          rw [hl _ _ e3, enumL_inj (Option.some.inj e4)]
        refine ⟨a, vs, rfl, .inl ⟨hq, q _ H1 ρ1 [.ref a] s1 hS1 (.cons rv .nil) ⟨?_, ?_, ?_⟩⟩⟩
        · intro i H2 ρ2 S2 rvs hS2 k2 hi
          cases rvs with | cons rv2 rn2 => ?_
          obtain ⟨a', vs', e', hq', rs'⟩ := lsOf_sq hS2 rv2 (again _ k2)
          cases e'
          rw [enumL_len] at hi
          obtain ⟨v, hv, _⟩ := rs'.get (List.getElem?_eq_getElem hi)
          exact ⟨vs', v, hq', hv⟩
        · intro i H2 ρ2 S2 x H3 rvs hS2 k2 y hi
          cases rvs with | cons rv2 rn2 => ?_
          obtain ⟨T, z, rfl, hT, rfl, y⟩ := y
          obtain ⟨a', vs', e', hq', rs'⟩ := lsOf_sq hS2 rv2 (again _ k2)
          cases e'
          obtain ⟨d2, hd, rd⟩ := rs'.getV (y vs' hq')
          exact ⟨Step.new hS2 hT, hS2.new hT, _, enumL_get hd, rv_tup hS2 hT (.cons .int (.cons rd .nil))⟩
        · intro i H2 ρ2 S2 rvs hS2 k2 hi
          cases rvs with | cons rv2 rn2 => ?_
          obtain ⟨a', vs', e', hq', rs'⟩ := lsOf_sq hS2 rv2 (again _ k2)
          cases e'
          rw [enumL_len] at hi
          exact ⟨vs', hq', by rw [rs'.len]; exact hi⟩
  · cases ek
theorem enumL_zip (xs : List D) : enumL xs = xs.zipIdx.map fun p => .tup [.int (p.2 : Int), p.1] := by
  refine List.ext_getElem? fun i => ?_
  cases q : xs[i]? with
  | none =>
    have hl : xs.length ≤ i := List.getElem?_eq_none_iff.mp q
    rw [List.getElem?_eq_none (by rw [enumL_len]; exact hl), List.getElem?_eq_none (by rw [List.length_map, List.length_zipIdx]; exact hl)]
  | some d =>
    rw [enumL_get q, List.getElem?_map, List.getElem?_zipIdx, q]
    simp
theorem k_enA {α : Type} {S : Sg} {d : D} (xs : List α) (e : α → D) (h : sqOf S d = some (xs.map e)) : enAK [d] S = some (xs.zipIdx.map fun p => .tup [.int (p.2 : Int), e p.1]) := by
  show (sqOf S d).bind _ = _
  rw [h, Option.bind_some, enumL_zip, List.zipIdx_map, List.map_map]
  rfl
/-! ### list(range(n)) -/
def rngO (f : FE) : FE := fun δ S => (f δ S).bind fun p => (isI p.1).bind fun i => if R62 i ∧ i.toNat ≤ 1000000 then some (.lst (rngL 0 i.toNat), p.2) else none
def rngNO (f : FE) : FE := fun δ S => (f δ S).bind fun p => (isI p.1).bind fun i => if R62 i ∧ i.toNat ≤ 1000000 then some (.loc p.2.length, p.2 ++ [.lst (rngL 0 i.toNat)]) else none
theorem rg_rvs {H : Hp} {ρ : Ro} (n : Int) : RVs K H ρ (rgV 0 n) (rngL 0 n.toNat) := by
  unfold rgV rngL
  rw [Int.sub_zero]
  generalize n.toNat = m
  induction List.range m with
  | nil => exact .nil
  | cons x r ih => exact .cons .int ih
theorem le_rng {f : FE} : ∀ σ H Q, tD K (rngO f) σ H Q → tLstRg (tRg1 (tD K f)) σ H Q := by
  rintro σ H Q ⟨ρ, δ, S, d, S', hS, hσ, e, q⟩
  obtain ⟨⟨x, S1⟩, e1, e⟩ := bnd e
  obtain ⟨i, e2, e3⟩ := bnd e
  clear e
  have e2' := isI_some e2
  dsimp only at e2' e3
  subst e2'
  split at e3
  · rename_i hi
    cases e3
    have h62 := (r62_iff i).mp hi.1
    refine ⟨ρ, δ, S, .int i, _, hS, hσ, e1, fun v H1 ρ1 s1 hS1 rv => ?_⟩
    cases rv
    refine ⟨i, rfl, ⟨by omega, by omega, by omega, by omega, by have := hi.2; omega⟩, fun p hp => ?_⟩
    exact q _ _ ρ1 (s1.trans (Step.new hS1 hp)) (hS1.new hp) (rv_lst hS1 hp (rg_rvs i))
  · cases e3
theorem le_rngN {f : FE} : ∀ σ H Q, tD K (rngNO f) σ H Q → tLstRg (tRg1 (tD K f)) σ H Q := by
  rintro σ H Q ⟨ρ, δ, S, d, S', hS, hσ, e, q⟩
  obtain ⟨⟨x, S1⟩, e1, e⟩ := bnd e
  obtain ⟨i, e2, e3⟩ := bnd e
  clear e
  have e2' := isI_some e2
  dsimp only at e2' e3
  subst e2'
  split at e3
  · rename_i hi
    cases e3
    have h62 := (r62_iff i).mp hi.1
    refine ⟨ρ, δ, S, .int i, _, hS, hσ, e1, fun v H1 ρ1 s1 hS1 rv => ?_⟩
    cases rv
    refine ⟨i, rfl, ⟨by omega, by omega, by omega, by omega, by have := hi.2; omega⟩, fun p hp => ?_⟩
    obtain ⟨a, b⟩ := rv_new hS1 hp (rg_rvs i)
    exact q _ _ _ (s1.trans (Step.push hS1 hp)) a b
  · cases e3
section
variable {X : Cx} {e : Expr} {f : FE} {p p2 pos pos2 : Pos}
theorem jrng (hc : X.calm = true) (hg : Gl X "list") (hm : X.mg "list" = none) (hg2 : Gl X "range") (hm2 : X.mg "range" = none) (he : JE X e f)
    (na2 : starEach [e] X.env = (false, eval e X.env) :: starEach [] X.env := by rfl) (na : starEach [Expr.Call (.Name "range" p) [e] [] pos] X.env = (false, eval (Expr.Call (.Name "range" p) [e] [] pos) X.env) :: starEach [] X.env := by rfl) :
    JE X (.Call (.Name "list" p2) [.Call (.Name "range" p) [e] [] pos] [] pos2) (rngO f) := PE.imp (pe_listRg hc hg hm (prg_1 hg2 hm2 he na2) na) le_rng
theorem jrngN (hc : X.calm = true) (hg : Gl X "list") (hm : X.mg "list" = none) (hg2 : Gl X "range") (hm2 : X.mg "range" = none) (he : JE X e f)
    (na2 : starEach [e] X.env = (false, eval e X.env) :: starEach [] X.env := by rfl) (na : starEach [Expr.Call (.Name "range" p) [e] [] pos] X.env = (false, eval (Expr.Call (.Name "range" p) [e] [] pos) X.env) :: starEach [] X.env := by rfl) :
    JE X (.Call (.Name "list" p2) [.Call (.Name "range" p) [e] [] pos] [] pos2) (rngNO f) := PE.imp (pe_listRg hc hg hm (prg_1 hg2 hm2 he na2) na) le_rngN
end
theorem w_rng {δ : Dl} {S : Sg} {f : FE} {Q : D → Sg → Prop} (h : W (f δ S) fun d S1 => ∃ m : Nat, d = .int (m : Int) ∧ m ≤ 1000000 ∧ Q (.lst ((List.range m).map fun (i : Nat) => .int (i : Int))) S1) : W (rngO f δ S) Q := by
  obtain ⟨_, S1, e, m, rfl, hm, q⟩ := h
  refine ⟨_, _, ?_, q⟩
  unfold rngO
  rw [e, Option.bind_some]
  show (if R62 (m : Int) ∧ _ then _ else none) = _
  rw [if_pos ⟨r62P (by omega), by omega⟩]
  unfold rngL
  rw [Int.toNat_natCast]
  simp only [Int.zero_add]
end
/-! ### sorted: tuples of numbers -/
def rowLe : List Int → List Int → Bool
  | [], _ => true
  | _ :: _, [] => false
  | x :: xs, y :: ys => if x = y then rowLe xs ys else decide (x < y)
def encR (r : List Int) : PyData := .tuple (r.map .int)
theorem rowLt_eq : ∀ xs ys : List Int, PySem.W.rowLt (xs.map .int) (ys.map .int) = !rowLe ys xs
  | [], [] => by
    rw [PySem.W.dataLt_ints]
    simp [rowLe]
  | [], y :: ys => by
    rw [PySem.W.dataLt_ints]
    simp [rowLe]
  | x :: xs, [] => by
    rw [PySem.W.dataLt_ints]
    simp [rowLe]
  | x :: xs, y :: ys => by
    have ih := rowLt_eq xs ys
    rw [PySem.W.dataLt_ints] at ih ⊢
    unfold rowLe
    by_cases h : x = y
    · subst h
      rw [if_pos rfl, ← ih]
      simp [List.cons_lt_cons_iff]
    · rw [if_neg (Ne.symm h)]
      by_cases q : x < y
      · have : ¬ y < x := by omega
        simp [List.cons_lt_cons_iff, h, q, this]
      · have : y < x := by omega
        simp [List.cons_lt_cons_iff, h, q, this]
theorem dataLe_enc {β : Type} (x : β → List Int) : PySem.W.dataLe false (fun b => encR (x b)) = fun p q => rowLe (x p) (x q) := by
  funext p q
  show (!PySem.W.dataLt (.tuple ((x q).map .int)) (.tuple ((x p).map .int))) = _
  rw [PySem.W.dataLt_tuple]
  show (!PySem.W.rowLt ((x q).map .int) ((x p).map .int)) = _
  rw [rowLt_eq, Bool.not_not]
section
variable {X : Cx}
/-- items that are tuples of numbers, one at least -/
def IsRow (K : PySem.W.Frag) (H : Hp) (v : V) (r : List Int) : Prop := ∃ t, v = .ref t ∧ SqT K H t (r.map V.int) ∧ r ≠ []
def rSortedRows (K : PySem.W.Frag) : List V → Hp → VK → Prop := fun vs H Q => ∃ (a : Addr) (bs : List (V × List Int)), vs = [V.ref a] ∧ SqL K H a (bs.map (·.1)) ∧ (∀ b ∈ bs, IsRow K H b.1 b.2) ∧
  ∀ p, H p = none → Q (.ref p) (upd H p (.lst ((bs.mergeSort fun p q => rowLe p.2 q.2).map (·.1))))
theorem each_rel : ∀ {bs : List (V × List Int)} {us : List Value}, Vals (bs.map (·.1)) us → PySem.W.EachIs (fun u (b : V × List Int) => RelV b.1 u) us bs
  | [], _, h => by cases h; exact .nil
  | b :: bs, _, h => by
    rw [List.map_cons] at h
    cases h with
    | cons h1 h2 => exact .cons h1 (each_rel h2)
theorem vals_each : ∀ {us : List Value} {bs : List (V × List Int)}, PySem.W.EachIs (fun u (b : V × List Int) => RelV b.1 u) us bs → Vals (bs.map (·.1)) us
  | _, _, .nil => .nil
  | _, _, .cons h t => .cons h (vals_each t)
theorem each_mem2 {α β : Type} {R R' : α → β → Prop} : ∀ {us : List α} {bs : List β}, PySem.W.EachIs R us bs → (∀ b ∈ bs, ∀ u, R u b → R' u b) → PySem.W.EachIs R' us bs
  | _, _, .nil, _ => .nil
  | _, _, .cons h t, k => .cons (k _ (by simp) _ h) (each_mem2 t fun b hb => k b (by simp [hb]))
theorem reads_ints {h : Heap} : ∀ {its : List Value} {ns : List Int}, PyProof.Rows.IntsAre its ns → ∃ as, PySem.ReadsAll h its (ns.map .int) as
  | _, _, .nil => ⟨_, .nil⟩
  | _, _, .cons n t hi => by
    obtain ⟨as, ra⟩ := reads_ints hi
    exact ⟨_, .cons (.int n t) ra⟩
theorem cr_sortedRows (hu : X.A.units + 8 < cLine) : CallR X (.builtin "sorted") (rSortedRows X.K) := by
  intro pins s σ H vs us Q I r h
  obtain ⟨a, bs, rfl, hs, hb, q⟩ := h
  obtain ⟨its, rv, hl, hz⟩ := I.list hs
  rw [Vals.ref1 r]
  have er : PySem.W.EachIs (fun v (b : V × List Int) => ∃ as, PySem.Reads s.heap v (encR b.2) as) its bs := each_mem2 (each_rel rv) fun b hbm u hu => by
    obtain ⟨t, et, hq, _⟩ := hb b hbm
    rw [et] at hu
    obtain rfl : u = Value.ref t := hu
    obtain ⟨its2, rv2, p2, _⟩ := I.tuple hq
    obtain ⟨o, ho, hc, n, hd⟩ := p2
    obtain ⟨as, ra⟩ := reads_ints (h := s.heap) rv2.ints
    exact ⟨as, .tuple ho hc hd (by simpa using ra)⟩
  refine PySem.W.sorted_data (enc := fun b : V × List Int => encR b.2) hl.isList (each_rel rv) er (PySem.W.AllAlike.of fun b b' => ?_) (.inl fun d hd => ?_) (by rw [List.length_map] at hz; exact hz) (fun b _ => ?_) fun out ho eo => ?_
  · show PySem.W.alikeAll _ _ = true
    exact PySem.W.alike_ints _ _
  · obtain ⟨b, hbm, rfl⟩ := List.mem_map.mp hd
    obtain ⟨t, _, _, hne⟩ := hb b hbm
    cases hr : b.2 with
    | nil => exact (hne hr).elim
    | cons x r => exact ⟨.int x, r.map .int, by unfold encR; rfl⟩
  · show X.A.units + 2 + (PyData.tuple (b.2.map .int)).depth < cLine
    rw [PyData.depth, PySem.W.depth_ints]
    omega
  · rw [dataLe_enc] at eo
    have hv := vals_each eo
    obtain ⟨ep, he'⟩ := PyProof.Rows.sortedAll_at s.heap its (List.toArray out)
    have hlen : ((bs.mergeSort fun p q => rowLe p.2 q.2).map (·.1)).length ≤ sizeLine := by
      rw [List.length_map, List.length_mergeSort]
      rw [List.length_map] at hz
      exact hz
    exact ⟨.ref _, upd H (s.heap.objs.size + 1) (.lst ((bs.mergeSort fun p q => rowLe p.2 q.2).map (·.1))), I.laid (t' := s.toks) (fun _ _ => PyProof.Rows.sortedAll_old) (Nat.le_succ _) ⟨hlen, out, ep, hv, he'⟩, rfl, q _ (I.hok.fresh (Nat.le_succ _))⟩
end
section
variable {K : PySem.W.Frag}
/-- rows of numbers -/
def rowOf : D → Option (List Int)
  | .tup ds => (intsOf ds).bind fun ns => if ns = [] then none else some ns
  | _ => none
def rowsOf : List D → Option (List (List Int))
  | [] => some []
  | d :: r => (rowOf d).bind fun x => (rowsOf r).bind fun y => some (x :: y)
def rowT (r : List Int) : D := .tup (r.map .int)
theorem rowOf_eq {d : D} {ns : List Int} (h : rowOf d = some ns) : d = rowT ns ∧ ns ≠ [] := by
  unfold rowOf at h
  split at h
  · obtain ⟨ms, e, h⟩ := bnd h
    split at h
    · cases h
    · cases h
      exact ⟨by rw [intsOf_eq e]; rfl, ‹_›⟩
  · cases h
def sortRO : OC := fun ds S => match ds with
  | [d] => (lsOf S d).bind fun xs => (rowsOf xs).bind fun rows => some (.lst ((rows.mergeSort rowLe).map rowT), S)
  | _ => none
def sortRNO : OC := fun ds S => match ds with
  | [d] => (lsOf S d).bind fun xs => (rowsOf xs).bind fun rows => some (.loc S.length, S ++ [.lst ((rows.mergeSort rowLe).map rowT)])
  | _ => none
theorem rows_pair {H : Hp} {ρ : Ro} : ∀ {ds : List D} {vs : List V} {rows : List (List Int)}, RVs K H ρ vs ds → rowsOf ds = some rows → ∃ bs : List (V × List Int), vs = bs.map (·.1) ∧ rows = bs.map (·.2) ∧ ∀ b ∈ bs, IsRow K H b.1 b.2 ∧ RV K H ρ b.1 (rowT b.2)
  | _, _, _, .nil, h => by
    cases h
    exact ⟨[], rfl, rfl, fun b hb => by cases hb⟩
  | d :: ds, v :: vs, _, .cons r rs, h => by
    obtain ⟨ns, e1, h⟩ := bnd (o := rowOf d) h
    obtain ⟨rest, e2, h⟩ := bnd h
    cases h
    obtain ⟨bs, rfl, rfl, hb⟩ := rows_pair rs e2
    obtain ⟨rfl, hne⟩ := rowOf_eq e1
    refine ⟨(v, ns) :: bs, rfl, rfl, fun b hbm => ?_⟩
    rcases List.mem_cons.mp hbm with rfl | hbm
    · refine ⟨?_, r⟩
      obtain ⟨t, ws, rfl, hq, rw'⟩ := tpOf_sq r (rfl : tpOf (rowT ns) = some (ns.map .int))
      rw [rvs_ints rw'] at hq
      exact ⟨t, rfl, hq, hne⟩
    · exact hb b hbm
theorem rvs_of {H : Hp} {ρ : Ro} : ∀ {bs : List (V × List Int)}, (∀ b ∈ bs, RV K H ρ b.1 (rowT b.2)) → RVs K H ρ (bs.map (·.1)) (bs.map fun b => rowT b.2)
  | [], _ => .nil
  | b :: bs, h => .cons (h b (by simp)) (rvs_of fun x hx => h x (by simp [hx]))
theorem ms_map {bs : List (V × List Int)} : (bs.mergeSort fun p q => rowLe p.2 q.2).map (·.2) = (bs.map (·.2)).mergeSort rowLe :=
  List.map_mergeSort (r := fun p q : V × List Int => rowLe p.2 q.2) (s := rowLe) (f := (·.2)) (fun _ _ _ _ => rfl)
theorem cbD_sortR : CbD K (rSortedRows K) sortRO := by
  intro xs H Q ρ S ds z S' hS rs eq q
  unfold sortRO at eq
  split at eq
  · cases rs with | cons rx rn => ?_
    cases rn
    obtain ⟨ys, e1, eq⟩ := bnd eq
    obtain ⟨rows, e2, eq⟩ := bnd eq
    cases eq
    obtain ⟨a, vs, rfl, hq, r⟩ := lsOf_sq hS rx e1
    obtain ⟨bs, rfl, rfl, hb⟩ := rows_pair r e2
    refine ⟨a, bs, rfl, hq, fun b hbm => (hb b hbm).1, fun p hp => ?_⟩
    have rr : RVs K H ρ ((bs.mergeSort fun p q => rowLe p.2 q.2).map (·.1)) (((bs.map (·.2)).mergeSort rowLe).map rowT) := by
      rw [← ms_map, List.map_map]
      exact rvs_of fun b hbm => (hb b (List.mem_mergeSort.mp hbm)).2
    exact q _ _ ρ (Step.new hS hp) (hS.new hp) (rv_lst hS hp rr)
  · cases eq
theorem cbD_sortRN : CbD K (rSortedRows K) sortRNO := by
  intro xs H Q ρ S ds z S' hS rs eq q
  unfold sortRNO at eq
  split at eq
  · cases rs with | cons rx rn => ?_
    cases rn
    obtain ⟨ys, e1, eq⟩ := bnd eq
    obtain ⟨rows, e2, eq⟩ := bnd eq
    cases eq
    obtain ⟨a, vs, rfl, hq, r⟩ := lsOf_sq hS rx e1
    obtain ⟨bs, rfl, rfl, hb⟩ := rows_pair r e2
    refine ⟨a, bs, rfl, hq, fun b hbm => (hb b hbm).1, fun p hp => ?_⟩
    have rr : RVs K H ρ ((bs.mergeSort fun p q => rowLe p.2 q.2).map (·.1)) (((bs.map (·.2)).mergeSort rowLe).map rowT) := by
      rw [← ms_map, List.map_map]
      exact rvs_of fun b hbm => (hb b (List.mem_mergeSort.mp hbm)).2
    obtain ⟨u, v⟩ := rv_new hS hp rr
    exact q _ _ _ (Step.push hS hp) u v
  · cases eq
theorem un8 {k : Nat} {A : Around} (h : Room k A) : A.units + 8 < cLine := by have := h.un; omega
theorem rowsOf_map : ∀ (rows : List (List Int)), (∀ r ∈ rows, r ≠ []) → rowsOf (rows.map rowT) = some rows
  | [], _ => rfl
  | r :: rows, h => by
    rw [List.map_cons]
    unfold rowsOf
    have e : rowOf (rowT r) = some r := by
      show (intsOf (r.map .int)).bind _ = _
      rw [intsOf_map, Option.bind_some, if_neg (h r (by simp))]
    rw [e, Option.bind_some, rowsOf_map rows fun x hx => h x (by simp [hx])]
    rfl
variable {S : Sg} {Q : D → Sg → Prop}
theorem x_sortR {rows : List (List Int)} (h : ∀ r ∈ rows, r ≠ []) (q : Q (.lst ((rows.mergeSort rowLe).map rowT)) S) : W (sortRO [.lst (rows.map rowT)] S) Q := by
  refine ⟨_, _, ?_, q⟩
  unfold sortRO
  dsimp only
  rw [lsv_lst, Option.bind_some, rowsOf_map rows h]
  rfl
end
end DL
end
noncomputable section
namespace DL
open PySem L2
/-! ### names of a list's or a tuple's items -/
def gUnA (K : PySem.W.Frag) (n : Nat) (t : TGs) : TG := fun v σ H Q => ∃ a xs, v = .ref a ∧ (SqL K H a xs ∨ SqT K H a xs) ∧ xs.length = n ∧ t xs σ H Q
theorem pg_unA {X : Cx} {pos : Pos} {es : List Expr} {k : Nat} {t : TGs} {n : Nat} (hc : X.calm = true) (h : PGs X es t)
    (hn : (assignEach es X.env).length = n := by rfl) (hst : (assignEach es X.env).findIdx? (·.1) = none := by rfl) : PG X (.Tuple es k pos) (gUnA X.K n t) := by
  refine ⟨fun pins s σ H v u Q I r hw => ?_⟩
  obtain ⟨a, xs, e1, hq, hl, hw⟩ := hw
  rcases hq with hq | hq
  · exact (pg_unl hc h hn hst).run pins s σ H v u Q I r ⟨a, xs, e1, hq, hl, hw⟩
  · exact (pg_tup hc h hn hst).run pins s σ H v u Q I r ⟨a, xs, e1, hq, hl, hw⟩
section
variable {K : PySem.W.Frag}
def tupAG (n : Nat) (u : FGs) : FG := fun d δ S => (sqOf S d).bind fun ds => if ds.length = n then u ds δ S else none
theorem lg_unA {n : Nat} {gs : TGs} {u : FGs} (h : LGs K gs u) : LG K (gUnA K n gs) (tupAG n u) := by
  intro v σ H Q ρ δ S d δ' S' hS hσ rv e q
  obtain ⟨ds, e1, e⟩ := bnd e
  split at e
  · rename_i hl
    obtain ⟨a, vs, rfl, hq, rs⟩ := sqOf_sq hS rv e1
    exact ⟨a, vs, rfl, hq, by rw [rs.len]; exact hl, h vs σ H Q ρ δ S ds δ' S' hS hσ rs e q⟩
  · cases e
theorem gm_unA {n : Nat} {gs : TGs} (hms : ∀ v σ H (Q Q' : St → Hp → Prop), (∀ a b, Q a b → Q' a b) → gs v σ H Q → gs v σ H Q') :
    ∀ v σ H (Q Q' : St → Hp → Prop), (∀ a b, Q a b → Q' a b) → gUnA K n gs v σ H Q → gUnA K n gs v σ H Q' := fun _ σ H _ _ m ⟨a, xs, e, h1, h2, q⟩ => ⟨a, xs, e, h1, h2, hms xs σ H _ _ m q⟩
theorem gw_unA {n : Nat} {gs : TGs} {vs : List Nat} (h : GWs gs vs) : GW (gUnA K n gs) vs := fun v σ H Q ⟨a, xs, e, h1, h2, q⟩ => ⟨a, xs, e, h1, h2, h xs σ H Q q⟩
theorem lw_unA {n : Nat} {gs : TGs} {u : FGs} {vs : List Nat} (h : LGWs K gs u vs) : LGW K (gUnA K n gs) (tupAG n u) vs := ⟨lg_unA h.lg, gw_unA h.gw, gm_unA h.gm⟩
theorem w_tupAG {n : Nat} {u : FGs} {d : D} {ds : List D} {δ : Dl} {S : Sg} {Q : Dl → Sg → Prop} (e : sqOf S d = some ds) (h : ds.length = n) (k : WG (u ds δ S) Q) : WG (tupAG n u d δ S) Q := by
  obtain ⟨δ1, S1, e1, q⟩ := k
  refine ⟨_, _, ?_, q⟩
  unfold tupAG
  rw [e, Option.bind_some, if_pos h]
  exact e1
end
end DL
end
noncomputable section
namespace DL
open PySem L2
/-! ### more of a store whose own part is known -/
section
variable {A : Sg} {L : List Ob} {N k : Nat} {Q : D → Sg → Prop} {δ : Dl}
theorem wl_mulN (hl : A.length = N) {xs : List D} {i : Int} (h : R63 i) (l : xs.length * i.toNat < 1000000) (q : Q (.loc (N + L.length)) (A ++ (L ++ [.lst (List.replicate i.toNat xs).flatten]))) : W (mulNO (.lst xs) (.int i) (A ++ L)) Q := by
  refine ⟨_, _, ?_, q⟩
  unfold mulNO
  dsimp only
  rw [plv_lst, Option.bind_some, if_pos ⟨h, (fits_iff _).mpr l⟩, List.length_append, hl, List.append_assoc]
theorem x_lenSq {S : Sg} {d : D} {xs : List D} (h : sqOf S d = some xs) (q : Q (.int (xs.length : Int)) S) : W (lenO [d] S) Q := by
  refine ⟨_, _, ?_, q⟩
  rw [lenv_seq, h]
theorem wl_truE (hl : A.length = N) {xs : List D} (h : L[k]? = some (.lst xs)) : truB (A ++ L) (.loc (N + k)) = some (!xs.isEmpty) := by
  rw [truv_loc, al_get hl, h]
  rfl
theorem wl_tru (hl : A.length = N) {xs : List D} {P : Bool → Prop} (h : L[k]? = some (.lst xs)) (q : P (!xs.isEmpty)) : ∃ b, truB (A ++ L) (.loc (N + k)) = some b ∧ P b :=
  ⟨_, wl_truE hl h, q⟩
theorem wl_slN (hl : A.length = N) {xs : List D} {lo hi : Option Int} (h : L[k]? = some (.lst xs)) (q : Q (.loc (N + L.length)) (A ++ (L ++ [.lst (cutD xs lo hi)]))) : W (slNO (.loc (N + k)) lo hi (A ++ L)) Q := by
  refine ⟨_, _, ?_, q⟩
  unfold slNO
  rw [lsv_loc, al_get hl, h]
  show some (D.loc (List.length (A ++ L)), A ++ L ++ [.lst (cutD xs lo hi)]) = _
  rw [List.length_append, hl, List.append_assoc]
theorem wl_sortRN (hl : A.length = N) {rows : List (List Int)} (h : ∀ r ∈ rows, r ≠ []) (q : Q (.loc (N + L.length)) (A ++ (L ++ [.lst ((rows.mergeSort rowLe).map rowT)]))) : W (sortRNO [.lst (rows.map rowT)] (A ++ L)) Q := by
  refine ⟨_, _, ?_, q⟩
  unfold sortRNO
  dsimp only
  rw [lsv_lst, Option.bind_some, rowsOf_map rows h, Option.bind_some, List.length_append, hl, List.append_assoc]
theorem w_finK {n : Nat} {d : D} {S : Sg} (q : Q d S) : W (finK n d S) Q := ⟨_, _, rfl, q⟩
theorem wl_sq (hl : A.length = N) {xs : List D} (h : L[k]? = some (.lst xs)) : sqOf (A ++ L) (.loc (N + k)) = some xs := by
  rw [sqv_loc, al_get hl, h]
  rfl
theorem wl_ls (hl : A.length = N) {xs : List D} (h : L[k]? = some (.lst xs)) : lsOf (A ++ L) (.loc (N + k)) = some xs := by
  rw [lsv_loc, al_get hl, h]
  rfl
theorem wl_rev (hl : A.length = N) {xs : List D} (h : L[k]? = some (.lst xs)) (q : Q .non (A ++ L.set k (.lst xs.reverse))) : W (revO (.loc (N + k)) [] (A ++ L)) Q := by
  refine ⟨_, _, ?_, q⟩
  unfold revO
  dsimp only
  rw [al_get hl, h]
  dsimp only
  rw [al_set hl]
theorem x_listSq {S : Sg} {d : D} {xs : List D} (h : sqOf S d = some xs) (q : Q (.lst xs) S) : W (listO [d] S) Q := by
  refine ⟨_, _, ?_, q⟩
  unfold listO
  dsimp only
  rw [h]
  rfl
theorem x_tupleSq {S : Sg} {d : D} {xs : List D} (h : sqOf S d = some xs) (q : Q (.tup xs) S) : W (tupleO [d] S) Q := by
  refine ⟨_, _, ?_, q⟩
  unfold tupleO
  dsimp only
  unfold sqOf at h
  cases e : lsOf S d with
  | some ys =>
    rw [e] at h
    cases h
    rfl
  | none =>
    rw [e] at h
    have h' : tpOf d = some xs := h
    dsimp only
    rw [h']
    rfl
end
theorem cut_take (xs : List D) (m : Nat) : cutD xs none (some (m : Int)) = xs.take m := by
  unfold cutD HT.sIx
  dsimp only
  rw [if_neg (by omega), List.drop_zero, Nat.sub_zero, List.take_eq_take_iff]
  omega
theorem cut_drop (xs : List D) (m : Nat) : cutD xs (some (m : Int)) none = xs.drop m := by
  unfold cutD
  rw [HT.sIx_nat, HT.sIx_none]
  by_cases h : m ≤ xs.length
  · rw [Nat.min_eq_left h]
    exact List.take_of_length_le (by rw [List.length_drop]; omega)
  · rw [Nat.min_eq_right (by omega), List.drop_eq_nil_of_le (Nat.le_refl _), List.drop_eq_nil_of_le (by omega), List.take_nil]
end DL
end
noncomputable section
namespace DL
open PySem L2
/-! ### list.pop at a place; the keys of a dict as a list -/
section
variable {K : PySem.W.Frag}
theorem RVs.eraseIdx {H : Hp} {ρ : Ro} : ∀ {vs : List V} {ds : List D} (i : Nat), RVs K H ρ vs ds → RVs K H ρ (vs.eraseIdx i) (ds.eraseIdx i)
  | _, _, _, .nil => .nil
  | _, _, 0, .cons _ r => r
  | _, _, i + 1, .cons h r => .cons h (RVs.eraseIdx i r)
def popAtO : OM := fun d ds S => match d, ds with
  | .loc n, [.int i] => match S[n]? with
    | some (.lst xs) => if 0 ≤ i ∧ i.toNat < xs.length ∧ R63 i then (xs[i.toNat]?).bind fun y => some (y, S.set n (.lst (xs.eraseIdx i.toNat))) else none
    | _ => none
  | _, _ => none
theorem seqIx {i : Int} {n : Nat} (h0 : 0 ≤ i) (h : i.toNat < n) : seqIndex? i n = some i.toNat := by
  unfold seqIndex?
  have h1 : ¬ i < 0 := by omega
  have h2 : (0 : Int) ≤ i := h0
  have h3 : i < (n : Int) := by omega
  simp [h1, h2, h3]
theorem mtD_popAt : MtD K "list" rPopAt popAtO isLoc := by
  refine ⟨fun _ _ _ _ _ hS r h => isLoc_ty hS r h, ?_⟩
  intro x xs H Q ρ S d ds z S' hS rx rs eq q
  unfold popAtO at eq
  split at eq
  · rename_i n i
    cases rs with | cons ry rn => ?_
    cases rn; cases ry
    cases rx with | loc hn => ?_
    split at eq
    · rename_i ys hy
      split at eq
      · rename_i hc
        obtain ⟨y, ey, eq⟩ := bnd eq
        cases eq
        obtain ⟨vs, h1, h2⟩ := hS.ob _ _ _ hn hy
        obtain ⟨v, hv, rv⟩ := h2.get ey
        have hr := (r63_iff i).mp hc.2.2
        refine ⟨_, vs, i, i.toNat, v, rfl, rfl, h1, by omega, by omega, seqIx hc.1 (by rw [h2.len]; exact hc.2.1), hv, ?_⟩
        have st : Step ρ ρ H (upd H _ (.lst (vs.eraseIdx i.toNat))) := Step.write hn h1
        exact q _ _ ρ st (hS.write hn ⟨_, h1⟩ ⟨_, upd_same, (h2.eraseIdx _).mono st⟩) (rv.mono st)
      · cases eq
    · cases eq
  · cases eq
def kD : Key → D
  | .inl i => .int i
  | .inr z => .str z
theorem kD_rv {H : Hp} {ρ : Ro} : ∀ k : Key, RV K H ρ (kV k) (kD k)
  | .inl _ => .int
  | .inr _ => .str
theorem kDs_rv {H : Hp} {ρ : Ro} : ∀ {kvs : List (Key × V)} {gs : List (Key × D)}, kvs.map (·.1) = gs.map (·.1) → RVs K H ρ (kvs.map fun kv => kV kv.1) (gs.map fun kv => kD kv.1)
  | [], [], _ => .nil
  | [], _ :: _, h => by cases h
  | _ :: _, [], h => by cases h
  | kv :: kvs, g :: gs, h => by
    rw [List.map_cons, List.map_cons] at h
    injection h with h1 h2
    rw [List.map_cons, List.map_cons, h1]
    exact .cons (kD_rv g.1) (kDs_rv h2)
def listDO : OC := fun ds S => match ds with
  | [d] => (dsOf S d).bind fun gs => some (.lst (gs.map fun kv => kD kv.1), S)
  | _ => none
theorem cbD_listD : CbD K (fun xs H Q => ∃ (a : Addr) (kvs : List (Key × V)), xs = [.ref a] ∧ Rd H a (.dK kvs) ∧ ∀ p, H p = none → Q (.ref p) (upd H p (.lst (kvs.map fun kv => kV kv.1)))) listDO := by
  intro xs H Q ρ S ds z S' hS rs eq q
  unfold listDO at eq
  split at eq
  · cases rs with | cons rx rn => ?_
    cases rn
    obtain ⟨gs, e1, eq⟩ := bnd eq
    cases eq
    obtain ⟨a, kvs, rfl, hq, r⟩ := dsOf_rd hS rx e1
    exact ⟨a, kvs, rfl, .inl hq, fun p hp => q _ _ ρ (Step.new hS hp) (hS.new hp) (rv_lst hS hp (kDs_rv r.ks))⟩
  · cases eq
/-! sorted, of any number of ints -/
def srtI (ns : List Int) : List Int := ns.mergeSort fun a b => decide (a ≤ b)
theorem srtI_perm (ns : List Int) : (srtI ns).Perm ns := List.mergeSort_perm _ _
theorem srtI_sorted (ns : List Int) : (srtI ns).Pairwise (· ≤ ·) :=
  (List.pairwise_mergeSort (le := fun a b : Int => decide (a ≤ b)) (fun a b c h k => decide_eq_true (Int.le_trans (of_decide_eq_true h) (of_decide_eq_true k))) (fun a b => by
    rcases Int.le_total a b with h | h
    · rw [decide_eq_true h]; rfl
    · rw [decide_eq_true h, Bool.or_true]) ns).imp fun h => of_decide_eq_true h
theorem sortedI_eq : ∀ {l r : List Int}, l.Perm r → l.Pairwise (· ≤ ·) → r.Pairwise (· ≤ ·) → l = r
  | [], r, h, _, _ => h.nil_eq
  | a :: l, r, h, hl, hr => by
    cases r with
    | nil => exact h.eq_nil
    | cons b r =>
      have e : a = b := by
        rw [List.pairwise_cons] at hl hr
        have h1 : a ∈ b :: r := h.mem_iff.mp (List.mem_cons_self ..)
        have h2 : b ∈ a :: l := h.mem_iff.mpr (List.mem_cons_self ..)
        rcases List.mem_cons.mp h1 with e | h1
        · exact e
        · rcases List.mem_cons.mp h2 with e | h2
          · exact e.symm
          · exact Int.le_antisymm (hl.1 _ h2) (hr.1 _ h1)
      subst e
      rw [sortedI_eq (h.cons_inv) (List.pairwise_cons.mp hl).2 (List.pairwise_cons.mp hr).2]
def sortIO : OC := fun ds S => match ds with
  | [d] => (lsOf S d).bind fun xs => (intsOf xs).bind fun ns => some (.lst ((srtI ns).map .int), S)
  | _ => none
theorem rvs_isI {H : Hp} {ρ : Ro} : ∀ {vs : List V} {ds : List D} {ns : List Int}, RVs K H ρ vs ds → intsOf ds = some ns → vs = ns.map V.int
  | _, _, _, .nil, h => by cases h; rfl
  | v :: vs, d :: ds, ns, .cons r rs, h => by
    cases d with
    | int i =>
      obtain ⟨rest, e1, h⟩ := bnd (o := intsOf ds) h
      cases h
      cases r
      rw [rvs_isI rs e1]
      rfl
    | _ => cases h
theorem rvs_intsL {H : Hp} {ρ : Ro} : ∀ ns : List Int, RVs K H ρ (ns.map V.int) (ns.map D.int)
  | [] => .nil
  | _ :: ns => .cons .int (rvs_intsL ns)
theorem cbD_sortI : CbD K (rSortedI K) sortIO := by
  intro xs H Q ρ S ds z S' hS rs eq q
  unfold sortIO at eq
  split at eq
  · cases rs with | cons rx rn => ?_
    cases rn
    obtain ⟨ys, e1, eq⟩ := bnd eq
    obtain ⟨ns, e2, eq⟩ := bnd eq
    cases eq
    obtain ⟨a, vs, rfl, hq, r⟩ := lsOf_sq hS rx e1
    have ev := rvs_isI r e2
    subst ev
    refine ⟨a, ns, rfl, hq, fun ns' p hp hs hn => ?_⟩
    rw [show ns' = srtI ns from sortedI_eq (hp.trans (srtI_perm ns).symm) hs (srtI_sorted ns)]
    exact q _ _ ρ (Step.new hS hn) (hS.new hn) (rv_lst hS hn (rvs_intsL _))
  · cases eq
end
section
variable {A S : Sg} {L : List Ob} {N k : Nat} {Q : D → Sg → Prop}
theorem wl_popAt (hl : A.length = N) {xs : List D} {j : Nat} {y : D} (h : L[k]? = some (.lst xs)) (hy : xs[j]? = some y) (hj : j < 1000000) (q : Q y (A ++ L.set k (.lst (xs.eraseIdx j)))) : W (popAtO (.loc (N + k)) [.int (j : Int)] (A ++ L)) Q := by
  refine ⟨_, _, ?_, q⟩
  unfold popAtO
  dsimp only
  rw [al_get hl, h]
  dsimp only
  have hlt := (List.getElem?_eq_some_iff.mp hy).1
  rw [if_pos ⟨by omega, by omega, (r63_iff _).mpr (by omega)⟩, Int.toNat_natCast, hy, Option.bind_some, al_set hl]
theorem x_sortI {ns : List Int} (q : Q (.lst ((srtI ns).map .int)) S) : W (sortIO [.lst (ns.map .int)] S) Q := by
  refine ⟨_, _, ?_, q⟩
  unfold sortIO
  dsimp only
  rw [lsv_lst, Option.bind_some, intsOf_map]
  rfl
theorem x_listD {d : D} {gs : List (Key × D)} (h : dsOf S d = some gs) (q : Q (.lst (gs.map fun kv => kD kv.1)) S) : W (listDO [d] S) Q := by
  refine ⟨_, _, ?_, q⟩
  unfold listDO
  dsimp only
  rw [h]
  rfl
theorem wl_dsOf (hl : A.length = N) {gs : List (Key × D)} (h : L[k]? = some (.dct gs)) : dsOf (A ++ L) (.loc (N + k)) = some gs := by
  unfold dsOf
  dsimp only
  rw [al_get hl, h]
theorem x_inseq {e d : D} {xs : List D} (h : sqOf S d = some xs) (h1 : flatD e = true) (h2 : xs.all flatD = true) (q : Q (.bl (inF e xs)) S) : W (inseqO e d S) Q := by
  refine ⟨_, _, ?_, q⟩
  unfold inseqO
  rw [h, Option.bind_some, if_pos ⟨h1, h2⟩]
end
/-! ### `{}`, to be changed; not in a list -/
section
variable {X : Cx} {pos : Pos} {K : PySem.W.Frag}
def dnewD : FE := fun _ S => some (.loc S.length, S ++ [.dct []])
theorem le_dnew : ∀ σ H Q, tD K dnewD σ H Q → tDNewK σ H Q := by
  rintro σ H Q ⟨ρ, δ, S, d, S', hS, hσ, e, q⟩
  cases e
  intro p hp
  refine q _ _ _ (Step.push hS hp) (hS.push hp ⟨[], upd_same, rfl, .nil⟩) (.loc ?_)
  show (ρ.pl ++ [p])[S.length]? = some p
  rw [← hS.len, List.getElem?_append_right (Nat.le_refl _), Nat.sub_self]
  rfl
theorem jd0 : JE X (.Dict [] [] pos) dnewD := PE.imp pe_dnewK le_dnew
def ninseqO : O2 := fun d e S => (sqOf S e).bind fun xs => if flatD d = true ∧ xs.all flatD = true then some (.bl (!inF d xs), S) else none
theorem opD_ninseq : OpD K (rIn K true) ninseqO := by
  intro x y H Q ρ S d e z S' hS rx ry eq q
  obtain ⟨xs, e1, eq⟩ := bnd eq
  split at eq
  · rename_i hf
    cases eq
    obtain ⟨a, vs, rfl, hq, rs⟩ := sqOf_sq hS ry e1
    refine ⟨a, vs, rfl, hq, flat_rv rx hf.1, flats_rv rs hf.2, ?_⟩
    rw [if_pos rfl, inF_rv rx hf.1 rs hf.2]
    exact q _ H ρ (Step.refl _ _) hS .bl
  · cases eq
variable {a b : Expr} {f g : FE}
theorem jninseq (ha : JE X a f) (hb : JE X b g) (hm : behindInMarks .NotIn b = false := by rfl) : JE X (.Compare a [.NotIn] [b] pos) (op2D ninseqO f g) := jcmpR op_notIn_seq opD_ninseq ha hb hm
theorem jtninseq (ha : JE X a f) (hb : JE X b g) (hm : behindInMarks .NotIn b = false := by rfl) : JT X (.Compare a [.NotIn] [b] pos) (tvD (op2D ninseqO f g)) := jtcmpR op_notIn_seq opD_ninseq ha hb hm
theorem x_ninseq {S : Sg} {Q : D → Sg → Prop} {e d : D} {xs : List D} (h : sqOf S d = some xs) (h1 : flatD e = true) (h2 : xs.all flatD = true) (q : Q (.bl (!inF e xs)) S) : W (ninseqO e d S) Q := by
  refine ⟨_, _, ?_, q⟩
  unfold ninseqO
  rw [h, Option.bind_some, if_pos ⟨h1, h2⟩]
theorem wl_dnew {A : Sg} {L : List Ob} {N : Nat} {δ : Dl} {Q : D → Sg → Prop} (hl : A.length = N) (q : Q (.loc (N + L.length)) (A ++ (L ++ [.dct []]))) : W (dnewD δ (A ++ L)) Q := by
  refine ⟨_, _, ?_, q⟩
  unfold dnewD
  rw [List.length_append, hl, List.append_assoc]
/-- `d[k] = v` at a place -/
theorem wl_dput {A : Sg} {L : List Ob} {N k : Nat} {δ : Dl} {fd fk fv : FE} {Q : Fl → Dl → Sg → Prop} (hl : A.length = N)
    (h : W (fv δ (A ++ L)) fun v S1 => W (fd δ S1) fun d S2 => W (fk δ S2) fun y S3 => ∃ (L3 : List Ob) (gs : List (Key × D)) (kk : Key), S3 = A ++ L3 ∧ d = .loc (N + k) ∧ L3[k]? = some (.dct gs) ∧ gs.length < 1000000 ∧ keyOf y = some kk ∧ Q .nx δ (A ++ L3.set k (.dct (putG gs kk v)))) : WS (dputS fd fk fv δ (A ++ L)) Q := by
  obtain ⟨v, S1, e1, d, S2, e2, y, S3, e3, L3, gs, kk, rfl, rfl, h1, h2, h3, q⟩ := h
  refine ⟨_, _, _, r_dput e1 e2 e3 (by rw [al_get hl]; exact h1) h2 h3, ?_⟩
  rw [al_set hl]
  exact q
end
end DL
end
noncomputable section
namespace DL
open PySem L2
/-! ### sorted(set(xs)), xs pairs of numbers, fewer than 64 -/
def nub {α : Type} [DecidableEq α] : List α → List α
  | [] => []
  | a :: r => if a ∈ r then nub r else a :: nub r
theorem mem_nub {α : Type} [DecidableEq α] {x : α} : ∀ {l : List α}, x ∈ nub l ↔ x ∈ l
  | [] => Iff.rfl
  | a :: r => by
    unfold nub
    split
    · rename_i h
      rw [mem_nub, List.mem_cons]
      exact ⟨.inr, fun q => q.elim (fun e => by rw [e]; exact h) id⟩
    · rw [List.mem_cons, List.mem_cons, mem_nub]
theorem nodup_nub {α : Type} [DecidableEq α] : ∀ l : List α, (nub l).Nodup
  | [] => List.nodup_nil
  | a :: r => by
    unfold nub
    split
    · exact nodup_nub r
    · rename_i h
      exact List.nodup_cons.mpr ⟨fun q => h (mem_nub.mp q), nodup_nub r⟩
theorem perm_mem {α : Type} [DecidableEq α] : ∀ {l r : List α}, l.Nodup → r.Nodup → (∀ a, a ∈ l ↔ a ∈ r) → l.Perm r
  | [], r, _, _, h => by
    cases r with
    | nil => exact .nil
    | cons b r => exact absurd ((h b).mpr (List.mem_cons_self ..)) List.not_mem_nil
  | a :: l, r, hl, hr, h => by
    have ha : a ∈ r := (h a).mp (List.mem_cons_self ..)
    obtain ⟨h1, h2⟩ := List.nodup_cons.mp hl
    have p := List.perm_cons_erase ha
    have hr' := (p.nodup_iff).mp hr
    obtain ⟨h3, h4⟩ := List.nodup_cons.mp hr'
    refine ((perm_mem h2 h4 fun b => ?_).cons a).trans p.symm
    constructor
    · intro hb
      have hne : b ≠ a := fun e => h1 (e ▸ hb)
      exact (List.mem_erase_of_ne hne).mpr ((h b).mp (List.mem_cons_of_mem _ hb))
    · intro hb
      have hne : b ≠ a := fun e => h3 (e ▸ hb)
      have := (h b).mpr ((List.mem_erase_of_ne hne).mp hb)
      exact (List.mem_cons.mp this).resolve_left hne
theorem srt_eq {α : Type} {R : α → α → Prop} : ∀ {l r : List α}, l.Perm r → l.Pairwise R → r.Pairwise R → (∀ a ∈ l, ∀ b ∈ l, R a b → R b a → a = b) → l = r
  | [], r, p, _, _, _ => by rw [List.nil_perm.mp p]
  | a :: l, r, p, hl, hr, anti => by
    cases r with
    | nil => exact absurd p.length_eq (by simp)
    | cons b r =>
      obtain ⟨l1, l2⟩ := List.pairwise_cons.mp hl
      obtain ⟨r1, r2⟩ := List.pairwise_cons.mp hr
      have hab : a = b := by
        have hb : b ∈ a :: l := p.mem_iff.mpr (List.mem_cons_self ..)
        have ha : a ∈ b :: r := p.mem_iff.mp (List.mem_cons_self ..)
        rcases List.mem_cons.mp hb with e | hb'
        · exact e.symm
        · rcases List.mem_cons.mp ha with e | ha'
          · exact e
          · exact anti a (List.mem_cons_self ..) b hb (l1 b hb') (r1 a ha')
      subst hab
      rw [srt_eq (List.perm_cons a |>.mp p) l2 r2 fun x hx y hy => anti x (List.mem_cons_of_mem _ hx) y (List.mem_cons_of_mem _ hy)]
def isPr (B : Int) (r : List Int) : Prop := r.length = 2 ∧ ∀ x ∈ r, 0 ≤ x ∧ x < B
def BP : Int := 100000000
theorem isPr_two {r : List Int} (h : isPr BP r) : ∃ x y, r = [x, y] ∧ 0 ≤ x ∧ 0 ≤ y ∧ x < BP ∧ y < BP := by
  obtain ⟨h1, h2⟩ := h
  match r, h1 with
  | [x, y], _ => exact ⟨x, y, rfl, (h2 x (by simp)).1, (h2 y (by simp)).1, (h2 x (by simp)).2, (h2 y (by simp)).2⟩
theorem codeP (x y : Int) : TS.code BP [x, y] = x * 100000000 + y := by
  have e1 : BP ^ 1 = 100000000 := by decide
  have e0 : BP ^ 0 = 1 := by decide
  show x * BP ^ 1 + (y * BP ^ 0 + 0) = x * 100000000 + y
  rw [e1, e0, Int.mul_one, Int.add_zero]
theorem rowLe_two (x y u v : Int) : rowLe [x, y] [u, v] = if x = u then (if y = v then true else decide (y < v)) else decide (x < u) := rfl
theorem code_row {q r : List Int} (hq : isPr BP q) (hr : isPr BP r) (h : TS.code BP q ≤ TS.code BP r) : rowLe q r = true := by
  obtain ⟨x, y, rfl, a1, a2, a3, a4⟩ := isPr_two hq
  obtain ⟨u, v, rfl, b1, b2, b3, b4⟩ := isPr_two hr
  rw [codeP, codeP] at h
  have e : BP = 100000000 := rfl
  rw [rowLe_two]
  by_cases h1 : x = u
  · rw [if_pos h1]
    by_cases h2 : y = v
    · rw [if_pos h2]
    · rw [if_neg h2]
      exact decide_eq_true (by omega)
  · rw [if_neg h1]
    exact decide_eq_true (by omega)
theorem row_code {q r : List Int} (hq : isPr BP q) (hr : isPr BP r) (h : rowLe q r = true) : TS.code BP q ≤ TS.code BP r := by
  obtain ⟨x, y, rfl, a1, a2, a3, a4⟩ := isPr_two hq
  obtain ⟨u, v, rfl, b1, b2, b3, b4⟩ := isPr_two hr
  rw [codeP, codeP]
  have e : BP = 100000000 := rfl
  rw [rowLe_two] at h
  split at h
  · rename_i h1
    split at h
    · omega
    · have := of_decide_eq_true h
      omega
  · have := of_decide_eq_true h
    omega
theorem code_inj {q r : List Int} (hq : isPr BP q) (hr : isPr BP r) (h1 : TS.code BP q ≤ TS.code BP r) (h2 : TS.code BP r ≤ TS.code BP q) : q = r := by
  obtain ⟨x, y, rfl, a1, a2, a3, a4⟩ := isPr_two hq
  obtain ⟨u, v, rfl, b1, b2, b3, b4⟩ := isPr_two hr
  rw [codeP, codeP] at h1 h2
  have e : BP = 100000000 := rfl
  rw [show x = u by omega, show y = v by omega]
theorem rowLe_tot : ∀ q r : List Int, (rowLe q r || rowLe r q) = true
  | [], _ => by simp [rowLe]
  | _ :: _, [] => by simp [rowLe]
  | x :: q, y :: r => by
    unfold rowLe
    by_cases h : x = y
    · rw [if_pos h, if_pos h.symm]
      exact rowLe_tot q r
    · rw [if_neg h, if_neg (Ne.symm h)]
      by_cases g : x < y
      · rw [decide_eq_true g]
        rfl
      · rw [decide_eq_true (show y < x by omega), Bool.or_true]
theorem rowLe_tr : ∀ p q r : List Int, rowLe p q = true → rowLe q r = true → rowLe p r = true
  | [], _, _, _, _ => by simp [rowLe]
  | _ :: _, [], _, h, _ => by simp [rowLe] at h
  | _ :: _, _ :: _, [], _, h => by simp [rowLe] at h
  | x :: p, y :: q, z :: r, h, k => by
    unfold rowLe at h k ⊢
    by_cases e1 : x = y
    · subst e1
      rw [if_pos rfl] at h
      by_cases e2 : x = z
      · rw [if_pos e2] at k ⊢
        exact rowLe_tr p q r h k
      · rw [if_neg e2] at k ⊢
        exact k
    · rw [if_neg e1] at h
      have h := of_decide_eq_true h
      by_cases e2 : y = z
      · subst e2
        rw [if_neg e1]
        exact decide_eq_true h
      · rw [if_neg e2] at k
        have k := of_decide_eq_true k
        rw [if_neg (by omega)]
        exact decide_eq_true (by omega)
/-- the one order of the pairs -/
theorem set_is {rows ls : List (List Int)} (hr : ∀ r ∈ rows, isPr BP r) (hn : ls.Nodup) (hm : ∀ r, r ∈ ls ↔ r ∈ rows) (hs : ls.Pairwise fun q r => TS.code BP q ≤ TS.code BP r) : ls = (nub rows).mergeSort rowLe := by
  have hp : ls.Perm ((nub rows).mergeSort rowLe) := (perm_mem hn (nodup_nub rows) fun a => (hm a).trans mem_nub.symm).trans (List.mergeSort_perm _ _).symm
  refine srt_eq hp hs ?_ fun a ha b hb h k => code_inj (hr a ((hm a).mp ha)) (hr b ((hm b).mp hb)) h k
  have h2 : ((nub rows).mergeSort rowLe).Pairwise fun q r => rowLe q r = true := List.pairwise_mergeSort rowLe_tr rowLe_tot _
  refine List.Pairwise.imp_of_mem (fun {a b} ha hb h => ?_) h2
  have ma : ∀ {a}, a ∈ (nub rows).mergeSort rowLe → isPr BP a := fun h => hr _ (mem_nub.mp (List.mem_mergeSort.mp h))
  exact row_code (ma ha) (ma hb) h
section
variable {K : PySem.W.Frag}
open Classical in
def srtSetO (f : FE) : FE := fun δ S => (f δ S).bind fun p => (lsOf p.2 p.1).bind fun xs => (rowsOf xs).bind fun rows => if rows.length < 64 ∧ ∀ r ∈ rows, isPr BP r then some (.lst (((nub rows).mergeSort rowLe).map rowT), p.2) else none
def adr : V → Addr
  | .ref a => a
  | _ => default
theorem le_srtSet {f : FE} {P : Program} {w : World} : ∀ σ H Q, tD K (srtSetO f) σ H Q → tCB (rSortedT K P w) (tCons (tCB (rSetOfT K P w) (tCons (tD K f) tNil)) tNil) σ H Q := by
  rintro σ H Q ⟨ρ, δ, S, d, S', hS, hσ, e, q⟩
  obtain ⟨⟨x, S1⟩, e1, e⟩ := bnd e
  obtain ⟨xs, e2, e⟩ := bnd e
  obtain ⟨rows, e3, e⟩ := bnd e
  dsimp only at e e2
  split at e
  · rename_i hc
    cases e
    refine ⟨ρ, δ, S, x, _, hS, hσ, e1, fun v H1 ρ1 s1 hS1 rv => ?_⟩
    obtain ⟨a, vs, rfl, hq, r⟩ := lsOf_sq hS1 rv e2
    obtain ⟨bs, rfl, rfl, hb⟩ := rows_pair r e3
    have hv : bs.map (·.1) = (bs.map fun b => (adr b.1, b.2)).map fun p => V.ref p.1 := by
      rw [List.map_map]
      refine List.map_congr_left fun b hbm => ?_
      obtain ⟨t, et, _⟩ := (hb b hbm).1
      show b.1 = V.ref (adr b.1)
      rw [et]
      rfl
    refine ⟨a, bs.map fun b => (adr b.1, b.2), rfl, by rw [← hv]; exact hq, fun p hp => ?_, by have := hc.1; rw [List.length_map] at this ⊢; exact this, fun s L hs hsub hall => ?_⟩
    · obtain ⟨b, hbm, rfl⟩ := List.mem_map.mp hp
      obtain ⟨t, et, hq2, _⟩ := (hb b hbm).1
      show SqT K H1 (adr b.1) _
      rw [et]
      exact hq2
    have st2 : Step ρ1 ρ1 H1 (upd H1 s (SetTO P w s L)) := Step.new hS1 hs
    have hS2 := hS1.new (o := SetTO P w s L) hs
    have hL : ∀ p ∈ L, ∃ b ∈ bs, p = (adr b.1, b.2) := fun p hp => by
      obtain ⟨b, hbm, e⟩ := List.mem_map.mp (hsub p hp)
      exact ⟨b, hbm, e.symm⟩
    have hLr : ∀ p ∈ L, RV K (upd H1 s (SetTO P w s L)) ρ1 (.ref p.1) (rowT p.2) := fun p hp => by
      obtain ⟨b, hbm, rfl⟩ := hL p hp
      have hr := (hb b hbm).2.mono st2
      obtain ⟨t, et, _⟩ := (hb b hbm).1
      show RV K _ ρ1 (.ref (adr b.1)) (rowT b.2)
      rw [et] at hr ⊢
      exact hr
    refine ⟨s, L, 2, BP, rfl, upd_same, fun p hp => ?_, by decide, fun p hp => ?_, fun L' p pm nd h64 hs' hp => ?_⟩
    · obtain ⟨t, ws, et, hq2, rw'⟩ := tpOf_sq (hLr p hp) (rfl : tpOf (rowT p.2) = some (p.2.map .int))
      rw [rvs_ints rw'] at hq2
      cases et
      exact hq2
    · obtain ⟨b, hbm, rfl⟩ := hL p hp
      obtain ⟨g1, g2⟩ := hc.2 b.2 (List.mem_map_of_mem hbm)
      exact ⟨g1, g2⟩
    have el : L'.map (·.2) = (nub (bs.map (·.2))).mergeSort rowLe := by
      refine set_is hc.2 nd (fun r => ?_) (List.pairwise_map.mpr hs')
      constructor
      · intro hm
        obtain ⟨p, hpm, rfl⟩ := List.mem_map.mp hm
        obtain ⟨b, hbm, rfl⟩ := hL p (pm.mem_iff.mp hpm)
        exact List.mem_map_of_mem hbm
      · intro hm
        obtain ⟨b, hbm, rfl⟩ := List.mem_map.mp hm
        have := hall (adr b.1, b.2) (List.mem_map_of_mem hbm)
        obtain ⟨p, hpm, e⟩ := List.mem_map.mp this
        rw [show b.2 = p.2 from e.symm]
        exact List.mem_map_of_mem (pm.mem_iff.mpr hpm)
    have rr : RVs K (upd H1 s (SetTO P w s L)) ρ1 (L'.map fun q => V.ref q.1) (((nub (bs.map (·.2))).mergeSort rowLe).map rowT) := by
      rw [← el, List.map_map]
      have : ∀ L' : List (Addr × List Int), (∀ p ∈ L', p ∈ L) → RVs K (upd H1 s (SetTO P w s L)) ρ1 (L'.map fun q => V.ref q.1) (L'.map (rowT ∘ fun q => q.2)) := fun L' => by
        induction L' with
        | nil => exact fun _ => .nil
        | cons p r ih => exact fun h => .cons (hLr p (h p (List.mem_cons_self ..))) (ih fun x hx => h x (List.mem_cons_of_mem _ hx))
      exact this L' fun p hp => pm.mem_iff.mp hp
    exact q _ _ ρ1 ((s1.trans st2).trans (Step.new hS2 hp)) (hS2.new hp) (rv_lst hS2 hp rr)
  · cases e
section
variable {X : Cx} {e : Expr} {f : FE} {p p2 pos pos2 : Pos}
theorem jsrtSet (hc : X.calm = true) (hu : X.A.units + 64 < cLine) (hg : Gl X "sorted") (hm : X.mg "sorted" = none) (hg2 : Gl X "set") (hm2 : X.mg "set" = none) (he : JE X e f)
    (na2 : starEach [e] X.env = (false, eval e X.env) :: starEach [] X.env := by rfl) (na : starEach [Expr.Call (.Name "set" p) [e] [] pos] X.env = (false, eval (Expr.Call (.Name "set" p) [e] [] pos) X.env) :: starEach [] X.env := by rfl) :
    JE X (.Call (.Name "sorted" p2) [.Call (.Name "set" p) [e] [] pos] [] pos2) (srtSetO f) :=
  PE.imp (pe_callB (cr_sortedT hc) hg hm PyProof.Rows.boot_sorted (pa_cons (pe_callTy (cr_setOfT hc hu) hg2 hm2 PyProof.Rows.boot_set (pa_cons he pa_nil na2) (he := na2)) pa_nil na) (he := na)) le_srtSet
end
variable {S : Sg} {Q : D → Sg → Prop}
theorem w_srtSet {δ : Dl} {f : FE} (h : W (f δ S) fun d S1 => ∃ rows : List (List Int), lsOf S1 d = some (rows.map rowT) ∧ rows.length < 64 ∧ (∀ r ∈ rows, isPr BP r) ∧ Q (.lst (((nub rows).mergeSort rowLe).map rowT)) S1) : W (srtSetO f δ S) Q := by
  obtain ⟨d, S1, e, rows, h1, h2, h3, q⟩ := h
  refine ⟨_, _, ?_, q⟩
  unfold srtSetO
  rw [e, Option.bind_some]
  dsimp only
  rw [h1, Option.bind_some, rowsOf_map rows fun r hr z => by have := (h3 r hr).1; rw [z] at this; cases this]
  rw [Option.bind_some, if_pos ⟨h2, h3⟩]
end
end DL
end
noncomputable section
namespace DL
open PySem L2
/-! ### d.update(e) of two dicts -/
def rUpdate : V → List V → Hp → VK → Prop := fun x vs H Q => ∃ (l b : Addr) (xs zs : List (Key × V)), x = .ref l ∧ vs = [.ref b] ∧ l ≠ b ∧ H l = some (.dK xs) ∧ Rd H b (.dK zs) ∧ xs.length + zs.length ≤ sizeLine ∧ Q .non (upd H l (.dK (mergeK xs zs)))
theorem mt_update {X : Cx} : MtM X "dict.update" rUpdate := by
  intro pins s σ H x vs v us Q I rx rv h
  obtain ⟨l, b, xs, zs, rfl, rfl, hne, hH, hB, hz, q⟩ := h
  cases rx
  obtain ⟨u, rfl, ru⟩ := rv.one
  cases ru
  obtain ⟨z1, g1, ws, rel, dd⟩ := dk_of I.hok hH
  obtain ⟨z2, g2, ws2, rel2, dd2⟩ := dk_rd I.hok hB
  refine call_meetsIn PySem.F.slot_dict_update dd.typeIs PySem.F.entry_dict_update (PySem.F.args_dict_update_2 _ _) (meets_dict_update (mixKind X.prog X.w) l b hne g2) ⟨ws, ws2, dd, dd2, by rw [← rel.length, ← rel2.length]; exact hz, fun h' dd' _ hs => ?_⟩
  have he : ∃ q, h'.get? l = some q := let ⟨q, _, _, hq, _⟩ := dd'; ⟨q, hq⟩
  have hl : (mergeK xs zs).length ≤ sizeLine := Nat.le_trans (length_mergeK zs xs) hz
  exact ⟨.non, _, d_write I (by rw [hH]; exact True.intro) hs he (dk_new hl g1 (rel2.merge rel) dd'), rfl, q⟩
def isDct (S : Sg) (d : D) : Bool := (dsOf S d).isSome
section
variable {K : PySem.W.Frag}
theorem isDct_ty {H : Hp} {ρ : Ro} {S : Sg} {v : V} {d : D} (hS : SR K H ρ S) (r : RV K H ρ v d) (h : isDct S d = true) : tyV K "dict" v H := by
  unfold isDct at h
  cases e : dsOf S d with
  | none => rw [e] at h; cases h
  | some gs =>
    obtain ⟨a, kvs, rfl, h1, _⟩ := dsOf_rd hS r e
    exact .inr (.inr (.inl ⟨rfl, .inl ⟨_, h1⟩⟩))
def updO : OM := fun d ds S => match d, ds with
  | .loc n, [.loc m] => if n = m then none else match S[n]?, S[m]? with
    | some (.dct gs), some (.dct more) => if Fits (gs.length + more.length) then some (.non, S.set n (.dct (mergeG gs more))) else none
    | _, _ => none
  | _, _ => none
theorem mtD_update : MtD K "dict" rUpdate updO isDct := by
  refine ⟨fun _ _ _ _ _ hS r h => isDct_ty hS r h, ?_⟩
  intro x xs H Q ρ S d ds z S' hS rx rs eq q
  unfold updO at eq
  split at eq
  · rename_i n m
    cases rs with | @cons vy _ _ _ ry rn => ?_
    cases rn
    cases rx with | @loc a _ hn => ?_
    cases ry with | @loc b _ hm => ?_
    split at eq
    · cases eq
    · rename_i hne
      split at eq
      · rename_i gs more hg hg2
        split at eq
        · rename_i hfit
          cases eq
          obtain ⟨fs, h1, h2, h3⟩ := hS.ob _ _ _ hn hg
          obtain ⟨fs2, k1, k2, k3⟩ := hS.ob _ _ _ hm hg2
          have dr : DR K H ρ fs gs := ⟨h2, h3⟩
          have dr2 : DR K H ρ fs2 more := ⟨k2, k3⟩
          have hab : a ≠ b := fun e => by
            subst e
            have hi := List.getElem?_eq_some_iff.mp hn
            have hj := List.getElem?_eq_some_iff.mp hm
            obtain ⟨i1, i2⟩ := hi
            obtain ⟨j1, j2⟩ := hj
            exact hne ((List.getElem_inj hS.nd).mp (i2.trans j2.symm))
          have st : Step ρ ρ H (upd H a (.dK (mergeK fs fs2))) := Step.write hn h1
          have dp := (DR.merge dr2 dr).mono st
          refine ⟨a, b, fs, fs2, rfl, rfl, hab, h1, .inl k1, by rw [dr.len, dr2.len]; exact Nat.le_of_lt hfit.lt, ?_⟩
          exact q _ _ ρ st (hS.write hn ⟨_, h1⟩ ⟨_, upd_same, dp.ks, dp.vs⟩) .non
        · cases eq
      · cases eq
  · cases eq
end
theorem wl_update {A : Sg} {L : List Ob} {N k j : Nat} {gs more : List (Key × D)} {Q : D → Sg → Prop} (hl : A.length = N) (h : L[k]? = some (.dct gs)) (h2 : L[j]? = some (.dct more)) (hne : k ≠ j) (l : gs.length + more.length < 1000000) (q : Q .non (A ++ L.set k (.dct (mergeG gs more)))) : W (updO (.loc (N + k)) [.loc (N + j)] (A ++ L)) Q := by
  refine ⟨_, _, ?_, q⟩
  unfold updO
  dsimp only
  rw [if_neg (by omega), al_get hl, al_get hl, h, h2]
  dsimp only
  rw [if_pos ((fits_iff _).mpr l), al_set hl]
end DL
end
noncomputable section
namespace DL
open PySem L2
/-! ### enumerate over a zip of two lists: the zip's own pair is never given back -/
section
open AutoSeq1 (wpAny_loadPart')
abbrev ZE (h : Heap) (z TI TO : Addr) (f0 : Value) (b : Bool) : Prop :=
  h.get? z = some { cls := .type "zip", dict := none, data := .fields #[f0, .bool b, .bool false, .ref TI, .ref TO], slots := #[] }
abbrev OwnFree := Builtin.SmallTypes.ownedTupleIsFree
abbrev NxtOf := Builtin.SmallTypes.nextOf
abbrev HandOut := Builtin.SmallTypes.ownedTupleHandOut
section
variable {prog : Program} {w : World} {A : Around} {E : Value → Shared → Prop} {s : Shared} {z TI TO i1 i2 l1 l2 : Addr} {f0 : Value} {b : Bool} {k1 k2 : Nat} {xs ys : Array Value}
theorem ze_look {a : Addr} {Q : Option Obj → Shared → Prop} (h : Q (s.heap.get? a) s) : wpAny (model prog w) A (loadIfAlive a) Q E s := fun _ _ _ => h
theorem ze_dead {T : Addr} {Q : Bool → Shared → Prop} (hz : ZE s.heap z TI TO (rawInt T) b) (hT : s.heap.get? T = none) (h : Q true s) : wpAny (model prog w) A (OwnFree (.ref z)) Q E s := by
  unfold OwnFree Builtin.SmallTypes.ownedTupleIsFree
  refine wpAny_bind (wpAny_field hz rfl (x := rawInt T) rfl ?_)
  show wpAny _ _ ((loadIfAlive ((T : Int).toNat)) >>= _) _ _ _
  rw [Int.toNat_natCast]
  refine wpAny_bind (ze_look ?_)
  rw [hT]
  exact wpAny_pure h
theorem ze_none {Q : Bool → Shared → Prop} (hz : ZE s.heap z TI TO .none b) (h : Q true s) : wpAny (model prog w) A (OwnFree (.ref z)) Q E s := by
  unfold OwnFree Builtin.SmallTypes.ownedTupleIsFree
  refine wpAny_bind (wpAny_field hz rfl (x := .none) rfl ?_)
  exact wpAny_pure h
/-- an item, where the pair may be written over -/
theorem ze_item {x y c d : Value} {Q : Value → Shared → Prop} (D : ZipApart z TI TO i1 i2 l1 l2) (hz : ZE s.heap z TI TO f0 b) (fr : ∀ (E' : Value → Shared → Prop) (Q : Bool → Shared → Prop), Q true s → wpAny (model prog w) A (OwnFree (.ref z)) Q E' s)
    (hTI : IsPair s.heap TI (.ref i1) (.ref i2)) (hTO : IsPair s.heap TO c d) (h1 : s.heap.IsListIter i1 l1 k1) (h2 : s.heap.IsListIter i2 l2 k2) (g1 : s.heap.IsList l1 xs) (g2 : s.heap.IsList l2 ys) (hx : xs[k1]? = some x) (hy : ys[k2]? = some y)
    (q : ∀ h', ZE h' z TI TO (rawInt s.heap.objs.size) false → IsPair h' TO x y → h'.IsListIter i1 l1 (k1 + 1) → h'.IsListIter i2 l2 (k2 + 1) → IsPair h' s.heap.objs.size x y → h'.objs.size = s.heap.objs.size + 1 →
      (∀ a o, a ≠ z → a ≠ TO → a ≠ i1 → a ≠ i2 → s.heap.get? a = some o → h'.get? a = some o) → Q (.ref s.heap.objs.size) { s with heap := h' }) :
    wpAny (model prog w) A (Builtin.«zip.__next__» ⟨[.ref z], []⟩) (fun fin s' => ∃ v, fin = .done (.ret v) ∧ Q v s') E s := by
  show wpAny _ _ ((field (.ref z) 2) >>= _) _ _ _
  refine wpAny_bind (wpAny_field hz rfl (x := .bool false) rfl ?_)
  show wpAny _ _ ((field (.ref z) 3) >>= _) _ _ _
  refine wpAny_bind (wpAny_field hz rfl (x := .ref TI) rfl ?_)
  refine wpAny_bind (wpAny_seqItems hTI rfl ?_)
  show wpAny _ _ ((OwnFree (.ref z)) >>= _) _ _ _
  refine wpAny_bind (fr _ _ ?_)
  simp only [if_true]
  refine wpAny_bind (wpAny_rule ?_)
  refine wpAny_bind (wpAny_field hz rfl (x := .ref TO) rfl ?_)
  refine wpAny_bind (wpAny_setField_rec hz (by simp) fun h3 z3 e3 => ?_)
  replace z3 : ZE h3 z TI TO .ellipsis b := z3
  refine wpAny_bind ?_
  simp only [List.zipIdx_cons, List.zipIdx_nil, List.forIn_cons, List.forIn_nil]
  refine wpAny_bind (wpAny_bind (wpAny_onRaise ?_))
  show wpAny _ _ ((NxtOf (.ref i1)) >>= _) _ _ _
  refine wpAny_bind (wpAny_nextOf_list_item (h1.extBut e3.extBut D.i1z) (g1.extBut e3.extBut D.l1z) hx fun h4 j1 e4 => wpAny_pure ?_)
  have t4 : IsPair h4 TO c d := e4.extBut _ _ D.TOi1 (e3.extBut _ _ D.TOz hTO)
  refine wpAny_bind (wpAny_seqItems t4 rfl ?_)
  refine wpAny_bind (wpAny_updateSeq_pair t4 fun h5 t5 e5 => ?_)
  replace t5 : IsPair h5 TO x d := t5
  refine wpAny_bind (wpAny_letGo (wpAny_pure ?_))
  refine wpAny_bind (wpAny_bind (wpAny_onRaise ?_))
  show wpAny _ _ ((NxtOf (.ref i2)) >>= _) _ _ _
  have j2 := ((h2.extBut e3.extBut D.i2z).extBut e4.extBut D.i12.symm).extBut e5.extBut D.TOi2.symm
  have m2 := ((g2.extBut e3.extBut D.l2z).extBut e4.extBut D.l2i1).extBut e5.extBut D.l2TO
  refine wpAny_bind (wpAny_nextOf_list_item j2 m2 hy fun h6 j6 e6 => wpAny_pure ?_)
  have t6 : IsPair h6 TO x d := e6.extBut _ _ D.TOi2 t5
  refine wpAny_bind (wpAny_seqItems t6 rfl ?_)
  refine wpAny_bind (wpAny_updateSeq_pair t6 fun h7 t7 e7 => ?_)
  replace t7 : IsPair h7 TO x y := t7
  refine wpAny_bind (wpAny_letGo (wpAny_pure (wpAny_pure ?_)))
  refine wpAny_bind (wpAny_seqItems t7 rfl ?_)
  refine wpAny_bind (wpAny_newTuple ?_)
  have sz : h7.objs.size = s.heap.objs.size := by rw [e7.1, e6.1, e5.1, e4.1, e3.1]
  have z7 : ZE h7 z TI TO .ellipsis b := e7.extBut _ _ (Ne.symm D.TOz) (e6.extBut _ _ (Ne.symm D.i2z) (e5.extBut _ _ (Ne.symm D.TOz) (e4.extBut _ _ (Ne.symm D.i1z) z3)))
  have kp : ∀ a o, a ≠ z → a ≠ TO → a ≠ i1 → a ≠ i2 → s.heap.get? a = some o → h7.get? a = some o := fun a o n1 n2 n3 n4 r => e7.extBut _ _ n2 (e6.extBut _ _ n4 (e5.extBut _ _ n2 (e4.extBut _ _ n3 (e3.extBut _ _ n1 r))))
  have u1 : h7.IsListIter i1 l1 (k1 + 1) := ((j1.extBut e5.extBut (Ne.symm D.TOi1)).extBut e6.extBut D.i12).extBut e7.extBut (Ne.symm D.TOi1)
  have u2 : h7.IsListIter i2 l2 (k2 + 1) := j6.extBut e7.extBut (Ne.symm D.TOi2)
  have zl : z < h7.objs.size := Heap.lt_size z7
  show wpAny _ _ ((HandOut (.ref z) (.ref h7.objs.size)) >>= _) _ _ _
  refine wpAny_bind ?_
  unfold HandOut Builtin.SmallTypes.ownedTupleHandOut
  have z8 : ZE (h7.push { cls := .type "tuple", data := .seq #[x, y] }) z TI TO .ellipsis b := Heap.get?_push_of_some _ z7
  refine wpAny_bind (wpAny_setField_rec z8 (by simp) fun h9 z9 e9 => ?_)
  replace z9 : ZE h9 z TI TO (rawInt h7.objs.size) b := z9
  refine wpAny_setField_rec z9 (by simp) fun hA zA eA => ?_
  replace zA : ZE hA z TI TO (rawInt h7.objs.size) false := zA
  have up : ∀ a o, a ≠ z → h7.get? a = some o → hA.get? a = some o := fun a o n1 r => eA.extBut _ _ n1 (e9.extBut _ _ n1 (Heap.get?_push_of_some _ r))
  have tA : IsPair hA h7.objs.size x y := eA.extBut _ _ (Nat.ne_of_gt zl) (e9.extBut _ _ (Nat.ne_of_gt zl) (Heap.get?_push_size _ rfl))
  have sA : hA.objs.size = h7.objs.size + 1 := by rw [eA.1, e9.1, Heap.size_push]
  rw [sz] at zA tA sA
  refine wpAny_pure ⟨_, rfl, ?_⟩
  show Q (.ref h7.objs.size) _
  rw [sz]
  exact q hA zA (up _ _ D.TOz t7) (u1.at fun o r => up _ o D.i1z r) (u2.at fun o r => up _ o D.i2z r) tA sA fun a o n1 n2 n3 n4 r => up a o n1 (kp a o n1 n2 n3 n4 r)
theorem ze_end {c d : Value} {Q : Fin → Shared → Prop} (hh : A.handled = none) (D : ZipApart z TI TO i1 i2 l1 l2) (hz : ZE s.heap z TI TO f0 b) (fr : ∀ (E' : Value → Shared → Prop) (Q : Bool → Shared → Prop), Q true s → wpAny (model prog w) A (OwnFree (.ref z)) Q E' s)
    (hTI : IsPair s.heap TI (.ref i1) (.ref i2)) (hTO : IsPair s.heap TO c d) (h1 : s.heap.IsListIter i1 l1 k1) (h2 : s.heap.IsListIter i2 l2 k2) (g1 : s.heap.IsList l1 xs) (g2 : s.heap.IsList l2 ys) (en : xs[k1]? = none ∨ ys[k2]? = none)
    (q : ∀ h' e, (∀ a o, a ≠ z → a ≠ TO → a ≠ i1 → a ≠ i2 → s.heap.get? a = some o → h'.get? a = some o) → (∃ o, h'.get? e = some o ∧ o.cls = .type "StopIteration") → E (.ref e) { s with heap := h' }) :
    wpAny (model prog w) A (Builtin.«zip.__next__» ⟨[.ref z], []⟩) Q E s := by
  show wpAny _ _ ((field (.ref z) 2) >>= _) _ _ _
  refine wpAny_bind (wpAny_field hz rfl (x := .bool false) rfl ?_)
  show wpAny _ _ ((field (.ref z) 3) >>= _) _ _ _
  refine wpAny_bind (wpAny_field hz rfl (x := .ref TI) rfl ?_)
  refine wpAny_bind (wpAny_seqItems hTI rfl ?_)
  show wpAny _ _ ((OwnFree (.ref z)) >>= _) _ _ _
  refine wpAny_bind (fr _ _ ?_)
  simp only [if_true]
  refine wpAny_bind (wpAny_rule ?_)
  refine wpAny_bind (wpAny_field hz rfl (x := .ref TO) rfl ?_)
  refine wpAny_bind (wpAny_setField_rec hz (by simp) fun h3 z3 e3 => ?_)
  replace z3 : ZE h3 z TI TO .ellipsis b := z3
  refine wpAny_bind ?_
  simp only [List.zipIdx_cons, List.zipIdx_nil, List.forIn_cons, List.forIn_nil]
  refine wpAny_bind (wpAny_bind (wpAny_onRaise ?_))
  show wpAny _ _ ((NxtOf (.ref i1)) >>= _) _ _ _
  have hne : ∀ {h' : Heap} {e : Addr} {oe : Obj}, ZE h' z TI TO .ellipsis b → h'.get? e = some oe → oe.cls = .type "StopIteration" → e ≠ z := fun z' oo oc r => by
    subst r
    rw [z'] at oo
    cases oo
    simp at oc
  cases hx : xs[k1]? with
  | none =>
    refine wpAny_bind (wpAny_nextOf_list_end hh (h1.extBut e3.extBut D.i1z) (g1.extBut e3.extBut D.l1z) hx fun h4 e e4 ho => ?_)
    obtain ⟨oe, oo, oc⟩ := ho
    have z4 : ZE h4 z TI TO .ellipsis b := e4 _ _ (Ne.symm D.i1z) z3
    refine wpAny_setField_rec z4 (by simp) fun h5 _ e5 => ?_
    exact q h5 e (fun a o n1 _ n3 _ r => e5.extBut _ _ n1 (e4 _ _ n3 (e3.extBut _ _ n1 r))) ⟨oe, e5.extBut _ _ (hne z4 oo oc) oo, oc⟩
  | some x =>
    have hy : ys[k2]? = none := en.resolve_left (fun r => by rw [hx] at r; cases r)
    refine wpAny_bind (wpAny_nextOf_list_item (h1.extBut e3.extBut D.i1z) (g1.extBut e3.extBut D.l1z) hx fun h4 j1 e4 => wpAny_pure ?_)
    have t4 : IsPair h4 TO c d := e4.extBut _ _ D.TOi1 (e3.extBut _ _ D.TOz hTO)
    refine wpAny_bind (wpAny_seqItems t4 rfl ?_)
    refine wpAny_bind (wpAny_updateSeq_pair t4 fun h5 t5 e5 => ?_)
    refine wpAny_bind (wpAny_letGo (wpAny_pure ?_))
    refine wpAny_bind (wpAny_bind (wpAny_onRaise ?_))
    show wpAny _ _ ((NxtOf (.ref i2)) >>= _) _ _ _
    have j2 := ((h2.extBut e3.extBut D.i2z).extBut e4.extBut D.i12.symm).extBut e5.extBut D.TOi2.symm
    have m2 := ((g2.extBut e3.extBut D.l2z).extBut e4.extBut D.l2i1).extBut e5.extBut D.l2TO
    refine wpAny_bind (wpAny_nextOf_list_end hh j2 m2 hy fun h6 e e6 ho => ?_)
    obtain ⟨oe, oo, oc⟩ := ho
    have z6 : ZE h6 z TI TO .ellipsis b := e6 _ _ (Ne.symm D.i2z) (e5.extBut _ _ (Ne.symm D.TOz) (e4.extBut _ _ (Ne.symm D.i1z) z3))
    refine wpAny_setField_rec z6 (by simp) fun h7 _ e7 => ?_
    exact q h7 e (fun a o n1 n2 n3 n4 r => e7.extBut _ _ n1 (e6 _ _ n4 (e5.extBut _ _ n2 (e4.extBut _ _ n3 (e3.extBut _ _ n1 r))))) ⟨oe, e7.extBut _ _ (hne z6 oo oc) oo, oc⟩
/-- the zip at turn i -/
structure ZS (h : Heap) (z TI TO i1 i2 l1 l2 : Addr) (i : Nat) : Prop where
  cell : ∃ (f0 : Value) (b : Bool), ZE h z TI TO f0 b ∧ ((f0 = .none ∧ b = false) ∨ ∃ T : Addr, f0 = rawInt T)
  ti : IsPair h TI (.ref i1) (.ref i2)
  to : ∃ c d, IsPair h TO c d
  a1 : h.IsListIter i1 l1 i
  a2 : h.IsListIter i2 l2 i
theorem ZS.keep {h h' : Heap} {i : Nat} (Z : ZS h z TI TO i1 i2 l1 l2 i) (k : ∀ a, (a = z ∨ a = TI ∨ a = TO ∨ a = i1 ∨ a = i2) → ∀ o, h.get? a = some o → h'.get? a = some o) : ZS h' z TI TO i1 i2 l1 l2 i := by
  obtain ⟨f0, b, hz, hf⟩ := Z.cell
  obtain ⟨c, d, hto⟩ := Z.to
  exact ⟨⟨f0, b, k z (.inl rfl) _ hz, hf⟩, k TI (.inr (.inl rfl)) _ Z.ti, ⟨c, d, k TO (.inr (.inr (.inl rfl))) _ hto⟩, Z.a1.at fun o r => k i1 (.inr (.inr (.inr (.inl rfl)))) o r, Z.a2.at fun o r => k i2 (.inr (.inr (.inr (.inr rfl)))) o r⟩
theorem ZS.type {h : Heap} {i : Nat} {s : Shared} (Z : ZS s.heap z TI TO i1 i2 l1 l2 i) : s.TypeIs (.ref z) "zip" := by
  obtain ⟨f0, b, hz, _⟩ := Z.cell
  exact ⟨_, hz, rfl⟩
theorem zs_item {i : Nat} {x y : Value} {Q : Value → Shared → Prop} (D : ZipApart z TI TO i1 i2 l1 l2) (Z : ZS s.heap z TI TO i1 i2 l1 l2 i) (g1 : s.heap.IsList l1 xs) (g2 : s.heap.IsList l2 ys) (hx : xs[i]? = some x) (hy : ys[i]? = some y)
    (q : ∀ h', ZS h' z TI TO i1 i2 l1 l2 (i + 1) → IsPair h' s.heap.objs.size x y → h'.objs.size = s.heap.objs.size + 1 → (∀ a o, a ≠ z → a ≠ TO → a ≠ i1 → a ≠ i2 → s.heap.get? a = some o → h'.get? a = some o) → Q (.ref s.heap.objs.size) { s with heap := h' }) :
    wpAny (model prog w) A (Builtin.«zip.__next__» ⟨[.ref z], []⟩) (fun fin s' => ∃ v, fin = .done (.ret v) ∧ Q v s') E s := by
  obtain ⟨f0, b, hz, hf⟩ := Z.cell
  obtain ⟨c, d, hto⟩ := Z.to
  have big : ∀ a, a = z ∨ a = TI ∨ a = TO ∨ a = i1 ∨ a = i2 → True := fun _ _ => trivial
  have gen : (∀ (E' : Value → Shared → Prop) (Q : Bool → Shared → Prop), Q true s → wpAny (model prog w) A (OwnFree (.ref z)) Q E' s) → wpAny (model prog w) A (Builtin.«zip.__next__» ⟨[.ref z], []⟩) (fun fin s' => ∃ v, fin = .done (.ret v) ∧ Q v s') E s := fun fr =>
    ze_item D hz fr Z.ti hto Z.a1 Z.a2 g1 g2 hx hy fun h' z' t' j1 j2 pT sz k => q h' ⟨⟨_, _, z', .inr ⟨_, rfl⟩⟩, k TI _ D.TIz D.TITO D.TIi1 D.TIi2 Z.ti, ⟨_, _, t'⟩, j1, j2⟩ pT sz k
  rcases hf with ⟨rfl, rfl⟩ | ⟨T, rfl⟩
  · exact gen fun E' Q' h => ze_none hz h
  · cases hT : s.heap.get? T with
    | none => exact gen fun E' Q' h => ze_dead hz hT h
    | some oT =>
      refine zip_next_item_held D hz hT Z.ti Z.a1 Z.a2 g1 g2 hx hy fun h' z' j1 j2 pT sz k => ?_
      exact q h' ⟨⟨_, _, z', .inr ⟨T, rfl⟩⟩, k TI _ D.TIz D.TIi1 D.TIi2 Z.ti, ⟨c, d, k TO _ D.TOz D.TOi1 D.TOi2 hto⟩, j1, j2⟩ pT sz fun a o n1 n2 n3 n4 r => k a o n1 n3 n4 r
theorem zs_end {i : Nat} {Q : Fin → Shared → Prop} (hh : A.handled = none) (D : ZipApart z TI TO i1 i2 l1 l2) (Z : ZS s.heap z TI TO i1 i2 l1 l2 i) (g1 : s.heap.IsList l1 xs) (g2 : s.heap.IsList l2 ys) (en : xs[i]? = none ∨ ys[i]? = none)
    (q : ∀ h' e, (∀ a o, a ≠ z → a ≠ TO → a ≠ i1 → a ≠ i2 → s.heap.get? a = some o → h'.get? a = some o) → (∃ o, h'.get? e = some o ∧ o.cls = .type "StopIteration") → E (.ref e) { s with heap := h' }) :
    wpAny (model prog w) A (Builtin.«zip.__next__» ⟨[.ref z], []⟩) Q E s := by
  obtain ⟨f0, b, hz, hf⟩ := Z.cell
  obtain ⟨c, d, hto⟩ := Z.to
  have gen : (∀ (E' : Value → Shared → Prop) (Q : Bool → Shared → Prop), Q true s → wpAny (model prog w) A (OwnFree (.ref z)) Q E' s) → wpAny (model prog w) A (Builtin.«zip.__next__» ⟨[.ref z], []⟩) Q E s := fun fr => ze_end hh D hz fr Z.ti hto Z.a1 Z.a2 g1 g2 en q
  rcases hf with ⟨rfl, rfl⟩ | ⟨T, rfl⟩
  · exact gen fun E' Q' h => ze_none hz h
  · cases hT : s.heap.get? T with
    | none => exact gen fun E' Q' h => ze_dead hz hT h
    | some oT => exact zip_next_end_held hh D hz hT Z.ti Z.a1 Z.a2 g1 g2 en fun h' e k he => q h' e (fun a o n1 n2 n3 n4 r => k a o n1 n3 n4 r) he
theorem zn_item {i : Nat} {x y : Value} {Q : Value → Shared → Prop} (D : ZipApart z TI TO i1 i2 l1 l2) (Z : ZS s.heap z TI TO i1 i2 l1 l2 i) (g1 : s.heap.IsList l1 xs) (g2 : s.heap.IsList l2 ys) (hx : xs[i]? = some x) (hy : ys[i]? = some y)
    (q : ∀ h', ZS h' z TI TO i1 i2 l1 l2 (i + 1) → IsPair h' s.heap.objs.size x y → h'.objs.size = s.heap.objs.size + 1 → (∀ a o, a ≠ z → a ≠ TO → a ≠ i1 → a ≠ i2 → s.heap.get? a = some o → h'.get? a = some o) → Q (.ref s.heap.objs.size) { s with heap := h' }) :
    wpAny (model prog w) A (NxtOf (.ref z)) Q E s := by
  have ty := Z.type (h := s.heap)
  unfold NxtOf Builtin.SmallTypes.nextOf
  refine wpAny_bind (wpAny_callSpecial?_slot (name := Str.ofString "__next__") ty F.slot_zip_next (wpAny_call_entry F.slot_zip_next ty F.entry_zip_next ?_ (F.args_zip_next_1 _)))
  exact zs_item D Z g1 g2 hx hy fun h' a b c d => wpAny_pure (q h' a b c d)
theorem zn_end {i : Nat} {Q : Value → Shared → Prop} (hh : A.handled = none) (D : ZipApart z TI TO i1 i2 l1 l2) (Z : ZS s.heap z TI TO i1 i2 l1 l2 i) (g1 : s.heap.IsList l1 xs) (g2 : s.heap.IsList l2 ys) (en : xs[i]? = none ∨ ys[i]? = none)
    (q : ∀ h' e, (∀ a o, a ≠ z → a ≠ TO → a ≠ i1 → a ≠ i2 → s.heap.get? a = some o → h'.get? a = some o) → (∃ o, h'.get? e = some o ∧ o.cls = .type "StopIteration") → E (.ref e) { s with heap := h' }) :
    wpAny (model prog w) A (NxtOf (.ref z)) Q E s := by
  have ty := Z.type (h := s.heap)
  unfold NxtOf Builtin.SmallTypes.nextOf
  refine wpAny_bind (wpAny_callSpecial?_slot (name := Str.ofString "__next__") ty F.slot_zip_next (wpAny_call_entry F.slot_zip_next ty F.entry_zip_next ?_ (F.args_zip_next_1 _)))
  exact zs_end hh D Z g1 g2 en q
/-- enumerate's item over such a zip: its own pair of a number and the zip's pair -/
theorem en_item {e : Addr} {i : Nat} {x y old : Value} {Q : Value → Shared → Prop} (D : ZipApart z TI TO i1 i2 l1 l2) (ne : e ≠ z ∧ e ≠ TI ∧ e ≠ TO ∧ e ≠ i1 ∧ e ≠ i2) (he : IsEnum s.heap e z ((i : Nat) : Int) old) (Z : ZS s.heap z TI TO i1 i2 l1 l2 i)
    (g1 : s.heap.IsList l1 xs) (g2 : s.heap.IsList l2 ys) (hx : xs[i]? = some x) (hy : ys[i]? = some y)
    (q : ∀ h1 h' tk, IsPair h1 s.heap.objs.size x y → h1.objs.size = s.heap.objs.size + 1 → (∀ a o, a ≠ z → a ≠ TO → a ≠ i1 → a ≠ i2 → s.heap.get? a = some o → h1.get? a = some o) → IsEnumOut h' e z (((i : Nat) : Int) + 1) (.ref s.heap.objs.size) (s.heap.objs.size + 1) → ZS h' z TI TO i1 i2 l1 l2 (i + 1) →
      h'.get? (s.heap.objs.size + 1) = some { cls := .type "tuple", data := .seq #[.int ((i : Nat) : Int) tk, .ref s.heap.objs.size] } → (∀ a o, a ≠ e → h1.get? a = some o → h'.get? a = some o) → Q (.ref (s.heap.objs.size + 1)) { s with heap := h', toks := tk + 1 }) :
    wpAny (model prog w) A (Builtin.«enumerate.__next__» ⟨[.ref e], []⟩) (fun fin s' => ∃ v, fin = .done (.ret v) ∧ Q v s') E s := by
  obtain ⟨hp, gn, dr, t0, os⟩ := s
  show wpAny _ _ ((field (.ref e) 2) >>= _) _ _ _
  refine wpAny_bind (wpAny_field he rfl (x := .ref z) rfl ?_)
  refine wpAny_bind (zn_item D Z g1 g2 hx hy fun h1 Z1 p1 s1 k1 => ?_)
  have he1 : IsEnum h1 e z ((i : Nat) : Int) old := k1 e _ ne.1 ne.2.2.1 ne.2.2.2.1 ne.2.2.2.2 he
  show wpAny _ _ ((field (.ref e) 3) >>= _) _ _ ⟨h1, gn, dr, t0, os⟩
  refine wpAny_bind (wpAny_field he1 rfl (x := rawInt ((i : Nat) : Int)) rfl ?_)
  show wpAny _ _ ((field (.ref e) 4) >>= _) _ _ ⟨h1, gn, dr, t0, os⟩
  refine wpAny_bind (wpAny_field he1 rfl (x := .none) rfl ?_)
  show wpAny _ _ ((mkInt ((i : Nat) : Int)) >>= _) _ _ ⟨h1, gn, dr, t0, os⟩
  refine wpAny_bind (wpAny_mkInt ?_)
  show wpAny _ _ ((setField (.ref e) 3 (rawInt (((i : Nat) : Int) + 1))) >>= _) _ _ ⟨h1, gn, dr, t0 + 1, os⟩
  refine wpAny_bind (wpAny_setField_rec he1 (by simp) fun h2 he2 e2 => ?_)
  replace e2 : Heap.SameBut e h1 h2 := e2
  replace he2 : IsEnum h2 e z (((i : Nat) : Int) + 1) old := he2
  show wpAny _ _ ((setField (.ref e) 4 .none) >>= _) _ _ ⟨h2, gn, dr, t0 + 1, os⟩
  refine wpAny_bind (wpAny_setField_rec he2 (by simp) fun h3 he3 e3 => ?_)
  replace e3 : Heap.SameBut e h2 h3 := e3
  replace he3 : IsEnum h3 e z (((i : Nat) : Int) + 1) old := he3
  show wpAny _ _ ((newTuple [.int ((i : Nat) : Int) t0, .ref hp.objs.size]) >>= _) _ _ ⟨h3, gn, dr, t0 + 1, os⟩
  refine wpAny_bind (wpAny_newTuple ?_)
  have s3 : h3.objs.size = hp.objs.size + 1 := by rw [e3.1, e2.1, s1]
  have he4 : IsEnum (h3.push { cls := .type "tuple", data := .seq #[.int ((i : Nat) : Int) t0, .ref hp.objs.size] }) e z (((i : Nat) : Int) + 1) old := Heap.get?_push_of_some _ he3
  generalize e4 : h3.push { cls := .type "tuple", data := .seq #[.int ((i : Nat) : Int) t0, .ref hp.objs.size] } = h4 at he4
  have t4 : h4.get? (hp.objs.size + 1) = some { cls := .type "tuple", data := .seq #[.int ((i : Nat) : Int) t0, .ref hp.objs.size] } := by
    rw [← e4, ← s3]
    exact Heap.get?_push_size _ rfl
  have el : e < hp.objs.size := Heap.lt_size he
  have k4 : ∀ a o, a ≠ e → h1.get? a = some o → h4.get? a = some o := fun a o n r => by
    rw [← e4]
    exact Heap.get?_push_of_some _ (e3.extBut a o n (e2.extBut a o n r))
  show wpAny _ _ ((OwnFree (.ref e)) >>= _) _ _ ⟨h4, gn, dr, t0 + 1, os⟩
  rw [s3]
  refine wpAny_bind ?_
  unfold OwnFree Builtin.SmallTypes.ownedTupleIsFree
  refine wpAny_bind (wpAny_field he4 rfl (x := .none) rfl (wpAny_pure ?_))
  simp only [if_true]
  refine wpAny_bind (wpAny_rule ?_)
  refine wpAny_bind (wpAny_field he4 rfl (x := old) rfl ?_)
  refine wpAny_bind (wpAny_setField_rec he4 (by simp) fun h5 he5 e5 => ?_)
  replace e5 : Heap.SameBut e h4 h5 := e5
  replace he5 : IsEnum h5 e z (((i : Nat) : Int) + 1) (.ref hp.objs.size) := he5
  show wpAny _ _ ((HandOut (.ref e) (.ref (hp.objs.size + 1))) >>= _) _ _ ⟨h5, gn, dr, t0 + 1, os⟩
  refine wpAny_bind ?_
  unfold HandOut Builtin.SmallTypes.ownedTupleHandOut
  refine wpAny_bind (wpAny_setField_rec he5 (by simp) fun h6 he6 e6 => ?_)
  replace e6 : Heap.SameBut e h5 h6 := e6
  replace he6 : IsEnumOut h6 e z (((i : Nat) : Int) + 1) (.ref hp.objs.size) (hp.objs.size + 1) := he6
  refine wpAny_setField_rec he6 (by simp) fun h7 he7 e7 => ?_
  replace e7 : Heap.SameBut e h6 h7 := e7
  replace he7 : IsEnumOut h7 e z (((i : Nat) : Int) + 1) (.ref hp.objs.size) (hp.objs.size + 1) := he7
  have k7 : ∀ a o, a ≠ e → h4.get? a = some o → h7.get? a = some o := fun a o n r => e7.extBut a o n (e6.extBut a o n (e5.extBut a o n r))
  refine wpAny_bind (wpAny_letGo (wpAny_pure ⟨_, rfl, q h1 h7 t0 p1 s1 k1 he7 ?_ ?_ fun a o n r => k7 a o n (k4 a o n r)⟩))
  · refine Z1.keep fun a ha o r => k7 a o ?_ (k4 a o ?_ r)
    all_goals
      rcases ha with rfl | rfl | rfl | rfl | rfl
      · exact Ne.symm ne.1
      · exact Ne.symm ne.2.1
      · exact Ne.symm ne.2.2.1
      · exact Ne.symm ne.2.2.2.1
      · exact Ne.symm ne.2.2.2.2
  · exact k7 _ _ (Nat.ne_of_gt (Nat.lt_succ_of_lt el)) t4
theorem pn_item {e : Addr} {i : Nat} {x y old : Value} {Q : Option Value → Shared → Prop} (D : ZipApart z TI TO i1 i2 l1 l2) (ne : e ≠ z ∧ e ≠ TI ∧ e ≠ TO ∧ e ≠ i1 ∧ e ≠ i2) (he : IsEnum s.heap e z ((i : Nat) : Int) old) (Z : ZS s.heap z TI TO i1 i2 l1 l2 i)
    (g1 : s.heap.IsList l1 xs) (g2 : s.heap.IsList l2 ys) (hx : xs[i]? = some x) (hy : ys[i]? = some y)
    (q : ∀ h1 h' tk, IsPair h1 s.heap.objs.size x y → h1.objs.size = s.heap.objs.size + 1 → (∀ a o, a ≠ z → a ≠ TO → a ≠ i1 → a ≠ i2 → s.heap.get? a = some o → h1.get? a = some o) → IsEnumOut h' e z (((i : Nat) : Int) + 1) (.ref s.heap.objs.size) (s.heap.objs.size + 1) → ZS h' z TI TO i1 i2 l1 l2 (i + 1) →
      h'.get? (s.heap.objs.size + 1) = some { cls := .type "tuple", data := .seq #[.int ((i : Nat) : Int) tk, .ref s.heap.objs.size] } → (∀ a o, a ≠ e → h1.get? a = some o → h'.get? a = some o) → Q (some (.ref (s.heap.objs.size + 1))) { s with heap := h', toks := tk + 1 }) :
    wpAny (model prog w) A (pyNext (.ref e)) Q E s := by
  have ty : s.TypeIs (.ref e) "enumerate" := ⟨_, he, rfl⟩
  unfold pyNext
  refine wpAny_bind (wpAny_attempt (wpAny_callSpecial?_slot (name := Str.ofString "__next__") ty F.slot_enumerate_next (wpAny_call_entry F.slot_enumerate_next ty F.entry_enumerate_next ?_ (F.args_enumerate_next_1 _))))
  exact en_item D ne he Z g1 g2 hx hy fun h1 h' tk a b c d e f k => wpAny_pure (q h1 h' tk a b c d e f k)
theorem pn_end {e : Addr} {i : Nat} {old : Value} {Q : Option Value → Shared → Prop} (hh : A.handled = none) (D : ZipApart z TI TO i1 i2 l1 l2) (he : IsEnum s.heap e z ((i : Nat) : Int) old) (Z : ZS s.heap z TI TO i1 i2 l1 l2 i)
    (g1 : s.heap.IsList l1 xs) (g2 : s.heap.IsList l2 ys) (en : xs[i]? = none ∨ ys[i]? = none)
    (q : ∀ h', (∀ a o, a ≠ z → a ≠ TO → a ≠ i1 → a ≠ i2 → s.heap.get? a = some o → h'.get? a = some o) → Q none { s with heap := h' }) : wpAny (model prog w) A (pyNext (.ref e)) Q E s := by
  have ty : s.TypeIs (.ref e) "enumerate" := ⟨_, he, rfl⟩
  unfold pyNext
  refine wpAny_bind (wpAny_attempt (wpAny_callSpecial?_slot (name := Str.ofString "__next__") ty F.slot_enumerate_next (wpAny_call_entry F.slot_enumerate_next ty F.entry_enumerate_next ?_ (F.args_enumerate_next_1 _))))
  show wpAny _ _ ((field (.ref e) 2) >>= _) _ _ _
  refine wpAny_bind (wpAny_field he rfl (x := .ref z) rfl ?_)
  refine wpAny_bind (zn_end hh D Z g1 g2 en fun h' x k ho => ?_)
  obtain ⟨o, oo, oc⟩ := ho
  refine wpAny_bind (wpAny_isInstance (T := "StopIteration") (b := true) ⟨o, oo, oc⟩ isSubtype_stop ?_)
  exact wpAny_pure (q _ k)
end
/-- a number, and the pair of both lists' items -/
def IteZ (K : PySem.W.Frag) (a b : Addr) : It :=
  ⟨fun i H => ∃ (xs ys : List V) (x y : V), SqL K H a xs ∧ SqL K H b ys ∧ xs[i]? = some x ∧ ys[i]? = some y,
    fun i H v H' => ∃ T U x y, v = .ref U ∧ H T = none ∧ upd H T (.tup [x, y]) U = none ∧ H' = upd (upd H T (.tup [x, y])) U (.tup [.int (i : Nat), .ref T]) ∧ (∀ xs, SqL K H a xs → xs[i]? = some x) ∧ ∀ ys, SqL K H b ys → ys[i]? = some y,
    fun i H => ∃ xs ys : List V, SqL K H a xs ∧ SqL K H b ys ∧ (xs.length ≤ i ∨ ys.length ≤ i)⟩
theorem turn_enumZ {P : Program} {w : World} {K : PySem.W.Frag} {elts : List Expr} {kk : Nat} {tpos : Pos} {a b e z TI TO i1 i2 : Addr} (D : ZipApart z TI TO i1 i2 a b) (ne : e ≠ z ∧ e ≠ TI ∧ e ≠ TO ∧ e ≠ i1 ∧ e ≠ i2) :
    Turn P w K (.Tuple elts kk tpos) (IteZ K a b) [e, z, TI, TO, i1, i2] e (fun i h => (∃ old, IsEnum h e z ((i : Nat) : Int) old) ∧ ZS h z TI TO i1 i2 a b i) where
  mem := by simp
  obj := fun i h st c hc => by
    obtain ⟨⟨old, he⟩, Z⟩ := st
    obtain ⟨f0, b, hz, _⟩ := Z.cell
    obtain ⟨c', d', hto⟩ := Z.to
    obtain ⟨o1, e1, _, d1⟩ := Z.a1
    obtain ⟨o2, e2, _, d2⟩ := Z.a2
    have e' : c = e ∨ c = z ∨ c = TI ∨ c = TO ∨ c = i1 ∨ c = i2 := by simpa using hc
    rcases e' with r | r | r | r | r | r
    · rw [r]; exact ⟨_, he, fun v q => nomatch q⟩
    · rw [r]; exact ⟨_, hz, fun v q => nomatch q⟩
    · rw [r]; exact ⟨_, Z.ti, fun v q => nomatch q⟩
    · rw [r]; exact ⟨_, hto, fun v q => nomatch q⟩
    · rw [r]; exact ⟨o1, e1, fun v q => by rw [d1] at q; cases q⟩
    · rw [r]; exact ⟨o2, e2, fun v q => by rw [d2] at q; cases q⟩
  keep := fun i h h' st k => by
    obtain ⟨⟨old, he⟩, Z⟩ := st
    exact ⟨⟨old, k e (by simp) _ he⟩, Z.keep fun a ha o r => k a (by rcases ha with rfl | rfl | rfl | rfl | rfl <;> simp) o r⟩
  item := by
    intro X hP hw hK hc i pins s σ H E I hf st hg
    subst hP hw hK
    obtain ⟨⟨old, he⟩, Z⟩ := st
    obtain ⟨xs, ys, x, y, hqx, hqy, hx, hy⟩ := hg
    obtain ⟨its, rv, p, _⟩ := I.list hqx
    obtain ⟨its2, rv2, p2, _⟩ := I.list hqy
    obtain ⟨u, hu, ru⟩ := rv.get hx
    obtain ⟨u2, hu2, ru2⟩ := rv2.get hy
    have fl : ∀ c ∈ [e, z, TI, TO, i1, i2], c < s.heap.objs.size := fun c hcm => by
      obtain ⟨f0, b, hz, _⟩ := Z.cell
      obtain ⟨c', d', hto⟩ := Z.to
      obtain ⟨o1, e1, _⟩ := Z.a1
      obtain ⟨o2, e2, _⟩ := Z.a2
      have e' : c = e ∨ c = z ∨ c = TI ∨ c = TO ∨ c = i1 ∨ c = i2 := by simpa using hcm
      rcases e' with r | r | r | r | r | r
      · rw [r]; exact Heap.lt_size he
      · rw [r]; exact Heap.lt_size hz
      · rw [r]; exact Heap.lt_size Z.ti
      · rw [r]; exact Heap.lt_size hto
      · rw [r]; exact Heap.lt_size e1
      · rw [r]; exact Heap.lt_size e2
    have el : e < s.heap.objs.size := fl e (by simp)
    refine pn_item D ne he Z p.isList p2.isList (x := u) (y := u2) (by simpa using hu) (by simpa using hu2) fun h1 h' tk p1 s1 k1 ho Z' t' k2 => ?_
    refine ⟨_, rfl, wpAny_letOwnedTupleGo_enum (s := { s with heap := h', toks := tk + 1 }) ho fun h'' he'' sb => ?_⟩
    have new1 : ObjOk X.prog X.w (upd H s.heap.objs.size (.tup [x, y])) h1 s.heap.objs.size (.tup [x, y]) :=
      ⟨by show 2 ≤ sizeLine; decide, [u, u2], .cons ru (.cons ru2 .nil), ⟨_, p1, rfl, _, rfl⟩⟩
    have I1 : Inv X pins σ (upd H s.heap.objs.size (.tup [x, y])) { s with heap := h1 } :=
      I.turnedNew (t' := s.toks) (ch := [e, z, TI, TO, i1, i2]) (fun c o hb q => k1 c o (fun r => hb (by simp [r])) (fun r => hb (by simp [r])) (fun r => hb (by simp [r])) (fun r => hb (by simp [r])) q) hf (Nat.le_refl _) new1
    have ht2 : h''.get? (s.heap.objs.size + 1) = some { cls := .type "tuple", data := .seq #[.int ((i : Nat) : Int) tk, .ref s.heap.objs.size] } := (sb.2 _ (Nat.ne_of_gt (Nat.lt_succ_of_lt el))).trans t'
    have new2 : ObjOk X.prog X.w (upd (upd H s.heap.objs.size (.tup [x, y])) (s.heap.objs.size + 1) (.tup [.int (i : Nat), .ref s.heap.objs.size])) h'' (s.heap.objs.size + 1) (.tup [.int (i : Nat), .ref s.heap.objs.size]) :=
      ⟨by show 2 ≤ sizeLine; decide, [.int ((i : Nat) : Int) tk, .ref s.heap.objs.size], .cons ⟨_, rfl⟩ (.cons rfl .nil), ⟨_, ht2, rfl, _, rfl⟩⟩
    have fe : ∀ c ∈ [e], FpOk X pins (upd H s.heap.objs.size (.tup [x, y])) c := fun c hcm => by
      rw [List.mem_singleton.mp hcm]
      obtain ⟨q1, q2⟩ := hf e (by simp)
      exact ⟨by rw [upd_ne (Nat.ne_of_lt el)]; exact q1, q2⟩
    have I2 := I1.turnedNew (h' := h'') (t' := tk + 1) (ch := [e]) (T := s.heap.objs.size + 1) (fun c o hb q => (sb.2 c (fun r => hb (by simp [r]))).trans (k2 c o (fun r => hb (by simp [r])) q)) fe (Nat.le_of_eq s1) new2
    refine ⟨.ref (s.heap.objs.size + 1), _, I2, rfl, ⟨_, _, x, y, rfl, I.hok.fresh (Nat.le_refl _), I1.hok.fresh (Nat.le_of_eq s1), rfl, fun l hl => by rw [I.list_inj hl hqx]; exact hx, fun l hl => by rw [I.list_inj hl hqy]; exact hy⟩, ⟨⟨.ref s.heap.objs.size, ?_⟩, Z'.keep fun c hcm o r => (sb.2 c ?_).trans r⟩, fun c hcm => ?_⟩
    · rw [show ((i + 1 : Nat) : Int) = ((i : Nat) : Int) + 1 by omega]
      exact he''
    · rcases hcm with rfl | rfl | rfl | rfl | rfl
      · exact Ne.symm ne.1
      · exact Ne.symm ne.2.1
      · exact Ne.symm ne.2.2.1
      · exact Ne.symm ne.2.2.2.1
      · exact Ne.symm ne.2.2.2.2
    · have lt := fl c hcm
      rw [upd_ne (Nat.ne_of_lt (Nat.lt_succ_of_lt lt)), upd_ne (Nat.ne_of_lt lt)]
      exact (hf c hcm).1
  done := by
    intro X hP hw hK hc i pins s σ H E I hf st hg
    subst hP hw hK
    obtain ⟨⟨old, he⟩, Z⟩ := st
    obtain ⟨xs, ys, hqx, hqy, hend⟩ := hg
    obtain ⟨its, rv, p, _⟩ := I.list hqx
    obtain ⟨its2, rv2, p2, _⟩ := I.list hqy
    have l1 := rv.length
    have l2 := rv2.length
    have hn : its.toArray[i]? = none ∨ its2.toArray[i]? = none := by
      rcases hend with q | q
      · exact .inl (by simp; omega)
      · exact .inr (by simp; omega)
    refine pn_end (I.ok.hd hc) D he Z p.isList p2.isList hn fun h' k => ⟨rfl, ?_⟩
    exact I.turnedL (t' := s.toks) (ch := [e, z, TI, TO, i1, i2]) (fun c o hb q => k c o (fun r => hb (by simp [r])) (fun r => hb (by simp [r])) (fun r => hb (by simp [r])) (fun r => hb (by simp [r])) q) hf
  self := fun A i s Q E st h => let ⟨⟨_, he⟩, _⟩ := st; wpAny_pyIter_enum he h
/-! the call -/
theorem meets_enumerate_newZ (z TI TO : Addr) :
    Meets (Builtin.«enumerate.__new__» ⟨[.type "enumerate", .ref z], []⟩) (fun _ R s => IsZip s.heap z TI TO .none ∧
      R (.ok (.ret (.ref s.heap.objs.size))) { s with heap := s.heap.push { cls := .type "enumerate", data := .fields #[.none, .bool false, .ref z, rawInt 0, .none, .none] } }) :=
  .of_wp fun prog w A R s h => by
    obtain ⟨hp, g, d, tk, os⟩ := s; obtain ⟨hl, h⟩ := h
    have hsub := sub_enumerate
    have hZ : IsZip (Shared.heap ⟨hp, g, d, tk, os⟩) z TI TO .none := hl
    wp_walk using wpAny_loadPart' hl
    refine wpAny_stack_any fun st => wpAny_pure ?_
    split
    · rename_i c _ _ _ _ _
      cases (c == Value.type "enumerate")
      · wp_walk using wpAny_loadPart' hl, wpAny_pyIter_zip hZ
        exact ⟨_, rfl, h⟩
      · wp_walk using wpAny_loadPart' hl, wpAny_pyIter_zip hZ
        exact ⟨_, rfl, h⟩
    · wp_walk using wpAny_loadPart' hl, wpAny_pyIter_zip hZ
      exact ⟨_, rfl, h⟩
theorem call_enumerate_zip {prog : Program} {w : World} {A : Around} {E : Value → Shared → Prop} {s : Shared} {z TI TO : Addr} {Q : Value → Shared → Prop} (hZ : IsZip s.heap z TI TO .none)
    (h : ∀ h', IsEnum h' s.heap.objs.size z 0 .none → h'.objs.size = s.heap.objs.size + 1 → (∀ b o, s.heap.get? b = some o → h'.get? b = some o) → Q (.ref s.heap.objs.size) { s with heap := h' }) :
    wpAny (model prog w) A (call (.type "enumerate") [.ref z]) Q E s := by
  refine callType_new F.called_enumerate (by decide) (F.typeCall_enumerate_1 _) (F.newCall_enumerate_1 _) (fun obj => F.args_object_init_2 obj _) F.entry_enumerate_new (meets_enumerate_newZ z TI TO) ⟨hZ, ?_⟩
  have he : IsEnum (s.heap.push { cls := .type "enumerate", data := .fields #[.none, .bool false, .ref z, rawInt 0, .none, .none] }) s.heap.objs.size z 0 .none := Heap.get?_push_size _ rfl
  exact ⟨⟨_, he, rfl⟩, h _ he (Heap.size_push ..) fun b o x => Heap.get?_push_of_some _ x⟩
def iEnumZ (K : PySem.W.Frag) (ta : TA) : TI := fun σ H R => ta σ H fun vs H1 => ∃ a b xs ys, vs = [.ref a, .ref b] ∧ SqL K H1 a xs ∧ SqL K H1 b ys ∧ R (IteZ K a b) H1
theorem pi_enumZ {X : Cx} {e e2 : Expr} {ta : TA} {p p2 pos pos2 tpos : Pos} {elts : List Expr} {kk : Nat} (hg : Gl X "enumerate") (hm : X.mg "enumerate" = none) (hg2 : Gl X "zip") (hm2 : X.mg "zip" = none) (ha : PA X [e, e2] ta)
    (hs : starEach [e, e2] X.env = (false, eval e X.env) :: starEach [e2] X.env := by rfl) (hpl : (backTo pos2 (starEach [e2] X.env)).any (·.1) = false := by rfl) :
    PI X (.Tuple elts kk tpos) (.Call (.Name "enumerate" p) [.Call (.Name "zip" p2) [e, e2] [] pos2] [] pos) (iEnumZ X.K ta) := by
  refine ⟨fun pins s σ H R I h => ?_⟩
  refine PyProof.Rows.Call_ (ld_blt I hg hm PyProof.Rows.boot_enumerate ?_)
  refine PyProof.Rows.callWith_type1 (PyProof.Rows.args_cons ?_ rfl) rfl rfl
  refine PyProof.Rows.Call_ (ld_blt I hg2 hm2 PyProof.Rows.boot_zip ?_)
  refine PyProof.Rows.callWith_type1 (thn (ha.run pos2 pins s σ H _ I h) fun us s1 ⟨vs, H1, I1, r1, q1⟩ => ?_) hs hpl
  obtain ⟨a, b, xs, ys, ex, hqx, hqy, q⟩ := q1
  subst ex
  cases r1 with
  | cons r rr =>
    cases rr with
    | cons r' rr =>
      cases rr
      cases r
      cases r'
      obtain ⟨its, rv, p1, _⟩ := I1.list hqx
      obtain ⟨its2, rv2, p2, _⟩ := I1.list hqy
      have n0 : ∀ c, s1.heap.objs.size ≤ c → FpOk X pins H1 c := fun c hle => I1.fpOk hle (I1.hok.fresh hle)
      refine call_zip_2 p1.isList p2.isList fun h' hz hTI hTO h1 h2 hsz hk => PyProof.Rows.args_nil ?_
      have I2 : L2.Inv X pins σ H1 { s1 with heap := h' } := I1.kept (t' := s1.toks) hk
      refine call_enumerate_zip (s := { s1 with heap := h' }) hz fun h'' he hsz2 hk2 => wpAny_pyIter_enum he ?_
      have I3 : L2.Inv X pins σ H1 { s1 with heap := h'' } := I2.kept (t' := s1.toks) hk2
      have es : h'.objs.size = s1.heap.objs.size + 5 := hsz
      have he' : IsEnum h'' (s1.heap.objs.size + 5) (s1.heap.objs.size + 4) 0 .none := by rw [← es]; exact he
      have fresh : ∀ c ∈ [s1.heap.objs.size + 5, s1.heap.objs.size + 4, s1.heap.objs.size + 2, s1.heap.objs.size + 3, s1.heap.objs.size, s1.heap.objs.size + 1], FpOk X pins H1 c := fun c hcm => by
        have e' : c = s1.heap.objs.size + 5 ∨ c = s1.heap.objs.size + 4 ∨ c = s1.heap.objs.size + 2 ∨ c = s1.heap.objs.size + 3 ∨ c = s1.heap.objs.size ∨ c = s1.heap.objs.size + 1 := by simpa using hcm
        refine n0 c ?_
        rcases e' with r | r | r | r | r | r
        · rw [r]; exact Nat.le_add_right _ _
        · rw [r]; exact Nat.le_add_right _ _
        · rw [r]; exact Nat.le_add_right _ _
        · rw [r]; exact Nat.le_add_right _ _
        · rw [r]; exact Nat.le_refl _
        · rw [r]; exact Nat.le_add_right _ _
      have nn : ∀ k, k < 5 → s1.heap.objs.size + 5 ≠ s1.heap.objs.size + k := fun k hk r => by have := Nat.add_left_cancel r; omega
      refine ⟨s1.heap.objs.size + 5, [s1.heap.objs.size + 5, s1.heap.objs.size + 4, s1.heap.objs.size + 2, s1.heap.objs.size + 3, s1.heap.objs.size, s1.heap.objs.size + 1], _, _, H1, by rw [← es], I3,
        turn_enumZ (PySem.W.ktu_apart s1.heap.objs.size a b p1.lt p2.lt) ⟨nn 4 (by decide), nn 2 (by decide), nn 3 (by decide), nn 0 (by decide), nn 1 (by decide)⟩, ⟨⟨.none, he'⟩, ?_⟩, fresh, q⟩
      exact ⟨⟨.none, false, hk2 _ _ hz, .inl ⟨rfl, rfl⟩⟩, hk2 _ _ hTI, ⟨_, _, hk2 _ _ hTO⟩, h1.at fun o r => hk2 _ o r, h2.at fun o r => hk2 _ o r⟩
section
variable {K : PySem.W.Frag}
def ezK : Ik := fun ds S => match ds with
  | [d, e] => (lsOf S d).bind fun xs => (lsOf S e).bind fun ys => if xs.length = ys.length then some (enumL (zipL xs ys)) else none
  | _ => none
theorem li_ez {f : FA} : LI K (iEnumZ K (tDA K f)) ezK f := by
  intro σ H R ρ δ S ds items S' hS hσ e ek q
  refine ⟨ρ, δ, S, ds, S', hS, hσ, e, fun vs H1 ρ1 s1 hS1 rvs => ?_⟩
  unfold ezK at ek
  split at ek
  · rename_i dA dB
    obtain ⟨xs, e1, ek⟩ := bnd ek
    obtain ⟨ys, e2, ek⟩ := bnd ek
    split at ek
    · rename_i hl
      cases ek
      cases rvs with | cons rv rn => cases rn with | cons rw' rn => cases rn with | nil =>
      obtain ⟨a, vs, rfl, hq, rs⟩ := lsOf_sq hS1 rv e1
      obtain ⟨b, ws, rfl, hq2, rs2⟩ := lsOf_sq hS1 rw' e2
      have again : ∀ S2, ezK [dA, dB] S2 = some (enumL (zipL xs ys)) → lsOf S2 dA = some xs ∧ lsOf S2 dB = some ys := fun S2 h => by
        obtain ⟨as, m1, h⟩ := bnd (o := lsOf S2 dA) h
        obtain ⟨bs, m2, h⟩ := bnd (o := lsOf S2 dB) h
        split at h
        · rename_i hl'
          obtain ⟨rfl, rfl⟩ := zipL_inj hl' hl (enumL_inj (Option.some.inj h))
          exact ⟨m1, m2⟩
        · cases h
      have ilen : (enumL (zipL xs ys)).length = xs.length := by rw [enumL_len, zipL_len, hl, Nat.min_self]
      refine ⟨a, b, vs, ws, rfl, hq, hq2, q _ H1 ρ1 [.ref a, .ref b] s1 hS1 (.cons rv (.cons rw' .nil)) ⟨?_, ?_, ?_⟩⟩
      · intro i H2 ρ2 S2 rvs hS2 k2 hi
        cases rvs with | cons rv2 rn2 => ?_
        cases rn2 with | cons rw2 rn2 => ?_
        obtain ⟨a', vs', e', hq', rs'⟩ := lsOf_sq hS2 rv2 (again _ k2).1
        cases e'
        obtain ⟨b', ws', e'', hq'', rs''⟩ := lsOf_sq hS2 rw2 (again _ k2).2
        cases e''
        rw [ilen] at hi
        obtain ⟨v, hv, _⟩ := rs'.get (List.getElem?_eq_getElem hi)
        obtain ⟨w, hw, _⟩ := rs''.get (List.getElem?_eq_getElem (show i < ys.length by omega))
        exact ⟨vs', ws', v, w, hq', hq'', hv, hw⟩
      · intro i H2 ρ2 S2 x H3 rvs hS2 k2 y hi
        cases rvs with | cons rv2 rn2 => ?_
        cases rn2 with | cons rw2 rn2 => ?_
        obtain ⟨T, U, x1, y1, rfl, hT, hU, rfl, z1, z2⟩ := y
        obtain ⟨a', vs', e', hq', rs'⟩ := lsOf_sq hS2 rv2 (again _ k2).1
        cases e'
        obtain ⟨b', ws', e'', hq'', rs''⟩ := lsOf_sq hS2 rw2 (again _ k2).2
        cases e''
        obtain ⟨d2, hd, rd⟩ := rs'.getV (z1 vs' hq')
        obtain ⟨d3, hd3, rd3⟩ := rs''.getV (z2 ws' hq'')
        have st := Step.new (o := .tup [x1, y1]) hS2 hT
        have hS3 := hS2.new (o := .tup [x1, y1]) hT
        exact ⟨st.trans (Step.new hS3 hU), hS3.new hU, _, enumL_get (zipL_get hd hd3), rv_tup hS3 hU (.cons .int (.cons (rv_tup hS2 hT (.cons rd (.cons rd3 .nil))) .nil))⟩
      · intro i H2 ρ2 S2 rvs hS2 k2 hi
        cases rvs with | cons rv2 rn2 => ?_
        cases rn2 with | cons rw2 rn2 => ?_
        obtain ⟨a', vs', e', hq', rs'⟩ := lsOf_sq hS2 rv2 (again _ k2).1
        cases e'
        obtain ⟨b', ws', e'', hq'', rs''⟩ := lsOf_sq hS2 rw2 (again _ k2).2
        cases e''
        rw [ilen] at hi
        exact ⟨vs', ws', hq', hq'', .inl (by rw [rs'.len]; exact hi)⟩
    · cases ek
  · cases ek
theorem k_ez {α β : Type} (xs : List α) (ys : List β) (e : α → D) (e' : β → D) (hl : xs.length = ys.length) (S : Sg) : ezK [.lst (xs.map e), .lst (ys.map e')] S = some ((xs.zip ys).zipIdx.map fun p => .tup [.int (p.2 : Int), .tup [e p.1.1, e' p.1.2]]) := by
  unfold ezK
  dsimp only
  rw [lsv_lst, Option.bind_some, lsv_lst, Option.bind_some, if_pos (by rw [List.length_map, List.length_map, hl]), enumL_zip]
  have hz : zipL (xs.map e) (ys.map e') = (xs.zip ys).map fun p => .tup [e p.1, e' p.2] := by
    have := k_zpl xs ys e e' hl S
    unfold zpK2 at this
    dsimp only at this
    rw [lsv_lst, Option.bind_some, lsv_lst, Option.bind_some, if_pos (by rw [List.length_map, List.length_map, hl])] at this
    exact Option.some.inj this
  rw [hz, List.zipIdx_map, List.map_map]
  rfl
end
end
end DL
end
noncomputable section
namespace DL
open PySem L2
/-! ### list.index of numbers; zip of two tuples of any lengths -/
section
variable {K : PySem.W.Frag}
def idxO : OM := fun d ds S => match ds with
  | [.int k] => (lsOf S d).bind fun xs => (intsOf xs).bind fun ns => if k ∈ ns then some (.int ((ns.idxOf k : Nat) : Int), S) else none
  | _ => none
def zuK : Ik := fun ds S => match ds with
  | [d, e] => (tpOf d).bind fun xs => (tpOf e).bind fun ys => some (zipL xs ys)
  | _ => none
theorem li_zu {f : FA} : LI K (RZ.iZipA K (tDA K f)) zuK f := by
  intro σ H R ρ δ S ds items S' hS hσ e ek q
  refine ⟨ρ, δ, S, ds, S', hS, hσ, e, fun vs H1 ρ1 s1 hS1 rvs => ?_⟩
  unfold zuK at ek
  split at ek
  · rename_i dA dB
    obtain ⟨xs, e1, ek⟩ := bnd ek
    obtain ⟨ys, e2, ek⟩ := bnd ek
    cases ek
    cases rvs with | cons rv rn => cases rn with | cons rw' rn => cases rn with | nil =>
    obtain ⟨a, vs, rfl, hq, rs⟩ := tpOf_sq rv e1
    obtain ⟨b, ws, rfl, hq2, rs2⟩ := tpOf_sq rw' e2
    refine ⟨a, b, vs, ws, rfl, .inr ⟨hq, hq2, q _ H1 ρ1 [.ref a, .ref b] s1 hS1 (.cons rv (.cons rw' .nil)) ⟨?_, ?_, ?_⟩⟩⟩
    · intro i H2 ρ2 S2 rvs hS2 k2 hi
      cases rvs with | cons rv2 rn2 => ?_
      cases rn2 with | cons rw2 rn2 => ?_
      obtain ⟨a', vs', e', hq', rs'⟩ := tpOf_sq rv2 e1
      cases e'
      obtain ⟨b', ws', e'', hq'', rs''⟩ := tpOf_sq rw2 e2
      cases e''
      rw [zipL_len] at hi
      obtain ⟨v, hv, _⟩ := rs'.get (List.getElem?_eq_getElem (show i < xs.length by omega))
      obtain ⟨w, hw, _⟩ := rs''.get (List.getElem?_eq_getElem (show i < ys.length by omega))
      exact ⟨vs', ws', v, w, hq', hq'', hv, hw⟩
    · intro i H2 ρ2 S2 x H3 rvs hS2 k2 y hi
      cases rvs with | cons rv2 rn2 => ?_
      cases rn2 with | cons rw2 rn2 => ?_
      obtain ⟨T, x1, y1, rfl, hT, rfl, z1, z2⟩ := y
      obtain ⟨a', vs', e', hq', rs'⟩ := tpOf_sq rv2 e1
      cases e'
      obtain ⟨b', ws', e'', hq'', rs''⟩ := tpOf_sq rw2 e2
      cases e''
      obtain ⟨d2, hd, rd⟩ := rs'.getV (z1 vs' hq')
      obtain ⟨d3, hd3, rd3⟩ := rs''.getV (z2 ws' hq'')
      exact ⟨Step.new hS2 hT, hS2.new hT, _, zipL_get hd hd3, rv_tup hS2 hT (.cons rd (.cons rd3 .nil))⟩
    · intro i H2 ρ2 S2 rvs hS2 k2 hi
      cases rvs with | cons rv2 rn2 => ?_
      cases rn2 with | cons rw2 rn2 => ?_
      obtain ⟨a', vs', e', hq', rs'⟩ := tpOf_sq rv2 e1
      cases e'
      obtain ⟨b', ws', e'', hq'', rs''⟩ := tpOf_sq rw2 e2
      cases e''
      rw [zipL_len] at hi
      refine ⟨vs', ws', hq', hq'', ?_⟩
      rw [rs'.len, rs''.len]
      omega
  · cases ek
theorem k_zu {α β : Type} (xs : List α) (ys : List β) (e : α → D) (e' : β → D) (S : Sg) : zuK [.tup (xs.map e), .tup (ys.map e')] S = some ((xs.zip ys).map fun p => .tup [e p.1, e' p.2]) := by
  show some (zipL (xs.map e) (ys.map e')) = _
  congr 1
  unfold zipL
  rw [List.zipWith_map, List.zip, List.map_zipWith]
theorem flat_ints : ∀ ns : List Int, (ns.map V.int).all flatV = true
  | [] => rfl
  | n :: r => by
    rw [List.map_cons, List.all_cons, flat_ints r]
    rfl
theorem mtD_idx : MtD K "list" (rIndex K) idxO isLoc := by
  refine ⟨fun _ _ _ _ _ hS r h => isLoc_ty hS r h, ?_⟩
  intro x xs H Q ρ S d ds z S' hS rx rs eq q
  unfold idxO at eq
  split at eq
  · rename_i k
    obtain ⟨ys, e1, eq⟩ := bnd eq
    obtain ⟨ns, e2, eq⟩ := bnd eq
    split at eq
    · rename_i hk
      cases eq
      cases rs with | cons ry rn => cases rn with | nil =>
      cases ry
      obtain ⟨a, vs, rfl, hq, r⟩ := lsOf_sq hS rx e1
      rw [intsOf_eq e2] at r
      have ev := rvs_ints r
      subst ev
      have hlt : ns.idxOf k < ns.length := List.idxOf_lt_length_iff.mpr hk
      refine ⟨a, ns.map V.int, .int k, ns.idxOf k, .int k, rfl, rfl, hq, rfl, flat_ints ns, ?_, ?_, fun m z' hm hz => ?_, q _ _ _ (Step.refl _ _) hS .int⟩
      · rw [List.getElem?_map, List.getElem?_eq_getElem hlt, List.getElem_idxOf hlt]
        rfl
      · show decide (k = k) = true
        exact decide_eq_true rfl
      · rw [List.getElem?_map] at hz
        obtain ⟨n, hn, rfl⟩ := Option.map_eq_some_iff.mp hz
        show decide (n = k) = false
        refine decide_eq_false fun e => ?_
        subst e
        obtain ⟨hm', e3⟩ := List.getElem?_eq_some_iff.mp hn
        have := List.not_of_lt_findIdx (p := fun x => x == n) (xs := ns) (i := m) hm
        rw [e3] at this
        simp at this
    · cases eq
  · cases eq
end
theorem x_idx {S : Sg} {Q : D → Sg → Prop} {ns : List Int} {k : Int} (hk : k ∈ ns) (q : Q (.int ((ns.idxOf k : Nat) : Int)) S) : W (idxO (.lst (ns.map .int)) [.int k] S) Q := by
  refine ⟨_, _, ?_, q⟩
  unfold idxO
  dsimp only
  rw [lsv_lst, Option.bind_some, intsOf_map, Option.bind_some, if_pos hk]
/-! t[lo:hi] of a tuple, the whole too -/
section
variable {K : PySem.W.Frag}
def slTAO : O3 := fun d lo hi S => (tpOf d).bind fun ds => some (.tup (cutD ds lo hi), S)
theorem slD_TA : SlD K (rSlA K) slTAO := by
  intro x lo hi H Q ρ S d z S' hS rx eq q
  obtain ⟨ds, e, eq⟩ := bnd eq
  cases eq
  obtain ⟨a, vs, rfl, h2, r⟩ := tpOf_sq rx e
  refine ⟨a, vs, rfl, h2, fun hw => ?_, fun hn p hp => q _ _ ρ (Step.new hS hp) (hS.new hp) (rv_tup hS hp (cut_rv r lo hi))⟩
  rw [r.len] at hw
  have hc : cutD ds lo hi = ds := by
    unfold cutD
    rw [hw.1, hw.2, List.drop_zero, Nat.sub_zero, List.take_length]
  have hd : d = .tup ds := by
    cases d <;> cases e
    rfl
  rw [hc, ← hd] at q
  exact q _ _ _ (Step.refl _ _) hS rx
end
end DL
end
noncomputable section
namespace DL
open PySem L2
/-! ### a list == [], whatever it holds -/
def rEqE (K : PySem.W.Frag) : R2 := fun x y H Q => ∃ (a b : Addr) (xs : List V), x = .ref a ∧ y = .ref b ∧ SqL K H a xs ∧ SqL K H b [] ∧ Q (.bl xs.isEmpty) H
theorem op_eqE {X : Cx} (hu : X.A.units < cLine) : OpR X (compareOp .Eq) (rEqE X.K) := by
  intro pins s σ H x y v u Q I rx ry h
  obtain ⟨a, b, xs, rfl, rfl, h1, h2, q⟩ := h
  cases rx
  cases ry
  obtain ⟨its, rv, p, _⟩ := I.list h1
  replace p := p.isList
  obtain ⟨its2, rv2, p2, _⟩ := I.list h2
  replace p2 := p2.isList
  cases rv2
  cases rv with
  | nil => exact SeqAt.eq_listAt (e := fun _ => true) p p2 rfl hu (fun j hj _ => absurd hj (Nat.not_lt_zero _)) ⟨.bl true, H, I, rfl, q⟩
  | cons r1 r2 => exact SeqAt.eq_list_lengthsAt p p2 (by simp) hu ⟨.bl false, H, I, rfl, q⟩
def eqEO : O2 := fun d e S => match e with
  | .lst [] => (lsOf S d).bind fun ds => some (.bl ds.isEmpty, S)
  | _ => none
section
variable {K : PySem.W.Frag}
theorem opD_eqE : OpD K (rEqE K) eqEO := by
  intro x y H Q ρ S d e z S' hS rx ry eq q
  unfold eqEO at eq
  split at eq
  · obtain ⟨ds, e1, eq⟩ := bnd eq
    cases eq
    obtain ⟨a, vs, rfl, h1, r1⟩ := lsOf_sq hS rx e1
    obtain ⟨b, ws, rfl, h2, r2⟩ := lsOf_sq (d := .lst []) hS ry rfl
    cases r2
    refine ⟨a, b, vs, rfl, rfl, h1, h2, ?_⟩
    cases r1 with
    | nil => exact q _ H ρ (Step.refl _ _) hS .bl
    | cons _ _ => exact q _ H ρ (Step.refl _ _) hS .bl
  · cases eq
end
section
variable {X : Cx} {a b : Expr} {pos : Pos} {f g : FE}
theorem jeqE (hu : X.A.units + 64 < cLine) (ha : JE X a f) (hb : JE X b g) : JE X (.Compare a [.Eq] [b] pos) (op2D eqEO f g) := jcmpR (op_eqE (by omega)) opD_eqE ha hb
theorem jteqE (hu : X.A.units + 64 < cLine) (ha : JE X a f) (hb : JE X b g) : JT X (.Compare a [.Eq] [b] pos) (tvD (op2D eqEO f g)) := jtcmpR (op_eqE (by omega)) opD_eqE ha hb
end
section
variable {S : Sg} {Q : D → Sg → Prop}
theorem x_eqE {d : D} {ds : List D} (h : lsOf S d = some ds) (q : Q (.bl ds.isEmpty) S) : W (eqEO d (.lst []) S) Q := by
  refine ⟨_, _, ?_, q⟩
  unfold eqEO
  dsimp only
  rw [h]
  rfl
end
end DL
end
noncomputable section
namespace DL
open PySem L2 PyProof.Rows
/-! ### what shows itself: repr and str of lists and tuples, in defs that are called where nothing is being shown -/
abbrev Gd (A : Around) : Prop := A.guards = some []
mutual
theorem Dp.plain {K : PySem.W.Frag} {H : Hp} : ∀ (d : PyData) (v : V), Dp K H v d → d.hasDict = false
  | .none, _, _ => by unfold PyData.hasDict; rfl
  | .bool _, _, _ => by unfold PyData.hasDict; rfl
  | .int _, _, _ => by unfold PyData.hasDict; rfl
  | .str _, _, _ => by unfold PyData.hasDict; rfl
  | .list ds, _, h => by
    cases h with
    | lst _ r => unfold PyData.hasDict; exact Dp.plainAll ds _ r
  | .tuple ds, _, h => by
    cases h with
    | tup _ r => unfold PyData.hasDict; exact Dp.plainAll ds _ r
  | .dict _, _, h => by cases h
theorem Dp.plainAll {K : PySem.W.Frag} {H : Hp} : ∀ (ds : List PyData) (vs : List V), DpAll K H vs ds → PyData.hasDictAll ds = false
  | [], _, _ => by unfold PyData.hasDictAll; rfl
  | d :: ds, _, h => by
    cases h with
    | cons h1 h2 =>
      unfold PyData.hasDictAll
      rw [Dp.plain d _ h1, Dp.plainAll ds _ h2]
      rfl
end
/-- it is a list or a tuple, not too deep, its text not too long -/
def ShowOk (d : PyData) : Prop := isDisplay d = true ∧ d.showable = true ∧ d.depth ≤ 50 ∧ d.shown.length ≤ sizeLine
def rShow (K : PySem.W.Frag) : List V → Hp → VK → Prop := fun xs H Q => ∃ x d, xs = [x] ∧ Dp K H x d ∧ ShowOk d ∧ Q (.str d.shown) H
section
variable {X : Cx}
theorem shown_run {pins : List (Addr × Obj)} {s : Shared} {σ : L2.St} {H : Hp} {x : V} {u : Value} {d : PyData} (I : Inv X pins σ H s) (hd : Dp X.K H x d) (ru : RelV x u) (ok : ShowOk d) : ∃ (a : Addr) (as : List Addr), u = .ref a ∧ Reads s.heap (.ref a) d as ∧ (d.hasDict = true → sysModules ∉ as) := by
  obtain ⟨as, r⟩ := Dp.reads I d x u hd ru
  obtain ⟨a, rfl⟩ := isRef_of_reads r ok.1
  exact ⟨a, as, rfl, r, PyData.noDict_hsm (Dp.plain d x hd)⟩
theorem call_reprG (hg : Gd X.A) (hu : X.A.units + 64 < cLine) : CallR X (.builtin "repr") (rShow X.K) := by
  intro pins s σ H xs us Q I r h
  obtain ⟨x, d, rfl, hd, ok, q⟩ := h
  cases r with
  | cons r1 rr =>
    cases rr
    obtain ⟨a, as, rfl, rd, nd⟩ := shown_run I hd r1 ok
    have h3 := ok.2.2.1
    exact repr_of_reads' rd ok.2.1 nd hg (by omega) (fun _ _ e => e) (fun h' t tk hk => ⟨.str d.shown, H, I.kept (t' := tk) hk, ⟨_, rfl⟩, q⟩) ok.2.2.2
theorem call_strG (hg : Gd X.A) (hu : X.A.units + 64 < cLine) : CallR X (.type "str") (rShow X.K) := by
  intro pins s σ H xs us Q I r h
  obtain ⟨x, d, rfl, hd, ok, q⟩ := h
  cases r with
  | cons r1 rr =>
    cases rr
    obtain ⟨a, as, rfl, rd, nd⟩ := shown_run I hd r1 ok
    have h3 := ok.2.2.1
    exact str_of_reads rd ok.2.1 nd hg (by omega) (fun _ _ e => e) (fun h' t tk hk => ⟨.str d.shown, H, I.kept (t' := tk) hk, ⟨_, rfl⟩, q⟩) ok.2.2.2
end
open Classical in
def showO : OC := fun ds S => match ds with
  | [d] => (pyT S d).bind fun p => if ShowOk p then some (.str p.shown, S) else none
  | _ => none
theorem cbD_show {K : PySem.W.Frag} : CbD K (rShow K) showO := by
  intro xs H Q ρ S ds z S' hS rs eq q
  unfold showO at eq
  split at eq
  · cases rs with | cons rx rn => ?_
    cases rn
    obtain ⟨p, e1, eq⟩ := bnd eq
    split at eq
    · rename_i ok
      cases eq
      exact ⟨_, p, rfl, pyT_dp hS rx e1, ok, q _ _ _ (Step.refl _ _) hS .str⟩
    · cases eq
  · cases eq
theorem x_show {S : Sg} {Q : D → Sg → Prop} {d : D} {p : PyData} (h : pyT S d = some p) (ok : ShowOk p) (q : Q (.str p.shown) S) : W (showO [d] S) Q := by
  refine ⟨_, _, ?_, q⟩
  unfold showO
  dsimp only
  rw [h, Option.bind_some, if_pos ok]
/-! ### xs.pop() -/
section
variable {K : PySem.W.Frag}
theorem RVs.dropLast {H : Hp} {ρ : Ro} : ∀ {vs : List V} {ds : List D}, RVs K H ρ vs ds → RVs K H ρ vs.dropLast ds.dropLast
  | _, _, .nil => .nil
  | _, _, .cons _ .nil => .nil
  | _, _, .cons h (.cons h2 r) => .cons h (RVs.dropLast (.cons h2 r))
def popO : OM := fun d ds S => match d, ds with
  | .loc n, [] => match S[n]? with
    | some (.lst xs) => (xs[xs.length - 1]?).bind fun y => some (y, S.set n (.lst xs.dropLast))
    | _ => none
  | _, _ => none
theorem mtD_pop : MtD K "list" rPop popO isLoc := by
  refine ⟨fun _ _ _ _ _ hS r h => isLoc_ty hS r h, ?_⟩
  intro x xs H Q ρ S d ds z S' hS rx rs eq q
  unfold popO at eq
  split at eq
  · rename_i n
    cases rs
    cases rx with | loc hn => ?_
    split at eq
    · rename_i ys hy
      obtain ⟨y, ey, eq⟩ := bnd eq
      cases eq
      obtain ⟨vs, h1, h2⟩ := hS.ob _ _ _ hn hy
      obtain ⟨v, hv, rv⟩ := h2.get ey
      refine ⟨_, vs, v, rfl, rfl, h1, by rw [h2.len]; exact hv, ?_⟩
      have st : Step ρ ρ H (upd H _ (.lst vs.dropLast)) := Step.write hn h1
      exact q _ _ ρ st (hS.write hn ⟨_, h1⟩ ⟨_, upd_same, h2.dropLast.mono st⟩) (rv.mono st)
    · cases eq
  · cases eq
theorem wl_pop {A : Sg} {L : List Ob} {N k : Nat} {Q : D → Sg → Prop} (hl : A.length = N) {xs : List D} {y : D} (h : L[k]? = some (.lst xs)) (hy : xs[xs.length - 1]? = some y) (q : Q y (A ++ L.set k (.lst xs.dropLast))) : W (popO (.loc (N + k)) [] (A ++ L)) Q := by
  refine ⟨_, _, ?_, q⟩
  unfold popO
  dsimp only
  rw [al_get hl, h]
  dsimp only
  rw [hy, Option.bind_some, al_set hl]
end
/-! ### defs that are called so -/
structure FnG (P : Program) (w : World) (K : PySem.W.Frag) (mg : Str → Option Value) (base : Heap) (k : Nat) (f : Addr) (fd : FuncData) (ps : List Str) (sp : Sp) : Prop where
  many : ∀ vs H Q E, sp vs H Q E → vs.length = ps.length
  go : ∀ (A : Around) (outer : List Env) (s : Shared) (H : Hp) (args : Args) (us : List Value) (vs : List V) (Q : VK) (E : XK), Room k A → Gd A → Env0 P w K mg base A outer s H →
    BindsTo s fd args (ps.zip us) → Vals vs us → sp vs H Q E → codeAny (model P w) A (.call (.ref f) args) (CR CX0 outer P w H s Q E) s
theorem FnG.of {P : Program} {w : World} {K : PySem.W.Frag} {mg : Str → Option Value} {base : Heap} {k : Nat} {f : Addr} {fd : FuncData} {ps : List Str} {sp : Sp} (F : FnOk P w K mg base CX0 k f fd ps sp) : FnG P w K mg base k f fd ps sp :=
  ⟨F.len, fun A outer s H args us vs Q E hr _ he hb hv hs => F.run A outer s H args us vs Q E hr he hb hv hs⟩
theorem FnG.imp {P : Program} {w : World} {K : PySem.W.Frag} {mg : Str → Option Value} {base : Heap} {k : Nat} {f : Addr} {fd : FuncData} {ps : List Str} {sp sp' : Sp} (F : FnG P w K mg base k f fd ps sp) (i : ∀ vs H Q E, sp' vs H Q E → sp vs H Q E) : FnG P w K mg base k f fd ps sp' :=
  ⟨fun vs H Q E q => F.many vs H Q E (i _ _ _ _ q), fun A outer s H args us vs Q E hr gd he hb hv hs => F.go A outer s H args us vs Q E hr gd he hb hv (i _ _ _ _ hs)⟩
section
variable {P : Program} {w : World} {K : PySem.W.Frag} {mg : Str → Option Value} {base : Heap}
theorem fnG_by {f : Addr} {k : Nat} {nm qn : Str} {prm : Arguments} {bd : List Stmt} {sc : Scope} {d0 d1 d2 d3 cv ct oc : Value} {an od : Option Addr} {sl : Array (Option Value)} {N ps : List Str} {sp : Sp}
    (at_ : K.lookup f = some ⟨oc, od, .func (PySem.W.fnOf nm qn prm bd sc d0 d1 d2 d3 an cv ct), sl⟩) (code : PySem.W.codeIn K cv qn = true) (fs : FnScope N ps sc) (many : ∀ vs H Q E, sp vs H Q E → vs.length = ps.length)
    (walk : ∀ (A : Around) (outer : List Env) (s : Shared) (H : Hp) (vs : List V) (Q : VK) (E : XK), Room k (A.deeper (envOfC qn sc s.heap.objs.size f cv)) → Gd (A.deeper (envOfC qn sc s.heap.objs.size f cv)) → sp vs H Q E →
      ∃ t, PSs (cxOf CX0 P w K mg base N qn sc f cv A outer s H E) bd t ∧ t ⟨fun _ H' => Q .non H', Q, fun _ _ => False, fun _ _ => False⟩ (start N vs) H) : FnG P w K mg base (k + 1) f (PySem.W.fnOf nm qn prm bd sc d0 d1 d2 d3 an cv ct) ps sp := by
  constructor
  · exact many
  intro A outer s H args us vs Q E room gd env bnds vals told
  have stays := fun (b : Addr) (o : Obj) (e : base.get? b = some o) => (env.bs b o e).1
  have kin : K.In s.heap := env.mod.kin.keeps stays
  have noLim : s.heap.NoLimit := env.mod.nolimit.keeps stays
  have kinds : ∀ y ∈ ps.zip us, sc.names.lookup y.1 = some .local ∨ (sc.names.lookup y.1 = some .cell ∧ ((cellsFrom (s.heap.objs.size + 1) sc.names []).lookup y.1).isSome = true) := by
    rintro ⟨n, v⟩ hy
    exact (fs.par n (List.of_mem_zip hy).1).imp id fun q => ⟨q, PySem.W.cellsFrom_some _ _ _ (.inl q)⟩
  refine codeAny_call_function room.depth (kin _ _ at_) rfl fs.co fs.gen rfl (PySem.W.codeRec_of kin code) (bnds _ _ _ _ ?_)
  refine wpAny_newFunctionEnv_cells fs.kind kinds fun env' eqn s1 made => ?_
  subst eqn
  refine ⟨noLim.keeps made.toInCall.keep, codeAny_func ?_⟩
  obtain ⟨t, drv, rest⟩ := walk A outer s H vs Q E (room.deeper _) gd told
  have inv := inv_start (CX := CX0) (E := E) fs room.hd env (many _ _ _ _ told) vals made
  refine wpAny_mono (drv.run [] s1 (start N vs) H _ inv rest) (fun out s' got => ?_) fun e s' bad => bad
  match out, got with
  | .ret u, ⟨v, _, H', J, rv, q⟩ => exact ⟨v, H', J.os, J.bare, J.base, J.hok, rv, q⟩
  | .next, ⟨_, H', J, q⟩ => exact ⟨V.non, H', J.os, J.bare, J.base, J.hok, rfl, q⟩
  | .brk, ⟨_, _, _, q⟩ => exact q.elim
  | .cont, ⟨_, _, _, q⟩ => exact q.elim
theorem fn_okG {φ : Nat → D → Sg → Option (D × Sg)} (hφ : FinOk K φ) {x qual : Str} {st : Stmt} {f : Addr} {fd : FuncData} {N ps : List Str} {k : Nat} {body : FS} (F : Fun K x qual st f fd) (sc : FnScope N ps (defScope st))
    (hb : ∀ (cdv : Value) (A : Around) (outer : List Env) (s : Shared) (H : Hp) (E : XK), Room k (A.deeper (PyProof.Rows.envOfC qual (defScope st) s.heap.objs.size f cdv)) → Gd (A.deeper (PyProof.Rows.envOfC qual (defScope st) s.heap.objs.size f cdv)) → JSs (cxOf CX0 P w K mg base N qual (defScope st) f cdv A outer s H E).nox (defBody st) body) :
    FnG P w K mg base (k + 1) f fd ps (spD K ps.length (bodyF φ N.length body)) := by
  obtain ⟨oc, od, kV, doc, pm, an, cdv, ct, osl, rfl, lk, hcd⟩ := F.ex
  exact fnG_by lk hcd sc (fun _ _ _ _ h => spD_len h) fun A outer s H vs Q E hr hg hsp => ⟨_, PSs.nox (hb cdv A outer s H E hr hg), body_ok hφ rfl hsp⟩
/-- such a def, known by its name -/
structure DG (P : Program) (w : World) (K : PySem.W.Frag) (mg : Str → Option Value) (base : Heap) (x : Str) (k : Nat) (ps : List Str) (F : Fn) : Prop where
  ex : ∃ (f : Addr) (fd : FuncData), FnG P w K mg base k f fd ps (spD K ps.length F) ∧ mg x = some (.ref f) ∧ PySem.W.keepIn K (.ref f) = true ∧ Binds K fd ps []
end
section
variable {X : Cx} {e : Expr} {es : List Expr} {fa : FA} {pos : Pos}
theorem pe_callG {f : Addr} {fd : FuncData} {ps : List Str} {sp : Sp} {k : Nat} {x : Str} {p : Pos} {t : TA} (F : FnG X.prog X.w X.K X.mg X.base k f fd ps sp) (room : Room k X.A) (gd : Gd X.A) (hg : Gl X x) (hm : X.mg x = some (.ref f)) (kp : PySem.W.keepIn X.K (.ref f) = true) (bd : Binds X.K fd ps [])
    (ha : PA X (e :: es) t) (hdb : (x == ("__debug__" : Str)) = false) (he : starEach (e :: es) X.env = (false, eval e X.env) :: starEach es X.env) (hpl : (backTo pos (starEach es X.env)).any (·.1) = false) :
    PE X (.Call (.Name x p) (e :: es) [] pos) (tCall sp [] E0 t) := by
  constructor
  intro pins s σ H Q I h
  have inner : ∀ us s1 vs H1, Inv X pins σ H1 s1 → Vals vs us → sp (vs ++ []) H1 Q E0 → wpAny (model X.prog X.w) X.A (call (.ref f) us) (EP X pins σ Q) X.xe s1 := fun us s1 vs H1 J r q => by
    rw [List.append_nil] at q
    have ln : us.length = ps.length := r.length.symm.trans (F.many _ _ _ _ q)
    have bd' := bd s1 us J.kIn (by rw [List.append_nil]; exact ln)
    rw [List.append_nil] at bd'
    refine wpAny_call (codeAny_mono (F.go X.A X.stack s1 H1 ⟨us, []⟩ us vs Q E0 room gd J.env0 bd' r q) fun out s' got => ?_)
    match out, got with
    | .error _, got => exact False.elim got
    | .ok (.ret u), got => exact J.after got
    | .ok .next, got => exact False.elim got
    | .ok .brk, got => exact False.elim got
    | .ok .cont, got => exact False.elim got
  exact wpAny_Call_Name_kw (ld_glob I hg hm (PySem.W.callWith_K (h₀ := X.base) I.ok.mod.kin kp (thn (ha.run pos pins s σ H _ I h) fun us s1 ⟨vs, H1, J, r, q⟩ => ⟨J.kIn, inner us s1 vs H1 J r q⟩) he hpl) hdb)
theorem jfnG {x : Str} {k : Nat} {ps : List Str} {F : Fn} {p : Pos} (Z : DG X.prog X.w X.K X.mg X.base x k ps F) (hr : Room k X.A) (gd : Gd X.A) (ha : JA X (e :: es) fa) (hn : NA ps.length fa := by repeat (first | exact na0 | apply na))
    (hg : Gl X x := by rfl) (hdb : (x == ("__debug__" : Str)) = false := by decide) (he : starEach (e :: es) X.env = (false, eval e X.env) :: starEach es X.env := by rfl) (hpl : (backTo pos (starEach es X.env)).any (·.1) = false := by rfl) :
    JE X (.Call (.Name x p) (e :: es) [] pos) (fnD F [] fa) := by
  obtain ⟨f, fd, Fk, hm, kp, b⟩ := Z.ex
  exact PE.imp (pe_callG Fk hr gd hg hm kp b ha hdb he hpl) (le_fn (fun _ _ => .nil) fun δ S ds S' q => by rw [List.append_nil]; exact hn δ S ds S' q)
end
/-! ### the end, for a law that shows things -/
theorem law_callG {P : Program} {w : World} {K : PySem.W.Frag} {mg mb : Str → Option Value} {k : Nat} {fa a : Addr} {fd : FuncData} {x : Str} {sp : Sp} {s₁ : Shared} {vs : List Value} {ns : List Int}
    (kin : K.In s₁.heap) (hns : s₁.heap.Ns mainGlobals mg) (hbn : s₁.heap.Ns builtinsNs mb) (hbb : ∀ x : Str, x ≠ "__name__" → mb x = bootBuiltins x) (hlim : s₁.heap.NoLimit) (hgens : s₁.gens = #[])
    (obj : s₁.heap.get? a = some { cls := .type "list", data := .seq vs.toArray }) (hi : IntsAre vs ns) (hl : ns.length ≤ sizeLine) (room : Room k callerA)
    (F : ∀ base : Heap, K.In base → base.Ns mainGlobals mg → FnG P w K mg base k fa fd [x] sp) (bnds : ∀ (s : Shared) (u : Value), BindsTo s fd ⟨[u], []⟩ [(x, u)])
    (told : ∀ H : Hp, SqL K H a (ns.map V.int) → sp [.ref a] H (fun v _ => v = .bl true) fun _ _ _ => False) :
    codeAny (model P w) callerA (.call (.ref fa) ⟨[.ref a], []⟩) (fun r s' => (r = .ok (.ret (.bool true))) ∧ (OldK s₁.heap s'.heap) ∧ (s'.os = s₁.os) ∧ (AllBare s'.gens)) s₁ := by
  have vals : Vals (ns.map V.int) vs := vals_ints hi
  have dec : K.lookup a = none ∨ ∃ o, K.lookup a = some o := by
    cases K.lookup a with
    | none => exact .inl rfl
    | some o => exact .inr ⟨o, rfl⟩
  -- H tells of the script at most
  have main : ∀ H : Hp, (∀ b u, H b = some u → b = a ∧ ∃ o xs, u = .frz o (.lst xs)) → SqL K H a (ns.map V.int) → HOk P w H s₁.heap → (∀ u, H a = some u → K.lookup a = none) →
      codeAny (model P w) callerA (.call (.ref fa) ⟨[.ref a], []⟩) (fun r s' => (r = .ok (.ret (.bool true))) ∧ (OldK s₁.heap s'.heap) ∧ (s'.os = s₁.os) ∧ (AllBare s'.gens)) s₁ := by
    intro H only sq hok noK
    have keep : ∀ b o, s₁.heap.get? b = some o → (∀ u, H b = some u → False) → (hidT s₁.heap H).get? b = some o := fun b o e n => hidT_get e (by
      cases z : H b with
      | none => rfl
      | some u => exact (n u z).elim)
    have dicts : ∀ {b : Addr} {m : Str → Option Value}, s₁.heap.Ns b m → (hidT s₁.heap H).Ns b m := by
      rintro b m ⟨o, es, ep, e, d, r⟩
      refine ⟨o, es, ep, keep b o e fun u z => ?_, d, r⟩
      obtain ⟨rfl, _⟩ := only b u z
      rw [obj] at e
      cases e
      exact absurd (show Data.seq vs.toArray _ = Data.dict es ep from d) nofun
    have kin' : K.In (hidT s₁.heap H) := fun b o e => keep b o (kin b o e) fun u z => by
      obtain ⟨rfl, _⟩ := only b u z
      rw [noK u z] at e
      cases e
    obtain ⟨mc, l1, l2⟩ := hlim
    have env : Env0 P w K mg (hidT s₁.heap H) callerA [] s₁ H := { frames := rfl, mod := ⟨kin', dicts hns, ⟨mb, dicts hbn, hbb⟩, ⟨mc, dicts l1, l2⟩⟩, bs := fun b o e => of_hidT e, bsz := Nat.le_of_eq (hidT_size _ _), funs := trivial, frf := (nofun), hok := hok, bare := .of_eq hgens }
    refine codeAny_mono ((F _ kin' (dicts hns)).go callerA [] s₁ H ⟨[.ref a], []⟩ [.ref a] [.ref a] _ _ room rfl env (bnds s₁ (.ref a)) (.cons rfl .nil) (told H sq)) fun r s' got => ?_
    match r, got with
    | .error _, got => exact False.elim got
    | .ok .next, got => exact False.elim got
    | .ok .brk, got => exact False.elim got
    | .ok .cont, got => exact False.elim got
    | .ok (.ret u), ⟨v, H', os, bare, un, hok', rel, qv⟩ =>
      have qv : v = .bl true := qv
      subst qv
      have eu : u = Value.bool true := rel
      subst eu
      refine ⟨rfl, OldK.of_keep fun b o e => ?_, os, bare⟩
      cases z : H b with
      | none => exact un.keep b o e z (nofun) (nofun)
      | some u =>
        obtain ⟨rfl, ob, xs, rfl⟩ := only b u z
        obtain ⟨e1, _⟩ := hok b _ z
        obtain ⟨e2, _⟩ := hok' b _ (un.frzs b ob _ z)
        rw [e] at e1
        cases e1
        exact e2
  rcases dec with hk | ⟨o, hk⟩
  · have one : ∀ b u, (if b = a then some (HO.frz { cls := .type "list", data := .seq vs.toArray } (.lst (ns.map V.int))) else none) = some u → b = a ∧ u = .frz { cls := .type "list", data := .seq vs.toArray } (.lst (ns.map V.int)) := fun b u z => by
      split at z
      · rename_i hb
        exact ⟨hb, (Option.some.inj z).symm⟩
      · cases z
    refine main (fun b => if b = a then some (.frz { cls := .type "list", data := .seq vs.toArray } (.lst (ns.map V.int))) else none) (fun b u z => ⟨(one b u z).1, _, _, (one b u z).2⟩) (.inl (.inr ⟨_, if_pos rfl⟩)) (fun b u z => ?_) fun _ _ => hk
    obtain ⟨rfl, rfl⟩ := one b u z
    exact ⟨obj, by rw [List.length_map]; exact hl, vs, _, vals, obj⟩
  · have same := kin a o hk
    rw [obj] at same
    cases same
    exact main (fun _ => none) nofun (.inr ⟨_, vs.toArray, _, hk, rfl, rfl, rfl, by rw [List.size_toArray, hi.length]; exact hl, by simpa using vals⟩) nofun nofun
theorem walk_G {l : PySem.W.OpenLaw} {n k : Nat} {q : Program} {loose : List Str} {XP : (Str → Option Value) → Heap → Prop} {YP : World → Heap → Prop} {d : DefRec} {K : Params → PySem.W.Frag} {sp : PySem.W.Frag → Sp} {x : Str}
    (most : l.most = some n) (fits : n ≤ sizeLine) (noDfl : d.params.defaults = []) (room : Room k callerA) (written : ∀ (w : World) (h : Heap), YP w h → (K w.params).In h)
    (F : ∀ (w : World) (mg : Str → Option Value) (fa : Addr) (h : Heap), (K w.params).In h → h.Ns mainGlobals mg → mg d.name = some (.ref fa) →
      ∃ fd : FuncData, (∀ (s : Shared) (u : Value), BindsTo s fd ⟨[u], []⟩ [(x, u)]) ∧ (∀ base : Heap, (K w.params).In base → base.Ns mainGlobals mg → FnG l.prog w (K w.params) mg base k fa fd [x] (sp (K w.params))))
    (told : ∀ (K : PySem.W.Frag) (H : Hp) (a : Addr) (ns : List Int), ns.length ≤ n → SqL K H a (ns.map V.int) → sp K [.ref a] H (fun v _ => v = .bl true) fun _ _ _ => False) :
    PySem.W.WalkO q loose XP YP l.row.toRowW d [] (fun f vs => PySem.call f vs) := by
  refine Att.attach_call most noDfl fun w s₀ s₁ mg mb fa o pm cd doc a vs ns G Y _ _ _ named obj intsA len gens => ?_
  have kin := written w _ Y
  obtain ⟨fd, bnds, run⟩ := F w mg fa _ kin G.T.g named
  exact law_callG kin G.T.g G.T.b G.T.builtins G.T.nolimit gens obj intsA (Nat.le_trans len fits) room run bnds fun H sq => told _ H a ns len sq
end DL
end
noncomputable section
namespace DL
open PySem L2
/-! ### o.f op= e, xs[i] op= e, the least of a list of int pairs -/
section
variable {K : PySem.W.Frag}
/-- o.f op= e -/
def fldaugS (C : Addr) (f : Str) (fa fv : FE) (o : O2) : FS := fun δ S => (fa δ S).bind fun p => (fsOf p.2 C p.1).bind fun gs => (gs.lookup f).bind fun x => (fv δ p.2).bind fun y => (o x y.1 y.2).bind fun z => match p.1 with
  | .loc n => match z.2[n]? with
    | some (.ins C' gs') => if C' = C ∧ gs'.length < 1000 then some (.nx, δ, z.2.set n (.ins C (putD f z.1 gs'))) else none
    | _ => none
  | _ => none
theorem ls_fldaug {C : Addr} {f : Str} {fa fv : FE} {t : R2} {o : O2} (h : OpD K t o) (c : Cls K C) (n : NoAttr K C f) : ∀ D σ H, tDS K (fldaugS C f fa fv o) D σ H → sFldAug K (tD K fa) (tD K fv) t f D σ H := by
  rintro D σ H ⟨ρ, δ, S, r, δ', S', hS, hσ, e, q⟩
  obtain ⟨⟨x, S1⟩, e1, e⟩ := bnd e
  obtain ⟨gs, e2, e⟩ := bnd e
  obtain ⟨d, e3, e⟩ := bnd e
  obtain ⟨⟨y, S2⟩, e4, e⟩ := bnd e
  obtain ⟨⟨z, S3⟩, e5, e⟩ := bnd e
  dsimp only at e
  split at e
  · split at e
    · rename_i C' gs' hg
      split at e
      · rename_i hc
        obtain ⟨rfl, hl⟩ := hc
        cases e
        refine ⟨ρ, δ, S, _, S1, hS, hσ, e1, fun v H1 ρ1 s1 hS1 rv => ?_⟩
        obtain ⟨a, dx, fs, rfl, h1, h2, h3⟩ := fsOf_sq hS1 rv e2
        obtain ⟨w, hw, rw'⟩ := look_rv h2 h3 e3
        refine ⟨a, C', dx, fs, w, rfl, h1, c, n, hw, ρ1, δ, S1, y, S2, hS1, hσ.mono s1, e4, fun u H2 ρ2 s2 hS2 ru => ?_⟩
        refine h _ _ _ _ _ _ _ _ _ _ hS2 (rw'.mono s2) ru e5 fun u3 H3 ρ3 s3 hS3 ru3 => ?_
        have rv3 := rv.mono (s2.trans s3)
        cases rv3 with
        | loc hn =>
          obtain ⟨dx', fs', k1, k2, k3⟩ := hS3.ob _ _ _ hn hg
          have hfl : fs'.length < 1000 := by
            have := congrArg List.length k2
            rw [List.length_map, List.length_map] at this
            omega
          refine ⟨dx', fs', k1, hfl, ?_⟩
          have st : Step ρ3 ρ3 H3 (upd H3 _ (.ins C' dx' (putF f u3 fs'))) := Step.write hn k1
          obtain ⟨p1, p2⟩ := put_rv (f := f) ru3 k2 k3
          have all := (s1.trans (s2.trans s3)).trans st
          exact q σ _ ρ3 all (hS3.write hn ⟨_, k1⟩ ⟨dx', _, upd_same, p1, p2.mono st⟩) (hσ.mono all)
      · cases e
    · cases e
  · cases e
theorem opD_addR : OpD K rAdd (int0 fun i j => .int (i + j)) := opD_ip (g := fun i j => i + j)
theorem opD_subR : OpD K rSub (int0 fun i j => .int (i - j)) := opD_ip (g := fun i j => i - j)
/-- xs[i] op= e -/
def ixLO : O2 := fun d e S => match e with
  | .int i => (lsOf S d).bind fun ds => (atI ds i).bind fun x => some (x, S)
  | _ => none
theorem opD_ixL : OpD K (rIxL K) ixLO := by
  intro x y H Q ρ S d e z S' hS rx ry eq q
  unfold ixLO at eq
  split at eq
  · rename_i i
    cases ry
    obtain ⟨ds, hds, eq⟩ := bnd eq
    obtain ⟨w, ew, eq⟩ := bnd eq
    cases eq
    obtain ⟨a, vs, rfl, hq, r⟩ := lsOf_sq hS rx hds
    obtain ⟨v, hv, rv⟩ := atI_rv r ew
    exact ⟨a, vs, i, v, rfl, rfl, hq, hv, q _ _ ρ (Step.refl _ _) hS rv⟩
  · cases eq
def augSubS (fo fi : FE) (g : O2) (fe : FE) (o : O2) (st : OSt) : FS := fun δ S => (fo δ S).bind fun p => (fi δ p.2).bind fun i => (g p.1 i.1 i.2).bind fun x => (fe δ x.2).bind fun y => (o x.1 y.1 y.2).bind fun z => (st p.1 i.1 z.1 z.2).bind fun S' => some (.nx, δ, S')
theorem ls_augS {fo fi fe : FE} {tg : R2} {g : O2} {ti : TIp} {o : O2} {ts : TSet} {st : OSt} (hg : OpD K tg g) (ho : OpD K ti o) (hs : StD K ts st) : ∀ D σ H, tDS K (augSubS fo fi g fe o st) D σ H → tAugS (tD K fo) (tD K fi) (tD K fe) tg ti ts D σ H := by
  rintro D σ H ⟨ρ, δ, S, r, δ', S', hS, hσ, e, q⟩
  obtain ⟨⟨x, S1⟩, e1, e⟩ := bnd e
  obtain ⟨⟨i, S2⟩, e2, e⟩ := bnd e
  obtain ⟨⟨old, S3⟩, e3, e⟩ := bnd e
  obtain ⟨⟨y, S4⟩, e4, e⟩ := bnd e
  obtain ⟨⟨z, S5⟩, e5, e⟩ := bnd e
  obtain ⟨S6, e6, e⟩ := bnd e
  cases e
  refine ⟨ρ, δ, S, x, S1, hS, hσ, e1, fun v H1 ρ1 s1 hS1 rv => ⟨ρ1, δ, S1, i, S2, hS1, hσ.mono s1, e2, fun w H2 ρ2 s2 hS2 rw' => ?_⟩⟩
  refine hg _ _ _ _ _ _ _ _ _ _ hS2 (rv.mono s2) rw' e3 fun u3 H3 ρ3 s3 hS3 r3 => ?_
  refine ⟨ρ3, δ, S3, y, S4, hS3, hσ.mono ((s1.trans s2).trans s3), e4, fun u4 H4 ρ4 s4 hS4 r4 => ?_⟩
  refine ho _ _ _ _ _ _ _ _ _ _ hS4 (r3.mono s4) r4 e5 fun u5 H5 ρ5 s5 hS5 r5 => ?_
  refine hs _ _ _ _ _ _ _ _ _ _ _ hS5 (rv.mono (((s2.trans s3).trans s4).trans s5)) (rw'.mono ((s3.trans s4).trans s5)) r5 e6 fun H6 s6 hS6 => ?_
  have all := ((((s1.trans s2).trans s3).trans s4).trans s5).trans s6
  exact q σ H6 ρ5 all hS6 (hσ.mono all)
end
section
variable {X : Cx}
theorem get_list : PGet X (rIxL X.K) := by
  intro pins s σ H x y v u Q I rx ry h
  obtain ⟨p, xs, i, z, rfl, rfl, hq, he, q⟩ := h
  cases rx
  obtain ⟨t, rfl⟩ := ry
  obtain ⟨its, r, pl, hz⟩ := I.list hq
  obtain ⟨j, h1, h2, h3, h4, h5⟩ := atI_get he
  obtain ⟨w, ew, rw'⟩ := r.get h2
  have hl := r.length
  have hn := line63
  have fin : EP X pins σ Q w s := ⟨z, H, I, rw', q⟩
  rcases Int.lt_or_le i 0 with h0 | h0
  · have hj : (i + (its.toArray.size : Int)).toNat = j := by
      rw [seqIndex_neg h0 h4] at h1
      rw [List.size_toArray, ← hl]
      exact Option.some.inj h1
    exact PySem.wpAny_getItem_list_neg pl.isList h0 (by rw [List.size_toArray] <;> omega) (by omega) (by rw [hj]; simpa using ew) fin
  · have hj : i.toNat = j := by
      rw [seqIndex_of h0 h5] at h1
      exact Option.some.inj h1
    exact PySem.wpAny_getItem_list pl.isList h0 (by omega) (by rw [hj]; simpa using ew) fin
end
/-! min of pairs -/
def prT (p : Int × Int) : D := .tup [.int p.1, .int p.2]
def prOf : D → Option (Int × Int)
  | .tup [.int a, .int b] => some (a, b)
  | _ => none
def prsOf : List D → Option (List (Int × Int))
  | [] => some []
  | d :: r => (prOf d).bind fun p => (prsOf r).bind fun q => some (p :: q)
theorem prOf_eq {d : D} {p : Int × Int} (h : prOf d = some p) : d = prT p := by
  unfold prOf at h
  split at h
  · cases h; rfl
  · cases h
theorem prsOf_eq : ∀ {ds : List D} {ps : List (Int × Int)}, prsOf ds = some ps → ds = ps.map prT
  | [], _, h => by cases h; rfl
  | d :: r, _, h => by
    obtain ⟨p, e1, h⟩ := bnd (o := prOf d) h
    obtain ⟨q, e2, h⟩ := bnd h
    cases h
    rw [prOf_eq e1, prsOf_eq e2]
    rfl
theorem prsOf_map : ∀ ps : List (Int × Int), prsOf (ps.map prT) = some ps
  | [] => rfl
  | p :: ps => by
    show (prOf (prT p)).bind _ = _
    rw [show prOf (prT p) = some p from rfl, Option.bind_some]
    show (prsOf (ps.map prT)).bind _ = _
    rw [prsOf_map ps]
    rfl
def rMinP (K : PySem.W.Frag) : List V → Hp → VK → Prop := fun vs H Q => ∃ (a : Addr) (xs : List V) (p : Int × Int) (ps : List (Int × Int)), vs = [V.ref a] ∧ SqL K H a xs ∧ DpAll K H xs ((p :: ps).map PySem.W.Datum.toD) ∧
  ∀ (i : Nat) (v : V), xs[i]? = some v → (p :: ps)[i]? = some (PySem.W.minOf p ps) → Q v H
theorem toD_inj {p q : Int × Int} (h : PySem.W.Datum.toD p = PySem.W.Datum.toD q) : p = q := by
  have h' : PyData.tuple [.int p.1, .int p.2] = PyData.tuple [.int q.1, .int q.2] := h
  injection h' with h1
  injection h1 with h2 h3
  injection h3 with h4 _
  injection h2 with h2
  injection h4 with h4
  exact Prod.ext h2 h4
theorem cr_minP {X : Cx} (hu : X.A.units + 8 < cLine) (hc : X.calm = true) : CallR X (.builtin "min") (rMinP X.K) := by
  intro pins s σ H vs us Q I r h
  obtain ⟨a, xs, p, ps, rfl, hs, hd, q⟩ := h
  obtain ⟨its, rv, hl, _⟩ := I.list hs
  rw [Vals.ref1 r]
  obtain ⟨as, ra⟩ := Dp.readsAll I _ _ _ hd rv
  have HA : PySem.W.HoldAll s.heap its.toArray.toList (p :: ps) := ⟨as, ra⟩
  refine PySem.W.min_list_datum (I.ok.hd hc) hl.isList HA (show X.A.units + 1 + 1 < cLine by omega) fun i v h' tk hi hv hk => ?_
  obtain ⟨y, hy, bs, ry⟩ := HA.at (i := i) (v := v) (by simpa using hi)
  obtain ⟨cs, rc⟩ := hv
  obtain ⟨e, _⟩ := PyProof.Rows.reads_det (fun b o e _ => hk b o e) ry rc
  have ey : PySem.W.minOf p ps = y := toD_inj e
  have hv : its[i]? = some v := by simpa using hi
  have hlt : i < xs.length := by rw [rv.length]; exact (List.getElem?_eq_some_iff.mp hv).1
  obtain ⟨u', hu', rx⟩ := rv.get (List.getElem?_eq_getElem hlt)
  obtain rfl : v = u' := Option.some.inj (hv.symm.trans hu')
  have hx : xs[i]? = some xs[i] := List.getElem?_eq_getElem hlt
  exact ⟨_, H, I.kept hk, rx, q i _ hx (by rw [hy, ey])⟩
def minPO : OC := fun ds S => match ds with
  | [d] => (lsOf S d).bind fun xs => (prsOf xs).bind fun ps => match ps with
    | p :: r => some (prT (PySem.W.minOf p r), S)
    | [] => none
  | _ => none
section
variable {K : PySem.W.Frag}
theorem prs_dp {H : Hp} {ρ : Ro} : ∀ {ps : List (Int × Int)} {vs : List V}, RVs K H ρ vs (ps.map prT) → DpAll K H vs (ps.map PySem.W.Datum.toD)
  | [], _, r => by cases r; exact .nil
  | p :: ps, _, r => by
    cases r with | cons r1 r2 => ?_
    obtain ⟨a, ws, rfl, hq, rw'⟩ := tpOf_sq r1 (rfl : tpOf (prT p) = some [.int p.1, .int p.2])
    cases rw' with | cons w1 rw' => ?_
    cases rw' with | cons w2 rw' => ?_
    cases rw'
    cases w1; cases w2
    exact .cons (.tup hq (.cons (.int _) (.cons (.int _) .nil))) (prs_dp r2)
theorem cbD_minP : CbD K (rMinP K) minPO := by
  intro xs H Q ρ S ds z S' hS rs eq q
  unfold minPO at eq
  split at eq
  · cases rs with | cons rx rn => ?_
    cases rn
    obtain ⟨ys, e1, eq⟩ := bnd eq
    obtain ⟨ps, e2, eq⟩ := bnd eq
    cases ps with
    | nil => cases eq
    | cons p r =>
      cases eq
      obtain rfl := prsOf_eq e2
      obtain ⟨a, vs, rfl, hq, rv⟩ := lsOf_sq hS rx e1
      refine ⟨a, vs, p, r, rfl, hq, prs_dp rv, fun i v hv hp => ?_⟩
      obtain ⟨w, hw, rw'⟩ := rv.getV hv
      rw [List.getElem?_map, hp] at hw
      cases hw
      exact q _ H ρ (Step.refl _ _) hS rw'
  · cases eq
theorem x_minP {S : Sg} {Q : D → Sg → Prop} {p : Int × Int} {r : List (Int × Int)} (q : Q (prT (PySem.W.minOf p r)) S) : W (minPO [.lst ((p :: r).map prT)] S) Q := by
  refine ⟨_, _, ?_, q⟩
  unfold minPO
  dsimp only
  rw [lsv_lst, Option.bind_some, prsOf_map]
  rfl
theorem minOf_spec : ∀ (r : List (Int × Int)) (p : Int × Int), PySem.W.minOf p r ∈ p :: r ∧ ∀ q ∈ p :: r, (PySem.W.minOf p r).1 < q.1 ∨ ((PySem.W.minOf p r).1 = q.1 ∧ (PySem.W.minOf p r).2 ≤ q.2)
  | [], p => ⟨by show p ∈ [p]; simp, fun q hq => by
      obtain rfl := List.mem_singleton.mp hq
      exact .inr ⟨rfl, Int.le_refl _⟩⟩
  | y :: r, p => by
    have step : PySem.W.minOf p (y :: r) = PySem.W.minOf (if PySem.W.DatumOrd.lt y p = true then y else p) r := rfl
    have hlt : PySem.W.DatumOrd.lt y p = if y.1 = p.1 then decide (y.2 < p.2) else decide (y.1 < p.1) := rfl
    rw [step]
    by_cases h : PySem.W.DatumOrd.lt y p = true
    · rw [if_pos h]
      obtain ⟨i1, i2⟩ := minOf_spec r y
      have hy := i2 y (List.mem_cons_self ..)
      refine ⟨List.mem_cons_of_mem _ i1, fun q hq => ?_⟩
      rcases List.mem_cons.mp hq with rfl | hq
      · rw [hlt] at h
        split at h
        · have := of_decide_eq_true h; omega
        · have := of_decide_eq_true h; omega
      · exact i2 q hq
    · rw [if_neg h]
      obtain ⟨i1, i2⟩ := minOf_spec r p
      have hp := i2 p (List.mem_cons_self ..)
      refine ⟨?_, fun q hq => ?_⟩
      · rcases List.mem_cons.mp i1 with e | e
        · rw [e]; exact List.mem_cons_self ..
        · exact List.mem_cons_of_mem _ (List.mem_cons_of_mem _ e)
      · rcases List.mem_cons.mp hq with rfl | hq
        · exact hp
        · rcases List.mem_cons.mp hq with rfl | hq
          · rw [hlt] at h
            split at h
            · have h' : ¬ q.2 < p.2 := fun k => h (decide_eq_true k)
              omega
            · have h' : ¬ q.1 < p.1 := fun k => h (decide_eq_true k)
              omega
          · exact i2 q (List.mem_cons_of_mem _ hq)
end
/-! derivations -/
section
variable {X : Cx} {a b e value : Expr} {f g h : FE} {pos tpos : Pos}
theorem jsfldaug {C : Addr} {fl : Str} {op : Operator} {rd : R2} {o : O2} (cl : Cls X.K C) (n : NoAttr X.K C fl) (ha : JE X a f) (hv : JE X value g) (hop : InOp X op rd) (hd : OpD X.K rd o) : JS X (.AugAssign (.Attribute a fl tpos) op value pos) (fldaugS C fl f g o) := PS.imp (ps_fldaug ha hv hop) (ls_fldaug hd cl n)
theorem jsaugs {op : Operator} {ti : TIp} {o : O2} (ha : JE X a f) (hb : JE X b g) (he : JE X e h) (ho : PIp X op ti) (hd : OpD X.K ti o) (hst : ∀ ov iv new, augStore b ov iv new = (do holding [new, ov, iv] (setItem ov iv new); release [new, ov, iv] []; pure .next) := by intros; rfl) :
    JS X (.AugAssign (.Subscript a b tpos) op e pos) (augSubS f g ixLO h o setLO) := PS.imp (ps_augS ha hb get_list he ho set_list hst) (ls_augS opD_ixL hd stD_L)
end
/-! walking -/
section
variable {δ : Dl} {S : Sg} {Q : Fl → Dl → Sg → Prop}
theorem w_fldaugS {C : Addr} {f : Str} {fa fv : FE} {o : O2} (h : W (fa δ S) fun d S1 => ∃ gs x, fsOf S1 C d = some gs ∧ gs.lookup f = some x ∧ W (fv δ S1) fun y S2 => W (o x y S2) fun z S3 => ∃ n gs', d = .loc n ∧ S3[n]? = some (.ins C gs') ∧ gs'.length < 1000 ∧ Q .nx δ (S3.set n (.ins C (putD f z gs')))) : WS (fldaugS C f fa fv o δ S) Q := by
  obtain ⟨d, S1, e1, gs, x, e2, e3, y, S2, e4, z, S3, e5, n, gs', rfl, e6, l, q⟩ := h
  refine ⟨_, _, _, ?_, q⟩
  unfold fldaugS
  rw [e1, Option.bind_some, e2, Option.bind_some, e3, Option.bind_some, e4, Option.bind_some, e5, Option.bind_some]
  dsimp only
  rw [e6]
  dsimp only
  rw [if_pos ⟨rfl, l⟩]
theorem w_augSubS {fo fi fe : FE} {g o : O2} {st : OSt} (h : W (fo δ S) fun d S1 => W (fi δ S1) fun i S2 => W (g d i S2) fun x S3 => W (fe δ S3) fun y S4 => W (o x y S4) fun z S5 => ∃ S6, st d i z S5 = some S6 ∧ Q .nx δ S6) : WS (augSubS fo fi g fe o st δ S) Q := by
  obtain ⟨d, S1, e1, i, S2, e2, x, S3, e3, y, S4, e4, z, S5, e5, S6, e6, q⟩ := h
  refine ⟨_, _, _, ?_, q⟩
  unfold augSubS
  rw [e1, Option.bind_some, e2, Option.bind_some, e3, Option.bind_some, e4, Option.bind_some, e5, Option.bind_some, e6]
  rfl
end
section
variable {A : Sg} {L : List Ob} {N k : Nat} {Q : D → Sg → Prop}
theorem wl_ixL (hl : A.length = N) {xs : List D} {i : Int} {y : D} (h : L[k]? = some (.lst xs)) (h2 : atI xs i = some y) (q : Q y (A ++ L)) : W (ixLO (.loc (N + k)) (.int i) (A ++ L)) Q := by
  refine ⟨_, _, ?_, q⟩
  unfold ixLO
  dsimp only
  have e : lsOf (A ++ L) (.loc (N + k)) = some xs := by
    unfold lsOf
    dsimp only
    rw [al_get hl, h]
  rw [e, Option.bind_some, h2]
  rfl
end
end DL
end
noncomputable section
namespace DL
open PySem L2
/-! ### the least of a list of int tuples -/
def tpI (r : List Int) : PySem.W.Tup Int := ⟨r⟩
def minR (r : List Int) (rs : List (List Int)) : List Int := (PySem.W.minOf (tpI r) (rs.map tpI)).items
def rMinR (K : PySem.W.Frag) : List V → Hp → VK → Prop := fun vs H Q => ∃ (a : Addr) (xs : List V) (p : List Int) (ps : List (List Int)), vs = [V.ref a] ∧ SqL K H a xs ∧ DpAll K H xs ((p :: ps).map fun r => PySem.W.Datum.toD (tpI r)) ∧
  ∀ (i : Nat) (v : V), xs[i]? = some v → (p :: ps)[i]? = some (minR p ps) → Q v H
theorem toD_ints : ∀ {p q : List Int}, p.map PySem.W.Datum.toD = q.map PySem.W.Datum.toD → p = q
  | [], [], _ => rfl
  | [], _ :: _, h => by cases h
  | _ :: _, [], h => by cases h
  | a :: p, b :: q, h => by
    rw [List.map_cons, List.map_cons] at h
    injection h with h1 h2
    have h1 : PyData.int a = PyData.int b := h1
    injection h1 with h1
    rw [h1, toD_ints h2]
theorem toD_tpI {p q : PySem.W.Tup Int} (h : PySem.W.Datum.toD p = PySem.W.Datum.toD q) : p = q := by
  have h' : PyData.tuple (p.items.map PySem.W.Datum.toD) = PyData.tuple (q.items.map PySem.W.Datum.toD) := h
  injection h' with h1
  have := toD_ints h1
  cases p
  cases q
  exact congrArg _ this
theorem cr_minR {X : Cx} (hu : X.A.units + 8 < cLine) (hc : X.calm = true) : CallR X (.builtin "min") (rMinR X.K) := by
  intro pins s σ H vs us Q I r h
  obtain ⟨a, xs, p, ps, rfl, hs, hd, q⟩ := h
  obtain ⟨its, rv, hl, _⟩ := I.list hs
  rw [Vals.ref1 r]
  have hd : DpAll X.K H xs ((tpI p :: ps.map tpI).map PySem.W.Datum.toD) := by
    rw [List.map_cons, List.map_map]
    exact hd
  obtain ⟨as, ra⟩ := Dp.readsAll I _ _ _ hd rv
  have HA : PySem.W.HoldAll s.heap its.toArray.toList (tpI p :: ps.map tpI) := ⟨as, ra⟩
  refine PySem.W.min_list_datum (I.ok.hd hc) hl.isList HA (show X.A.units + (1 + 0) + 1 < cLine by omega) fun i v h' tk hi hv hk => ?_
  obtain ⟨y, hy, bs, ry⟩ := HA.at (i := i) (v := v) (by simpa using hi)
  obtain ⟨cs, rc⟩ := hv
  obtain ⟨e, _⟩ := PyProof.Rows.reads_det (fun b o e _ => hk b o e) ry rc
  have ey : PySem.W.minOf (tpI p) (ps.map tpI) = y := toD_tpI e
  have hv : its[i]? = some v := by simpa using hi
  have hlt : i < xs.length := by rw [rv.length]; exact (List.getElem?_eq_some_iff.mp hv).1
  obtain ⟨u', hu', rx⟩ := rv.get (List.getElem?_eq_getElem hlt)
  obtain rfl : v = u' := Option.some.inj (hv.symm.trans hu')
  have hx : xs[i]? = some xs[i] := List.getElem?_eq_getElem hlt
  refine ⟨_, H, I.kept hk, rx, q i _ hx ?_⟩
  have hy : ((p :: ps).map tpI)[i]? = some y := hy
  rw [List.getElem?_map] at hy
  obtain ⟨z, hz, hzy⟩ := Option.map_eq_some_iff.mp hy
  rw [hz]
  unfold minR
  rw [ey, ← hzy]
  rfl
def minRO : OC := fun ds S => match ds with
  | [d] => (lsOf S d).bind fun xs => (rowsOf xs).bind fun ps => match ps with
    | p :: r => some (rowT (minR p r), S)
    | [] => none
  | _ => none
section
variable {K : PySem.W.Frag}
theorem ints_dp {H : Hp} : ∀ {ns : List Int}, DpAll K H (ns.map V.int) (ns.map PySem.W.Datum.toD)
  | [] => .nil
  | _ :: _ => .cons (.int _) ints_dp
theorem rows_dp {H : Hp} {ρ : Ro} : ∀ {ps : List (List Int)} {vs : List V}, RVs K H ρ vs (ps.map rowT) → DpAll K H vs (ps.map fun r => PySem.W.Datum.toD (tpI r))
  | [], _, r => by cases r; exact .nil
  | p :: ps, _, r => by
    cases r with | cons r1 r2 => ?_
    obtain ⟨a, ws, rfl, hq, rw'⟩ := tpOf_sq r1 (rfl : tpOf (rowT p) = some (p.map .int))
    rw [rvs_ints rw'] at hq
    exact .cons (.tup hq ints_dp) (rows_dp r2)
theorem rowsOf_eq : ∀ {ds : List D} {ps : List (List Int)}, rowsOf ds = some ps → ds = ps.map rowT
  | [], _, h => by cases h; rfl
  | d :: r, _, h => by
    obtain ⟨p, e1, h⟩ := bnd (o := rowOf d) h
    obtain ⟨q, e2, h⟩ := bnd h
    cases h
    rw [(rowOf_eq e1).1, rowsOf_eq e2]
    rfl
theorem cbD_minR : CbD K (rMinR K) minRO := by
  intro xs H Q ρ S ds z S' hS rs eq q
  unfold minRO at eq
  split at eq
  · cases rs with | cons rx rn => ?_
    cases rn
    obtain ⟨ys, e1, eq⟩ := bnd eq
    obtain ⟨ps, e2, eq⟩ := bnd eq
    cases ps with
    | nil => cases eq
    | cons p r =>
      cases eq
      obtain rfl := rowsOf_eq e2
      obtain ⟨a, vs, rfl, hq, rv⟩ := lsOf_sq hS rx e1
      refine ⟨a, vs, p, r, rfl, hq, rows_dp rv, fun i v hv hp => ?_⟩
      obtain ⟨w, hw, rw'⟩ := rv.getV hv
      rw [List.getElem?_map, hp] at hw
      cases hw
      exact q _ H ρ (Step.refl _ _) hS rw'
  · cases eq
theorem x_minR {S : Sg} {Q : D → Sg → Prop} {p : List Int} {r : List (List Int)} (h : ∀ x ∈ p :: r, x ≠ []) (q : Q (rowT (minR p r)) S) : W (minRO [.lst ((p :: r).map rowT)] S) Q := by
  refine ⟨_, _, ?_, q⟩
  unfold minRO
  dsimp only
  rw [lsv_lst, Option.bind_some, rowsOf_map _ h]
  rfl
theorem minR_nil (p : List Int) : minR p [] = p := rfl
theorem minR_cons (p y : List Int) (r : List (List Int)) : minR p (y :: r) = minR (if PySem.W.listLt y p = true then y else p) r := by
  unfold minR
  show (PySem.W.minOf (if PySem.W.DatumOrd.lt (tpI y) (tpI p) = true then tpI y else tpI p) (r.map tpI)).items = _
  have : PySem.W.DatumOrd.lt (tpI y) (tpI p) = PySem.W.listLt y p := rfl
  rw [this]
  split <;> rfl
theorem listLt3 (a b c d e f : Int) : PySem.W.listLt [a, b, c] [d, e, f] = decide (a < d ∨ (a = d ∧ (b < e ∨ (b = e ∧ c < f)))) := by
  unfold PySem.W.listLt
  by_cases h1 : a = d
  · rw [if_pos h1]
    unfold PySem.W.listLt
    by_cases h2 : b = e
    · rw [if_pos h2]
      unfold PySem.W.listLt
      by_cases h3 : c = f
      · rw [if_pos h3]
        show false = _
        exact (decide_eq_false (by omega)).symm
      · rw [if_neg h3]
        show decide (c < f) = _
        exact decide_eq_decide.mpr (by omega)
    · rw [if_neg h2]
      show decide (b < e) = _
      exact decide_eq_decide.mpr (by omega)
  · rw [if_neg h1]
    show decide (a < d) = _
    exact decide_eq_decide.mpr (by omega)
end
end DL
end
noncomputable section
namespace DL
open PySem L2
/-! ### sorted: tuples of two numbers and a pair of numbers -/
abbrev Nst := Int × Int × Int × Int
def encN (r : Nst) : PyData := .tuple [.int r.1, .int r.2.1, .tuple [.int r.2.2.1, .int r.2.2.2]]
def nstT (r : Nst) : D := .tup [.int r.1, .int r.2.1, .tup [.int r.2.2.1, .int r.2.2.2]]
def leN (p q : Nst) : Bool := PySem.W.dataLe false encN p q
theorem encN_alike (p q : Nst) : PySem.W.alike (encN p) (encN q) = true := by
  unfold encN
  simp only [PySem.W.alike, PySem.W.alikeAll, Bool.and_self]
theorem dataLt_i (a b : Int) : PySem.W.dataLt (.int a) (.int b) = decide (a < b) := PySem.W.dataLt_int a b
theorem alike_i (a b : Int) : PySem.W.alike (.int a) (.int b) = true := by simp only [PySem.W.alike]
theorem eqv_i (a b : Int) : PyData.eqv (.int a) (.int b) = decide (a = b) := PySem.W.Datum.eqv a b
/-- the first two numbers decide where they differ -/
theorem leN_ne {p q : Nst} (h : ¬ (p.1 = q.1 ∧ p.2.1 = q.2.1)) : leN p q = decide (p.1 < q.1 ∨ (p.1 = q.1 ∧ p.2.1 ≤ q.2.1)) := by
  show (!PySem.W.dataLt (encN q) (encN p)) = _
  unfold encN
  rw [PySem.W.dataLt_tuple, PySem.W.dataLt_cons (alike_i _ _), eqv_i]
  by_cases h1 : q.1 = p.1
  · rw [if_pos (decide_eq_true h1), PySem.W.dataLt_cons (alike_i _ _), eqv_i]
    have h2 : ¬ q.2.1 = p.2.1 := fun z => h ⟨h1.symm, z.symm⟩
    rw [if_neg (by rw [decide_eq_false h2]; exact Bool.false_ne_true), dataLt_i, Bool.eq_iff_iff, Bool.not_eq_true', decide_eq_false_iff_not, decide_eq_true_iff]
    omega
  · rw [if_neg (by rw [decide_eq_false h1]; exact Bool.false_ne_true), dataLt_i, Bool.eq_iff_iff, Bool.not_eq_true', decide_eq_false_iff_not, decide_eq_true_iff]
    omega
section
variable {X : Cx}
def IsNst (K : PySem.W.Frag) (H : Hp) (v : V) (r : Nst) : Prop := Dp K H v (encN r)
def rSortedN (K : PySem.W.Frag) : List V → Hp → VK → Prop := fun vs H Q => ∃ (a : Addr) (bs : List (V × Nst)), vs = [V.ref a] ∧ SqL K H a (bs.map (·.1)) ∧ DpAll K H (bs.map (·.1)) (bs.map fun b => encN b.2) ∧
  ∀ p, H p = none → Q (.ref p) (upd H p (.lst ((bs.mergeSort fun p q => leN p.2 q.2).map (·.1))))
theorem each_nst : ∀ {bs : List (V × Nst)} {us : List Value}, Vals (bs.map (·.1)) us → PySem.W.EachIs (fun u (b : V × Nst) => RelV b.1 u) us bs
  | [], _, h => by cases h; exact .nil
  | b :: bs, _, h => by
    rw [List.map_cons] at h
    cases h with
    | cons h1 h2 => exact .cons h1 (each_nst h2)
theorem vals_nst : ∀ {us : List Value} {bs : List (V × Nst)}, PySem.W.EachIs (fun u (b : V × Nst) => RelV b.1 u) us bs → Vals (bs.map (·.1)) us
  | _, _, .nil => .nil
  | _, _, .cons h t => .cons h (vals_nst t)
theorem cr_sortedN (hu : X.A.units + 8 < cLine) : CallR X (.builtin "sorted") (rSortedN X.K) := by
  intro pins s σ H vs us Q I r h
  obtain ⟨a, bs, rfl, hs, hd, q⟩ := h
  obtain ⟨its, rv, hl, hz⟩ := I.list hs
  rw [Vals.ref1 r]
  obtain ⟨as, ra⟩ := Dp.readsAll I _ _ _ hd rv
  have er : PySem.W.EachIs (fun v (b : V × Nst) => ∃ as, PySem.Reads s.heap v (encN b.2) as) its bs := PySem.W.readsAll_each (fun b : V × Nst => encN b.2) ra
  refine PySem.W.sorted_data (enc := fun b : V × Nst => encN b.2) hl.isList (each_nst rv) er (PySem.W.AllAlike.of fun b b' => encN_alike _ _) (.inl fun d hd => ?_) (by rw [List.length_map] at hz; exact hz) (fun b _ => ?_) fun out ho eo => ?_
  · obtain ⟨b, _, rfl⟩ := List.mem_map.mp hd
    exact ⟨_, _, rfl⟩
  · show X.A.units + 2 + (encN b.2).depth < cLine
    have : (encN b.2).depth ≤ 3 := by
      simp only [encN, PyData.depth, PyData.depthAll]
      omega
    omega
  · have hv := vals_nst eo
    obtain ⟨ep, he'⟩ := PyProof.Rows.sortedAll_at s.heap its (List.toArray out)
    have hlen : ((bs.mergeSort fun p q => leN p.2 q.2).map (·.1)).length ≤ sizeLine := by
      rw [List.length_map, List.length_mergeSort]
      rw [List.length_map] at hz
      exact hz
    exact ⟨.ref _, upd H (s.heap.objs.size + 1) (.lst ((bs.mergeSort fun p q => leN p.2 q.2).map (·.1))), I.laid (t' := s.toks) (fun _ _ => PyProof.Rows.sortedAll_old) (Nat.le_succ _) ⟨hlen, out, ep, hv, he'⟩, rfl, q _ (I.hok.fresh (Nat.le_succ _))⟩
end
section
variable {K : PySem.W.Frag}
def nstOf : D → Option Nst
  | .tup [.int a, .int b, .tup [.int c, .int d]] => some (a, b, c, d)
  | _ => none
def nstsOf : List D → Option (List Nst)
  | [] => some []
  | d :: r => (nstOf d).bind fun x => (nstsOf r).bind fun y => some (x :: y)
theorem nstOf_eq {d : D} {p : Nst} (h : nstOf d = some p) : d = nstT p := by
  unfold nstOf at h
  split at h
  · cases h; rfl
  · cases h
def sortNO : OC := fun ds S => match ds with
  | [d] => (lsOf S d).bind fun xs => (nstsOf xs).bind fun rows => some (.lst ((rows.mergeSort leN).map nstT), S)
  | _ => none
theorem nst_pair {H : Hp} {ρ : Ro} : ∀ {ds : List D} {vs : List V} {rows : List Nst}, RVs K H ρ vs ds → nstsOf ds = some rows → ∃ bs : List (V × Nst), vs = bs.map (·.1) ∧ rows = bs.map (·.2) ∧ DpAll K H (bs.map (·.1)) (bs.map fun b => encN b.2) ∧ ∀ b ∈ bs, RV K H ρ b.1 (nstT b.2)
  | _, _, _, .nil, h => by
    cases h
    exact ⟨[], rfl, rfl, .nil, fun b hb => by cases hb⟩
  | d :: ds, v :: vs, _, .cons r rs, h => by
    obtain ⟨ns, e1, h⟩ := bnd (o := nstOf d) h
    obtain ⟨rest, e2, h⟩ := bnd h
    cases h
    obtain ⟨bs, rfl, rfl, hd, hb⟩ := nst_pair rs e2
    obtain rfl := nstOf_eq e1
    refine ⟨(v, ns) :: bs, rfl, rfl, .cons (r.dp ?_) hd, fun b hbm => ?_⟩
    · unfold nstT pyD pyL pyD pyL pyD pyL pyD pyL pyD pyL pyD pyL
      rfl
    · rcases List.mem_cons.mp hbm with rfl | hbm
      · exact r
      · exact hb b hbm
theorem rvs_nst {H : Hp} {ρ : Ro} : ∀ {bs : List (V × Nst)}, (∀ b ∈ bs, RV K H ρ b.1 (nstT b.2)) → RVs K H ρ (bs.map (·.1)) (bs.map fun b => nstT b.2)
  | [], _ => .nil
  | b :: bs, h => .cons (h b (by simp)) (rvs_nst fun x hx => h x (by simp [hx]))
theorem ms_nst {bs : List (V × Nst)} : (bs.mergeSort fun p q => leN p.2 q.2).map (·.2) = (bs.map (·.2)).mergeSort leN :=
  List.map_mergeSort (r := fun p q : V × Nst => leN p.2 q.2) (s := leN) (f := (·.2)) (fun _ _ _ _ => rfl)
theorem cbD_sortN : CbD K (rSortedN K) sortNO := by
  intro xs H Q ρ S ds z S' hS rs eq q
  unfold sortNO at eq
  split at eq
  · cases rs with | cons rx rn => ?_
    cases rn
    obtain ⟨ys, e1, eq⟩ := bnd eq
    obtain ⟨rows, e2, eq⟩ := bnd eq
    cases eq
    obtain ⟨a, vs, rfl, hq, r⟩ := lsOf_sq hS rx e1
    obtain ⟨bs, rfl, rfl, hd, hb⟩ := nst_pair r e2
    refine ⟨a, bs, rfl, hq, hd, fun p hp => ?_⟩
    have rr : RVs K H ρ ((bs.mergeSort fun p q => leN p.2 q.2).map (·.1)) (((bs.map (·.2)).mergeSort leN).map nstT) := by
      rw [← ms_nst, List.map_map]
      exact rvs_nst fun b hbm => hb b (List.mem_mergeSort.mp hbm)
    exact q _ _ ρ (Step.new hS hp) (hS.new hp) (rv_lst hS hp rr)
  · cases eq
theorem nstsOf_map : ∀ (rows : List Nst), nstsOf (rows.map nstT) = some rows
  | [] => rfl
  | r :: rows => by
    rw [List.map_cons]
    unfold nstsOf
    rw [show nstOf (nstT r) = some r from rfl, Option.bind_some, nstsOf_map rows]
    rfl
theorem x_sortN {S : Sg} {Q : D → Sg → Prop} {rows : List Nst} (q : Q (.lst ((rows.mergeSort leN).map nstT)) S) : W (sortNO [.lst (rows.map nstT)] S) Q := by
  refine ⟨_, _, ?_, q⟩
  unfold sortNO
  dsimp only
  rw [lsv_lst, Option.bind_some, nstsOf_map]
  rfl
end
end DL
end
namespace HP
open PySem L2 DL
def top (i : Nat) : Stmt := PySem.Challenge.pw_hotpass_k44_shares_put_otherwise.main.body.getD i (.Pass ⟨0, 0, 0, 0⟩)
structure Cs where
  SharedFire : Addr
  own : Unit := ()
structure Txt (mg : Str → Option Value) : Prop where
  ok : True
  z_abs : mg "abs" = none
  z_all : mg "all" = none
  z_bool : mg "bool" = none
  z_enumerate : mg "enumerate" = none
  z_int : mg "int" = none
  z_isinstance : mg "isinstance" = none
  z_len : mg "len" = none
  z_list : mg "list" = none
  z_max : mg "max" = none
  z_min : mg "min" = none
  z_range : mg "range" = none
  z_sorted : mg "sorted" = none
  z_str : mg "str" = none
  z_tuple : mg "tuple" = none
  z_zip : mg "zip" = none

structure ClSharedFire (K : PySem.W.Frag) (C : Addr) : Prop where
  cl : Cls K C
  a_shares : NoAttr K C "shares"
  a_mouth : NoAttr K C "mouth"
  a_at : NoAttr K C "at"
  a_numbers : NoAttr K C "numbers"
  a_asks : NoAttr K C "asks"
  a_wait : NoAttr K C "wait"
  a_burning : NoAttr K C "burning"
structure Cz (K : PySem.W.Frag) (c : Cs) : Prop where
  ok : True
  SharedFire : ClSharedFire K c.SharedFire

/-! ### _law_folded -/
abbrev s_Lfolded : Stmt := top 13
theorem sc_Lfolded : FnScope ["_law_script", "_law_many", "_law_cells", "_law_k", "_law_cell"] ["_law_script", "_law_many"] (defScope s_Lfolded) := ⟨rfl, rfl, rfl, by decide +kernel, rfl, by decide +kernel, by decide +kernel⟩
noncomputable def B_Lfolded (c : Cs) : FS := (seqS (setS 2 (cbD listN (consA (slD slO (varD 0) noO (someO (varD 1))) nilA)))
    (seqS (forS enK (consA (slD slO (varD 0) (someO (varD 1)) (someO (cD (.int 63)))) nilA) (tupG 2 (consG (nmG 3) (consG (nmG 4) nilG)))
    (asgS (op2D addO (op2D ixO (varD 2) (op2D modO (varD 3) (varD 1))) (op2D mulO (varD 4) (op2D addO (varD 3) (cD (.int 2))))) (subG setLO (varD 2) (op2D modO (varD 3) (varD 1)))))
    (retS (varD 2))))
noncomputable def F_Lfolded (c : Cs) : Fn := bodyF fin 5 (B_Lfolded c)
section
variable {P : Program} {w : World} {K : PySem.W.Frag} {mg : Str → Option Value} {base : Heap} {c : Cs}
theorem ok_Lfolded {f : Addr} {fd : FuncData} (F : Fun K "_law_folded" "_law_folded" s_Lfolded f fd) (T : Txt mg) (Z : Cz K c) : FnOk P w K mg base CX0 1 f fd ["_law_script", "_law_many"] (spD K 2 (F_Lfolded c)) :=
  fn_ok fin_ok F sc_Lfolded fun cdv A outer s H E hr =>
    (show JSs _ _ (B_Lfolded c) from (jsscons (jsset (i := 2) sc_Lfolded.nd rfl (Or.inl rfl) (jct call_list_of cbD_listN T.z_list (by decide +kernel) (jacons (jsl sl_any slD_any (jv (pv 0)) jonone (josome (jv (pv 1)))) janil)))
    (jsscons (jsfor PassesOwn.never rfl (pi_enum (by rfl) T.z_enumerate (jacons (jsl sl_any slD_any (jv (pv 0)) (josome (jv (pv 1))) (josome ji)) janil)) li_en (pg_tup rfl (pgs_cons (pg_name (i := 3) sc_Lfolded.nd rfl (Or.inl rfl)) (pgs_cons (pg_name (i := 4) sc_Lfolded.nd rfl (Or.inl rfl)) pgs_nil))) (lg_tup (lg_cons lg_nm (lg_cons lg_nm lg_nil)))
    (jssone (jsasg (jadd (jix (jv (pv 2)) (jmod (jv (pv 3)) (jv (pv 1)))) (jmul (jv (pv 4)) (jadd (jv (pv 3)) ji))) (pg_sub (jv (pv 2)) (jmod (jv (pv 3)) (jv (pv 1))) set_list) (lg_sub stD_L))))
    (jssone (jsret (jv (pv 2)))))))
end

/-! ### _law_tape -/
abbrev s_Ltape : Stmt := top 11
theorem sc_Ltape : FnScope ["_law_script", "_law_k", "_law_cell"] ["_law_script", "_law_k"] (defScope s_Ltape) := ⟨rfl, rfl, rfl, by decide +kernel, rfl, by decide +kernel, by decide +kernel⟩
noncomputable def B_Ltape (c : Cs) : FS := (seqS (setS 2 (iteV (tvD (op2D (cmpO fun i j => decide (i < j)) (varD 1) (cbD lenO (consA (varD 0) nilA)))) (op2D ixO (varD 0) (varD 1)) (cD (.int 0))))
    (retS (newD (consA (op2D mulO (cbD absO (consA (varD 2) nilA)) (cbD int1O (consA (op2D (cmpO fun i j => decide (j ≤ i)) (cbD absO (consA (varD 2) nilA)) (op2D powO (cD (.int 10)) (cD (.int 18)))) nilA))) (consA (op2D addO (op2D addO (op2D modO (varD 2) (cD (.int 2305843009213693951))) (op2D mulO (cD (.int 39373)) (varD 1))) (cD (.int 17))) (consA (cD (.int 0)) nilA))))))
noncomputable def F_Ltape (c : Cs) : Fn := bodyF finK 3 (B_Ltape c)
section
variable {P : Program} {w : World} {K : PySem.W.Frag} {mg : Str → Option Value} {base : Heap} {c : Cs}
theorem ok_Ltape {f : Addr} {fd : FuncData} (F : Fun K "_law_tape" "_law_tape" s_Ltape f fd) (T : Txt mg) (Z : Cz K c) : FnOk P w K mg base CX0 1 f fd ["_law_script", "_law_k"] (spD K 2 (F_Ltape c)) :=
  fn_ok finK_ok F sc_Ltape fun cdv A outer s H E hr =>
    (show JSs _ _ (B_Ltape c) from (jsscons (jsset (i := 2) sc_Ltape.nd rfl (Or.inl rfl) (jif (jtcmp (jlt (jv (pv 1)) (jcb call_len cbD_len T.z_len (by decide +kernel) (jacons (jv (pv 0)) janil)))) (jix (jv (pv 0)) (jv (pv 1))) ji))
    (jssone (jsret (jnew (jacons (jmul (jcb call_abs cbD_abs T.z_abs (by decide +kernel) (jacons (jv (pv 2)) janil)) (jct call_int1 cbD_int1 T.z_int (by decide +kernel) (jacons (jcmp (jge (jcb call_abs cbD_abs T.z_abs (by decide +kernel) (jacons (jv (pv 2)) janil)) (jpow ji ji))) janil))) (jacons (jadd (jadd (jmod (jv (pv 2)) ji) (jmul ji (jv (pv 1)))) ji) (jacons ji janil))))))))
end

/-! ### SharedFire.__init__ -/
abbrev s_SharedFire_init : Stmt := inClass (top 6) 0
theorem sc_SharedFire_init : FnScope ["self", "shares", "mouth", "share"] ["self", "shares", "mouth"] (defScope s_SharedFire_init) := ⟨rfl, rfl, rfl, by decide +kernel, rfl, by decide +kernel, by decide +kernel⟩
noncomputable def B_SharedFire_init (c : Cs) : FS := (seqS (fldS c.SharedFire "shares" (varD 0) (lcD sqK (oneA (varD 1)) (nmG 3) yesT (cbD tupleO (consA (varD 3) nilA)) [3]))
    (seqS (fldS c.SharedFire "mouth" (varD 0) (varD 2))
    (seqS (fldS c.SharedFire "at" (varD 0) (cD (.int 0)))
    (seqS (fldS c.SharedFire "numbers" (varD 0) (op2D mulNO (lstD (consA (cD (.int 0)) nilA)) (cbD lenO (consA (varD 1) nilA))))
    (seqS (fldS c.SharedFire "asks" (varD 0) (lcDN sqK (oneA (fldD c.SharedFire "shares" (varD 0))) (nmG 3) yesT (op2D ixO (varD 3) (cD (.int 2))) [3]))
    (seqS (fldS c.SharedFire "wait" (varD 0) (cD (.int 0)))
    (fldS c.SharedFire "burning" (varD 0) (cD .non))))))))
noncomputable def F_SharedFire_init (c : Cs) : Fn := bodyF finK 4 (B_SharedFire_init c)
section
variable {P : Program} {w : World} {K : PySem.W.Frag} {mg : Str → Option Value} {base : Heap} {c : Cs}
theorem ok_SharedFire_init {f : Addr} {fd : FuncData} (F : Fun K "__init__" "SharedFire.__init__" s_SharedFire_init f fd) (T : Txt mg) (Z : Cz K c) : FnOk P w K mg base CX0 1 f fd ["self", "shares", "mouth"] (spD K 3 (F_SharedFire_init c)) :=
  fn_ok finK_ok F sc_SharedFire_init fun cdv A outer s H E hr =>
    (show JSs _ _ (B_SharedFire_init c) from (jsscons (jsfld (C := c.SharedFire) Z.SharedFire.cl Z.SharedFire.a_shares (jv (pv 0)) (jlc (own := [("share", 3)]) (gr := (gName 3)) (ft := yesT) (f := (cbD tupleO (consA (varD 3) nilA))) (by rfl) sc_SharedFire_init.nd (pi_sq (jv (pv 1))) li_sq (blkOk_by (own := [("share", 3)]) (N := ["self", "shares", "mouth", "share"]) (sc := defScope s_SharedFire_init) (by decide +kernel)) (fun _ _ _ _ _ => (pg_name (i := 3) sc_SharedFire_init.nd rfl (Or.inl rfl))) lw_nm (fun _ _ _ _ _ => jtsnil) (fun _ _ _ _ _ => (jct call_tuple_of cbD_tuple T.z_tuple (by decide +kernel) (jacons (jv (pv 3)) janil)))))
    (jsscons (jsfld (C := c.SharedFire) Z.SharedFire.cl Z.SharedFire.a_mouth (jv (pv 0)) (jv (pv 2)))
    (jsscons (jsfld (C := c.SharedFire) Z.SharedFire.cl Z.SharedFire.a_at (jv (pv 0)) ji)
    (jsscons (jsfld (C := c.SharedFire) Z.SharedFire.cl Z.SharedFire.a_numbers (jv (pv 0)) (jmulN (jlst (jacons ji janil)) (jcb call_len cbD_len T.z_len (by decide +kernel) (jacons (jv (pv 1)) janil))))
    (jsscons (jsfld (C := c.SharedFire) Z.SharedFire.cl Z.SharedFire.a_asks (jv (pv 0)) (jlcN (own := [("share", 3)]) (gr := (gName 3)) (ft := yesT) (f := (op2D ixO (varD 3) (cD (.int 2)))) (by rfl) sc_SharedFire_init.nd (pi_sq (jfld (C := c.SharedFire) Z.SharedFire.cl Z.SharedFire.a_shares (jv (pv 0)))) li_sq (blkOk_by (own := [("share", 3)]) (N := ["self", "shares", "mouth", "share"]) (sc := defScope s_SharedFire_init) (by decide +kernel)) (fun _ _ _ _ _ => (pg_name (i := 3) sc_SharedFire_init.nd rfl (Or.inl rfl))) lw_nm (fun _ _ _ _ _ => jtsnil) (fun _ _ _ _ _ => (jix (jv (pv 3)) ji))))
    (jsscons (jsfld (C := c.SharedFire) Z.SharedFire.cl Z.SharedFire.a_wait (jv (pv 0)) ji)
    (jssone (jsfld (C := c.SharedFire) Z.SharedFire.cl Z.SharedFire.a_burning (jv (pv 0)) jn)))))))))
end

/-! ### asked_at -/
abbrev s_asked_at : Stmt := top 3
theorem sc_asked_at : FnScope ["plan", "number", "first", "beats", "pieces"] ["plan", "number", "first"] (defScope s_asked_at) := ⟨rfl, rfl, rfl, by decide +kernel, rfl, by decide +kernel, by decide +kernel⟩
noncomputable def B_asked_at (c : Cs) : FS := (seqS (asgS (varD 0) (tupG 2 (consG (nmG 3) (consG (nmG 4) nilG))))
    (retS (op2D addO (varD 2) (op2D fdivO (op2D mulO (varD 1) (varD 3)) (varD 4)))))
noncomputable def F_asked_at (c : Cs) : Fn := bodyF fin 5 (B_asked_at c)
section
variable {P : Program} {w : World} {K : PySem.W.Frag} {mg : Str → Option Value} {base : Heap} {c : Cs}
theorem ok_asked_at {f : Addr} {fd : FuncData} {dvs : List V} (F : FunD K "asked_at" "asked_at" (defArgs s_asked_at) (defBody s_asked_at) (defScope s_asked_at) dvs [] f fd) (T : Txt mg) (Z : Cz K c) : FnOk P w K mg base CX0 1 f fd ["plan", "number", "first"] (spD K 3 (F_asked_at c)) :=
  fn_okD fin_ok F sc_asked_at fun cdv A outer s H E hr =>
    (show JSs _ _ (B_asked_at c) from (jsscons (jsasg (jv (pv 0)) (pg_tup rfl (pgs_cons (pg_name (i := 3) sc_asked_at.nd rfl (Or.inl rfl)) (pgs_cons (pg_name (i := 4) sc_asked_at.nd rfl (Or.inl rfl)) pgs_nil))) (lg_tup (lg_cons lg_nm (lg_cons lg_nm lg_nil))))
    (jssone (jsret (jadd (jv (pv 2)) (jfdiv (jmul (jv (pv 1)) (jv (pv 3))) (jv (pv 4))))))))
end

/-! ### SharedFire.last_of -/
abbrev s_SharedFire_last_of : Stmt := inClass (top 6) 1
theorem sc_SharedFire_last_of : FnScope ["self", "share"] ["self", "share"] (defScope s_SharedFire_last_of) := ⟨rfl, rfl, rfl, by decide +kernel, rfl, by decide +kernel, by decide +kernel⟩
noncomputable def B_SharedFire_last_of (c : Cs) : FS := (retS (op2D addO (op2D ixO (fldD c.SharedFire "asks" (varD 0)) (varD 1)) (op2D ixO (op2D ixO (fldD c.SharedFire "shares" (varD 0)) (varD 1)) (cD (.int 3)))))
noncomputable def F_SharedFire_last_of (c : Cs) : Fn := bodyF fin 2 (B_SharedFire_last_of c)
section
variable {P : Program} {w : World} {K : PySem.W.Frag} {mg : Str → Option Value} {base : Heap} {c : Cs}
theorem ok_SharedFire_last_of {f : Addr} {fd : FuncData} (F : Fun K "last_of" "SharedFire.last_of" s_SharedFire_last_of f fd) (T : Txt mg) (Z : Cz K c) : FnOk P w K mg base CX0 1 f fd ["self", "share"] (spD K 2 (F_SharedFire_last_of c)) :=
  fn_ok fin_ok F sc_SharedFire_last_of fun cdv A outer s H E hr =>
    (show JSs _ _ (B_SharedFire_last_of c) from (jssone (jsret (jadd (jix (jfld (C := c.SharedFire) Z.SharedFire.cl Z.SharedFire.a_asks (jv (pv 0))) (jv (pv 1))) (jix (jix (jfld (C := c.SharedFire) Z.SharedFire.cl Z.SharedFire.a_shares (jv (pv 0))) (jv (pv 1))) ji)))))
end

/-! ### SharedFire.draw_one -/
abbrev s_SharedFire_draw_one : Stmt := inClass (top 6) 2
theorem sc_SharedFire_draw_one : FnScope ["self", "hot", "share", "beats", "pieces", "first", "wide", "ask"] ["self"] (defScope s_SharedFire_draw_one) := ⟨rfl, rfl, rfl, by decide +kernel, rfl, by decide +kernel, by decide +kernel⟩
noncomputable def B_SharedFire_draw_one (c : Cs) : FS := (seqS (setS 1 (lcD enK (consA (fldD c.SharedFire "asks" (varD 0)) nilA) (tupG 2 (consG (nmG 2) (consG (nmG 7) nilG))) (tvD (op2D (cmpO fun i j => decide (i ≤ j)) (varD 7) (fldD c.SharedFire "at" (varD 0)))) (tupD (consA (methD c.SharedFire "last_of" (F_SharedFire_last_of c) [] (varD 0) (consA (varD 2) nilA)) (consA (varD 2) nilA))) [2, 7]))
    (seqS (ifS (notD (truD (varD 1))) (retS (cD .non)) nextS)
    (seqS (setS 2 (op2D ixO (cbD minPO (consA (varD 1) nilA)) (cD (.int 1))))
    (seqS (asgS (op2D ixO (fldD c.SharedFire "shares" (varD 0)) (varD 2)) (tupG 4 (consG (nmG 3) (consG (nmG 4) (consG (nmG 5) (consG (nmG 6) nilG))))))
    (seqS (fldS c.SharedFire "wait" (varD 0) (cbD max2O (consA (fldD c.SharedFire "wait" (varD 0)) (consA (op2D subO (fldD c.SharedFire "at" (varD 0)) (op2D ixO (fldD c.SharedFire "asks" (varD 0)) (varD 2))) nilA))))
    (seqS (augSubS (fldD c.SharedFire "numbers" (varD 0)) (varD 2) ixLO (cD (.int 1)) (int0 fun i j => .int (i + j)) setLO)
    (seqS (asgS (fnD (F_asked_at c) [] (consA (tupD (consA (varD 3) (consA (varD 4) nilA))) (consA (op2D ixO (fldD c.SharedFire "numbers" (varD 0)) (varD 2)) (consA (varD 5) nilA)))) (subG setLO (fldD c.SharedFire "asks" (varD 0)) (varD 2)))
    (retS (varD 2)))))))))
noncomputable def F_SharedFire_draw_one (c : Cs) : Fn := bodyF fin 8 (B_SharedFire_draw_one c)
section
variable {P : Program} {w : World} {K : PySem.W.Frag} {mg : Str → Option Value} {base : Heap} {c : Cs}
theorem ok_SharedFire_draw_one {f : Addr} {fd : FuncData} (F : Fun K "draw_one" "SharedFire.draw_one" s_SharedFire_draw_one f fd) (T : Txt mg) (Z : Cz K c)
    (D_asked_at : Df P w K mg base "asked_at" 1 ["plan", "number", "first"] (F_asked_at c))
    (D_SharedFire_last_of : Dm P w K mg base c.SharedFire "last_of" 1 ["self", "share"] (F_SharedFire_last_of c)) : FnOk P w K mg base CX0 2 f fd ["self"] (spD K 1 (F_SharedFire_draw_one c)) :=
  fn_ok fin_ok F sc_SharedFire_draw_one fun cdv A outer s H E hr =>
    (show JSs _ _ (B_SharedFire_draw_one c) from (jsscons (jssetLc (i := 1) (own := [("share", 2), ("ask", 7)]) (gr := (gTup K 2 (gCons (gName 2) (gCons (gName 7) gNil)))) (ft := (tvD (op2D (cmpO fun i j => decide (i ≤ j)) (varD 7) (fldD c.SharedFire "at" (varD 0))))) (f := (tupD (consA (methD c.SharedFire "last_of" (F_SharedFire_last_of c) [] (varD 0) (consA (varD 2) nilA)) (consA (varD 2) nilA)))) (by rfl) sc_SharedFire_draw_one.nd rfl rfl (sw_true rfl rfl rfl (by decide +kernel)) (pi_enum (by rfl) T.z_enumerate (jacons (jfld (C := c.SharedFire) Z.SharedFire.cl Z.SharedFire.a_asks (jv (pv 0))) janil)) li_en (blkOk_by (own := [("share", 2), ("ask", 7)]) (N := ["self", "hot", "share", "beats", "pieces", "first", "wide", "ask"]) (sc := defScope s_SharedFire_draw_one) (by decide +kernel)) (fun _ _ _ _ _ => (pg_tup rfl (pgs_cons (pg_name (i := 2) sc_SharedFire_draw_one.nd rfl (Or.inl rfl)) (pgs_cons (pg_name (i := 7) sc_SharedFire_draw_one.nd rfl (Or.inl rfl)) pgs_nil)))) (lw_tup (lw_cons lw_nm (lw_cons lw_nm lw_nil))) (fun _ _ _ _ _ => (jtsone (jtcmp (jle (jv (pv 7)) (jfld (C := c.SharedFire) Z.SharedFire.cl Z.SharedFire.a_at (jv (pv 0))))))) (fun _ _ _ _ _ => (jtup (jacons (jmt (C := c.SharedFire) D_SharedFire_last_of (hr.mono (by omega)) (jv (pv 0)) (jacons (jv (pv 2)) janil)) (jacons (jv (pv 2)) janil)))))
    (jsscons (jsif (jtnot (jtruth (jv (pv 1)))) (jssone (jsret jn)) jssnil)
    (jsscons (jsset (i := 2) sc_SharedFire_draw_one.nd rfl (Or.inl rfl) (jix (jcb (cr_minP (un8 hr) rfl) cbD_minP T.z_min (by decide +kernel) (jacons (jv (pv 1)) janil)) ji))
    (jsscons (jsasg (jix (jfld (C := c.SharedFire) Z.SharedFire.cl Z.SharedFire.a_shares (jv (pv 0))) (jv (pv 2))) (pg_tup rfl (pgs_cons (pg_name (i := 3) sc_SharedFire_draw_one.nd rfl (Or.inl rfl)) (pgs_cons (pg_name (i := 4) sc_SharedFire_draw_one.nd rfl (Or.inl rfl)) (pgs_cons (pg_name (i := 5) sc_SharedFire_draw_one.nd rfl (Or.inl rfl)) (pgs_cons (pg_name (i := 6) sc_SharedFire_draw_one.nd rfl (Or.inl rfl)) pgs_nil))))) (lg_tup (lg_cons lg_nm (lg_cons lg_nm (lg_cons lg_nm (lg_cons lg_nm lg_nil))))))
    (jsscons (jsfld (C := c.SharedFire) Z.SharedFire.cl Z.SharedFire.a_wait (jv (pv 0)) (jcb (call_max2 rfl) cbD_max2 T.z_max (by decide +kernel) (jacons (jfld (C := c.SharedFire) Z.SharedFire.cl Z.SharedFire.a_wait (jv (pv 0))) (jacons (jsub (jfld (C := c.SharedFire) Z.SharedFire.cl Z.SharedFire.a_at (jv (pv 0))) (jix (jfld (C := c.SharedFire) Z.SharedFire.cl Z.SharedFire.a_asks (jv (pv 0))) (jv (pv 2)))) janil))))
    (jsscons (jsaugs (jfld (C := c.SharedFire) Z.SharedFire.cl Z.SharedFire.a_numbers (jv (pv 0))) (jv (pv 2)) ji ip_add opD_ip)
    (jsscons (jsasg (jfn D_asked_at (hr.mono (by omega)) (jacons (jtup (jacons (jv (pv 3)) (jacons (jv (pv 4)) janil))) (jacons (jix (jfld (C := c.SharedFire) Z.SharedFire.cl Z.SharedFire.a_numbers (jv (pv 0))) (jv (pv 2))) (jacons (jv (pv 5)) janil)))) (pg_sub (jfld (C := c.SharedFire) Z.SharedFire.cl Z.SharedFire.a_asks (jv (pv 0))) (jv (pv 2)) set_list) (lg_sub stD_L))
    (jssone (jsret (jv (pv 2))))))))))))
end

/-! ### SharedFire.draw -/
abbrev s_SharedFire_draw : Stmt := inClass (top 6) 3
theorem sc_SharedFire_draw : FnScope ["self", "rows", "share", "late"] ["self"] (defScope s_SharedFire_draw) := ⟨rfl, rfl, rfl, by decide +kernel, rfl, by decide +kernel, by decide +kernel⟩
noncomputable def B_SharedFire_draw (c : Cs) : FS := (seqS (setS 1 (newD nilA))
    (seqS (whileS (tvD (op2D (cmpO fun i j => decide (i < j)) (cbD lenO (consA (varD 1) nilA)) (fldD c.SharedFire "mouth" (varD 0)))) (seqS (setS 2 (methD c.SharedFire "draw_one" (F_SharedFire_draw_one c) [] (varD 0) nilA))
    (seqS (ifS (tvD (op1D (isNO false) (varD 2))) breakS nextS)
    (dropS (bmD isLoc appO (varD 1) (consA (tupD (consA (fldD c.SharedFire "at" (varD 0)) (consA (varD 2) (consA (op2D subO (op2D ixO (fldD c.SharedFire "numbers" (varD 0)) (varD 2)) (cD (.int 1))) nilA)))) nilA))))))
    (seqS (setS 3 (lcD r1K (consA (cbD lenO (consA (fldD c.SharedFire "shares" (varD 0)) nilA)) nilA) (nmG 2) (tvD (op2D (cmpO fun i j => decide (i ≤ j)) (methD c.SharedFire "last_of" (F_SharedFire_last_of c) [] (varD 0) (consA (varD 2) nilA)) (fldD c.SharedFire "at" (varD 0)))) (varD 2) [2]))
    (seqS (ifS (truD (varD 3)) (fldS c.SharedFire "burning" (varD 0) (op2D ixO (varD 3) (cD (.int 0)))) nextS)
    (seqS (fldaugS c.SharedFire "at" (varD 0) (cD (.int 1)) (int0 fun i j => .int (i + j)))
    (retS (varD 1)))))))
noncomputable def F_SharedFire_draw (c : Cs) : Fn := bodyF fin 4 (B_SharedFire_draw c)
section
variable {P : Program} {w : World} {K : PySem.W.Frag} {mg : Str → Option Value} {base : Heap} {c : Cs}
theorem ok_SharedFire_draw {f : Addr} {fd : FuncData} (F : Fun K "draw" "SharedFire.draw" s_SharedFire_draw f fd) (T : Txt mg) (Z : Cz K c)
    (D_SharedFire_draw_one : Dm P w K mg base c.SharedFire "draw_one" 2 ["self"] (F_SharedFire_draw_one c))
    (D_SharedFire_last_of : Dm P w K mg base c.SharedFire "last_of" 1 ["self", "share"] (F_SharedFire_last_of c)) : FnOk P w K mg base CX0 3 f fd ["self"] (spD K 1 (F_SharedFire_draw c)) :=
  fn_ok fin_ok F sc_SharedFire_draw fun cdv A outer s H E hr =>
    (show JSs _ _ (B_SharedFire_draw c) from (jsscons (jsset (i := 1) sc_SharedFire_draw.nd rfl (Or.inl rfl) (jnew janil))
    (jsscons (jswhile PassesOwn.never (jtcmp (jlt (jcb call_len cbD_len T.z_len (by decide +kernel) (jacons (jv (pv 1)) janil)) (jfld (C := c.SharedFire) Z.SharedFire.cl Z.SharedFire.a_mouth (jv (pv 0))))) (jsscons (jsset (i := 2) sc_SharedFire_draw.nd rfl (Or.inl rfl) (jmt0 (C := c.SharedFire) D_SharedFire_draw_one (hr.mono (by omega)) (jv (pv 0))))
    (jsscons (jsif (jtcmp (jisN (jv (pv 2)))) (jssone jsbreak) jssnil)
    (jssone (jsexpr (jbm PySem.F.plainAttrs_list PySem.F.slot_list_append PySem.F.type_list_append mt_append mtD_app (jv (pv 1)) (jacons (jtup (jacons (jfld (C := c.SharedFire) Z.SharedFire.cl Z.SharedFire.a_at (jv (pv 0))) (jacons (jv (pv 2)) (jacons (jsub (jix (jfld (C := c.SharedFire) Z.SharedFire.cl Z.SharedFire.a_numbers (jv (pv 0))) (jv (pv 2))) ji) janil)))) janil)))))))
    (jsscons (jssetLc (i := 3) (own := [("share", 2)]) (gr := (gName 2)) (ft := (tvD (op2D (cmpO fun i j => decide (i ≤ j)) (methD c.SharedFire "last_of" (F_SharedFire_last_of c) [] (varD 0) (consA (varD 2) nilA)) (fldD c.SharedFire "at" (varD 0))))) (f := (varD 2)) (by rfl) sc_SharedFire_draw.nd rfl rfl (sw_true rfl rfl rfl (by decide +kernel)) (pi_range1 (by rfl) T.z_range (jacons (jcb call_len cbD_len T.z_len (by decide +kernel) (jacons (jfld (C := c.SharedFire) Z.SharedFire.cl Z.SharedFire.a_shares (jv (pv 0))) janil)) janil)) li_r1 (blkOk_by (own := [("share", 2)]) (N := ["self", "rows", "share", "late"]) (sc := defScope s_SharedFire_draw) (by decide +kernel)) (fun _ _ _ _ _ => (pg_name (i := 2) sc_SharedFire_draw.nd rfl (Or.inl rfl))) lw_nm (fun _ _ _ _ _ => (jtsone (jtcmp (jle (jmt (C := c.SharedFire) D_SharedFire_last_of (hr.mono (by omega)) (jv (pv 0)) (jacons (jv (pv 2)) janil)) (jfld (C := c.SharedFire) Z.SharedFire.cl Z.SharedFire.a_at (jv (pv 0))))))) (fun _ _ _ _ _ => (jv (pv 2))))
    (jsscons (jsif (jtruth (jv (pv 3))) (jssone (jsfld (C := c.SharedFire) Z.SharedFire.cl Z.SharedFire.a_burning (jv (pv 0)) (jix (jv (pv 3)) ji))) jssnil)
    (jsscons (jsfldaug (C := c.SharedFire) Z.SharedFire.cl Z.SharedFire.a_at (jv (pv 0)) ji in_add opD_addR)
    (jssone (jsret (jv (pv 1))))))))))
end

/-! ### SharedFire.draw_up_to -/
abbrev s_SharedFire_draw_up_to : Stmt := inClass (top 6) 4
theorem sc_SharedFire_draw_up_to : FnScope ["self", "end", "rows"] ["self", "end"] (defScope s_SharedFire_draw_up_to) := ⟨rfl, rfl, rfl, by decide +kernel, rfl, by decide +kernel, by decide +kernel⟩
noncomputable def B_SharedFire_draw_up_to (c : Cs) : FS := (seqS (setS 2 (newD nilA))
    (seqS (whileS (andD (tvD (op2D (cmpO fun i j => decide (i < j)) (fldD c.SharedFire "at" (varD 0)) (varD 1))) (tvD (op1D (isNO false) (fldD c.SharedFire "burning" (varD 0))))) (dropS (bmD isLoc extO (varD 2) (consA (methD c.SharedFire "draw" (F_SharedFire_draw c) [] (varD 0) nilA) nilA))))
    (retS (varD 2))))
noncomputable def F_SharedFire_draw_up_to (c : Cs) : Fn := bodyF fin 3 (B_SharedFire_draw_up_to c)
section
variable {P : Program} {w : World} {K : PySem.W.Frag} {mg : Str → Option Value} {base : Heap} {c : Cs}
theorem ok_SharedFire_draw_up_to {f : Addr} {fd : FuncData} (F : Fun K "draw_up_to" "SharedFire.draw_up_to" s_SharedFire_draw_up_to f fd) (T : Txt mg) (Z : Cz K c)
    (D_SharedFire_draw : Dm P w K mg base c.SharedFire "draw" 3 ["self"] (F_SharedFire_draw c)) : FnOk P w K mg base CX0 4 f fd ["self", "end"] (spD K 2 (F_SharedFire_draw_up_to c)) :=
  fn_ok fin_ok F sc_SharedFire_draw_up_to fun cdv A outer s H E hr =>
    (show JSs _ _ (B_SharedFire_draw_up_to c) from (jsscons (jsset (i := 2) sc_SharedFire_draw_up_to.nd rfl (Or.inl rfl) (jnew janil))
    (jsscons (jswhile PassesOwn.never (jwt (jwand (jtcmp (jlt (jfld (C := c.SharedFire) Z.SharedFire.cl Z.SharedFire.a_at (jv (pv 0))) (jv (pv 1)))) (jwand1 (jtcmp (jisN (jfld (C := c.SharedFire) Z.SharedFire.cl Z.SharedFire.a_burning (jv (pv 0)))))))) (jssone (jsexpr (jbm PySem.F.plainAttrs_list PySem.F.slot_list_extend PySem.F.type_list_extend mt_extend mtD_ext (jv (pv 2)) (jacons (jmt0 (C := c.SharedFire) D_SharedFire_draw (hr.mono (by omega)) (jv (pv 0))) janil)))))
    (jssone (jsret (jv (pv 2)))))))
end

/-! ### common_divisor -/
abbrev s_common_divisor : Stmt := top 1
theorem sc_common_divisor : FnScope ["one", "other"] ["one", "other"] (defScope s_common_divisor) := ⟨rfl, rfl, rfl, by decide +kernel, rfl, by decide +kernel, by decide +kernel⟩
noncomputable def B_common_divisor (c : Cs) : FS := (seqS (whileS (tvD (op2D (cmpO fun i j => decide (j < i)) (varD 1) (cD (.int 0)))) (parS 0 1 (consA (varD 1) (consA (op2D modO (varD 0) (varD 1)) nilA))))
    (retS (varD 0)))
noncomputable def F_common_divisor (c : Cs) : Fn := bodyF fin 2 (B_common_divisor c)
section
variable {P : Program} {w : World} {K : PySem.W.Frag} {mg : Str → Option Value} {base : Heap} {c : Cs}
theorem ok_common_divisor {f : Addr} {fd : FuncData} (F : Fun K "common_divisor" "common_divisor" s_common_divisor f fd) (T : Txt mg) (Z : Cz K c) : FnOk P w K mg base CX0 1 f fd ["one", "other"] (spD K 2 (F_common_divisor c)) :=
  fn_ok fin_ok F sc_common_divisor fun cdv A outer s H E hr =>
    (show JSs _ _ (B_common_divisor c) from (jsscons (jswhile PassesOwn.never (jtcmp (jgt (jv (pv 1)) ji)) (jssone (jspar (i := 0) (j := 1) (by rfl) sc_common_divisor.nd rfl rfl (by decide) rfl rfl (jacons (jv (pv 1)) (jacons (jmod (jv (pv 0)) (jv (pv 1))) janil)) (by rfl))))
    (jssone (jsret (jv (pv 0))))))
end

/-! ### common_beats -/
abbrev s_common_beats : Stmt := top 5
theorem sc_common_beats : FnScope ["shares", "many", "beats", "pieces", "first", "wide"] ["shares"] (defScope s_common_beats) := ⟨rfl, rfl, rfl, by decide +kernel, rfl, by decide +kernel, by decide +kernel⟩
noncomputable def B_common_beats (c : Cs) : FS := (seqS (setS 1 (cD (.int 1)))
    (seqS (forS sqK (oneA (varD 0)) (tupG 4 (consG (nmG 2) (consG (nmG 3) (consG (nmG 4) (consG (nmG 5) nilG)))))
    (setS 1 (op2D mulO (op2D fdivO (varD 1) (fnD (F_common_divisor c) [] (consA (varD 1) (consA (varD 2) nilA)))) (varD 2))))
    (retS (varD 1))))
noncomputable def F_common_beats (c : Cs) : Fn := bodyF fin 6 (B_common_beats c)
section
variable {P : Program} {w : World} {K : PySem.W.Frag} {mg : Str → Option Value} {base : Heap} {c : Cs}
theorem ok_common_beats {f : Addr} {fd : FuncData} (F : Fun K "common_beats" "common_beats" s_common_beats f fd) (T : Txt mg) (Z : Cz K c)
    (D_common_divisor : Df P w K mg base "common_divisor" 1 ["one", "other"] (F_common_divisor c)) : FnOk P w K mg base CX0 2 f fd ["shares"] (spD K 1 (F_common_beats c)) :=
  fn_ok fin_ok F sc_common_beats fun cdv A outer s H E hr =>
    (show JSs _ _ (B_common_beats c) from (jsscons (jsset (i := 1) sc_common_beats.nd rfl (Or.inl rfl) ji)
    (jsscons (jsfor PassesOwn.never rfl (pi_sq (jv (pv 0))) li_sq (pg_tup rfl (pgs_cons (pg_name (i := 2) sc_common_beats.nd rfl (Or.inl rfl)) (pgs_cons (pg_name (i := 3) sc_common_beats.nd rfl (Or.inl rfl)) (pgs_cons (pg_name (i := 4) sc_common_beats.nd rfl (Or.inl rfl)) (pgs_cons (pg_name (i := 5) sc_common_beats.nd rfl (Or.inl rfl)) pgs_nil))))) (lg_tup (lg_cons lg_nm (lg_cons lg_nm (lg_cons lg_nm (lg_cons lg_nm lg_nil)))))
    (jssone (jsset (i := 1) sc_common_beats.nd rfl (Or.inl rfl) (jmul (jfdiv (jv (pv 1)) (jfn D_common_divisor (hr.mono (by omega)) (jacons (jv (pv 1)) (jacons (jv (pv 2)) janil)))) (jv (pv 2))))))
    (jssone (jsret (jv (pv 1)))))))
end

/-! ### SharedFire.ahead -/
abbrev s_SharedFire_ahead : Stmt := inClass (top 6) 5
theorem sc_SharedFire_ahead : FnScope ["self", "number", "share"] ["self"] (defScope s_SharedFire_ahead) := ⟨rfl, rfl, rfl, by decide +kernel, rfl, by decide +kernel, by decide +kernel⟩
noncomputable def B_SharedFire_ahead (c : Cs) : FS := (retS (lcD zpK2 (consA (fldD c.SharedFire "numbers" (varD 0)) (consA (fldD c.SharedFire "shares" (varD 0)) nilA)) (tupG 2 (consG (nmG 1) (consG (nmG 2) nilG))) yesT (op2D subO (op2D mulO (varD 1) (op2D ixO (varD 2) (cD (.int 0)))) (op2D mulO (fldD c.SharedFire "at" (varD 0)) (op2D ixO (varD 2) (cD (.int 1))))) [1, 2]))
noncomputable def F_SharedFire_ahead (c : Cs) : Fn := bodyF fin 3 (B_SharedFire_ahead c)
section
variable {P : Program} {w : World} {K : PySem.W.Frag} {mg : Str → Option Value} {base : Heap} {c : Cs}
theorem ok_SharedFire_ahead {f : Addr} {fd : FuncData} (F : Fun K "ahead" "SharedFire.ahead" s_SharedFire_ahead f fd) (T : Txt mg) (Z : Cz K c) : FnOk P w K mg base CX0 1 f fd ["self"] (spD K 1 (F_SharedFire_ahead c)) :=
  fn_ok fin_ok F sc_SharedFire_ahead fun cdv A outer s H E hr =>
    (show JSs _ _ (B_SharedFire_ahead c) from (jssone (jsret (jlc (own := [("number", 1), ("share", 2)]) (gr := (gTup K 2 (gCons (gName 1) (gCons (gName 2) gNil)))) (ft := yesT) (f := (op2D subO (op2D mulO (varD 1) (op2D ixO (varD 2) (cD (.int 0)))) (op2D mulO (fldD c.SharedFire "at" (varD 0)) (op2D ixO (varD 2) (cD (.int 1)))))) (by rfl) sc_SharedFire_ahead.nd (RZ.pi_zipA (by rfl) T.z_zip (jacons (jfld (C := c.SharedFire) Z.SharedFire.cl Z.SharedFire.a_numbers (jv (pv 0))) (jacons (jfld (C := c.SharedFire) Z.SharedFire.cl Z.SharedFire.a_shares (jv (pv 0))) janil))) li_zp (blkOk_by (own := [("number", 1), ("share", 2)]) (N := ["self", "number", "share"]) (sc := defScope s_SharedFire_ahead) (by decide +kernel)) (fun _ _ _ _ _ => (pg_tup rfl (pgs_cons (pg_name (i := 1) sc_SharedFire_ahead.nd rfl (Or.inl rfl)) (pgs_cons (pg_name (i := 2) sc_SharedFire_ahead.nd rfl (Or.inl rfl)) pgs_nil)))) (lw_tup (lw_cons lw_nm (lw_cons lw_nm lw_nil))) (fun _ _ _ _ _ => jtsnil) (fun _ _ _ _ _ => (jsub (jmul (jv (pv 1)) (jix (jv (pv 2)) ji)) (jmul (jfld (C := c.SharedFire) Z.SharedFire.cl Z.SharedFire.a_at (jv (pv 0))) (jix (jv (pv 2)) ji))))))))
end

/-! ### SharedFire.settle -/
abbrev s_SharedFire_settle : Stmt := inClass (top 6) 6
theorem sc_SharedFire_settle : FnScope ["self", "many", "before", "rows"] ["self"] (defScope s_SharedFire_settle) := ⟨rfl, rfl, rfl, by decide +kernel, rfl, by decide +kernel, by decide +kernel⟩
noncomputable def B_SharedFire_settle (c : Cs) : FS := (seqS (dropS (methD c.SharedFire "draw_up_to" (F_SharedFire_draw_up_to c) [] (varD 0) (consA (cbD maxAO (consA (fldD c.SharedFire "asks" (varD 0)) nilA)) nilA)))
    (seqS (setS 1 (fnD (F_common_beats c) [] (consA (fldD c.SharedFire "shares" (varD 0)) nilA)))
    (seqS (whileS (tvD (op1D (isNO false) (fldD c.SharedFire "burning" (varD 0)))) (seqS (setS 2 (methD c.SharedFire "ahead" (F_SharedFire_ahead c) [] (varD 0) nilA))
    (seqS (setS 3 (methD c.SharedFire "draw_up_to" (F_SharedFire_draw_up_to c) [] (varD 0) (consA (op2D addO (fldD c.SharedFire "at" (varD 0)) (varD 1)) nilA)))
    (ifS (andD (tvD (op1D (isNO false) (fldD c.SharedFire "burning" (varD 0)))) (tvD (op2D eqDO (methD c.SharedFire "ahead" (F_SharedFire_ahead c) [] (varD 0) nilA) (varD 2)))) (retS (varD 3)) nextS))))
    (retS (cD .non)))))
noncomputable def F_SharedFire_settle (c : Cs) : Fn := bodyF fin 4 (B_SharedFire_settle c)
section
variable {P : Program} {w : World} {K : PySem.W.Frag} {mg : Str → Option Value} {base : Heap} {c : Cs}
theorem ok_SharedFire_settle {f : Addr} {fd : FuncData} (F : Fun K "settle" "SharedFire.settle" s_SharedFire_settle f fd) (T : Txt mg) (Z : Cz K c)
    (D_SharedFire_draw_up_to : Dm P w K mg base c.SharedFire "draw_up_to" 4 ["self", "end"] (F_SharedFire_draw_up_to c))
    (D_common_beats : Df P w K mg base "common_beats" 2 ["shares"] (F_common_beats c))
    (D_SharedFire_ahead : Dm P w K mg base c.SharedFire "ahead" 1 ["self"] (F_SharedFire_ahead c)) : FnOk P w K mg base CX0 5 f fd ["self"] (spD K 1 (F_SharedFire_settle c)) :=
  fn_ok fin_ok F sc_SharedFire_settle fun cdv A outer s H E hr =>
    (show JSs _ _ (B_SharedFire_settle c) from (jsscons (jsexpr (jmt (C := c.SharedFire) D_SharedFire_draw_up_to (hr.mono (by omega)) (jv (pv 0)) (jacons (jcb (cr_maxA rfl) cbD_maxA T.z_max (by decide +kernel) (jacons (jfld (C := c.SharedFire) Z.SharedFire.cl Z.SharedFire.a_asks (jv (pv 0))) janil)) janil)))
    (jsscons (jsset (i := 1) sc_SharedFire_settle.nd rfl (Or.inl rfl) (jfn D_common_beats (hr.mono (by omega)) (jacons (jfld (C := c.SharedFire) Z.SharedFire.cl Z.SharedFire.a_shares (jv (pv 0))) janil)))
    (jsscons (jswhile PassesOwn.never (jtcmp (jisN (jfld (C := c.SharedFire) Z.SharedFire.cl Z.SharedFire.a_burning (jv (pv 0))))) (jsscons (jsset (i := 2) sc_SharedFire_settle.nd rfl (Or.inl rfl) (jmt0 (C := c.SharedFire) D_SharedFire_ahead (hr.mono (by omega)) (jv (pv 0))))
    (jsscons (jsset (i := 3) sc_SharedFire_settle.nd rfl (Or.inl rfl) (jmt (C := c.SharedFire) D_SharedFire_draw_up_to (hr.mono (by omega)) (jv (pv 0)) (jacons (jadd (jfld (C := c.SharedFire) Z.SharedFire.cl Z.SharedFire.a_at (jv (pv 0))) (jv (pv 1))) janil)))
    (jssone (jsif (jwt (jwand (jtcmp (jisN (jfld (C := c.SharedFire) Z.SharedFire.cl Z.SharedFire.a_burning (jv (pv 0))))) (jwand1 (jteqD (un64 hr) (jmt0 (C := c.SharedFire) D_SharedFire_ahead (hr.mono (by omega)) (jv (pv 0))) (jv (pv 2)))))) (jssone (jsret (jv (pv 3)))) jssnil)))))
    (jssone (jsret jn))))))
end

/-! ### for_ever -/
abbrev s_for_ever : Stmt := top 7
theorem sc_for_ever : FnScope ["shares", "mouth", "fire"] ["shares", "mouth"] (defScope s_for_ever) := ⟨rfl, rfl, rfl, by decide +kernel, rfl, by decide +kernel, by decide +kernel⟩
noncomputable def B_for_ever (c : Cs) : FS := (seqS (setS 2 (mkD finK c.SharedFire (F_SharedFire_init c) [] (consA (varD 0) (consA (varD 1) nilA))))
    (seqS (ifS (tvD (op1D (isNO false) (methD c.SharedFire "settle" (F_SharedFire_settle c) [] (varD 2) nilA))) (retS (tupD (consA (cD (.str "burnt")) (consA (fldD c.SharedFire "burning" (varD 2)) (consA (op2D ixO (fldD c.SharedFire "numbers" (varD 2)) (fldD c.SharedFire "burning" (varD 2))) nilA))))) nextS)
    (retS (tupD (consA (cD (.str "kept")) (consA (fldD c.SharedFire "wait" (varD 2)) nilA))))))
noncomputable def F_for_ever (c : Cs) : Fn := bodyF fin 3 (B_for_ever c)
section
variable {P : Program} {w : World} {K : PySem.W.Frag} {mg : Str → Option Value} {base : Heap} {c : Cs}
theorem ok_for_ever {f : Addr} {fd : FuncData} {dvs : List V} (F : FunD K "for_ever" "for_ever" (defArgs s_for_ever) (defBody s_for_ever) (defScope s_for_ever) dvs [] f fd) (T : Txt mg) (Z : Cz K c)
    (D_SharedFire_init : Dk P w K mg base "SharedFire" c.SharedFire 1 ["self", "shares", "mouth"] [] (F_SharedFire_init c))
    (D_SharedFire_settle : Dm P w K mg base c.SharedFire "settle" 5 ["self"] (F_SharedFire_settle c)) : FnOk P w K mg base CX0 6 f fd ["shares", "mouth"] (spD K 2 (F_for_ever c)) :=
  fn_okD fin_ok F sc_for_ever fun cdv A outer s H E hr =>
    (show JSs _ _ (B_for_ever c) from (jsscons (jsset (i := 2) sc_for_ever.nd rfl (Or.inl rfl) (jmk finK_ok D_SharedFire_init (fun _ _ => .nil) (hr.mono (by omega)) (jacons (jv (pv 0)) (jacons (jv (pv 1)) janil))))
    (jsscons (jsif (jtcmp (jisN (jmt0 (C := c.SharedFire) D_SharedFire_settle (hr.mono (by omega)) (jv (pv 2))))) (jssone (jsret (jtup (jacons js (jacons (jfld (C := c.SharedFire) Z.SharedFire.cl Z.SharedFire.a_burning (jv (pv 2))) (jacons (jix (jfld (C := c.SharedFire) Z.SharedFire.cl Z.SharedFire.a_numbers (jv (pv 2))) (jfld (C := c.SharedFire) Z.SharedFire.cl Z.SharedFire.a_burning (jv (pv 2)))) janil)))))) jssnil)
    (jssone (jsret (jtup (jacons js (jacons (jfld (C := c.SharedFire) Z.SharedFire.cl Z.SharedFire.a_wait (jv (pv 2))) janil))))))))
end

/-! ### _law_draw -/
abbrev s_Ldraw : Stmt := top 12
theorem sc_Ldraw : FnScope ["_law_tape_here", "_law_many", "_law_found", "_law_once", "_law_twice", "_law_wide"] ["_law_tape_here", "_law_many"] (defScope s_Ldraw) := ⟨rfl, rfl, rfl, by decide +kernel, rfl, by decide +kernel, by decide +kernel⟩
noncomputable def B_Ldraw (c : Cs) : FS := (seqS (ifS (tvD (op2D (cmpO fun i j => decide (j < i)) (op2D ixO (varD 0) (cD (.int 0))) (cD (.int 0)))) (seqS (setS 2 (op2D modO (op2D ixO (varD 0) (cD (.int 0))) (varD 1)))
    (seqS (asgS (op2D fdivO (op2D ixO (varD 0) (cD (.int 0))) (varD 1)) (subG setLO (varD 0) (cD (.int 0))))
    (retS (varD 2)))) nextS)
    (seqS (asgS (op2D addO (op2D ixO (varD 0) (cD (.int 2))) (cD (.int 1))) (subG setLO (varD 0) (cD (.int 2))))
    (seqS (setS 3 (op2D modO (op2D powO (op2D addO (op2D ixO (varD 0) (cD (.int 1))) (op2D mulO (cD (.int 39373)) (op2D ixO (varD 0) (cD (.int 2))))) (cD (.int 5))) (cD (.int 2147483647))))
    (seqS (setS 4 (op2D modO (op2D mulO (op2D addO (varD 3) (op2D ixO (varD 0) (cD (.int 2)))) (op2D addO (op2D addO (op2D modO (varD 3) (cD (.int 40009))) (cD (.int 7))) (op2D ixO (varD 0) (cD (.int 2))))) (cD (.int 2147483629))))
    (seqS (setS 5 (op2D modO (op2D addO (op2D addO (op2D fdivO (op2D ixO (varD 0) (cD (.int 1))) (cD (.int 2147483647))) (op2D mulO (varD 4) (cD (.int 40009)))) (op2D ixO (varD 0) (cD (.int 2)))) (cD (.int 2305843009213693951))))
    (retS (op2D modO (op2D fdivO (op2D modO (op2D addO (op2D addO (op2D mulO (varD 4) (cD (.int 48271))) (op2D mulO (varD 5) (cD (.int 39373)))) (varD 3)) (cD (.int 2305843009213693921))) (cD (.int 64))) (varD 1))))))))
noncomputable def F_Ldraw (c : Cs) : Fn := bodyF fin 6 (B_Ldraw c)
section
variable {P : Program} {w : World} {K : PySem.W.Frag} {mg : Str → Option Value} {base : Heap} {c : Cs}
theorem ok_Ldraw {f : Addr} {fd : FuncData} (F : Fun K "_law_draw" "_law_draw" s_Ldraw f fd) (T : Txt mg) (Z : Cz K c) : FnOk P w K mg base CX0 1 f fd ["_law_tape_here", "_law_many"] (spD K 2 (F_Ldraw c)) :=
  fn_ok fin_ok F sc_Ldraw fun cdv A outer s H E hr =>
    (show JSs _ _ (B_Ldraw c) from (jsscons (jsif (jtcmp (jgt (jix (jv (pv 0)) ji) ji)) (jsscons (jsset (i := 2) sc_Ldraw.nd rfl (Or.inl rfl) (jmod (jix (jv (pv 0)) ji) (jv (pv 1))))
    (jsscons (jsasg (jfdiv (jix (jv (pv 0)) ji) (jv (pv 1))) (pg_sub (jv (pv 0)) ji set_list) (lg_sub stD_L))
    (jssone (jsret (jv (pv 2)))))) jssnil)
    (jsscons (jsasg (jadd (jix (jv (pv 0)) ji) ji) (pg_sub (jv (pv 0)) ji set_list) (lg_sub stD_L))
    (jsscons (jsset (i := 3) sc_Ldraw.nd rfl (Or.inl rfl) (jmod (jpow (jadd (jix (jv (pv 0)) ji) (jmul ji (jix (jv (pv 0)) ji))) ji) ji))
    (jsscons (jsset (i := 4) sc_Ldraw.nd rfl (Or.inl rfl) (jmod (jmul (jadd (jv (pv 3)) (jix (jv (pv 0)) ji)) (jadd (jadd (jmod (jv (pv 3)) ji) ji) (jix (jv (pv 0)) ji))) ji))
    (jsscons (jsset (i := 5) sc_Ldraw.nd rfl (Or.inl rfl) (jmod (jadd (jadd (jfdiv (jix (jv (pv 0)) ji) ji) (jmul (jv (pv 4)) ji)) (jix (jv (pv 0)) ji)) ji))
    (jssone (jsret (jmod (jfdiv (jmod (jadd (jadd (jmul (jv (pv 4)) ji) (jmul (jv (pv 5)) ji)) (jv (pv 3))) ji) ji) (jv (pv 1)))))))))))
end

/-! ### _law_shares -/
abbrev s_Lshares : Stmt := top 16
theorem sc_Lshares : FnScope ["_law_tape_here", "_law_way", "_law_found", "_law_turn", "_law_plan", "_law_first"] ["_law_tape_here"] (defScope s_Lshares) := ⟨rfl, rfl, rfl, by decide +kernel, rfl, by decide +kernel, by decide +kernel⟩
noncomputable def B_Lshares (c : Cs) : FS := (seqS (parS 1 2 (consA (fnD (F_Ldraw c) [] (consA (varD 0) (consA (cD (.int 4)) nilA))) (consA (newD nilA) nilA)))
    (seqS (forS r1K (consA (op2D addO (cD (.int 1)) (fnD (F_Ldraw c) [] (consA (varD 0) (consA (op2D ixO (lstD (consA (cD (.int 2)) (consA (cD (.int 6)) (consA (cD (.int 6)) (consA (cD (.int 6)) nilA))))) (varD 1)) nilA)))) nilA) (nmG 3)
    (seqS (setS 4 (tupD (consA (op2D addO (cD (.int 1)) (fnD (F_Ldraw c) [] (consA (varD 0) (consA (cD (.int 6)) nilA)))) (consA (op2D addO (cD (.int 1)) (fnD (F_Ldraw c) [] (consA (varD 0) (consA (op2D ixO (lstD (consA (cD (.int 2)) (consA (cD (.int 1)) (consA (cD (.int 2)) (consA (cD (.int 6)) nilA))))) (varD 1)) nilA)))) nilA))))
    (seqS (setS 5 (fnD (F_Ldraw c) [] (consA (varD 0) (consA (op2D ixO (lstD (consA (cD (.int 1)) (consA (cD (.int 41)) nilA))) (fnD (F_Ldraw c) [] (consA (varD 0) (consA (cD (.int 2)) nilA)))) nilA))))
    (dropS (bmD isLoc appO (varD 2) (consA (op2D catTO (varD 4) (tupD (consA (varD 5) (consA (fnD (F_Ldraw c) [] (consA (varD 0) (consA (op2D ixO (lstD (consA (cD (.int 3)) (consA (op2D ixO (lstD (consA (cD (.int 21)) (consA (cD (.int 5)) nilA))) (cbD int1O (consA (op2D (cmpO fun i j => decide (j < i)) (varD 1) (cD (.int 0))) nilA))) nilA))) (fnD (F_Ldraw c) [] (consA (varD 0) (consA (cD (.int 2)) nilA)))) nilA))) nilA)))) nilA))))))
    (retS (varD 2))))
noncomputable def F_Lshares (c : Cs) : Fn := bodyF fin 6 (B_Lshares c)
section
variable {P : Program} {w : World} {K : PySem.W.Frag} {mg : Str → Option Value} {base : Heap} {c : Cs}
theorem ok_Lshares {f : Addr} {fd : FuncData} (F : Fun K "_law_shares" "_law_shares" s_Lshares f fd) (T : Txt mg) (Z : Cz K c)
    (D_Ldraw : Df P w K mg base "_law_draw" 1 ["_law_tape_here", "_law_many"] (F_Ldraw c)) : FnOk P w K mg base CX0 2 f fd ["_law_tape_here"] (spD K 1 (F_Lshares c)) :=
  fn_ok fin_ok F sc_Lshares fun cdv A outer s H E hr =>
    (show JSs _ _ (B_Lshares c) from (jsscons (jspar (i := 1) (j := 2) (by rfl) sc_Lshares.nd rfl rfl (by decide) rfl rfl (jacons (jfn D_Ldraw (hr.mono (by omega)) (jacons (jv (pv 0)) (jacons ji janil))) (jacons (jnew janil) janil)) (by rfl))
    (jsscons (jsfor PassesOwn.never rfl (pi_range1 (by rfl) T.z_range (jacons (jadd ji (jfn D_Ldraw (hr.mono (by omega)) (jacons (jv (pv 0)) (jacons (jix (jlst (jacons ji (jacons ji (jacons ji (jacons ji janil))))) (jv (pv 1))) janil)))) janil)) li_r1 (pg_name (i := 3) sc_Lshares.nd rfl (Or.inl rfl)) lg_nm
    (jsscons (jsset (i := 4) sc_Lshares.nd rfl (Or.inl rfl) (jtup (jacons (jadd ji (jfn D_Ldraw (hr.mono (by omega)) (jacons (jv (pv 0)) (jacons ji janil)))) (jacons (jadd ji (jfn D_Ldraw (hr.mono (by omega)) (jacons (jv (pv 0)) (jacons (jix (jlst (jacons ji (jacons ji (jacons ji (jacons ji janil))))) (jv (pv 1))) janil)))) janil))))
    (jsscons (jsset (i := 5) sc_Lshares.nd rfl (Or.inl rfl) (jfn D_Ldraw (hr.mono (by omega)) (jacons (jv (pv 0)) (jacons (jix (jlst (jacons ji (jacons ji janil))) (jfn D_Ldraw (hr.mono (by omega)) (jacons (jv (pv 0)) (jacons ji janil)))) janil))))
    (jssone (jsexpr (jbm PySem.F.plainAttrs_list PySem.F.slot_list_append PySem.F.type_list_append mt_append mtD_app (jv (pv 2)) (jacons (jaddT (jv (pv 4)) (jtup (jacons (jv (pv 5)) (jacons (jfn D_Ldraw (hr.mono (by omega)) (jacons (jv (pv 0)) (jacons (jix (jlst (jacons ji (jacons (jix (jlst (jacons ji (jacons ji janil))) (jct call_int1 cbD_int1 T.z_int (by decide +kernel) (jacons (jcmp (jgt (jv (pv 1)) ji)) janil))) janil))) (jfn D_Ldraw (hr.mono (by omega)) (jacons (jv (pv 0)) (jacons ji janil)))) janil))) janil)))) janil)))))))
    (jssone (jsret (jv (pv 2)))))))
end

/-! ### _law_asked_at -/
abbrev s_Lasked_at : Stmt := top 17
theorem sc_Lasked_at : FnScope ["_law_share", "_law_number"] ["_law_share", "_law_number"] (defScope s_Lasked_at) := ⟨rfl, rfl, rfl, by decide +kernel, rfl, by decide +kernel, by decide +kernel⟩
noncomputable def B_Lasked_at (c : Cs) : FS := (retS (op2D addO (op2D ixO (varD 0) (cD (.int 2))) (op2D fdivO (op2D mulO (varD 1) (op2D ixO (varD 0) (cD (.int 0)))) (op2D ixO (varD 0) (cD (.int 1))))))
noncomputable def F_Lasked_at (c : Cs) : Fn := bodyF fin 2 (B_Lasked_at c)
section
variable {P : Program} {w : World} {K : PySem.W.Frag} {mg : Str → Option Value} {base : Heap} {c : Cs}
theorem ok_Lasked_at {f : Addr} {fd : FuncData} (F : Fun K "_law_asked_at" "_law_asked_at" s_Lasked_at f fd) (T : Txt mg) (Z : Cz K c) : FnOk P w K mg base CX0 1 f fd ["_law_share", "_law_number"] (spD K 2 (F_Lasked_at c)) :=
  fn_ok fin_ok F sc_Lasked_at fun cdv A outer s H E hr =>
    (show JSs _ _ (B_Lasked_at c) from (jssone (jsret (jadd (jix (jv (pv 0)) ji) (jfdiv (jmul (jv (pv 1)) (jix (jv (pv 0)) ji)) (jix (jv (pv 0)) ji))))))
end

/-! ### _law_wishes_of -/
abbrev s_Lwishes_of : Stmt := top 20
theorem sc_Lwishes_of : FnScope ["_law_shares_here", "_law_most", "_law_beat", "_law_rows", "_law_turn", "_law_more", "_law_place", "_law_share", "_law_number"] ["_law_shares_here", "_law_most"] (defScope s_Lwishes_of) := ⟨rfl, rfl, rfl, by decide +kernel, rfl, by decide +kernel, by decide +kernel⟩
noncomputable def B_Lwishes_of (c : Cs) : FS := (seqS (parS 2 3 (consA (cD (.int 0)) (consA (lstD nilA) nilA)))
    (seqS (forS r1K (consA (varD 1) nilA) (nmG 4)
    (seqS (setS 5 (newD nilA))
    (seqS (forS enK (consA (varD 0) nilA) (tupG 2 (consG (nmG 6) (consG (nmG 7) nilG)))
    (forS r1K (consA (op2D mulO (cD (.int 6)) (op2D addO (varD 2) (cD (.int 1)))) nilA) (nmG 8)
    (ifS (tvD (op2D eqO (fnD (F_Lasked_at c) [] (consA (varD 7) (consA (varD 8) nilA))) (varD 2))) (dropS (bmD isLoc appO (varD 5) (consA (tupD (consA (varD 6) (consA (varD 8) (consA (tupD (consA (varD 2) (consA (op2D addO (varD 2) (op2D ixO (varD 7) (cD (.int 3)))) nilA))) nilA)))) nilA))) nextS)))
    (seqS (ifS (tvD (op2D (cmpO fun i j => decide (j < i)) (op2D addO (cbD lenO (consA (varD 3) nilA)) (cbD lenO (consA (varD 5) nilA))) (cD (.int 200)))) (retS (tupD (consA (cbD sortNO (consA (varD 3) nilA)) (consA (varD 2) nilA)))) nextS)
    (parS 3 2 (consA (op2D addO (varD 3) (varD 5)) (consA (op2D addO (varD 2) (cD (.int 1))) nilA)))))))
    (retS (tupD (consA (cbD sortNO (consA (varD 3) nilA)) (consA (varD 2) nilA))))))
noncomputable def F_Lwishes_of (c : Cs) : Fn := bodyF fin 9 (B_Lwishes_of c)
section
variable {P : Program} {w : World} {K : PySem.W.Frag} {mg : Str → Option Value} {base : Heap} {c : Cs}
theorem ok_Lwishes_of {f : Addr} {fd : FuncData} (F : Fun K "_law_wishes_of" "_law_wishes_of" s_Lwishes_of f fd) (T : Txt mg) (Z : Cz K c)
    (D_Lasked_at : Df P w K mg base "_law_asked_at" 1 ["_law_share", "_law_number"] (F_Lasked_at c)) : FnOk P w K mg base CX0 2 f fd ["_law_shares_here", "_law_most"] (spD K 2 (F_Lwishes_of c)) :=
  fn_ok fin_ok F sc_Lwishes_of fun cdv A outer s H E hr =>
    (show JSs _ _ (B_Lwishes_of c) from (jsscons (jspar (i := 2) (j := 3) (by rfl) sc_Lwishes_of.nd rfl rfl (by decide) rfl rfl (jacons ji (jacons (jlst janil) janil)) (by rfl))
    (jsscons (jsfor PassesOwn.never rfl (pi_range1 (by rfl) T.z_range (jacons (jv (pv 1)) janil)) li_r1 (pg_name (i := 4) sc_Lwishes_of.nd rfl (Or.inl rfl)) lg_nm
    (jsscons (jsset (i := 5) sc_Lwishes_of.nd rfl (Or.inl rfl) (jnew janil))
    (jsscons (jsfor PassesOwn.never rfl (pi_enum (by rfl) T.z_enumerate (jacons (jv (pv 0)) janil)) li_en (pg_tup rfl (pgs_cons (pg_name (i := 6) sc_Lwishes_of.nd rfl (Or.inl rfl)) (pgs_cons (pg_name (i := 7) sc_Lwishes_of.nd rfl (Or.inl rfl)) pgs_nil))) (lg_tup (lg_cons lg_nm (lg_cons lg_nm lg_nil)))
    (jssone (jsfor PassesOwn.never rfl (pi_range1 (by rfl) T.z_range (jacons (jmul ji (jadd (jv (pv 2)) ji)) janil)) li_r1 (pg_name (i := 8) sc_Lwishes_of.nd rfl (Or.inl rfl)) lg_nm
    (jssone (jsif (jteq (jfn D_Lasked_at (hr.mono (by omega)) (jacons (jv (pv 7)) (jacons (jv (pv 8)) janil))) (jv (pv 2))) (jssone (jsexpr (jbm PySem.F.plainAttrs_list PySem.F.slot_list_append PySem.F.type_list_append mt_append mtD_app (jv (pv 5)) (jacons (jtup (jacons (jv (pv 6)) (jacons (jv (pv 8)) (jacons (jtup (jacons (jv (pv 2)) (jacons (jadd (jv (pv 2)) (jix (jv (pv 7)) ji)) janil))) janil)))) janil)))) jssnil)))))
    (jsscons (jsif (jtcmp (jgt (jadd (jcb call_len cbD_len T.z_len (by decide +kernel) (jacons (jv (pv 3)) janil)) (jcb call_len cbD_len T.z_len (by decide +kernel) (jacons (jv (pv 5)) janil))) ji)) (jssone (jsret (jtup (jacons (jcb (cr_sortedN (un8 hr)) cbD_sortN T.z_sorted (by decide +kernel) (jacons (jv (pv 3)) janil)) (jacons (jv (pv 2)) janil))))) jssnil)
    (jssone (jspar (i := 3) (j := 2) (by rfl) sc_Lwishes_of.nd rfl rfl (by decide) rfl rfl (jacons (jadd (jv (pv 3)) (jv (pv 5))) (jacons (jadd (jv (pv 2)) ji) janil)) (by rfl)))))))
    (jssone (jsret (jtup (jacons (jcb (cr_sortedN (un8 hr)) cbD_sortN T.z_sorted (by decide +kernel) (jacons (jv (pv 3)) janil)) (jacons (jv (pv 2)) janil))))))))
end

/-! ### turns -/
abbrev s_turns : Stmt := top 9
theorem sc_turns : FnScope ["wishes", "mouth", "drawn", "coming", "came", "hot", "beat", "last", "number", "first"] ["wishes", "mouth"] (defScope s_turns) := ⟨rfl, rfl, rfl, by decide +kernel, rfl, by decide +kernel, by decide +kernel⟩
noncomputable def B_turns (c : Cs) : FS := (seqS (setS 2 (op2D mulNO (lstD (consA (cD .non) nilA)) (cbD lenO (consA (varD 0) nilA))))
    (seqS (setS 3 (cbD sortRO (consA (lcD enAK (consA (varD 0) nilA) (tupG 2 (consG (nmG 8) (consG (tupAG 2 (consG (nmG 9) (consG (nmG 7) nilG))) nilG))) yesT (tupD (consA (varD 9) (consA (varD 7) (consA (varD 8) nilA)))) [8, 9, 7]) nilA)))
    (seqS (setS 4 (cD (.int 0)))
    (seqS (setS 5 (newD nilA))
    (seqS (setS 6 (cD (.int 0)))
    (seqS (whileS (orD (truD (varD 5)) (tvD (op2D (cmpO fun i j => decide (i < j)) (varD 4) (cbD lenO (consA (varD 3) nilA))))) (seqS (ifS (notD (truD (varD 5))) (setS 6 (cbD max2O (consA (varD 6) (consA (op2D ixO (op2D ixO (varD 3) (varD 4)) (cD (.int 0))) nilA)))) nextS)
    (seqS (whileS (andD (tvD (op2D (cmpO fun i j => decide (i < j)) (varD 4) (cbD lenO (consA (varD 3) nilA)))) (tvD (op2D (cmpO fun i j => decide (i ≤ j)) (op2D ixO (op2D ixO (varD 3) (varD 4)) (cD (.int 0))) (varD 6)))) (seqS (dropS (bmD isLoc appO (varD 5) (consA (tupD (consA (op2D ixO (op2D ixO (varD 3) (varD 4)) (cD (.int 1))) (consA (op2D ixO (op2D ixO (varD 3) (varD 4)) (cD (.int 2))) nilA))) nilA)))
    (augS 4 (cD (.int 1)) (int0 fun i j => .int (i + j)))))
    (seqS (setS 5 (cbD sortRNO (consA (lcD sqK (oneA (varD 5)) (tupG 2 (consG (nmG 7) (consG (nmG 8) nilG))) (tvD (op2D (cmpO fun i j => decide (j ≤ i)) (varD 7) (varD 6))) (tupD (consA (varD 7) (consA (varD 8) nilA))) [7, 8]) nilA)))
    (seqS (forS sqK (oneA (slD slO (varD 5) noO (someO (varD 1)))) (tupG 2 (consG (nmG 7) (consG (nmG 8) nilG)))
    (asgS (varD 6) (subG setLO (varD 2) (varD 8))))
    (seqS (setS 5 (slD slNO (varD 5) (someO (varD 1)) noO))
    (augS 6 (cD (.int 1)) (int0 fun i j => .int (i + j)))))))))
    (retS (varD 2))))))))
noncomputable def F_turns (c : Cs) : Fn := bodyF finK 10 (B_turns c)
section
variable {P : Program} {w : World} {K : PySem.W.Frag} {mg : Str → Option Value} {base : Heap} {c : Cs}
theorem ok_turns {f : Addr} {fd : FuncData} {dvs : List V} (F : FunD K "turns" "turns" (defArgs s_turns) (defBody s_turns) (defScope s_turns) dvs [] f fd) (T : Txt mg) (Z : Cz K c) : FnOk P w K mg base CX0 1 f fd ["wishes", "mouth"] (spD K 2 (F_turns c)) :=
  fn_okD finK_ok F sc_turns fun cdv A outer s H E hr =>
    (show JSs _ _ (B_turns c) from (jsscons (jsset (i := 2) sc_turns.nd rfl (Or.inl rfl) (jmulN (jlst (jacons jn janil)) (jcb call_len cbD_len T.z_len (by decide +kernel) (jacons (jv (pv 0)) janil))))
    (jsscons (jsset (i := 3) sc_turns.nd rfl (Or.inl rfl) (jcb (cr_sortedRows (un8 hr)) cbD_sortR T.z_sorted (by decide +kernel) (jacons (jlc (own := [("number", 8), ("first", 9), ("last", 7)]) (gr := (gTup K 2 (gCons (gName 8) (gCons (gUnA K 2 (gCons (gName 9) (gCons (gName 7) gNil))) gNil)))) (ft := yesT) (f := (tupD (consA (varD 9) (consA (varD 7) (consA (varD 8) nilA))))) (by rfl) sc_turns.nd (pi_enumA (by rfl) T.z_enumerate (jacons (jv (pv 0)) janil)) li_enA (blkOk_by (own := [("number", 8), ("first", 9), ("last", 7)]) (N := ["wishes", "mouth", "drawn", "coming", "came", "hot", "beat", "last", "number", "first"]) (sc := defScope s_turns) (by decide +kernel)) (fun _ _ _ _ _ => (pg_tup rfl (pgs_cons (pg_name (i := 8) sc_turns.nd rfl (Or.inl rfl)) (pgs_cons (pg_unA rfl (pgs_cons (pg_name (i := 9) sc_turns.nd rfl (Or.inl rfl)) (pgs_cons (pg_name (i := 7) sc_turns.nd rfl (Or.inl rfl)) pgs_nil))) pgs_nil)))) (lw_tup (lw_cons lw_nm (lw_cons (lw_unA (lw_cons lw_nm (lw_cons lw_nm lw_nil))) lw_nil))) (fun _ _ _ _ _ => jtsnil) (fun _ _ _ _ _ => (jtup (jacons (jv (pv 9)) (jacons (jv (pv 7)) (jacons (jv (pv 8)) janil)))))) janil)))
    (jsscons (jsset (i := 4) sc_turns.nd rfl (Or.inl rfl) ji)
    (jsscons (jsset (i := 5) sc_turns.nd rfl (Or.inl rfl) (jnew janil))
    (jsscons (jsset (i := 6) sc_turns.nd rfl (Or.inr rfl) ji)
    (jsscons (jswhile PassesOwn.never (jwt (jwor (jtruth (jv (pv 5))) (jwor1 (jtcmp (jlt (jv (pv 4)) (jcb call_len cbD_len T.z_len (by decide +kernel) (jacons (jv (pv 3)) janil))))))) (jsscons (jsif (jtnot (jtruth (jv (pv 5)))) (jssone (jsset (i := 6) sc_turns.nd rfl (Or.inr rfl) (jcb (call_max2 rfl) cbD_max2 T.z_max (by decide +kernel) (jacons (jv (pv 6)) (jacons (jix (jix (jv (pv 3)) (jv (pv 4))) ji) janil))))) jssnil)
    (jsscons (jswhile PassesOwn.never (jwt (jwand (jtcmp (jlt (jv (pv 4)) (jcb call_len cbD_len T.z_len (by decide +kernel) (jacons (jv (pv 3)) janil)))) (jwand1 (jtcmp (jle (jix (jix (jv (pv 3)) (jv (pv 4))) ji) (jv (pv 6))))))) (jsscons (jsexpr (jbm PySem.F.plainAttrs_list PySem.F.slot_list_append PySem.F.type_list_append mt_append mtD_app (jv (pv 5)) (jacons (jtup (jacons (jix (jix (jv (pv 3)) (jv (pv 4))) ji) (jacons (jix (jix (jv (pv 3)) (jv (pv 4))) ji) janil))) janil)))
    (jssone (jsaug (i := 4) sc_turns.nd rfl (Or.inl rfl) ji ip_add opD_ip))))
    (jsscons (jsset (i := 5) sc_turns.nd rfl (Or.inl rfl) (jcb (cr_sortedRows (un8 hr)) cbD_sortRN T.z_sorted (by decide +kernel) (jacons (jlc (own := [("last", 7), ("number", 8)]) (gr := (gTup K 2 (gCons (gName 7) (gCons (gName 8) gNil)))) (ft := (tvD (op2D (cmpO fun i j => decide (j ≤ i)) (varD 7) (varD 6)))) (f := (tupD (consA (varD 7) (consA (varD 8) nilA)))) (by rfl) sc_turns.nd (pi_sq (jv (pv 5))) li_sq (blkOk_by (own := [("last", 7), ("number", 8)]) (N := ["wishes", "mouth", "drawn", "coming", "came", "hot", "beat", "last", "number", "first"]) (sc := defScope s_turns) (by decide +kernel)) (fun _ _ _ _ _ => (pg_tup rfl (pgs_cons (pg_name (i := 7) sc_turns.nd rfl (Or.inl rfl)) (pgs_cons (pg_name (i := 8) sc_turns.nd rfl (Or.inl rfl)) pgs_nil)))) (lw_tup (lw_cons lw_nm (lw_cons lw_nm lw_nil))) (fun _ _ _ _ _ => (jtsone (jtcmp (jge (jv (pv 7)) (jv (pv 6)))))) (fun _ _ _ _ _ => (jtup (jacons (jv (pv 7)) (jacons (jv (pv 8)) janil))))) janil)))
    (jsscons (jsfor PassesOwn.never rfl (pi_sq (jsl sl_any slD_any (jv (pv 5)) jonone (josome (jv (pv 1))))) li_sq (pg_tup rfl (pgs_cons (pg_name (i := 7) sc_turns.nd rfl (Or.inl rfl)) (pgs_cons (pg_name (i := 8) sc_turns.nd rfl (Or.inl rfl)) pgs_nil))) (lg_tup (lg_cons lg_nm (lg_cons lg_nm lg_nil)))
    (jssone (jsasg (jv (pv 6)) (pg_sub (jv (pv 2)) (jv (pv 8)) set_list) (lg_sub stD_L))))
    (jsscons (jsset (i := 5) sc_turns.nd rfl (Or.inl rfl) (jsl sl_list slD_N (jv (pv 5)) (josome (jv (pv 1))) jonone))
    (jssone (jsaug (i := 6) sc_turns.nd rfl (Or.inr rfl) ji ip_add opD_ip))))))))
    (jssone (jsret (jv (pv 2)))))))))))
end

/-! ### _law_turns_right -/
abbrev s_Lturns_right : Stmt := top 21
theorem sc_Lturns_right : FnScope ["_law_shares_here", "_law_mouth", "_law_told", "_law_rows", "_law_end", "_law_found", "_law_waits", "_law_last", "_law_place", "_law_number", "_law_wish", "_law_beat", "_law_row"] ["_law_shares_here", "_law_mouth", "_law_told"] (defScope s_Lturns_right) := ⟨rfl, rfl, rfl, by decide +kernel, rfl, by decide +kernel, by decide +kernel⟩
noncomputable def B_Lturns_right (c : Cs) : FS := (seqS (asgS (fnD (F_Lwishes_of c) [] (consA (varD 0) (consA (cD (.int 60)) nilA))) (tupG 2 (consG (nmG 3) (consG (nmG 4) nilG))))
    (seqS (setS 5 (fnD (F_turns c) [] (consA (lcD sqK (oneA (varD 3)) (tupG 3 (consG (nmG 8) (consG (nmG 9) (consG (nmG 10) nilG)))) yesT (varD 10) [8, 9, 10]) (consA (varD 1) nilA))))
    (seqS (ifS (tvD (op2D eqO (op2D ixO (varD 2) (cD (.int 0))) (cD (.str "kept")))) (seqS (setS 6 (lcD zpK2 (consA (varD 3) (consA (varD 5) nilA)) (tupG 2 (consG (nmG 12) (consG (nmG 11) nilG))) (tvD (op1D (isNO true) (varD 11))) (op2D subO (varD 11) (op2D ixO (op2D ixO (varD 12) (cD (.int 2))) (cD (.int 0)))) [12, 11]))
    (retS (andV (op2D ninseqO (cD .non) (varD 5)) (op2D (cmpO fun i j => decide (i ≤ j)) (cbD maxAO (consA (op2D addO (varD 6) (lstD (consA (cD (.int 0)) nilA))) nilA)) (op2D ixO (varD 2) (cD (.int 1))))))) nextS)
    (seqS (setS 7 (op2D addO (fnD (F_Lasked_at c) [] (consA (op2D ixO (varD 0) (op2D ixO (varD 2) (cD (.int 1)))) (consA (op2D ixO (varD 2) (cD (.int 2))) nilA))) (op2D ixO (op2D ixO (varD 0) (op2D ixO (varD 2) (cD (.int 1)))) (cD (.int 3)))))
    (seqS (forS zpK2 (consA (varD 3) (consA (varD 5) nilA)) (tupG 2 (consG (tupG 3 (consG (nmG 8) (consG (nmG 9) (consG (nmG 10) nilG)))) (consG (nmG 11) nilG)))
    (ifS (orD (andD (tvD (op2D (cmpO fun i j => decide (i < j)) (op2D ixO (varD 10) (cD (.int 1))) (varD 7))) (tvD (op1D (isNO false) (varD 11)))) (andD (tvD (op2D eqDO (tupD (consA (varD 8) (consA (varD 9) nilA))) (slD slTAO (varD 2) (someO (cD (.int 1))) noO))) (andD (tvD (op1D (isNO true) (varD 11))) (tvD (op2D (cmpO fun i j => decide (i < j)) (varD 7) (varD 4)))))) (retS (cD (.bl false))) nextS))
    (retS (cD (.bl true))))))))
noncomputable def F_Lturns_right (c : Cs) : Fn := bodyF fin 13 (B_Lturns_right c)
section
variable {P : Program} {w : World} {K : PySem.W.Frag} {mg : Str → Option Value} {base : Heap} {c : Cs}
theorem ok_Lturns_right {f : Addr} {fd : FuncData} (F : Fun K "_law_turns_right" "_law_turns_right" s_Lturns_right f fd) (T : Txt mg) (Z : Cz K c)
    (D_Lwishes_of : Df P w K mg base "_law_wishes_of" 2 ["_law_shares_here", "_law_most"] (F_Lwishes_of c))
    (D_turns : Df P w K mg base "turns" 1 ["wishes", "mouth"] (F_turns c))
    (D_Lasked_at : Df P w K mg base "_law_asked_at" 1 ["_law_share", "_law_number"] (F_Lasked_at c)) : FnOk P w K mg base CX0 3 f fd ["_law_shares_here", "_law_mouth", "_law_told"] (spD K 3 (F_Lturns_right c)) :=
  fn_ok fin_ok F sc_Lturns_right fun cdv A outer s H E hr =>
    (show JSs _ _ (B_Lturns_right c) from (jsscons (jsasg (jfn D_Lwishes_of (hr.mono (by omega)) (jacons (jv (pv 0)) (jacons ji janil))) (pg_tup rfl (pgs_cons (pg_name (i := 3) sc_Lturns_right.nd rfl (Or.inl rfl)) (pgs_cons (pg_name (i := 4) sc_Lturns_right.nd rfl (Or.inl rfl)) pgs_nil))) (lg_tup (lg_cons lg_nm (lg_cons lg_nm lg_nil))))
    (jsscons (jsset (i := 5) sc_Lturns_right.nd rfl (Or.inl rfl) (jfn D_turns (hr.mono (by omega)) (jacons (jlc (own := [("_law_place", 8), ("_law_number", 9), ("_law_wish", 10)]) (gr := (gTup K 3 (gCons (gName 8) (gCons (gName 9) (gCons (gName 10) gNil))))) (ft := yesT) (f := (varD 10)) (by rfl) sc_Lturns_right.nd (pi_sq (jv (pv 3))) li_sq (blkOk_by (own := [("_law_place", 8), ("_law_number", 9), ("_law_wish", 10)]) (N := ["_law_shares_here", "_law_mouth", "_law_told", "_law_rows", "_law_end", "_law_found", "_law_waits", "_law_last", "_law_place", "_law_number", "_law_wish", "_law_beat", "_law_row"]) (sc := defScope s_Lturns_right) (by decide +kernel)) (fun _ _ _ _ _ => (pg_tup rfl (pgs_cons (pg_name (i := 8) sc_Lturns_right.nd rfl (Or.inl rfl)) (pgs_cons (pg_name (i := 9) sc_Lturns_right.nd rfl (Or.inl rfl)) (pgs_cons (pg_name (i := 10) sc_Lturns_right.nd rfl (Or.inl rfl)) pgs_nil))))) (lw_tup (lw_cons lw_nm (lw_cons lw_nm (lw_cons lw_nm lw_nil)))) (fun _ _ _ _ _ => jtsnil) (fun _ _ _ _ _ => (jv (pv 10)))) (jacons (jv (pv 1)) janil))))
    (jsscons (jsif (jteq (jix (jv (pv 2)) ji) js) (jsscons (jssetLc (i := 6) (own := [("_law_row", 12), ("_law_beat", 11)]) (gr := (gTup K 2 (gCons (gName 12) (gCons (gName 11) gNil)))) (ft := (tvD (op1D (isNO true) (varD 11)))) (f := (op2D subO (varD 11) (op2D ixO (op2D ixO (varD 12) (cD (.int 2))) (cD (.int 0))))) (by rfl) sc_Lturns_right.nd rfl rfl (sw_true rfl rfl rfl (by decide +kernel)) (RZ.pi_zipA (by rfl) T.z_zip (jacons (jv (pv 3)) (jacons (jv (pv 5)) janil))) li_zp (blkOk_by (own := [("_law_row", 12), ("_law_beat", 11)]) (N := ["_law_shares_here", "_law_mouth", "_law_told", "_law_rows", "_law_end", "_law_found", "_law_waits", "_law_last", "_law_place", "_law_number", "_law_wish", "_law_beat", "_law_row"]) (sc := defScope s_Lturns_right) (by decide +kernel)) (fun _ _ _ _ _ => (pg_tup rfl (pgs_cons (pg_name (i := 12) sc_Lturns_right.nd rfl (Or.inl rfl)) (pgs_cons (pg_name (i := 11) sc_Lturns_right.nd rfl (Or.inl rfl)) pgs_nil)))) (lw_tup (lw_cons lw_nm (lw_cons lw_nm lw_nil))) (fun _ _ _ _ _ => (jtsone (jtcmp (jnotN (jv (pv 11)))))) (fun _ _ _ _ _ => (jsub (jv (pv 11)) (jix (jix (jv (pv 12)) ji) ji))))
    (jssone (jsret (jand (jninseq jn (jv (pv 5))) (jone (jcmp (jle (jcb (cr_maxA rfl) cbD_maxA T.z_max (by decide +kernel) (jacons (jadd (jv (pv 6)) (jlst (jacons ji janil))) janil)) (jix (jv (pv 2)) ji)))))))) jssnil)
    (jsscons (jsset (i := 7) sc_Lturns_right.nd rfl (Or.inl rfl) (jadd (jfn D_Lasked_at (hr.mono (by omega)) (jacons (jix (jv (pv 0)) (jix (jv (pv 2)) ji)) (jacons (jix (jv (pv 2)) ji) janil))) (jix (jix (jv (pv 0)) (jix (jv (pv 2)) ji)) ji)))
    (jsscons (jsfor PassesOwn.never rfl (RZ.pi_zipA (by rfl) T.z_zip (jacons (jv (pv 3)) (jacons (jv (pv 5)) janil))) li_zp (pg_tup rfl (pgs_cons (pg_tup rfl (pgs_cons (pg_name (i := 8) sc_Lturns_right.nd rfl (Or.inl rfl)) (pgs_cons (pg_name (i := 9) sc_Lturns_right.nd rfl (Or.inl rfl)) (pgs_cons (pg_name (i := 10) sc_Lturns_right.nd rfl (Or.inl rfl)) pgs_nil)))) (pgs_cons (pg_name (i := 11) sc_Lturns_right.nd rfl (Or.inl rfl)) pgs_nil))) (lg_tup (lg_cons (lg_tup (lg_cons lg_nm (lg_cons lg_nm (lg_cons lg_nm lg_nil)))) (lg_cons lg_nm lg_nil)))
    (jssone (jsif (jwt (jwor (jwt (jwand (jtcmp (jlt (jix (jv (pv 10)) ji) (jv (pv 7)))) (jwand1 (jtcmp (jisN (jv (pv 11))))))) (jwor1 (jwt (jwand (jteqD (un64 hr) (jtup (jacons (jv (pv 8)) (jacons (jv (pv 9)) janil))) (jsl sl_tupA slD_TA (jv (pv 2)) (josome ji) jonone)) (jwand (jtcmp (jnotN (jv (pv 11)))) (jwand1 (jtcmp (jlt (jv (pv 7)) (jv (pv 4))))))))))) (jssone (jsret jb)) jssnil)))
    (jssone (jsret jb))))))))
end

/-! ### _law_mixed -/
abbrev s_Lmixed : Stmt := top 15
theorem sc_Lmixed : FnScope ["_law_tape_here", "_law_some", "_law_rest", "_law_found"] ["_law_tape_here", "_law_some"] (defScope s_Lmixed) := ⟨rfl, rfl, rfl, by decide +kernel, rfl, by decide +kernel, by decide +kernel⟩
noncomputable def B_Lmixed (c : Cs) : FS := (seqS (parS 2 3 (consA (cbD listN (consA (varD 1) nilA)) (consA (newD nilA) nilA)))
    (seqS (whileS (tvD (op2D neDO (varD 2) (lstD nilA))) (dropS (bmD isLoc appO (varD 3) (consA (bmD isLoc popAtO (varD 2) (consA (fnD (F_Ldraw c) [] (consA (varD 0) (consA (cbD lenO (consA (varD 2) nilA)) nilA))) nilA)) nilA))))
    (retS (varD 3))))
noncomputable def F_Lmixed (c : Cs) : Fn := bodyF fin 4 (B_Lmixed c)
section
variable {P : Program} {w : World} {K : PySem.W.Frag} {mg : Str → Option Value} {base : Heap} {c : Cs}
theorem ok_Lmixed {f : Addr} {fd : FuncData} (F : Fun K "_law_mixed" "_law_mixed" s_Lmixed f fd) (T : Txt mg) (Z : Cz K c)
    (D_Ldraw : Df P w K mg base "_law_draw" 1 ["_law_tape_here", "_law_many"] (F_Ldraw c)) : FnOk P w K mg base CX0 2 f fd ["_law_tape_here", "_law_some"] (spD K 2 (F_Lmixed c)) :=
  fn_ok fin_ok F sc_Lmixed fun cdv A outer s H E hr =>
    (show JSs _ _ (B_Lmixed c) from (jsscons (jspar (i := 2) (j := 3) (by rfl) sc_Lmixed.nd rfl rfl (by decide) rfl rfl (jacons (jct call_list_of cbD_listN T.z_list (by decide +kernel) (jacons (jv (pv 1)) janil)) (jacons (jnew janil) janil)) (by rfl))
    (jsscons (jswhile PassesOwn.never (jtneD (un64 hr) (jv (pv 2)) (jlst janil)) (jssone (jsexpr (jbm PySem.F.plainAttrs_list PySem.F.slot_list_append PySem.F.type_list_append mt_append mtD_app (jv (pv 3)) (jacons (jbm PySem.F.plainAttrs_list PySem.F.slot_list_pop PySem.F.type_list_pop mt_popAt mtD_popAt (jv (pv 2)) (jacons (jfn D_Ldraw (hr.mono (by omega)) (jacons (jv (pv 0)) (jacons (jcb call_len cbD_len T.z_len (by decide +kernel) (jacons (jv (pv 2)) janil)) janil))) janil)) janil)))))
    (jssone (jsret (jv (pv 3)))))))
end

/-! ### _law_same -/
abbrev s_Lsame : Stmt := top 14
theorem sc_Lsame : FnScope ["_law_found", "_law_due", "_law_one", "_law_other"] ["_law_found", "_law_due"] (defScope s_Lsame) := ⟨rfl, rfl, rfl, by decide +kernel, rfl, by decide +kernel, by decide +kernel⟩
noncomputable def F_Lsame (c : Cs) : Nat → Fn
  | 0 => fun _ _ => none
  | n + 1 => bodyF fin 4 (seqS (ifS (tvD (cbD isiTO (consA (varD 1) (consA (tupD (consA (cD (.ty "list")) (consA (cD (.ty "tuple")) nilA))) nilA)))) (seqS (ifS (orD (tvD (op2D neO (cbD isiO (consA (varD 0) (consA (cD (.ty "list")) nilA))) (cbD isiO (consA (varD 1) (consA (cD (.ty "list")) nilA))))) (tvD (op2D neO (cbD isiO (consA (varD 0) (consA (cD (.ty "tuple")) nilA))) (cbD isiO (consA (varD 1) (consA (cD (.ty "tuple")) nilA)))))) (retS (cD (.bl false))) nextS)
    (retS (andV (op2D eqO (cbD lenO (consA (varD 0) nilA)) (cbD lenO (consA (varD 1) nilA))) (cbD allO (consA (lcD zpK2 (consA (varD 0) (consA (varD 1) nilA)) (tupG 2 (consG (nmG 2) (consG (nmG 3) nilG))) yesT (fnD (F_Lsame c n) [] (consA (varD 2) (consA (varD 3) nilA))) [2, 3]) nilA))))) nextS)
    (seqS (ifS (orD (tvD (op1D (isNO false) (varD 1))) (tvD (cbD isiTO (consA (varD 1) (consA (tupD (consA (cD (.ty "str")) (consA (cD (.ty "bool")) nilA))) nilA))))) (retS (andV (op2D eqO (cbD isiO (consA (varD 0) (consA (cD (.ty "bool")) nilA))) (cbD isiO (consA (varD 1) (consA (cD (.ty "bool")) nilA)))) (op2D eqO (varD 0) (varD 1)))) nextS)
    (retS (andV (cbD isiO (consA (varD 0) (consA (cD (.ty "int")) nilA))) (andV (notV (cbD isiO (consA (varD 0) (consA (cD (.ty "bool")) nilA)))) (op2D eqO (varD 0) (varD 1)))))))
section
variable {P : Program} {w : World} {K : PySem.W.Frag} {mg : Str → Option Value} {base : Heap} {c : Cs}
theorem ok_Lsame {f : Addr} {fd : FuncData} (F : Fun K "_law_same" "_law_same" s_Lsame f fd) (T : Txt mg) (Z : Cz K c) (hm : mg "_law_same" = some (.ref f)) (hb : Binds K fd ["_law_found", "_law_due"] []) :
    ∀ n : Nat, FnOk P w K mg base CX0 (1 + n) f fd ["_law_found", "_law_due"] (spD K 2 (F_Lsame c n))
  | 0 => ⟨fun _ _ _ _ h => spD_len h, fun _ _ _ _ _ _ _ _ _ _ _ _ _ h => by obtain ⟨_, _, _, _, _, _, _, _, e, _⟩ := h; cases e⟩
  | n + 1 => by
    have D_Lsame : Df P w K mg base "_law_same" (1 + n) ["_law_found", "_law_due"] (F_Lsame c n) := ⟨⟨_, _, ok_Lsame F T Z hm hb n, hm, F.kp, hb⟩⟩
    exact fn_ok fin_ok F sc_Lsame fun cdv A outer s H E hr => (jsscons (jsif (jtv (jcb call_isiT cbD_isiT T.z_isinstance (by decide +kernel) (jacons (jv (pv 1)) (jacons (jtup (jacons (jty T.z_list (by decide +kernel)) (jacons (jty T.z_tuple (by decide +kernel)) janil))) janil)))) (jsscons (jsif (jwt (jwor (jtne (jcb call_isi cbD_isi T.z_isinstance (by decide +kernel) (jacons (jv (pv 0)) (jacons (jty T.z_list (by decide +kernel)) janil))) (jcb call_isi cbD_isi T.z_isinstance (by decide +kernel) (jacons (jv (pv 1)) (jacons (jty T.z_list (by decide +kernel)) janil)))) (jwor1 (jtne (jcb call_isi cbD_isi T.z_isinstance (by decide +kernel) (jacons (jv (pv 0)) (jacons (jty T.z_tuple (by decide +kernel)) janil))) (jcb call_isi cbD_isi T.z_isinstance (by decide +kernel) (jacons (jv (pv 1)) (jacons (jty T.z_tuple (by decide +kernel)) janil))))))) (jssone (jsret jb)) jssnil)
    (jssone (jsret (jand (jeq (jcb call_len cbD_len T.z_len (by decide +kernel) (jacons (jv (pv 0)) janil)) (jcb call_len cbD_len T.z_len (by decide +kernel) (jacons (jv (pv 1)) janil))) (jone (jcb (cr_all rfl) cbD_all T.z_all (by decide +kernel) (jacons (jlc (own := [("_law_one", 2), ("_law_other", 3)]) (gr := (gTup K 2 (gCons (gName 2) (gCons (gName 3) gNil)))) (ft := yesT) (f := (fnD (F_Lsame c n) [] (consA (varD 2) (consA (varD 3) nilA)))) (by rfl) sc_Lsame.nd (RZ.pi_zipA (by rfl) T.z_zip (jacons (jv (pv 0)) (jacons (jv (pv 1)) janil))) li_zp (blkOk_by (own := [("_law_one", 2), ("_law_other", 3)]) (N := ["_law_found", "_law_due", "_law_one", "_law_other"]) (sc := defScope s_Lsame) (by decide +kernel)) (fun _ _ _ _ _ => (pg_tup rfl (pgs_cons (pg_name (i := 2) sc_Lsame.nd rfl (Or.inl rfl)) (pgs_cons (pg_name (i := 3) sc_Lsame.nd rfl (Or.inl rfl)) pgs_nil)))) (lw_tup (lw_cons lw_nm (lw_cons lw_nm lw_nil))) (fun _ _ _ _ _ => jtsnil) (fun _ _ _ _ _ => (jfn D_Lsame (hr.mono (Nat.le_refl _)) (jacons (jv (pv 2)) (jacons (jv (pv 3)) janil))))) janil))))))) jssnil)
    (jsscons (jsif (jwt (jwor (jtcmp (jisN (jv (pv 1)))) (jwor1 (jtv (jcb call_isiT cbD_isiT T.z_isinstance (by decide +kernel) (jacons (jv (pv 1)) (jacons (jtup (jacons (jty T.z_str (by decide +kernel)) (jacons (jty T.z_bool (by decide +kernel)) janil))) janil))))))) (jssone (jsret (jand (jeq (jcb call_isi cbD_isi T.z_isinstance (by decide +kernel) (jacons (jv (pv 0)) (jacons (jty T.z_bool (by decide +kernel)) janil))) (jcb call_isi cbD_isi T.z_isinstance (by decide +kernel) (jacons (jv (pv 1)) (jacons (jty T.z_bool (by decide +kernel)) janil)))) (jone (jeq (jv (pv 0)) (jv (pv 1))))))) jssnil)
    (jssone (jsret (jand (jcb call_isi cbD_isi T.z_isinstance (by decide +kernel) (jacons (jv (pv 0)) (jacons (jty T.z_int (by decide +kernel)) janil))) (jand (jnot (jcb call_isi cbD_isi T.z_isinstance (by decide +kernel) (jacons (jv (pv 0)) (jacons (jty T.z_bool (by decide +kernel)) janil)))) (jone (jeq (jv (pv 0)) (jv (pv 1))))))))))
end

/-! ### _law_moved_right -/
abbrev s_Lmoved_right : Stmt := top 18
theorem sc_Lmoved_right : FnScope ["_law_tape_here", "_law_shares_here", "_law_mouth", "_law_told", "_law_by", "_law_often", "_law_later", "_law_some", "_law_order", "_law_found", "_law_share", "_law_other"] ["_law_tape_here", "_law_shares_here", "_law_mouth", "_law_told"] (defScope s_Lmoved_right) := ⟨rfl, rfl, rfl, by decide +kernel, rfl, by decide +kernel, by decide +kernel⟩
noncomputable def B_Lmoved_right (c : Cs) : FS := (seqS (asgS (tupD (consA (op2D subO (cD (.int 40)) (cbD maxAO (consA (lcD sqK (oneA (varD 1)) (nmG 10) yesT (op2D ixO (varD 10) (cD (.int 2))) [10]) nilA))) (consA (op2D fdivO (cD (.int 6)) (cbD maxAO (consA (lcD sqK (oneA (varD 1)) (nmG 10) yesT (cbD maxAO (consA (slD slTAO (varD 10) noO (someO (cD (.int 2)))) nilA)) [10]) nilA))) nilA))) (tupG 2 (consG (nmG 4) (consG (nmG 5) nilG))))
    (seqS (setS 6 (lcD sqK (oneA (varD 1)) (nmG 10) yesT (op2D catTO (slD slTAO (varD 10) noO (someO (cD (.int 2)))) (tupD (consA (op2D addO (op2D ixO (varD 10) (cD (.int 2))) (varD 4)) (consA (op2D ixO (varD 10) (cD (.int 3))) nilA)))) [10]))
    (seqS (ifS (notD (tvD (fnD (F_Lsame c 8) [] (consA (fnD (F_for_ever c) [] (consA (varD 6) (consA (varD 2) nilA))) (consA (varD 3) nilA))))) (retS (cD (.bl false))) nextS)
    (seqS (setS 7 (lcD sqK (oneA (varD 1)) (nmG 10) yesT (op2D catTO (tupD (consA (op2D mulO (varD 5) (op2D ixO (varD 10) (cD (.int 0)))) (consA (op2D mulO (varD 5) (op2D ixO (varD 10) (cD (.int 1)))) nilA))) (slD slTAO (varD 10) (someO (cD (.int 2))) noO)) [10]))
    (seqS (ifS (notD (tvD (fnD (F_Lsame c 8) [] (consA (fnD (F_for_ever c) [] (consA (varD 7) (consA (varD 2) nilA))) (consA (varD 3) nilA))))) (retS (cD (.bl false))) nextS)
    (seqS (setS 8 (fnD (F_Lmixed c) [] (consA (varD 0) (consA (varD 1) nilA))))
    (seqS (setS 9 (fnD (F_for_ever c) [] (consA (varD 8) (consA (varD 2) nilA))))
    (seqS (ifS (orD (notD (tvD (cbD isiO (consA (varD 9) (consA (cD (.ty "tuple")) nilA))))) (tvD (op2D neO (op2D ixO (varD 9) (cD (.int 0))) (op2D ixO (varD 3) (cD (.int 0)))))) (retS (cD (.bl false))) nextS)
    (seqS (ifS (tvD (op2D eqO (op2D ixO (varD 3) (cD (.int 0))) (cD (.str "burnt")))) (seqS (parS 10 11 (consA (op2D ixO (varD 1) (op2D ixO (varD 3) (cD (.int 1)))) (consA (op2D ixO (varD 8) (op2D ixO (varD 9) (cD (.int 1)))) nilA)))
    (retS (op2D eqO (op2D addO (fnD (F_Lasked_at c) [] (consA (varD 10) (consA (op2D ixO (varD 3) (cD (.int 2))) nilA))) (op2D ixO (varD 10) (cD (.int 3)))) (op2D addO (fnD (F_Lasked_at c) [] (consA (varD 11) (consA (op2D ixO (varD 9) (cD (.int 2))) nilA))) (op2D ixO (varD 11) (cD (.int 3))))))) nextS)
    (retS (cD (.bl true))))))))))))
noncomputable def F_Lmoved_right (c : Cs) : Fn := bodyF fin 12 (B_Lmoved_right c)
section
variable {P : Program} {w : World} {K : PySem.W.Frag} {mg : Str → Option Value} {base : Heap} {c : Cs}
theorem ok_Lmoved_right {f : Addr} {fd : FuncData} (F : Fun K "_law_moved_right" "_law_moved_right" s_Lmoved_right f fd) (T : Txt mg) (Z : Cz K c)
    (D_Lmixed : Df P w K mg base "_law_mixed" 2 ["_law_tape_here", "_law_some"] (F_Lmixed c))
    (D_for_ever : Df P w K mg base "for_ever" 6 ["shares", "mouth"] (F_for_ever c))
    (D_Lsame : Df P w K mg base "_law_same" 9 ["_law_found", "_law_due"] (F_Lsame c 8))
    (D_Lasked_at : Df P w K mg base "_law_asked_at" 1 ["_law_share", "_law_number"] (F_Lasked_at c)) : FnOk P w K mg base CX0 10 f fd ["_law_tape_here", "_law_shares_here", "_law_mouth", "_law_told"] (spD K 4 (F_Lmoved_right c)) :=
  fn_ok fin_ok F sc_Lmoved_right fun cdv A outer s H E hr =>
    (show JSs _ _ (B_Lmoved_right c) from (jsscons (jsasg (jtup (jacons (jsub ji (jcb (cr_maxA rfl) cbD_maxA T.z_max (by decide +kernel) (jacons (jlc (own := [("_law_share", 10)]) (gr := (gName 10)) (ft := yesT) (f := (op2D ixO (varD 10) (cD (.int 2)))) (by rfl) sc_Lmoved_right.nd (pi_sq (jv (pv 1))) li_sq (blkOk_by (own := [("_law_share", 10)]) (N := ["_law_tape_here", "_law_shares_here", "_law_mouth", "_law_told", "_law_by", "_law_often", "_law_later", "_law_some", "_law_order", "_law_found", "_law_share", "_law_other"]) (sc := defScope s_Lmoved_right) (by decide +kernel)) (fun _ _ _ _ _ => (pg_name (i := 10) sc_Lmoved_right.nd rfl (Or.inl rfl))) lw_nm (fun _ _ _ _ _ => jtsnil) (fun _ _ _ _ _ => (jix (jv (pv 10)) ji))) janil))) (jacons (jfdiv ji (jcb (cr_maxA rfl) cbD_maxA T.z_max (by decide +kernel) (jacons (jlc (own := [("_law_share", 10)]) (gr := (gName 10)) (ft := yesT) (f := (cbD maxAO (consA (slD slTAO (varD 10) noO (someO (cD (.int 2)))) nilA))) (by rfl) sc_Lmoved_right.nd (pi_sq (jv (pv 1))) li_sq (blkOk_by (own := [("_law_share", 10)]) (N := ["_law_tape_here", "_law_shares_here", "_law_mouth", "_law_told", "_law_by", "_law_often", "_law_later", "_law_some", "_law_order", "_law_found", "_law_share", "_law_other"]) (sc := defScope s_Lmoved_right) (by decide +kernel)) (fun _ _ _ _ _ => (pg_name (i := 10) sc_Lmoved_right.nd rfl (Or.inl rfl))) lw_nm (fun _ _ _ _ _ => jtsnil) (fun _ _ _ _ _ => (jcb (cr_maxA rfl) cbD_maxA T.z_max (by decide +kernel) (jacons (jsl sl_tupA slD_TA (jv (pv 10)) jonone (josome ji)) janil)))) janil))) janil))) (pg_tup rfl (pgs_cons (pg_name (i := 4) sc_Lmoved_right.nd rfl (Or.inr rfl)) (pgs_cons (pg_name (i := 5) sc_Lmoved_right.nd rfl (Or.inr rfl)) pgs_nil))) (lg_tup (lg_cons lg_nm (lg_cons lg_nm lg_nil))))
    (jsscons (jssetLc (i := 6) (own := [("_law_share", 10)]) (gr := (gName 10)) (ft := yesT) (f := (op2D catTO (slD slTAO (varD 10) noO (someO (cD (.int 2)))) (tupD (consA (op2D addO (op2D ixO (varD 10) (cD (.int 2))) (varD 4)) (consA (op2D ixO (varD 10) (cD (.int 3))) nilA))))) (by rfl) sc_Lmoved_right.nd rfl rfl (sw_true rfl rfl rfl (by decide +kernel)) (pi_sq (jv (pv 1))) li_sq (blkOk_by (own := [("_law_share", 10)]) (N := ["_law_tape_here", "_law_shares_here", "_law_mouth", "_law_told", "_law_by", "_law_often", "_law_later", "_law_some", "_law_order", "_law_found", "_law_share", "_law_other"]) (sc := defScope s_Lmoved_right) (by decide +kernel)) (fun _ _ _ _ _ => (pg_name (i := 10) sc_Lmoved_right.nd rfl (Or.inl rfl))) lw_nm (fun _ _ _ _ _ => jtsnil) (fun _ _ _ _ _ => (jaddT (jsl sl_tupA slD_TA (jv (pv 10)) jonone (josome ji)) (jtup (jacons (jadd (jix (jv (pv 10)) ji) (jv (pv 4))) (jacons (jix (jv (pv 10)) ji) janil))))))
    (jsscons (jsif (jtnot (jtv (jfn D_Lsame (hr.mono (by omega)) (jacons (jfn D_for_ever (hr.mono (by omega)) (jacons (jv (pv 6)) (jacons (jv (pv 2)) janil))) (jacons (jv (pv 3)) janil))))) (jssone (jsret jb)) jssnil)
    (jsscons (jssetLc (i := 7) (own := [("_law_share", 10)]) (gr := (gName 10)) (ft := yesT) (f := (op2D catTO (tupD (consA (op2D mulO (varD 5) (op2D ixO (varD 10) (cD (.int 0)))) (consA (op2D mulO (varD 5) (op2D ixO (varD 10) (cD (.int 1)))) nilA))) (slD slTAO (varD 10) (someO (cD (.int 2))) noO))) (by rfl) sc_Lmoved_right.nd rfl rfl (sw_true rfl rfl rfl (by decide +kernel)) (pi_sq (jv (pv 1))) li_sq (blkOk_by (own := [("_law_share", 10)]) (N := ["_law_tape_here", "_law_shares_here", "_law_mouth", "_law_told", "_law_by", "_law_often", "_law_later", "_law_some", "_law_order", "_law_found", "_law_share", "_law_other"]) (sc := defScope s_Lmoved_right) (by decide +kernel)) (fun _ _ _ _ _ => (pg_name (i := 10) sc_Lmoved_right.nd rfl (Or.inl rfl))) lw_nm (fun _ _ _ _ _ => jtsnil) (fun _ _ _ _ _ => (jaddT (jtup (jacons (jmul (jv (pv 5)) (jix (jv (pv 10)) ji)) (jacons (jmul (jv (pv 5)) (jix (jv (pv 10)) ji)) janil))) (jsl sl_tupA slD_TA (jv (pv 10)) (josome ji) jonone))))
    (jsscons (jsif (jtnot (jtv (jfn D_Lsame (hr.mono (by omega)) (jacons (jfn D_for_ever (hr.mono (by omega)) (jacons (jv (pv 7)) (jacons (jv (pv 2)) janil))) (jacons (jv (pv 3)) janil))))) (jssone (jsret jb)) jssnil)
    (jsscons (jsset (i := 8) sc_Lmoved_right.nd rfl (Or.inl rfl) (jfn D_Lmixed (hr.mono (by omega)) (jacons (jv (pv 0)) (jacons (jv (pv 1)) janil))))
    (jsscons (jsset (i := 9) sc_Lmoved_right.nd rfl (Or.inl rfl) (jfn D_for_ever (hr.mono (by omega)) (jacons (jv (pv 8)) (jacons (jv (pv 2)) janil))))
    (jsscons (jsif (jwt (jwor (jtnot (jtv (jcb call_isi cbD_isi T.z_isinstance (by decide +kernel) (jacons (jv (pv 9)) (jacons (jty T.z_tuple (by decide +kernel)) janil))))) (jwor1 (jtne (jix (jv (pv 9)) ji) (jix (jv (pv 3)) ji))))) (jssone (jsret jb)) jssnil)
    (jsscons (jsif (jteq (jix (jv (pv 3)) ji) js) (jsscons (jspar (i := 10) (j := 11) (by rfl) sc_Lmoved_right.nd rfl rfl (by decide) rfl rfl (jacons (jix (jv (pv 1)) (jix (jv (pv 3)) ji)) (jacons (jix (jv (pv 8)) (jix (jv (pv 9)) ji)) janil)) (by rfl))
    (jssone (jsret (jeq (jadd (jfn D_Lasked_at (hr.mono (by omega)) (jacons (jv (pv 10)) (jacons (jix (jv (pv 3)) ji) janil))) (jix (jv (pv 10)) ji)) (jadd (jfn D_Lasked_at (hr.mono (by omega)) (jacons (jv (pv 11)) (jacons (jix (jv (pv 9)) ji) janil))) (jix (jv (pv 11)) ji)))))) jssnil)
    (jssone (jsret jb))))))))))))
end

/-! ### _law_kept_right -/
abbrev s_Lkept_right : Stmt := top 19
theorem sc_Lkept_right : FnScope ["_law_tape_here", "_law_shares_here", "_law_mouth", "_law_told", "_law_at", "_law_wider", "_law_word", "_law_wait", "_law_fewer"] ["_law_tape_here", "_law_shares_here", "_law_mouth", "_law_told"] (defScope s_Lkept_right) := ⟨rfl, rfl, rfl, by decide +kernel, rfl, by decide +kernel, by decide +kernel⟩
noncomputable def B_Lkept_right (c : Cs) : FS := (seqS (ifS (tvD (op2D eqO (op2D ixO (varD 3) (cD (.int 0))) (cD (.str "burnt")))) (retS (cD (.bl true))) nextS)
    (seqS (setS 4 (fnD (F_Ldraw c) [] (consA (varD 0) (consA (cbD lenO (consA (varD 1) nilA)) nilA))))
    (seqS (setS 5 (op2D addO (op2D addO (slD slO (varD 1) noO (someO (varD 4))) (lstD (consA (op2D catTO (slD slTAO (op2D ixO (varD 1) (varD 4)) noO (someO (cD (.int 3)))) (tupD (consA (cD (.int 20)) nilA))) nilA))) (slD slO (varD 1) (someO (op2D addO (varD 4) (cD (.int 1)))) noO)))
    (seqS (ifS (tvD (op2D neO (op2D ixO (fnD (F_for_ever c) [] (consA (varD 5) (consA (varD 2) nilA))) (cD (.int 0))) (cD (.str "kept")))) (retS (cD (.bl false))) nextS)
    (seqS (ifS (tvD (op2D (cmpO fun i j => decide (i < j)) (varD 2) (cD (.int 4)))) (seqS (asgS (slD slTAO (fnD (F_for_ever c) [] (consA (varD 1) (consA (op2D addO (varD 2) (cD (.int 1))) nilA))) noO (someO (cD (.int 2)))) (tupG 2 (consG (nmG 6) (consG (nmG 7) nilG))))
    (ifS (orD (tvD (op2D neO (varD 6) (cD (.str "kept")))) (tvD (op2D (cmpO fun i j => decide (j < i)) (varD 7) (op2D ixO (varD 3) (cD (.int 1)))))) (retS (cD (.bl false))) nextS)) nextS)
    (seqS (setS 8 (op2D addO (slD slO (varD 1) noO (someO (varD 4))) (slD slO (varD 1) (someO (op2D addO (varD 4) (cD (.int 1)))) noO)))
    (retS (orV (op2D eqDO (varD 8) (lstD nilA)) (op2D eqO (op2D ixO (fnD (F_for_ever c) [] (consA (varD 8) (consA (varD 2) nilA))) (cD (.int 0))) (cD (.str "kept")))))))))))
noncomputable def F_Lkept_right (c : Cs) : Fn := bodyF fin 9 (B_Lkept_right c)
section
variable {P : Program} {w : World} {K : PySem.W.Frag} {mg : Str → Option Value} {base : Heap} {c : Cs}
theorem ok_Lkept_right {f : Addr} {fd : FuncData} (F : Fun K "_law_kept_right" "_law_kept_right" s_Lkept_right f fd) (T : Txt mg) (Z : Cz K c)
    (D_Ldraw : Df P w K mg base "_law_draw" 1 ["_law_tape_here", "_law_many"] (F_Ldraw c))
    (D_for_ever : Df P w K mg base "for_ever" 6 ["shares", "mouth"] (F_for_ever c)) : FnOk P w K mg base CX0 7 f fd ["_law_tape_here", "_law_shares_here", "_law_mouth", "_law_told"] (spD K 4 (F_Lkept_right c)) :=
  fn_ok fin_ok F sc_Lkept_right fun cdv A outer s H E hr =>
    (show JSs _ _ (B_Lkept_right c) from (jsscons (jsif (jteq (jix (jv (pv 3)) ji) js) (jssone (jsret jb)) jssnil)
    (jsscons (jsset (i := 4) sc_Lkept_right.nd rfl (Or.inl rfl) (jfn D_Ldraw (hr.mono (by omega)) (jacons (jv (pv 0)) (jacons (jcb call_len cbD_len T.z_len (by decide +kernel) (jacons (jv (pv 1)) janil)) janil))))
    (jsscons (jsset (i := 5) sc_Lkept_right.nd rfl (Or.inl rfl) (jadd (jadd (jsl sl_any slD_any (jv (pv 1)) jonone (josome (jv (pv 4)))) (jlst (jacons (jaddT (jsl sl_tupA slD_TA (jix (jv (pv 1)) (jv (pv 4))) jonone (josome ji)) (jtup (jacons ji janil))) janil))) (jsl sl_any slD_any (jv (pv 1)) (josome (jadd (jv (pv 4)) ji)) jonone)))
    (jsscons (jsif (jtne (jix (jfn D_for_ever (hr.mono (by omega)) (jacons (jv (pv 5)) (jacons (jv (pv 2)) janil))) ji) js) (jssone (jsret jb)) jssnil)
    (jsscons (jsif (jtcmp (jlt (jv (pv 2)) ji)) (jsscons (jsasg (jsl sl_tupA slD_TA (jfn D_for_ever (hr.mono (by omega)) (jacons (jv (pv 1)) (jacons (jadd (jv (pv 2)) ji) janil))) jonone (josome ji)) (pg_tup rfl (pgs_cons (pg_name (i := 6) sc_Lkept_right.nd rfl (Or.inl rfl)) (pgs_cons (pg_name (i := 7) sc_Lkept_right.nd rfl (Or.inl rfl)) pgs_nil))) (lg_tup (lg_cons lg_nm (lg_cons lg_nm lg_nil))))
    (jssone (jsif (jwt (jwor (jtne (jv (pv 6)) js) (jwor1 (jtcmp (jgt (jv (pv 7)) (jix (jv (pv 3)) ji)))))) (jssone (jsret jb)) jssnil))) jssnil)
    (jsscons (jsset (i := 8) sc_Lkept_right.nd rfl (Or.inl rfl) (jadd (jsl sl_any slD_any (jv (pv 1)) jonone (josome (jv (pv 4)))) (jsl sl_any slD_any (jv (pv 1)) (josome (jadd (jv (pv 4)) ji)) jonone)))
    (jssone (jsret (jor (jeqD (un64 hr) (jv (pv 8)) (jlst janil)) (jone (jeq (jix (jfn D_for_ever (hr.mono (by omega)) (jacons (jv (pv 8)) (jacons (jv (pv 2)) janil))) ji) js))))))))))))
end

/-! ### law -/
abbrev s_law : Stmt := top 22
theorem sc_law : FnScope ["_law_script", "_law_cells", "_law_k", "_law_tape_here", "_law_shares_here", "_law_mouth", "_law_told"] ["_law_script"] (defScope s_law) := ⟨rfl, rfl, rfl, by decide +kernel, rfl, by decide +kernel, by decide +kernel⟩
noncomputable def B_law (c : Cs) : FS := (seqS (setS 1 (fnD (F_Lfolded c) [] (consA (varD 0) (consA (cD (.int 3)) nilA))))
    (seqS (forS r1K (consA (cbD max2O (consA (cD (.int 1)) (consA (cbD lenO (consA (varD 1) nilA)) nilA))) nilA) (nmG 2)
    (seqS (setS 3 (fnD (F_Ltape c) [] (consA (varD 1) (consA (varD 2) nilA))))
    (seqS (parS 4 5 (consA (fnD (F_Lshares c) [] (consA (varD 3) nilA)) (consA (op2D addO (cD (.int 1)) (fnD (F_Ldraw c) [] (consA (varD 3) (consA (cD (.int 4)) nilA)))) nilA)))
    (seqS (setS 6 (fnD (F_for_ever c) [] (consA (varD 4) (consA (varD 5) nilA))))
    (seqS (ifS (orD (notD (tvD (fnD (F_Lmoved_right c) [] (consA (varD 3) (consA (varD 4) (consA (varD 5) (consA (varD 6) nilA))))))) (notD (tvD (fnD (F_Lkept_right c) [] (consA (varD 3) (consA (varD 4) (consA (varD 5) (consA (varD 6) nilA)))))))) (retS (cD (.bl false))) nextS)
    (ifS (notD (tvD (fnD (F_Lturns_right c) [] (consA (varD 4) (consA (varD 5) (consA (varD 6) nilA)))))) (retS (cD (.bl false))) nextS))))))
    (retS (cD (.bl true)))))
noncomputable def F_law (c : Cs) : Fn := bodyF fin 7 (B_law c)
section
variable {P : Program} {w : World} {K : PySem.W.Frag} {mg : Str → Option Value} {base : Heap} {c : Cs}
theorem ok_law {f : Addr} {fd : FuncData} (F : Fun K "law" "law" s_law f fd) (T : Txt mg) (Z : Cz K c)
    (D_Lfolded : Df P w K mg base "_law_folded" 1 ["_law_script", "_law_many"] (F_Lfolded c))
    (D_Ltape : Df P w K mg base "_law_tape" 1 ["_law_script", "_law_k"] (F_Ltape c))
    (D_for_ever : Df P w K mg base "for_ever" 6 ["shares", "mouth"] (F_for_ever c))
    (D_Lshares : Df P w K mg base "_law_shares" 2 ["_law_tape_here"] (F_Lshares c))
    (D_Lturns_right : Df P w K mg base "_law_turns_right" 3 ["_law_shares_here", "_law_mouth", "_law_told"] (F_Lturns_right c))
    (D_Ldraw : Df P w K mg base "_law_draw" 1 ["_law_tape_here", "_law_many"] (F_Ldraw c))
    (D_Lmoved_right : Df P w K mg base "_law_moved_right" 10 ["_law_tape_here", "_law_shares_here", "_law_mouth", "_law_told"] (F_Lmoved_right c))
    (D_Lkept_right : Df P w K mg base "_law_kept_right" 7 ["_law_tape_here", "_law_shares_here", "_law_mouth", "_law_told"] (F_Lkept_right c)) : FnOk P w K mg base CX0 11 f fd ["_law_script"] (spD K 1 (F_law c)) :=
  fn_ok fin_ok F sc_law fun cdv A outer s H E hr =>
    (show JSs _ _ (B_law c) from (jsscons (jsset (i := 1) sc_law.nd rfl (Or.inl rfl) (jfn D_Lfolded (hr.mono (by omega)) (jacons (jv (pv 0)) (jacons ji janil))))
    (jsscons (jsfor PassesOwn.never rfl (pi_range1 (by rfl) T.z_range (jacons (jcb (call_max2 rfl) cbD_max2 T.z_max (by decide +kernel) (jacons ji (jacons (jcb call_len cbD_len T.z_len (by decide +kernel) (jacons (jv (pv 1)) janil)) janil))) janil)) li_r1 (pg_name (i := 2) sc_law.nd rfl (Or.inl rfl)) lg_nm
    (jsscons (jsset (i := 3) sc_law.nd rfl (Or.inl rfl) (jfn D_Ltape (hr.mono (by omega)) (jacons (jv (pv 1)) (jacons (jv (pv 2)) janil))))
    (jsscons (jspar (i := 4) (j := 5) (by rfl) sc_law.nd rfl rfl (by decide) rfl rfl (jacons (jfn D_Lshares (hr.mono (by omega)) (jacons (jv (pv 3)) janil)) (jacons (jadd ji (jfn D_Ldraw (hr.mono (by omega)) (jacons (jv (pv 3)) (jacons ji janil)))) janil)) (by rfl))
    (jsscons (jsset (i := 6) sc_law.nd rfl (Or.inl rfl) (jfn D_for_ever (hr.mono (by omega)) (jacons (jv (pv 4)) (jacons (jv (pv 5)) janil))))
    (jsscons (jsif (jwt (jwor (jtnot (jtv (jfn D_Lmoved_right (hr.mono (by omega)) (jacons (jv (pv 3)) (jacons (jv (pv 4)) (jacons (jv (pv 5)) (jacons (jv (pv 6)) janil))))))) (jwor1 (jtnot (jtv (jfn D_Lkept_right (hr.mono (by omega)) (jacons (jv (pv 3)) (jacons (jv (pv 4)) (jacons (jv (pv 5)) (jacons (jv (pv 6)) janil)))))))))) (jssone (jsret jb)) jssnil)
    (jssone (jsif (jtnot (jtv (jfn D_Lturns_right (hr.mono (by omega)) (jacons (jv (pv 4)) (jacons (jv (pv 5)) (jacons (jv (pv 6)) janil)))))) (jssone (jsret jb)) jssnil)))))))
    (jssone (jsret jb)))))
end

end HP
namespace HP
open PySem L2 DL
local macro_rules | `(tactic| walk_at "ev") => `(tactic| simp only [fits_iff, varD_ap, cD_ap, op2D_ap, op1D_ap, tvD_ap, truD_ap, notD_ap, andD_ap, orD_ap, andV_ap, orV_ap, notV_ap, iteV_ap, chainD_ap, nilA_ap, consA_ap, oneA_ap, tupD_ap, lstD_ap, newD_ap, noO_ap, someO_ap, slD_ap, cbD_ap, fnD_ap, methD_ap, mkD_ap, bmD_ap, fldD_ap, nextS_ap, onNx_nx, onNx_rt, onNx_bk, onNx_ct, seqS_ap, ifS_ap, retS_ap, retNS_ap, dropS_ap, asgS_ap, setS_ap, parS_ap, parS3_ap, augS_ap, fldS_ap, nmG_ap, nilG_ap, consG_ap, tupG_ap, subG_ap, forS_ap, lcD_ap, lcDN_ap, bodyF_ap, endB_rt, endB_nx, finK_ap, isB_bl, isI_int, cmpO_int, int0_int, addO_int, subO_int, mulO_int, modO_int, fdivO_int, powO_int, obL_lst, obI_ins, ixv_lst, ixv_rol, ixv_tup, ixv_str, isStrv, lsv_lst, lsv_rol, lsv_tup, lsv_loc, plv_lst, plv_loc, tpv_tup, sqv_lst, sqv_rol, sqv_tup, sqv_loc, ixv_loc, setL_loc, app_loc, isLoc_loc, fsv_loc, fsv_ins, tyv_loc, tyv_non, tyv_bl, tyv_int, tyv_str, tyv_tup, tyv_lst, truv_loc, isNv_non, isNv_int, isNv_lst, isNv_loc, isNv_tup, isNv_rol, sqK_1, enK_1, r1K_1, r2K_1, lenv_lst, lenv_rol, lenv_tup, lenv_loc, lenv_str, absv, max2v, min2v, int1v_i, int1v_b, tuplev_lst, tuplev_tup, eqv_int, eqv_str, eqv_bl, nev_int, nev_bl, isN_ap, isiv, isiTv, allv, anyv, sortv, addv_ll, addv_cl, addv_str, mulv_li, slv_lst, slv_loc, atI_0,
  bd_some, bd_none, Option.bind_some, Option.bind_none, List.map_cons, List.map_nil, List.cons_append, List.nil_append, List.append_nil, List.length_cons, List.length_nil, List.replicate_succ, List.replicate_zero, Nat.reduceAdd, Nat.reduceSub, List.getElem?_cons_succ, List.getElem?_cons_zero, List.set_cons_succ, List.set_cons_zero, List.set_nil, List.isEmpty_nil, List.isEmpty_cons, Bool.and_true, Bool.and_false, Bool.true_and, Bool.false_and, false_and, and_false, if_true, if_false, decide_true, decide_false, Bool.false_eq_true, reduceIte, ite_true, ite_false, Nat.reduceLeDiff, Nat.reduceLT, Nat.zero_add, Option.isSome_some, Bool.not_true, Bool.not_false, and_self, true_and, and_true, or_true, true_or, not_true, not_false_eq_true])
local macro_rules | `(tactic| walk_at "ev*") => `(tactic| simp only [fits_iff, varD_ap, cD_ap, op2D_ap, op1D_ap, tvD_ap, truD_ap, notD_ap, andD_ap, orD_ap, andV_ap, orV_ap, notV_ap, iteV_ap, chainD_ap, nilA_ap, consA_ap, oneA_ap, tupD_ap, lstD_ap, newD_ap, noO_ap, someO_ap, slD_ap, cbD_ap, fnD_ap, methD_ap, mkD_ap, bmD_ap, fldD_ap, nextS_ap, onNx_nx, onNx_rt, onNx_bk, onNx_ct, seqS_ap, ifS_ap, retS_ap, retNS_ap, dropS_ap, asgS_ap, setS_ap, parS_ap, parS3_ap, augS_ap, fldS_ap, nmG_ap, nilG_ap, consG_ap, tupG_ap, subG_ap, forS_ap, lcD_ap, lcDN_ap, bodyF_ap, endB_rt, endB_nx, finK_ap, isB_bl, isI_int, cmpO_int, int0_int, addO_int, subO_int, mulO_int, modO_int, fdivO_int, powO_int, obL_lst, obI_ins, ixv_lst, ixv_rol, ixv_tup, ixv_str, isStrv, lsv_lst, lsv_rol, lsv_tup, lsv_loc, plv_lst, plv_loc, tpv_tup, sqv_lst, sqv_rol, sqv_tup, sqv_loc, ixv_loc, setL_loc, app_loc, isLoc_loc, fsv_loc, fsv_ins, tyv_loc, tyv_non, tyv_bl, tyv_int, tyv_str, tyv_tup, tyv_lst, truv_loc, isNv_non, isNv_int, isNv_lst, isNv_loc, isNv_tup, isNv_rol, sqK_1, enK_1, r1K_1, r2K_1, lenv_lst, lenv_rol, lenv_tup, lenv_loc, lenv_str, absv, max2v, min2v, int1v_i, int1v_b, tuplev_lst, tuplev_tup, eqv_int, eqv_str, eqv_bl, nev_int, nev_bl, isN_ap, isiv, isiTv, allv, anyv, sortv, addv_ll, addv_cl, addv_str, mulv_li, slv_lst, slv_loc, atI_0,
  bd_some, bd_none, Option.bind_some, Option.bind_none, List.map_cons, List.map_nil, List.cons_append, List.nil_append, List.append_nil, List.length_cons, List.length_nil, List.replicate_succ, List.replicate_zero, Nat.reduceAdd, Nat.reduceSub, List.getElem?_cons_succ, List.getElem?_cons_zero, List.set_cons_succ, List.set_cons_zero, List.set_nil, List.isEmpty_nil, List.isEmpty_cons, Bool.and_true, Bool.and_false, Bool.true_and, Bool.false_and, false_and, and_false, if_true, if_false, decide_true, decide_false, Bool.false_eq_true, reduceIte, ite_true, ite_false, Nat.reduceLeDiff, Nat.reduceLT, Nat.zero_add, Option.isSome_some, Bool.not_true, Bool.not_false, and_self, true_and, and_true, or_true, true_or, not_true, not_false_eq_true, *])
/-! ### a tape at a place -/
def TapeD (a b k : Int) : Ob := .lst [.int a, .int b, .int k]
structure TapeOk (a b k n : Int) : Prop where
  a0 : 0 ≤ a
  b0 : 0 ≤ b
  b1 : b ≤ 2305843009300000000
  k0 : 0 ≤ k
  k1 : k ≤ n
theorem draw_ok (c : Cs) {S : Sg} {t : Nat} {a b k n many : Int} (h : S[t]? = some (TapeD a b k)) (T : TapeOk a b k n) (hn : n ≤ 1000000) (hm : 0 < many) (hm2 : many ≤ 10000000000000) :
    ∃ r a' k', F_Ldraw c [.loc t, .int many] S = some (.int r, S.set t (TapeD a' b k')) ∧ 0 ≤ r ∧ r < many ∧ TapeOk a' b k' (n + 1) := by
  obtain ⟨a0, b0, b1, k0, k1⟩ := T
  unfold TapeD at h ⊢
  have ht : t < S.length := (List.getElem?_eq_some_iff.mp h).1
  have hm3 : DivB many := divP (by omega)
  have e1 : ∀ x y z : D, atI [x, y, z] 1 = some y := fun _ _ _ => rfl
  have e2 : ∀ x y z : D, atI [x, y, z] 2 = some z := fun _ _ _ => rfl
  have i0 : ixN 3 0 = some 0 := rfl
  have i2 : ixN 3 2 = some 2 := rfl
  have l3 : ∀ (x : Ob), (S.set t x).length = S.length := fun x => List.length_set
  have g3 : ∀ x, (S.set t x)[t]? = some x := fun x => List.getElem?_set_self ht
  by_cases ca : 0 < a
  · refine ⟨a % many, a / many, k, ?_, Int.emod_nonneg _ (by omega), Int.emod_lt_of_pos _ hm, ⟨Int.ediv_nonneg a0 (by omega), b0, b1, k0, by omega⟩⟩
    unfold F_Ldraw B_Ldraw
    walk_at "ev*"
    exact fin_eq _ _ (l3 _)
  · have cb : decide (0 < a) = false := decide_eq_false ca
    unfold F_Ldraw B_Ldraw
    have p1 : PowB (b + 39373 * (k + 1)) 5 := powP (by omega)
    have p2 : MulB 39373 (k + 1) := mulL (by omega)
    have p3 : (0 : Int) < 2147483647 ∧ (0 : Int) < 40009 ∧ (0 : Int) < 2147483629 ∧ (0 : Int) < 2305843009213693951 ∧ (0 : Int) < 2305843009213693921 ∧ (0 : Int) < 64 := by omega
    obtain ⟨q1, q2, q3, q4, q5, q6⟩ := p3
    have p4 : ∀ x y : Int, MulB (x % 2147483647 + (k + 1)) y := fun x y => mulL (by omega)
    have p5 : ∀ x : Int, MulB (x % 2147483629) 40009 := fun x => mulR (by omega)
    have p6 : ∀ x : Int, MulB (x % 2147483629) 48271 := fun x => mulR (by omega)
    have p7 : ∀ x : Int, MulB (x % 2305843009213693951) 39373 := fun x => mulR (by omega)
    have p8 : DivB 2147483647 := divP (by omega)
    have p9 : DivB 64 := divP (by omega)
    walk_at "ev*"
    exact ⟨_, a, k + 1, fin_eq _ _ (l3 _), Int.emod_nonneg _ (by omega), Int.emod_lt_of_pos _ hm, ⟨a0, b0, b1, by omega, by omega⟩⟩
theorem map_at {ns : List Int} {k : Int} (h0 : 0 ≤ k) (h1 : k < ((ns.map D.int).length : Int)) : ∃ z, atI (ns.map D.int) k = some (D.int z) := by
  obtain ⟨j, rfl⟩ := Int.eq_ofNat_of_zero_le h0
  rw [List.length_map] at h1
  refine ⟨ns[j]'(by omega), ?_⟩
  rw [atI_ofNat, List.getElem?_map, List.getElem?_eq_getElem (show j < ns.length by omega)]
  rfl
theorem kb1 : kitB "int" "int" = some true := by decide +kernel
theorem kb2 : kitB "int" "bool" = some false := by decide +kernel
theorem kb3 : kitB "list" "list" = some true := by decide +kernel
theorem kb4 : kitB "tuple" "list" = some false := by decide +kernel
theorem kb5 : kitB "tuple" "tuple" = some true := by decide +kernel
theorem kb6 : kitB "str" "str" = some true := by decide +kernel
theorem kl1 : kitL "list" ["list", "tuple"] = some true := by decide +kernel
theorem kl2 : kitL "tuple" ["list", "tuple"] = some true := by decide +kernel
theorem ty2 : tysOf [.ty "list", .ty "tuple"] = some ["list", "tuple"] := rfl
theorem enum_at {ds : List D} {i : Nat} {x : D} (h : (enumL ds)[i]? = some x) : ∃ d, ds[i]? = some d ∧ x = .tup [.int (i : Int), d] := by
  have hi : i < ds.length := by
    have := (List.getElem?_eq_some_iff.mp h).1
    rwa [enumL_len] at this
  refine ⟨ds[i], List.getElem?_eq_getElem hi, ?_⟩
  rw [enumL_get (List.getElem?_eq_getElem hi)] at h
  exact (Option.some.inj h).symm
theorem set_self {α : Type} {S : List α} {n : Nat} {x : α} (h : S[n]? = some x) : S.set n x = S := by
  obtain ⟨hn, e⟩ := List.getElem?_eq_some_iff.mp h
  refine List.ext_getElem? fun i => ?_
  by_cases hi : n = i
  · subst hi; rw [List.getElem?_set_self hn, h]
  · rw [List.getElem?_set_ne hi]
def lifeD : Option Int → D
  | none => .non
  | some l => .int l
theorem oldL_ints (n : Nat) : ∀ ns : List Int, oldL n (ns.map .int) = true
  | [] => rfl
  | x :: ns => by show (old n (.int x) && oldL n (ns.map .int)) = true; rw [oldL_ints n ns]; rfl
def Cl (S : Sg) : Prop := S.all (oldO S.length) = true
theorem Cl.set {S : Sg} (h : Cl S) (n : Nat) {o : Ob} (ho : oldO S.length o = true) : Cl (S.set n o) := by
  unfold Cl at h ⊢
  rw [List.all_eq_true] at h ⊢
  rw [List.length_set]
  intro x hx
  rcases List.mem_or_eq_of_mem_set hx with hx | rfl
  · exact h x hx
  · exact ho
theorem fin_cut {S : Sg} {d d' : D} {o : List Ob} (ho : o ≠ []) (hf : frz (S ++ o) S.length d = some d') (hc : Cl S) : fin S.length d (S ++ o) = some (d', S) := by
  unfold fin
  rw [if_neg (by intro h; rw [List.length_append] at h; exact ho (List.length_eq_zero_iff.mp (by omega))), hf]
  show (if ((S ++ o).take S.length).all (oldO S.length) = true then some (d', (S ++ o).take S.length) else none) = _
  rw [List.take_left' rfl, if_pos (show S.all (oldO S.length) = true from hc)]
/-! ### pieces passed -/
mutual
theorem old_mono {n m : Nat} (h : n ≤ m) : ∀ d : D, old n d = true → old m d = true
  | .tup ds, q => by unfold old at q ⊢; exact oldL_mono h ds q
  | .lst ds, q => by unfold old at q ⊢; exact oldL_mono h ds q
  | .rol ds, q => by unfold old at q ⊢; exact oldL_mono h ds q
  | .ins _ _ ds, q => by unfold old at q ⊢; exact oldL_mono h ds q
  | .dic _ ds, q => by unfold old at q ⊢; exact oldL_mono h ds q
  | .loc k, q => by
    unfold old at q ⊢
    have := of_decide_eq_true q
    exact decide_eq_true (by omega)
  | .non, _ => rfl
  | .bl _, _ => rfl
  | .int _, _ => rfl
  | .str _, _ => rfl
  | .ty _, _ => rfl
theorem oldL_mono {n m : Nat} (h : n ≤ m) : ∀ ds : List D, oldL n ds = true → oldL m ds = true
  | [], _ => rfl
  | d :: ds, q => by
    unfold oldL at q ⊢
    rw [Bool.and_eq_true] at q ⊢
    exact ⟨old_mono h d q.1, oldL_mono h ds q.2⟩
end
theorem oldO_mono {n m : Nat} (h : n ≤ m) (o : Ob) (q : oldO n o = true) : oldO m o = true := by
  cases o with
  | lst ds => exact oldL_mono h ds q
  | ins C gs => exact oldL_mono h _ q
  | dct gs => exact oldL_mono h _ q
theorem Cl.append {S : Sg} (h : Cl S) {o : List Ob} (ho : ∀ x ∈ o, oldO (S.length + o.length) x = true) : Cl (S ++ o) := by
  unfold Cl at h ⊢
  rw [List.all_eq_true] at h ⊢
  rw [List.length_append]
  intro x hx
  rcases List.mem_append.mp hx with hx | hx
  · exact oldO_mono (by omega) x (h x hx)
  · exact ho x hx
/-! ### reckoning step by step: rows that tell a piece's answer from its parts' -/
section
variable {δ δ1 : Dl} {S S1 S2 : Sg}
theorem e_c {d : D} : cD d δ S = some (d, S) := rfl
theorem e_v {i : Nat} {d : D} (h : δ[i]? = some (some d)) : varD i δ S = some (d, S) := by rw [varD_ap, h]; rfl
theorem a_nil : nilA δ S = some ([], S) := rfl
theorem a_cons {f : FE} {g : FA} {d : D} {ds : List D} (h : f δ S = some (d, S1)) (h2 : g δ S1 = some (ds, S2)) : consA f g δ S = some (d :: ds, S2) := by
  rw [consA_ap, h, bd_some, h2]; rfl
theorem e_tup {f : FA} {ds : List D} (h : f δ S = some (ds, S1)) (l : ds.length < 1000000) : tupD f δ S = some (.tup ds, S1) := by
  rw [tupD_ap, h, bd_some, if_pos ((fits_iff _).mpr l)]
theorem e_lst {f : FA} {ds : List D} (h : f δ S = some (ds, S1)) (l : ds.length < 1000000) : lstD f δ S = some (.lst ds, S1) := by
  rw [lstD_ap, h, bd_some, if_pos ((fits_iff _).mpr l)]
theorem e_new {f : FA} {ds : List D} (h : f δ S = some (ds, S1)) (l : ds.length < 1000000) : newD f δ S = some (.loc S1.length, S1 ++ [.lst ds]) := by
  rw [newD_ap, h, bd_some, if_pos ((fits_iff _).mpr l)]
theorem e_app {fa : FE} {f : FA} {n : Nat} {y : D} {x0 xs : List D} (h : fa δ S = some (.loc n, S1)) (h1 : S1[n]? = some (.lst x0)) (h2 : f δ S1 = some ([y], S2)) (h3 : S2[n]? = some (.lst xs)) (l : xs.length < 1000000) :
    bmD isLoc appO fa f δ S = some (.non, S2.set n (.lst (xs ++ [y]))) := by
  rw [bmD_ap, h, bd_some]
  dsimp only
  rw [isLoc_loc, h1, show ((some (Ob.lst x0)).bd obL).isSome = true from rfl, if_pos rfl, h2, bd_some, app_loc, h3]
  show (if Fits (xs.length) then _ else none) = _
  rw [if_pos ((fits_iff _).mpr l)]
theorem e_addll {f g : FE} {xs ys : List D} (h : f δ S = some (.lst xs, S1)) (h2 : g δ S1 = some (.lst ys, S2)) (l : xs.length + ys.length < 1000000) : op2D addO f g δ S = some (.lst (xs ++ ys), S2) := by
  rw [op2D_ap, h, bd_some, h2, bd_some]
  dsimp only
  rw [addv_ll, if_pos ((fits_iff _).mpr l)]
theorem e_addcl {f g : FE} {n : Nat} {xs ys : List D} (h : f δ S = some (.loc n, S1)) (h2 : g δ S1 = some (.lst ys, S2)) (h3 : S2[n]? = some (.lst xs)) (l : xs.length + ys.length < 1000000) : op2D addO f g δ S = some (.lst (xs ++ ys), S2) := by
  rw [op2D_ap, h, bd_some, h2, bd_some]
  dsimp only
  rw [addv_cl, h3]
  show (if Fits (xs.length + ys.length) then _ else none) = _
  rw [if_pos ((fits_iff _).mpr l)]
theorem e_addN {f g : FE} {n : Nat} {xs ys : List D} (h : f δ S = some (.loc n, S1)) (h2 : g δ S1 = some (.lst ys, S2)) (h3 : S2[n]? = some (.lst xs)) (l : xs.length + ys.length < 1000000) : op2D addNO f g δ S = some (.loc S2.length, S2 ++ [.lst (xs ++ ys)]) := by
  rw [op2D_ap, h, bd_some, h2, bd_some]
  unfold addNO
  dsimp only
  rw [plv_loc, h3]
  show (if Fits (xs.length + ys.length) then _ else none) = _
  rw [if_pos ((fits_iff _).mpr l)]
theorem s_seq {f g : FS} {r : Option (Fl × Dl × Sg)} (h : f δ S = some (.nx, δ1, S1)) (h2 : g δ1 S1 = r) : seqS f g δ S = r := by
  rw [seqS_ap, h, bd_some, onNx_nx, h2]
theorem s_drop {f : FE} {d : D} (h : f δ S = some (d, S1)) : dropS f δ S = some (.nx, δ, S1) := by
  rw [dropS_ap, h]; rfl
theorem s_set {i : Nat} {f : FE} {d : D} {δ' : Dl} (h : f δ S = some (d, S1)) (e : δ.set i (some d) = δ') : setS i f δ S = some (.nx, δ', S1) := by
  rw [setS_ap, h, ← e]; rfl
theorem s_par3 {i j l : Nat} {f : FA} {x y z : D} {δ' : Dl} (h : f δ S = some ([x, y, z], S1)) (e : ((δ.set i (some x)).set j (some y)).set l (some z) = δ') : parS3 i j l f δ S = some (.nx, δ', S1) := by
  rw [parS3_ap, h, ← e]; rfl
theorem s_asg2 {i j : Nat} {f : FE} {x y : D} {δ' : Dl} (h : f δ S = some (.tup [x, y], S1)) (e : (δ.set i (some x)).set j (some y) = δ') : asgS f (tupG 2 (consG (nmG i) (consG (nmG j) nilG))) δ S = some (.nx, δ', S1) := by
  rw [asgS_ap, h, ← e]; rfl
theorem s_ret {f : FE} {d : D} (h : f δ S = some (d, S1)) : retS f δ S = some (.rt d, δ, S1) := by
  rw [retS_ap, h]; rfl
theorem b_rt {φ : Nat → D → Sg → Option (D × Sg)} {n : Nat} {body : FS} {ds : List D} {d : D} {r : Option (D × Sg)} (h : body (ds.map some ++ List.replicate (n - ds.length) none) S = some (.rt d, δ1, S1)) (h2 : φ S.length d S1 = r) : bodyF φ n body ds S = r := by
  rw [bodyF_ap, h, bd_some, endB_rt, h2]
/-! what is told at the end -/
theorem z_fin {n : Nat} {d x : D} (h : S.length ≠ n) (h1 : frz S n d = some x) (h2 : (S.take n).all (oldO n) = true) : fin n d S = some (x, S.take n) := by
  unfold fin
  rw [if_neg h, h1, Option.bind_some, if_pos h2]
theorem z_tup {n : Nat} {φ : Nat → Option D} {ds rs : List D} (h : frzL n φ ds = some rs) : frzG n φ (.tup ds) = some (.tup rs) := by unfold frzG; rw [h]; rfl
theorem z_lst {n : Nat} {φ : Nat → Option D} {ds rs : List D} (h : frzL n φ ds = some rs) : frzG n φ (.lst ds) = some (.lst rs) := by unfold frzG; rw [h]; rfl
theorem z_loc {n m : Nat} {φ : Nat → Option D} {x : D} (h : ¬ m < n) (h1 : φ m = some x) : frzG n φ (.loc m) = some x := by unfold frzG; rw [if_neg h, h1]
theorem z_pl {n m k : Nat} {ds rs : List D} (h : S[m]? = some (.lst ds)) (h1 : frzL n (frzP S n k) ds = some rs) : frzP S n (k + 1) m = some (.lst rs) := by
  unfold frzP
  rw [h]
  dsimp only
  rw [h1]
  rfl
theorem z_nil {n : Nat} {φ : Nat → Option D} : frzL n φ [] = some [] := by unfold frzL; rfl
theorem z_cons {n : Nat} {φ : Nat → Option D} {d x : D} {r y : List D} (h : frzG n φ d = some x) (h1 : frzL n φ r = some y) : frzL n φ (d :: r) = some (x :: y) := by
  unfold frzL
  rw [h, Option.bind_some, h1]
  rfl
end
local macro_rules | `(tactic| walk_at "bs") => `(tactic| repeat' first
  | with_reducible exact e_c | with_reducible exact a_nil
  | with_reducible apply s_seq | with_reducible apply s_par3 | with_reducible apply s_set | with_reducible apply s_asg2 | with_reducible apply s_drop | with_reducible apply s_ret
  | with_reducible apply e_v | with_reducible apply a_cons | with_reducible apply e_tup | with_reducible apply e_lst | with_reducible apply e_new
  | with_reducible apply e_app | ((with_reducible apply e_addll); (with_reducible apply e_v); exact rfl) | with_reducible apply e_addcl | with_reducible apply e_addN
  | (show _ < _; decide) | exact rfl)
local macro_rules | `(tactic| walk_at "zs") => `(tactic| repeat' first
  | with_reducible apply z_nil | exact frzG_old _ (by decide +kernel) | with_reducible apply z_cons | with_reducible apply z_tup | with_reducible apply z_lst | with_reducible apply z_loc | with_reducible apply z_pl | (show ¬ _; decide) | exact rfl)
section
variable {δ δ1 : Dl} {S S1 S2 : Sg}
theorem e_fn {F : Fn} {dds ds : List D} {f : FA} {r : Option (D × Sg)} (h : f δ S = some (ds, S1)) (h2 : F (ds ++ dds) S1 = r) : fnD F dds f δ S = r := by
  rw [fnD_ap, h, bd_some, h2]
theorem s_par2 {i j : Nat} {f : FA} {x y : D} {δ' : Dl} (h : f δ S = some ([x, y], S1)) (e : (δ.set i (some x)).set j (some y) = δ') : parS i j f δ S = some (.nx, δ', S1) := by
  rw [parS_ap, h, ← e]; rfl
theorem s_ifno {f : FE} {g h : FS} {r : Option (Fl × Dl × Sg)} (e : f δ S = some (.bl true, S1)) (e2 : h δ S1 = r) : ifS (notD (tvD f)) g h δ S = r := by
  rw [ifS_ap, notD_ap, tvD_ap, e, ← e2]; rfl
theorem stepF {g : FG} {body : FS} {d : D} {r : Option (Fl × Dl × Sg)} (h1 : g d δ S = some (δ1, S1)) (h2 : body δ1 S1 = r) : stepFor g body d δ S = r := by
  unfold stepFor
  rw [h1, Option.bind_some, h2]
end
theorem Cl.push {S : Sg} {o : Ob} (h : Cl S) (ho : oldO (S.length + 1) o = true) : Cl (S ++ [o]) := by
  unfold Cl at h ⊢
  rw [List.all_eq_true] at h ⊢
  intro x hx
  rw [List.length_append, List.length_singleton]
  rcases List.mem_append.mp hx with hx | hx
  · exact oldO_mono (Nat.le_succ _) x (h x hx)
  · rw [List.mem_singleton.mp hx]
    exact ho
theorem e_op2 {δ : Dl} {S S1 S2 : Sg} {o : O2} {f g : FE} {d e : D} {r : Option (D × Sg)} (h : f δ S = some (d, S1)) (h2 : g δ S1 = some (e, S2)) (h3 : o d e S2 = r) : op2D o f g δ S = r := by
  rw [op2D_ap, h, bd_some, h2, bd_some, h3]
theorem e_cb {δ : Dl} {S S1 : Sg} {o : List D → Sg → Option (D × Sg)} {f : FA} {ds : List D} {r : Option (D × Sg)} (h : f δ S = some (ds, S1)) (h2 : o ds S1 = r) : cbD o f δ S = r := by
  rw [cbD_ap, h, bd_some, h2]
theorem get_end {S : Sg} {o : Ob} : (S ++ [o])[S.length]? = some o := by
  rw [List.getElem?_append_right (Nat.le_refl _), Nat.sub_self]; rfl
theorem set_end {S : Sg} {o o' : Ob} : (S ++ [o]).set S.length o' = S ++ [o'] := by
  rw [List.set_append_right _ _ (Nat.le_refl _), Nat.sub_self]; rfl
theorem oldL_map {α : Type} {n : Nat} {f : α → D} : ∀ {l : List α}, (∀ x ∈ l, old n (f x) = true) → oldL n (l.map f) = true
  | [], _ => by rw [List.map_nil]; unfold oldL; rfl
  | x :: l, h => by
    rw [List.map_cons]
    unfold oldL
    rw [h x (by simp), oldL_map fun y hy => h y (by simp [hy])]
    rfl
theorem old_int {n : Nat} {i : Int} : old n (.int i) = true := by unfold old; rfl
theorem filC {δ δ' : Dl} {S : Sg} {d y : D} {g : FG} {c : FT} {fe : FE} {b : Bool} (h1 : g d δ S = some (δ', S)) (h2 : c δ' S = some (b, S)) (h3 : fe δ' S = some (y, S)) : stepLc g c fe δ d S = some (if b = true then some y else none, S) := by
  unfold stepLc
  rw [h1, Option.bind_some]
  dsimp only
  rw [h2, Option.bind_some]
  cases b with
  | false => rfl
  | true =>
    dsimp only
    rw [if_pos rfl, h3]
    rfl
/-! ### a tape at a place, by what is known of it -/
def Tp (S : Sg) (t : Nat) (b n : Int) : Prop := ∃ a k, S[t]? = some (TapeD a b k) ∧ TapeOk a b k n
def Sa (S : Sg) (t : Nat) (b n : Int) (S' : Sg) : Prop := ∃ a k, S' = S.set t (TapeD a b k) ∧ TapeOk a b k n ∧ t < S.length
theorem TapeOk.mono {a b k n m : Int} (T : TapeOk a b k n) (h : n ≤ m) : TapeOk a b k m := ⟨T.a0, T.b0, T.b1, T.k0, Int.le_trans T.k1 h⟩
section
variable {S S' S'' : Sg} {t : Nat} {b n m : Int}
theorem Sa.tp (h : Sa S t b n S') : Tp S' t b n := by
  obtain ⟨a, k, rfl, T, l⟩ := h
  exact ⟨a, k, List.getElem?_set_self l, T⟩
theorem Tp.lt (h : Tp S t b n) : t < S.length := by
  obtain ⟨a, k, e, _⟩ := h
  exact (List.getElem?_eq_some_iff.mp e).1
theorem Tp.sa (h : Tp S t b n) : Sa S t b n S := by
  obtain ⟨a, k, e, T⟩ := h
  refine ⟨a, k, ?_, T, (List.getElem?_eq_some_iff.mp e).1⟩
  obtain ⟨l, e'⟩ := List.getElem?_eq_some_iff.mp e
  rw [← e', List.set_getElem_self]
theorem Sa.trans (h : Sa S t b n S') (g : Sa S' t b m S'') : Sa S t b m S'' := by
  obtain ⟨a, k, rfl, T, l⟩ := h
  obtain ⟨a', k', rfl, T', l'⟩ := g
  exact ⟨a', k', by rw [List.set_set], T', l⟩
theorem Sa.mono (h : Sa S t b n S') (q : n ≤ m) : Sa S t b m S' := by
  obtain ⟨a, k, rfl, T, l⟩ := h
  exact ⟨a, k, rfl, T.mono q, l⟩
theorem Tp.mono (h : Tp S t b n) (q : n ≤ m) : Tp S t b m := by
  obtain ⟨a, k, e, T⟩ := h
  exact ⟨a, k, e, T.mono q⟩
theorem Sa.len (h : Sa S t b n S') : S'.length = S.length := by
  obtain ⟨a, k, rfl, T, l⟩ := h
  exact List.length_set
theorem Sa.cl (h : Sa S t b n S') (hc : Cl S) : Cl S' := by
  obtain ⟨a, k, rfl, T, l⟩ := h
  exact hc.set t rfl
theorem Sa.push (h : Sa S t b n S') (o : Ob) : Sa (S ++ [o]) t b n (S' ++ [o]) := by
  obtain ⟨a, k, rfl, T, l⟩ := h
  refine ⟨a, k, ?_, T, by rw [List.length_append]; omega⟩
  rw [List.set_append_left _ _ l]
theorem draw_s (c : Cs) (h : Tp S t b n) (hn : n ≤ 1000000) {many : Int} (hm : 0 < many) (hm2 : many ≤ 10000000000000) : ∃ r S', F_Ldraw c [.loc t, .int many] S = some (.int r, S') ∧ 0 ≤ r ∧ r < many ∧ Sa S t b (n + 1) S' := by
  have l := h.lt
  obtain ⟨a, k, e, T⟩ := h
  obtain ⟨r, a', k', e', r0, r1, T'⟩ := draw_ok c e T hn hm hm2
  exact ⟨r, _, e', r0, r1, a', k', rfl, T', l⟩
end
theorem lcGo_invO {k : Ik} {ds items : List D} {g : FG} {c : FT} {f : FE} {δ : Dl} (P : Nat → Sg → Prop) (R : D → Prop) (m : Nat) (hk : ∀ i S, P i S → k ds S = some items) (hs : ∀ i d S, i < m → d ∈ items → P i S → ∃ y S', stepLc g c f δ d S = some (y, S') ∧ P (i + 1) S' ∧ ∀ z, y = some z → R z) :
    ∀ {r acc : List D} {i : Nat} {S : Sg}, i + r.length ≤ m → (∀ d ∈ r, d ∈ items) → P i S → ∃ out S', lcGo k ds items g c f δ r acc S = some (acc ++ out, S') ∧ P (i + r.length) S' ∧ out.length ≤ r.length ∧ ∀ y ∈ out, R y
  | [], acc, i, S, _, _, p => ⟨[], S, by rw [lcGo_nil (hk i S p)]; simp, p, Nat.le_refl _, fun y h => (by cases h)⟩
  | d :: r, acc, i, S, hi, hm, p => by
    rw [List.length_cons] at hi
    obtain ⟨y, S1, e, p1, ry⟩ := hs i d S (by omega) (hm d (by simp)) p
    obtain ⟨out, S2, e2, p2, l2, r2⟩ := lcGo_invO P R m hk hs (r := r) (acc := acc ++ y.toList) (by omega) (fun x hx => hm x (by simp [hx])) p1
    refine ⟨y.toList ++ out, S2, ?_, ?_, ?_, fun z hz => ?_⟩
    · rw [lcGo_cons (hk i S p) e, e2, List.append_assoc]
    · rw [List.length_cons, show i + (r.length + 1) = i + 1 + r.length by omega]
      exact p2
    · rw [List.length_append, List.length_cons]
      have : y.toList.length ≤ 1 := by cases y <;> simp
      omega
    · rcases List.mem_append.mp hz with hz | hz
      · cases y with
        | none => cases hz
        | some w => rw [show z = w by simpa using hz]; exact ry w rfl
      · exact r2 z hz
theorem rng_mem {j : Nat} {d : D} (h : d ∈ rngL 0 j) : ∃ i : Nat, i < j ∧ d = .int (i : Int) := by
  obtain ⟨i, hi⟩ := List.mem_iff_getElem?.mp h
  have hij : i < j := by
    have := (List.getElem?_eq_some_iff.mp hi).1
    rw [rngL_len] at this
    exact this
  rw [rngL_get hij] at hi
  exact ⟨i, hij, by rw [← Option.some.inj hi, Int.zero_add]⟩
theorem ints_of {out : List D} {R : Int → Prop} (h : ∀ y ∈ out, ∃ x, y = .int x ∧ R x) : ∃ xs : List Int, out = xs.map .int ∧ xs.length = out.length ∧ ∀ x ∈ xs, R x := by
  induction out with
  | nil => exact ⟨[], rfl, rfl, fun x h => by cases h⟩
  | cons y out ih =>
    obtain ⟨x, rfl, hx⟩ := h y (by simp)
    obtain ⟨xs, rfl, hl, h3⟩ := ih fun y hy => h y (by simp [hy])
    refine ⟨x :: xs, rfl, by rw [List.length_cons, List.length_cons, hl], fun w hw => ?_⟩
    rcases List.mem_cons.mp hw with rfl | hw
    · exact hx
    · exact h3 w hw
theorem rng_k {j : Nat} (hj : j < 1000000) (S : Sg) : r1K [.int (j : Int)] S = some (rngL 0 j) := by
  rw [r1K_1, if_pos (r62P (by omega))]
  rfl
/-- a list of numbers, made by draws -/
theorem lc_st {δ : Dl} {S0 S : Sg} {t v cnt j : Nat} {b n : Int} {fa : FA} {f : FE} {R : Int → Prop} (hT : Tp S t b n) (hj : j < 1000000) (hfa : fa δ S0 = some ([.int (j : Int)], S)) (hw : wipeD δ [v] = δ)
    (hf : ∀ (i u : Nat) (S1 : Sg), i < j → Tp S1 t b (n + (cnt * i : Nat)) → ∃ x S2, f (δ.set v (some (.int (u : Int)))) S1 = some (.int x, S2) ∧ R x ∧ Sa S1 t b (n + (cnt * i : Nat) + cnt) S2) :
    ∃ (xs : List Int) (S' : Sg), lcD r1K fa (nmG v) yesT f [v] δ S0 = some (.lst (xs.map D.int), S') ∧ xs.length = j ∧ (∀ x ∈ xs, R x) ∧ Sa S t b (n + (cnt * j : Nat)) S' := by
  have hk := fun S' => rng_k hj S'
  have hlen := rngL_len 0 j
  obtain ⟨out, S', e, p, l, r⟩ := lcGo_inv (k := r1K) (ds := [.int (j : Int)]) (items := rngL 0 j) (g := nmG v) (c := yesT) (f := f) (δ := δ) (fun i S' => Sa S t b (n + (cnt * i : Nat)) S') (fun y => ∃ x, y = .int x ∧ R x) j (fun i S' _ => hk S')
    (by
      intro i d S1 hi hd p
      obtain ⟨u, hu, rfl⟩ := rng_mem hd
      obtain ⟨x, S2, e, hx, p2⟩ := hf i u S1 hi p.tp
      exact ⟨_, _, mapC' rfl e, (p.trans p2).mono (by rw [Nat.mul_add]; omega), x, rfl, hx⟩)
    (r := rngL 0 j) (acc := []) (i := 0) (S := S) (by rw [hlen]; omega) (fun d hd => hd) (by simpa using hT.sa)
  obtain ⟨xs, rfl, hl, hx⟩ := ints_of r
  rw [hlen, Nat.zero_add] at p
  refine ⟨xs, S', ?_, by rw [hl, l, hlen], hx, p⟩
  rw [lcD_ap, hfa, bd_some]
  dsimp only
  rw [hk, bd_some, if_pos ((fits_iff _).mpr (by rw [hlen]; exact hj)), hw, e]
  rfl
/-- some of the first numbers, chosen by draws -/
theorem lc_pick {δ : Dl} {S0 S : Sg} {t v j : Nat} {b n : Int} {fa : FA} {f : FE} {ct : FT} (hT : Tp S t b n) (hj : j < 1000000) (hfa : fa δ S0 = some ([.int (j : Int)], S)) (hw : wipeD δ [v] = δ)
    (hc : ∀ (i u : Nat) (S1 : Sg), i < j → Tp S1 t b (n + i) → ∃ q S2, ct (δ.set v (some (.int (u : Int)))) S1 = some (q, S2) ∧ Sa S1 t b (n + i + 1) S2) (hf : ∀ (u : Nat) (S1 : Sg), f (δ.set v (some (.int (u : Int)))) S1 = some (.int (u : Int), S1)) :
    ∃ (xs : List Int) (S' : Sg), lcD r1K fa (nmG v) ct f [v] δ S0 = some (.lst (xs.map D.int), S') ∧ xs.length ≤ j ∧ Sa S t b (n + j) S' := by
  have hk := fun S' => rng_k hj S'
  have hlen := rngL_len 0 j
  obtain ⟨out, S', e, p, l, r⟩ := lcGo_invO (k := r1K) (ds := [.int (j : Int)]) (items := rngL 0 j) (g := nmG v) (c := ct) (f := f) (δ := δ) (fun i S' => Sa S t b (n + i) S') (fun y => ∃ x : Int, y = .int x ∧ True) j (fun i S' _ => hk S')
    (by
      intro i d S1 hi hd p
      obtain ⟨u, hu, rfl⟩ := rng_mem hd
      obtain ⟨q, S2, e, p2⟩ := hc i u S1 hi p.tp
      refine ⟨if q = true then some (.int (u : Int)) else none, S2, ?_, (p.trans p2).mono (by omega), ?_⟩
      · unfold stepLc
        rw [show nmG v (.int (u : Int)) δ S1 = some (δ.set v (some (.int (u : Int))), S1) from rfl, Option.bind_some]
        dsimp only
        rw [e, Option.bind_some]
        cases q with
        | false => rfl
        | true =>
          dsimp only
          rw [if_pos rfl, hf]
          rfl
      · intro z hz
        cases q with
        | false => cases hz
        | true => exact ⟨_, (Option.some.inj hz).symm, trivial⟩)
    (r := rngL 0 j) (acc := []) (i := 0) (S := S) (by rw [hlen]; omega) (fun d hd => hd) (by simpa using hT.sa)
  obtain ⟨xs, rfl, hl, hx⟩ := ints_of r
  rw [hlen, Nat.zero_add] at p
  refine ⟨xs, S', ?_, by rw [hl, ← hlen]; exact l, p⟩
  rw [lcD_ap, hfa, bd_some]
  dsimp only
  rw [hk, bd_some, if_pos ((fits_iff _).mpr (by rw [hlen]; exact hj)), hw, e]
  rfl
section
variable {S : Sg} {t : Nat} {b n : Int}
theorem s_ifT {δ : Dl} {S1 : Sg} {ct : FT} {g h : FS} {r : Option (Fl × Dl × Sg)} {q : Bool} (e : ct δ S = some (q, S1)) (e2 : (if q = true then g δ S1 else h δ S1) = r) : ifS ct g h δ S = r := by
  rw [ifS_ap, e, bd_some, ← e2]
theorem t_v {δ : Dl} {S1 : Sg} {f : FE} {q : Bool} (e : f δ S = some (.bl q, S1)) : tvD f δ S = some (q, S1) := by
  rw [tvD_ap, e]; rfl
theorem s_seqr {δ δ1 : Dl} {S1 : Sg} {f g : FS} {d : D} (h : f δ S = some (.rt d, δ1, S1)) : seqS f g δ S = some (.rt d, δ1, S1) := by
  rw [seqS_ap, h]; rfl
theorem at3 {α : Type} (x y z : α) {r : Int} (h0 : 0 ≤ r) (h1 : r < 3) (Q : α → Prop) (hx : Q x) (hy : Q y) (hz : Q z) : ∃ w, atI [x, y, z] r = some w ∧ Q w := by
  rcases (show r = 0 ∨ r = 1 ∨ r = 2 by omega) with rfl | rfl | rfl
  · exact ⟨x, rfl, hx⟩
  · exact ⟨y, rfl, hy⟩
  · exact ⟨z, rfl, hz⟩
theorem at4 {α : Type} (x y z u : α) {r : Int} (h0 : 0 ≤ r) (h1 : r < 4) (Q : α → Prop) (hx : Q x) (hy : Q y) (hz : Q z) (hu : Q u) : ∃ w, atI [x, y, z, u] r = some w ∧ Q w := by
  rcases (show r = 0 ∨ r = 1 ∨ r = 2 ∨ r = 3 by omega) with rfl | rfl | rfl | rfl
  · exact ⟨x, rfl, hx⟩
  · exact ⟨y, rfl, hy⟩
  · exact ⟨z, rfl, hz⟩
  · exact ⟨u, rfl, hu⟩
theorem e_ix {δ : Dl} {S1 S2 : Sg} {f g : FE} {ds : List D} {i : Int} {y : D} (h : f δ S = some (.lst ds, S1)) (h2 : g δ S1 = some (.int i, S2)) (h3 : atI ds i = some y) : op2D ixO f g δ S = some (y, S2) := by
  refine e_op2 h h2 ?_
  rw [ixv_lst, h3]; rfl
theorem e_draw (c : Cs) {δ : Dl} {S1 S2 S3 : Sg} {f g : FE} {m r : Int} (h : f δ S = some (.loc t, S1)) (h2 : g δ S1 = some (.int m, S2)) (h3 : F_Ldraw c [.loc t, .int m] S2 = some (.int r, S3)) : fnD (F_Ldraw c) [] (consA f (consA g nilA)) δ S = some (.int r, S3) :=
  e_fn (a_cons h (a_cons h2 a_nil)) h3
theorem tup_of {δ : Dl} {S1 : Sg} {f : FE} {ds : List D} (h : f δ S = some (.lst ds, S1)) : cbD tupleO (consA f nilA) δ S = some (.tup ds, S1) := e_cb (a_cons h a_nil) rfl
theorem min_of {δ : Dl} {S1 S2 : Sg} {f g : FE} {i j : Int} (h : f δ S = some (.int i, S1)) (h2 : g δ S1 = some (.int j, S2)) : cbD min2O (consA f (consA g nilA)) δ S = some (.int (if j < i then j else i), S2) := e_cb (a_cons h (a_cons h2 a_nil)) (min2v _ _ _)
theorem max_of {δ : Dl} {S1 S2 : Sg} {f g : FE} {i j : Int} (h : f δ S = some (.int i, S1)) (h2 : g δ S1 = some (.int j, S2)) : cbD max2O (consA f (consA g nilA)) δ S = some (.int (if j > i then j else i), S2) := e_cb (a_cons h (a_cons h2 a_nil)) (max2v _ _ _)
theorem add_of {δ : Dl} {S1 S2 : Sg} {f g : FE} {i j : Int} (h : f δ S = some (.int i, S1)) (h2 : g δ S1 = some (.int j, S2)) : op2D addO f g δ S = some (.int (i + j), S2) := e_op2 h h2 (addO_int _ _ _)
theorem sub_of {δ : Dl} {S1 S2 : Sg} {f g : FE} {i j : Int} (h : f δ S = some (.int i, S1)) (h2 : g δ S1 = some (.int j, S2)) : op2D subO f g δ S = some (.int (i - j), S2) := e_op2 h h2 (subO_int _ _ _)
theorem mul_of {δ : Dl} {S1 S2 : Sg} {f g : FE} {i j : Int} (h : f δ S = some (.int i, S1)) (h2 : g δ S1 = some (.int j, S2)) (hm : MulB i j) : op2D mulO f g δ S = some (.int (i * j), S2) := e_op2 h h2 (by rw [mulO_int, if_pos hm])
theorem eq_of {δ : Dl} {S1 S2 : Sg} {f g : FE} {i j : Int} (h : f δ S = some (.int i, S1)) (h2 : g δ S1 = some (.int j, S2)) : op2D eqO f g δ S = some (.bl (decide (i = j)), S2) := e_op2 h h2 (eqv_int _ _ _)
theorem pow_of {δ : Dl} {f g : FE} {S1 S2 : Sg} {i j : Int} (h : f δ S = some (.int i, S1)) (h2 : g δ S1 = some (.int j, S2)) (hm : PowB i j) : op2D powO f g δ S = some (.int (i ^ j.toNat), S2) := e_op2 h h2 (by rw [powO_int, if_pos hm])
theorem fin_len {S' : Sg} {d : D} (h : S'.length = S.length) : fin S.length d S' = some (d, S') := if_pos h
theorem min_le {i j : Int} : (if j < i then j else i) ≤ i ∧ (if j < i then j else i) ≤ j := by split <;> omega
theorem min_ge {i j k : Int} (h1 : k ≤ i) (h2 : k ≤ j) : k ≤ (if j < i then j else i) := by split <;> omega
end
theorem at3i (x y z : Int) {r : Int} (h0 : 0 ≤ r) (h1 : r < 3) (lo hi : Int) (hx : lo ≤ x ∧ x ≤ hi) (hy : lo ≤ y ∧ y ≤ hi) (hz : lo ≤ z ∧ z ≤ hi) : ∃ m : Int, atI [D.int x, D.int y, D.int z] r = some (.int m) ∧ lo ≤ m ∧ m ≤ hi := by
  obtain ⟨w, e, m, rfl, h⟩ := at3 (D.int x) (D.int y) (D.int z) h0 h1 (fun y => ∃ m : Int, y = .int m ∧ lo ≤ m ∧ m ≤ hi) ⟨_, rfl, hx⟩ ⟨_, rfl, hy⟩ ⟨_, rfl, hz⟩
  exact ⟨m, e, h⟩
theorem at4i (x y z u : Int) {r : Int} (h0 : 0 ≤ r) (h1 : r < 4) (lo hi : Int) (hx : lo ≤ x ∧ x ≤ hi) (hy : lo ≤ y ∧ y ≤ hi) (hz : lo ≤ z ∧ z ≤ hi) (hu : lo ≤ u ∧ u ≤ hi) : ∃ m : Int, atI [D.int x, D.int y, D.int z, D.int u] r = some (.int m) ∧ lo ≤ m ∧ m ≤ hi := by
  obtain ⟨w, e, m, rfl, h⟩ := at4 (D.int x) (D.int y) (D.int z) (D.int u) h0 h1 (fun y => ∃ m : Int, y = .int m ∧ lo ≤ m ∧ m ≤ hi) ⟨_, rfl, hx⟩ ⟨_, rfl, hy⟩ ⟨_, rfl, hz⟩ ⟨_, rfl, hu⟩
  exact ⟨m, e, h⟩
theorem tape_okL (c : Cs) {S : Sg} {ns : List Int} {k : Int} (h0 : 0 ≤ k) (h1 : k ≤ 1000) : ∃ a b, F_Ltape c [.lst (ns.map .int), .int k] S = some (.loc S.length, S ++ [TapeD a b 0]) ∧ TapeOk a b 0 0 := by
  have m1 : ∀ (x : Int) (q : Bool), MulB x (if q = true then 1 else 0) := fun x q => mulR (by cases q <;> decide)
  have m2 : MulB 39373 k := mulL (by omega)
  have q1 : (0 : Int) < 2305843009213693951 := by decide
  have q2 : PowB 10 18 := powP (by omega)
  have fin1 : ∀ z : Int, TapeOk ((if z < 0 then -z else z) * (if decide ((10 : Int) ^ (18 : Int).toNat ≤ (if z < 0 then -z else z)) = true then 1 else 0)) (z % 2305843009213693951 + 39373 * k + 17) 0 0 := fun z => by
    refine ⟨Int.mul_nonneg (by split <;> omega) (by split <;> omega), by omega, by omega, by omega, by omega⟩
  unfold F_Ltape B_Ltape
  by_cases ck : k < ((ns.map D.int).length : Int)
  · obtain ⟨z, hz⟩ := map_at h0 ck
    have cd : decide (k < ((ns.map D.int).length : Int)) = true := decide_eq_true ck
    walk_at "ev*"
    exact ⟨_, _, rfl, fin1 z⟩
  · have cd : decide (k < ((ns.map D.int).length : Int)) = false := decide_eq_false ck
    walk_at "ev*"
    exact ⟨_, _, rfl, fin1 0⟩
theorem cut_head (ns : List Int) (m : Nat) : cutD (ns.map .int) none (some (m : Int)) = (ns.take m).map .int := by
  unfold cutD HT.sIx
  rw [List.map_take]
  dsimp only
  rw [if_neg (by omega)]
  rw [List.drop_zero, Nat.sub_zero]
  rw [List.take_eq_take_iff, List.length_map]
  omega
theorem cut_mid (ns : List Int) (m h : Nat) (hl : ns.length ≤ h) : cutD (ns.map .int) (some (m : Int)) (some (h : Int)) = (ns.drop m).map .int := by
  unfold cutD HT.sIx
  rw [List.map_drop]
  dsimp only
  rw [if_neg (by omega), if_neg (by omega), List.length_map]
  rw [List.take_of_length_le (by rw [List.length_drop, List.length_map]; omega)]
  by_cases q : m ≤ ns.length
  · rw [show min (m : Int).toNat ns.length = m by omega]
  · rw [List.drop_eq_nil_of_le (by rw [List.length_map]; omega), List.drop_eq_nil_of_le (by rw [List.length_map]; omega)]
theorem ixN_in {n j : Nat} (h : j < n) : ixN n (j : Int) = some j := by
  unfold ixN
  rw [if_pos (by omega), if_pos (by omega), Int.toNat_natCast]
noncomputable def foldB (c : Cs) : FS := (asgS (op2D addO (op2D ixO (varD 2) (op2D modO (varD 3) (varD 1))) (op2D mulO (varD 4) (op2D addO (varD 3) (cD (.int 2))))) (subG setLO (varD 2) (op2D modO (varD 3) (varD 1))))
theorem fold_step (c : Cs) {S : Sg} {d0 x : D} {m i : Nat} {v : Int} {cells : List Int} {x3 x4 : Option D} (hm : 0 < m) (hl : cells.length = m) (hi : i < 1000) (hx : x = .tup [.int (i : Int), .int v]) :
    ∃ cells' : List Int, cells'.length = m ∧ stepFor (tupG 2 (consG (nmG 3) (consG (nmG 4) nilG))) (foldB c) x [some d0, some (.int (m : Int)), some (.loc S.length), x3, x4] (S ++ [.lst (cells.map .int)]) = some (.nx, [some d0, some (.int (m : Int)), some (.loc S.length), some (.int (i : Int)), some (.int v)], S ++ [.lst (cells'.map .int)]) := by
  subst hx
  have hj : i % m < cells.length := by rw [hl]; exact Nat.mod_lt _ hm
  refine ⟨cells.set (i % m) (cells[i % m] + v * ((i : Int) + 2)), by rw [List.length_set]; exact hl, ?_⟩
  have hmod : ∀ Z : Sg, op2D modO (varD 3) (varD 1) [some d0, some (.int (m : Int)), some (.loc S.length), some (.int (i : Int)), some (.int v)] Z = some (.int ((i % m : Nat) : Int), Z) := fun Z => by
    refine e_op2 (e_v rfl) (e_v rfl) ?_
    rw [modO_int, if_pos (by omega)]
    rfl
  have hix : op2D ixO (varD 2) (op2D modO (varD 3) (varD 1)) [some d0, some (.int (m : Int)), some (.loc S.length), some (.int (i : Int)), some (.int v)] (S ++ [.lst (cells.map .int)]) = some (.int cells[i % m], S ++ [.lst (cells.map .int)]) := by
    refine e_op2 (e_v rfl) (hmod _) ?_
    rw [ixv_loc, get_end, bd_some, obL_lst, bd_some]
    rw [atI_ofNat, List.getElem?_map, List.getElem?_eq_getElem hj]
    rfl
  refine stepF (δ1 := [some d0, some (.int (m : Int)), some (.loc S.length), some (.int (i : Int)), some (.int v)]) (S1 := S ++ [.lst (cells.map .int)]) rfl ?_
  unfold foldB
  rw [asgS_ap, add_of hix (mul_of (e_v rfl) (add_of (e_v rfl) e_c) (mulR (by omega))), bd_some]
  dsimp only
  rw [subG_ap, e_v rfl, bd_some]
  dsimp only
  rw [hmod, bd_some]
  dsimp only
  rw [setL_loc, get_end, bd_some, obL_lst, bd_some]
  rw [List.length_map, ixN_in hj, bd_some, bd_some, bd_some, set_end, ← List.map_set]
theorem fold_loop (c : Cs) {S : Sg} {ns : List Int} {m : Nat} (hm : 0 < m) (hn : ns.length ≤ 63) : ∃ (cells : List Int) (x3 x4 : Option D), cells.length = min m ns.length ∧
    forS enK (consA (slD slO (varD 0) (someO (varD 1)) (someO (cD (.int 63)))) nilA) (tupG 2 (consG (nmG 3) (consG (nmG 4) nilG))) (foldB c) [some (.rol (ns.map .int)), some (.int (m : Int)), some (.loc S.length), none, none] (S ++ [.lst ((ns.take m).map .int)]) = some (.nx, [some (.rol (ns.map .int)), some (.int (m : Int)), some (.loc S.length), x3, x4], S ++ [.lst (cells.map .int)]) := by
  have main : ∃ δ' Z, forGo enK [.lst ((ns.drop m).map .int)] (enumL ((ns.drop m).map .int)) (tupG 2 (consG (nmG 3) (consG (nmG 4) nilG))) (foldB c) (enumL ((ns.drop m).map .int)) [some (.rol (ns.map .int)), some (.int (m : Int)), some (.loc S.length), none, none] (S ++ [.lst ((ns.take m).map .int)]) = some (.nx, δ', Z) ∧
      ∃ (cells : List Int) (x3 x4 : Option D), δ' = [some (.rol (ns.map .int)), some (.int (m : Int)), some (.loc S.length), x3, x4] ∧ Z = S ++ [.lst (cells.map .int)] ∧ cells.length = min m ns.length := by
    refine forGo_inv (k := enK) (ds := [.lst ((ns.drop m).map .int)]) (items := enumL ((ns.drop m).map .int)) (fun _ δ Z => ∃ (cells : List Int) (x3 x4 : Option D), δ = [some (.rol (ns.map .int)), some (.int (m : Int)), some (.loc S.length), x3, x4] ∧ Z = S ++ [.lst (cells.map .int)] ∧ cells.length = min m ns.length) (fun _ _ _ _ => rfl) ?_ (Nat.zero_le _) rfl ⟨ns.take m, none, none, rfl, rfl, by rw [List.length_take]⟩
    rintro i x δ Z hi ⟨cells, x3, x4, rfl, rfl, hl⟩
    obtain ⟨d, hd, rfl⟩ := enum_at hi
    obtain ⟨v, hv, rfl⟩ : ∃ v, (ns.drop m)[i]? = some v ∧ d = .int v := by
      rw [List.getElem?_map] at hd
      cases q : (ns.drop m)[i]? with
      | none => rw [q] at hd; cases hd
      | some v => rw [q] at hd; exact ⟨v, rfl, (Option.some.inj hd).symm⟩
    have hlt : i < ns.length - m := by
      have := (List.getElem?_eq_some_iff.mp hv).1
      rw [List.length_drop] at this
      exact this
    obtain ⟨cells', hl', e⟩ := fold_step c (S := S) (d0 := .rol (ns.map .int)) (m := m) (i := i) (v := v) (cells := cells) (x3 := x3) (x4 := x4) hm (by omega) (by omega) rfl
    exact ⟨_, _, e, cells', _, _, rfl, rfl, by rw [hl']; omega⟩
  obtain ⟨δ', Z, e, cells, x3, x4, rfl, rfl, hl⟩ := main
  refine ⟨cells, x3, x4, hl, ?_⟩
  have hsl2 : consA (slD slO (varD 0) (someO (varD 1)) (someO (cD (.int 63)))) nilA [some (.rol (ns.map .int)), some (.int (m : Int)), some (.loc S.length), none, none] (S ++ [.lst ((ns.take m).map .int)]) = some ([.lst ((ns.drop m).map .int)], S ++ [.lst ((ns.take m).map .int)]) := by
    refine a_cons ?_ a_nil
    rw [← cut_mid ns m 63 hn]
    rfl
  rw [forS_ap, hsl2, bd_some]
  dsimp only
  rw [show enK [.lst ((ns.drop m).map .int)] (S ++ [.lst ((ns.take m).map .int)]) = some (enumL ((ns.drop m).map .int)) from rfl, bd_some]
  exact e
theorem fold_list {S : Sg} {ns : List Int} {m : Nat} : cbD listN (consA (slD slO (varD 0) noO (someO (varD 1))) nilA) [some (.rol (ns.map .int)), some (.int (m : Int)), none, none, none] S = some (.loc S.length, S ++ [.lst ((ns.take m).map .int)]) := by
  refine e_cb (S1 := S) (ds := [.lst ((ns.take m).map .int)]) (a_cons ?_ a_nil) rfl
  rw [← cut_head]
  rfl
section
variable {S : Sg} {t : Nat} {b n : Int}
theorem Sa.pop {Z : Sg} {o : Ob} (h : Sa (S ++ [o]) t b n Z) (hl : t < S.length) : ∃ S', Z = S' ++ [o] ∧ Sa S t b n S' := by
  obtain ⟨a, k, rfl, T, _⟩ := h
  exact ⟨_, by rw [List.set_append_left _ _ hl], a, k, rfl, T, hl⟩
theorem fin_list {S' : Sg} {xs : List Int} (hc : Cl S') (hl : S'.length = S.length) : fin S.length (.loc S.length) (S' ++ [.lst (xs.map .int)]) = some (.lst (xs.map .int), S') := by
  rw [← hl]
  refine fin_cut (o := [.lst (xs.map .int)]) (by simp) ?_ hc
  exact z_loc (Nat.lt_irrefl _) (z_pl get_end (frzL_old _ (oldL_map fun _ _ => old_int)))
end
theorem folded2_ok (c : Cs) {S : Sg} {ns : List Int} {m : Nat} (hm : 0 < m) (hn : ns.length ≤ 63) (hc : Cl S) : ∃ cells : List Int, cells.length = min m ns.length ∧ F_Lfolded c [.rol (ns.map .int), .int (m : Int)] S = some (.lst (cells.map .int), S) := by
  obtain ⟨cells, x3, x4, hl, e⟩ := fold_loop c (S := S) (ns := ns) (m := m) hm hn
  refine ⟨cells, hl, ?_⟩
  unfold F_Lfolded B_Lfolded
  exact r_body (d := .loc S.length) (S1 := S ++ [.lst (cells.map .int)]) (r_seq (r_set fold_list) (r_seq e (r_ret (r_v rfl)))) (fin_list hc rfl)
theorem nd_t {p : Prop} [Decidable p] (h : ¬ p) : (!decide p) = true := by rw [decide_eq_false h]; rfl
theorem nd_f {p : Prop} [Decidable p] (h : p) : (!decide p) = false := by rw [decide_eq_true h]; rfl
/-! ### draws, forward -/
section
variable {S0 A : Sg} {L : List Ob} {t : Nat} {b n : Int} {Q : D → Sg → Prop}
theorem Sa.popL : ∀ {L : List Ob} {Z : Sg}, Sa (A ++ L) t b n Z → t < A.length → ∃ A', Z = A' ++ L ∧ Sa A t b n A'
  | L, Z, h, hl => by
    obtain ⟨a, k, rfl, T, _⟩ := h
    exact ⟨_, by rw [List.set_append_left _ _ hl], a, k, rfl, T, hl⟩
theorem Tp.app (h : Tp A t b n) : Tp (A ++ L) t b n := by
  obtain ⟨a, k, e, T⟩ := h
  exact ⟨a, k, by rw [List.getElem?_append_left (List.getElem?_eq_some_iff.mp e).1]; exact e, T⟩
theorem Sa.app (h : Sa S0 t b n A) : Sa (S0 ++ L) t b n (A ++ L) := by
  obtain ⟨a, k, rfl, T, l⟩ := h
  exact ⟨a, k, by rw [List.set_append_left _ _ l], T, by rw [List.length_append]; omega⟩
theorem w_draw (c : Cs) (h : Sa S0 t b n A) (hn : n ≤ 1000000) {many : Int} (hm : 0 < many) (hm2 : many ≤ 10000000000000)
    (k : ∀ r A', 0 ≤ r → r < many → Sa S0 t b (n + 1) A' → A'.length = S0.length → Q (.int r) (A' ++ L)) : W (F_Ldraw c [.loc t, .int many] (A ++ L)) Q := by
  have tp := h.tp
  obtain ⟨r, Z, e, r0, r1, s⟩ := draw_s c tp.app hn hm hm2 (S := A ++ L)
  obtain ⟨A', rfl, s'⟩ := s.popL tp.lt
  exact ⟨_, _, e, k r A' r0 r1 (h.trans s') ((h.trans s').len)⟩
/-- any def that draws, told for any store -/
theorem w_spec {F : Fn} {ds : List D} {α : Type} {e : α → D} {P : α → Prop} {m : Int} (h : Sa S0 t b n A) (hf : ∃ x Z, F ds (A ++ L) = some (e x, Z) ∧ P x ∧ Sa (A ++ L) t b m Z)
    (k : ∀ x A', P x → Sa S0 t b m A' → A'.length = S0.length → Q (e x) (A' ++ L)) : W (F ds (A ++ L)) Q := by
  obtain ⟨x, Z, e1, p, s⟩ := hf
  obtain ⟨A', rfl, s'⟩ := s.popL h.tp.lt
  exact ⟨_, _, e1, k x A' p (h.trans s') ((h.trans s').len)⟩
theorem Cl.app (h : Cl A) {L : List Ob} (ho : ∀ x ∈ L, oldO (A.length + L.length) x = true) : Cl (A ++ L) := h.append ho
end
/-! ### places of the store ahead -/
section
variable {A : Sg} {L : List Ob} {n : Nat} {Q : D → Sg → Prop}
theorem aa_get {o : Ob} (h : A[n]? = some o) : (A ++ L)[n]? = some o := by
  rw [List.getElem?_append_left (List.getElem?_eq_some_iff.mp h).1]; exact h
theorem aa_set {o o' : Ob} (h : A[n]? = some o) : (A ++ L).set n o' = A.set n o' ++ L := by
  rw [List.set_append_left _ _ (List.getElem?_eq_some_iff.mp h).1]
theorem wa_ix {xs : List D} {i : Int} {y : D} (h : A[n]? = some (.lst xs)) (h2 : atI xs i = some y) (q : Q y (A ++ L)) : W (ixO (.loc n) (.int i) (A ++ L)) Q :=
  ⟨_, _, v_ixc (aa_get h) h2, q⟩
theorem wa_len {xs : List D} (h : A[n]? = some (.lst xs)) (q : Q (.int (xs.length : Int)) (A ++ L)) : W (lenO [.loc n] (A ++ L)) Q :=
  ⟨_, _, v_lenc (aa_get h), q⟩
theorem wa_app {xs : List D} {y : D} (h : A[n]? = some (.lst xs)) (l : xs.length < 1000000) (q : Q .non (A.set n (.lst (xs ++ [y])) ++ L)) : W (appO (.loc n) [y] (A ++ L)) Q :=
  ⟨_, _, by rw [v_app (aa_get h) l, aa_set h], q⟩
theorem wa_set {xs : List D} {i : Int} {j : Nat} {z : D} {P : Sg → Prop} (h : A[n]? = some (.lst xs)) (hj : ixN xs.length i = some j) (q : P (A.set n (.lst (xs.set j z)) ++ L)) : ∃ S3, setLO (.loc n) (.int i) z (A ++ L) = some S3 ∧ P S3 :=
  ⟨_, by rw [v_setc (aa_get h) hj, aa_set h], q⟩
theorem wa_setD {gs : List (Key × D)} {y z : D} {kk : Key} {P : Sg → Prop} (h : A[n]? = some (.dct gs)) (l : gs.length < 1000000) (hj : keyOf y = some kk) (q : P (A.set n (.dct (putG gs kk z)) ++ L)) : ∃ S3, setDO (.loc n) y z (A ++ L) = some S3 ∧ P S3 :=
  ⟨_, by rw [v_setDc (aa_get h) l hj, aa_set h], q⟩
theorem wa_ds {gs : List (Key × D)} (h : A[n]? = some (.dct gs)) : dsOf (A ++ L) (.loc n) = some gs := by
  unfold dsOf
  dsimp only
  rw [aa_get h]
theorem wa_dg {gs : List (Key × D)} {e x : D} {kk : Key} (h : A[n]? = some (.dct gs)) (h2 : keyOf e = some kk) (h3 : valG gs kk = some x) (q : Q x (A ++ L)) : W (dgK (.loc n) e (A ++ L)) Q :=
  ⟨_, _, v_dgK (wa_ds h) h2 h3, q⟩
theorem wa_in {gs : List (Key × D)} {e : D} {kk : Key} {neg : Bool} (h : A[n]? = some (.dct gs)) (h2 : keyOf e = some kk) (q : Q (.bl (if neg then !(valG gs kk).isSome else (valG gs kk).isSome)) (A ++ L)) : W (inKO neg e (.loc n) (A ++ L)) Q :=
  ⟨_, _, v_inK (wa_ds h) h2, q⟩
theorem valG_cons (k k' : Key) (d : D) (r : List (Key × D)) : valG ((k', d) :: r) k = if k' = k then some d else valG r k := by
  unfold valG
  rw [List.find?_cons]
  by_cases h : k' = k
  · rw [if_pos h]
    simp [h]
  · rw [if_neg h]
    simp [h]
theorem putG_cons (k k' : Key) (d z : D) (r : List (Key × D)) (h : k' ≠ k) : putG ((k', d) :: r) k z = (k', d) :: putG r k z := by
  unfold putG
  rw [List.any_cons, show decide (k' = k) = false from decide_eq_false h, Bool.false_or]
  split
  · rw [List.map_cons, if_neg h]
  · rfl
theorem putG_one (k : Key) (d z : D) : putG [(k, d)] k z = [(k, z)] := by
  unfold putG
  simp
end
section
variable {A : Sg} {L : List Ob} {N k : Nat} {Q : D → Sg → Prop}
theorem wl_tuple (hl : A.length = N) {xs : List D} (h : L[k]? = some (.lst xs)) (q : Q (.tup xs) (A ++ L)) : W (tupleO [.loc (N + k)] (A ++ L)) Q :=
  ⟨_, _, tuplev_loc _ (by rw [al_get hl]; exact h), q⟩
theorem ixN_at {m k : Nat} (h : k < m) : ixN m (k : Int) = some k := by
  unfold ixN
  rw [if_pos (by omega), if_pos (by omega)]
  rfl
end
theorem br_join {q : Bool} {o1 o2 : Option (Fl × Dl × Sg)} {Q : Fl → Dl → Sg → Prop} {r : Fl} {δ' : Dl} {S' : Sg} (h1 : q = true → o1 = some (r, δ', S')) (h2 : q = false → o2 = some (r, δ', S')) (k : Q r δ' S') : Br q (WS o1 Q) (WS o2 Q) := ⟨fun h => ⟨_, _, _, h1 h, k⟩, fun h => ⟨_, _, _, h2 h, k⟩⟩
theorem br_joinW {α : Type} {q : Bool} {o1 o2 : Option (α × Sg)} {Q : α → Sg → Prop} {r : α} {S' : Sg} (h1 : q = true → o1 = some (r, S')) (h2 : q = false → o2 = some (r, S')) (k : Q r S') : Br q (W o1 Q) (W o2 Q) := ⟨fun h => ⟨_, _, h1 h, k⟩, fun h => ⟨_, _, h2 h, k⟩⟩
section
variable {δ : Dl} {S : Sg}
theorem w_argsN {Q : List D → Sg → Prop} (q : Q [] S) : W (argsL [] δ S) Q := ⟨_, _, rfl, q⟩
theorem w_argsC {f : FE} {r : List FE} {Q : List D → Sg → Prop} (h : W (f δ S) fun x S1 => W (argsL r δ S1) fun xs S2 => Q (x :: xs) S2) : W (argsL (f :: r) δ S) Q := by
  obtain ⟨x, S1, e1, y, S2, e2, q⟩ := h
  exact ⟨_, _, r_cons e1 e2, q⟩
theorem newDX {A : Sg} {L : List Ob} {N : Nat} {ds : List D} {ks : List Str} {P : Sg → List Ob → Nat → Prop} (hl : A.length = N) (l : ds.length = ks.length) (q : P A L N) : ∃ (A' : Sg) (L' : List Ob) (N' : Nat), A ++ L = A' ++ L' ∧ A'.length = N' ∧ ds.length = ks.length ∧ P A' L' N' := ⟨A, L, N, rfl, hl, l, q⟩
theorem wl_dictP {A : Sg} {L : List Ob} {N : Nat} {xs : List D} {gs : List (Key × D)} {Q : D → Sg → Prop} (hl : A.length = N) (h : pairsG xs = some gs) (q : Q (.loc (N + L.length)) (A ++ (L ++ [.dct (mergeG [] gs)]))) : W (dictP [.lst xs] (A ++ L)) Q := by
  refine ⟨_, _, v_dictP h, ?_⟩
  rw [List.length_append, hl, List.append_assoc]
  exact q
end
local macro_rules | `(tactic| walk_at "cond") => `(tactic| first
  | exact rfl | assumption | exact decide_eq_true (by omega) | exact decide_eq_false (by omega) | exact nd_t (by omega) | exact nd_f (by omega) | fail)
local macro_rules | `(tactic| walk_at "len") => `(tactic| first
  | assumption | (show _ < _; decide) | (simp only [List.length_map, List.length_cons, List.length_nil, List.length_append, List.length_range, List.length_replicate, List.length_set]; omega))
local macro_rules | `(tactic| walk_at "hl") => `(tactic| first | assumption | exact rfl | (exact (by simp only [List.length_set])) | (exact (by simp only [List.length_set]; assumption)))
local macro_rules | `(tactic| walk_at "wx") => `(tactic| first
  | with_reducible apply x_add | with_reducible apply x_sub | with_reducible apply x_cmp | with_reducible apply x_int0
  | ((with_reducible apply x_mul); (first | assumption | exact mulL (by omega) | exact mulR (by omega) | exact mulL (by decide) | exact mulR (by decide)))
  | ((with_reducible apply x_mod); (first | assumption | omega | decide))
  | ((with_reducible apply x_div); (first | assumption | exact divP (by omega) | exact divP (by decide)))
  | ((with_reducible apply x_pow); (first | assumption | exact powP (by decide) | exact powP (by omega)))
  | with_reducible apply x_eqI | with_reducible apply x_neI | with_reducible apply x_eqS | with_reducible apply x_eqB | with_reducible apply x_neB
  | ((with_reducible apply x_ixl); (first | assumption | exact rfl | exact atI_0 _ _))
  | ((with_reducible apply x_ixt); (first | assumption | exact rfl | exact atI_0 _ _))
  | ((with_reducible apply x_ixr); (first | assumption | exact rfl))
  | ((with_reducible apply wl_ix); (walk_at "hl"); (first | exact rfl | assumption); (first | assumption | exact rfl | exact atI_0 _ _))
  | ((with_reducible apply x_addll); walk_at "len")
  | ((with_reducible apply wl_addl); (walk_at "hl"); (first | exact rfl | assumption); walk_at "len")
  | with_reducible apply x_max2 | with_reducible apply x_min2 | with_reducible apply x_abs | with_reducible apply x_int1b | with_reducible apply x_int1i
  | with_reducible apply x_lenl | with_reducible apply x_lenr | with_reducible apply x_lent
  | ((with_reducible apply wl_len); (walk_at "hl"); (first | exact rfl | assumption))
  | ((with_reducible apply wl_tuple); (walk_at "hl"); (first | exact rfl | assumption)) | with_reducible apply x_tuplel | with_reducible apply x_tuplet | with_reducible apply x_sll | with_reducible apply x_slr
  | ((with_reducible apply wl_sl); (walk_at "hl"); (first | exact rfl | assumption))
  | ((with_reducible apply wl_app); (walk_at "hl"); (first | exact rfl | assumption); walk_at "len")
  | ((with_reducible apply x_dg); exact rfl)
  | with_reducible apply x_isN_n | with_reducible apply x_isN_nn | with_reducible apply x_isN_i | with_reducible apply x_isN_ni | with_reducible apply x_isN_l | with_reducible apply x_isN_nl
  | with_reducible apply x_sumi | with_reducible apply x_sumti | ((with_reducible apply x_sum); exact rfl) | ((with_reducible apply x_sumt); exact rfl)
  | with_reducible apply x_told0 | with_reducible apply x_told1 | with_reducible apply x_told2
  | with_reducible apply x_allb | with_reducible apply x_anyb)
local macro_rules | `(tactic| walk_at "w") => `(tactic| repeat' first
  | with_reducible apply w_seq | with_reducible apply w_c | ((with_reducible apply w_v); exact rfl)
  | with_reducible apply w_op2 | with_reducible apply w_op1 | with_reducible apply w_nil | with_reducible apply w_cons | with_reducible apply w_one
  | with_reducible apply wd_nil | with_reducible apply wd_cons | with_reducible apply w_tup | with_reducible apply w_lst | with_reducible apply w_cb | with_reducible apply w_fn
  | with_reducible apply w_bm | with_reducible apply w_notV | with_reducible apply w_ite
  | with_reducible apply w_sl | with_reducible apply w_noO | with_reducible apply w_someO | with_reducible apply w_tv | with_reducible apply w_not | with_reducible apply w_and | with_reducible apply w_or | with_reducible apply w_yes
  | with_reducible apply w_next | with_reducible apply w_drop | with_reducible apply w_set | with_reducible apply w_par2 | with_reducible apply w_par3 | with_reducible apply w_asg | with_reducible apply w_nmG
  | ((with_reducible apply w_tupG); exact rfl) | with_reducible apply w_consG | with_reducible apply w_nilG | with_reducible apply w_subG | with_reducible apply w_ret | with_reducible apply w_retN | with_reducible apply w_if
  | ((with_reducible apply w_aug); exact rfl) | with_reducible apply wl_new | with_reducible apply wl_dicN | with_reducible apply w_argsC | with_reducible apply w_argsN
  | ((with_reducible apply newDX); (walk_at "hl"); (first | exact rfl | assumption))
  | with_reducible apply w_finK | with_reducible apply w_tru
  | with_reducible apply nx_nx | with_reducible apply nx_rt | with_reducible apply nx_bk | with_reducible apply nx_ct | with_reducible apply bd_rt | with_reducible apply bd_nx
  | with_reducible apply tn_nx | with_reducible apply tn_ct | with_reducible apply tn_bk | with_reducible apply tn_rt
  | with_reducible apply tb | with_reducible apply br_tr | with_reducible apply br_fa
  | with_reducible apply par2x | with_reducible apply par3x | with_reducible apply someI | with_reducible apply lstX
  | ((with_reducible apply newX); (walk_at "hl"); walk_at "len")
  | (refine And.intro (by walk_at "len") ?_)
  | (refine And.intro (wl_isLoc (by walk_at "hl") (by first | exact rfl | assumption)) ?_)
  | (walk_at "wx")
  | ((with_reducible apply br_t); walk_at "cond") | ((with_reducible apply br_f); walk_at "cond") | fail)
/-! ### a fire whose pieces are drawn beat by beat: its fields, one draw -/
structure Sh where
  b : Int
  p : Int
  fi : Int
  wd : Int
structure Fi where
  t : Int
  nu : List Int
  ak : List Int
  w : Int
  bu : Option Int
def shT (s : Sh) : D := .tup [.int s.b, .int s.p, .int s.fi, .int s.wd]
def shz : Sh := ⟨1, 1, 0, 0⟩
def fgs (d1 d2 d3 d4 d5 d6 d7 : D) : List (Str × D) := [("shares", d1), ("mouth", d2), ("at", d3), ("numbers", d4), ("asks", d5), ("wait", d6), ("burning", d7)]
section
variable (d1 d2 d3 d4 d5 d6 d7 z : D)
theorem lk_shares : (fgs d1 d2 d3 d4 d5 d6 d7).lookup ("shares" : Str) = some d1 := by kernel_rfl
theorem lk_mouth : (fgs d1 d2 d3 d4 d5 d6 d7).lookup ("mouth" : Str) = some d2 := by kernel_rfl
theorem lk_at : (fgs d1 d2 d3 d4 d5 d6 d7).lookup ("at" : Str) = some d3 := by kernel_rfl
theorem lk_numbers : (fgs d1 d2 d3 d4 d5 d6 d7).lookup ("numbers" : Str) = some d4 := by kernel_rfl
theorem lk_asks : (fgs d1 d2 d3 d4 d5 d6 d7).lookup ("asks" : Str) = some d5 := by kernel_rfl
theorem lk_wait : (fgs d1 d2 d3 d4 d5 d6 d7).lookup ("wait" : Str) = some d6 := by kernel_rfl
theorem lk_burning : (fgs d1 d2 d3 d4 d5 d6 d7).lookup ("burning" : Str) = some d7 := by kernel_rfl
theorem lk_last_of : (fgs d1 d2 d3 d4 d5 d6 d7).lookup ("last_of" : Str) = none := by kernel_rfl
theorem lk_draw_one : (fgs d1 d2 d3 d4 d5 d6 d7).lookup ("draw_one" : Str) = none := by kernel_rfl
theorem lk_draw : (fgs d1 d2 d3 d4 d5 d6 d7).lookup ("draw" : Str) = none := by kernel_rfl
theorem lk_upto : (fgs d1 d2 d3 d4 d5 d6 d7).lookup ("draw_up_to" : Str) = none := by kernel_rfl
theorem lk_ahead : (fgs d1 d2 d3 d4 d5 d6 d7).lookup ("ahead" : Str) = none := by kernel_rfl
theorem lk_settle : (fgs d1 d2 d3 d4 d5 d6 d7).lookup ("settle" : Str) = none := by kernel_rfl
theorem pt_at : putD "at" z (fgs d1 d2 d3 d4 d5 d6 d7) = fgs d1 d2 z d4 d5 d6 d7 := by kernel_rfl
theorem pt_wait : putD "wait" z (fgs d1 d2 d3 d4 d5 d6 d7) = fgs d1 d2 d3 d4 d5 z d7 := by kernel_rfl
theorem pt_burning : putD "burning" z (fgs d1 d2 d3 d4 d5 d6 d7) = fgs d1 d2 d3 d4 d5 d6 z := by kernel_rfl
end
def fG (N : Nat) (sh : List Sh) (m : Int) (f : Fi) : List (Str × D) := fgs (.lst (sh.map shT)) (.int m) (.int f.t) (.loc (N + 1)) (.loc (N + 2)) (.int f.w) (lifeD f.bu)
def fL (c : Cs) (N : Nat) (sh : List Sh) (m : Int) (f : Fi) (M : List Ob) : List Ob := .ins c.SharedFire (fG N sh m f) :: .lst (f.nu.map .int) :: .lst (f.ak.map .int) :: M
section
variable {c : Cs} {A : Sg} {N : Nat} {sh : List Sh} {m : Int} {f : Fi} {M : List Ob} {P : D → Prop}
theorem f_get (hl : A.length = N) : (A ++ fL c N sh m f M)[N + 0]? = some (.ins c.SharedFire (fG N sh m f)) := by
  rw [al_get hl]
  rfl
theorem f_fs (hl : A.length = N) : fsOf (A ++ fL c N sh m f M) c.SharedFire (.loc (N + 0)) = some (fG N sh m f) := by
  unfold fsOf
  dsimp only
  rw [f_get hl]
  exact if_pos rfl
theorem f_shares (hl : A.length = N) (q : P (.lst (sh.map shT))) : ∃ gs x, fsOf (A ++ fL c N sh m f M) c.SharedFire (.loc (N + 0)) = some gs ∧ gs.lookup ("shares" : Str) = some x ∧ P x := ⟨_, _, f_fs hl, lk_shares .., q⟩
theorem f_mouth (hl : A.length = N) (q : P (.int m)) : ∃ gs x, fsOf (A ++ fL c N sh m f M) c.SharedFire (.loc (N + 0)) = some gs ∧ gs.lookup ("mouth" : Str) = some x ∧ P x := ⟨_, _, f_fs hl, lk_mouth .., q⟩
theorem f_at (hl : A.length = N) (q : P (.int f.t)) : ∃ gs x, fsOf (A ++ fL c N sh m f M) c.SharedFire (.loc (N + 0)) = some gs ∧ gs.lookup ("at" : Str) = some x ∧ P x := ⟨_, _, f_fs hl, lk_at .., q⟩
theorem f_numbers (hl : A.length = N) (q : P (.loc (N + 1))) : ∃ gs x, fsOf (A ++ fL c N sh m f M) c.SharedFire (.loc (N + 0)) = some gs ∧ gs.lookup ("numbers" : Str) = some x ∧ P x := ⟨_, _, f_fs hl, lk_numbers .., q⟩
theorem f_asks (hl : A.length = N) (q : P (.loc (N + 2))) : ∃ gs x, fsOf (A ++ fL c N sh m f M) c.SharedFire (.loc (N + 0)) = some gs ∧ gs.lookup ("asks" : Str) = some x ∧ P x := ⟨_, _, f_fs hl, lk_asks .., q⟩
theorem f_wait (hl : A.length = N) (q : P (.int f.w)) : ∃ gs x, fsOf (A ++ fL c N sh m f M) c.SharedFire (.loc (N + 0)) = some gs ∧ gs.lookup ("wait" : Str) = some x ∧ P x := ⟨_, _, f_fs hl, lk_wait .., q⟩
theorem f_burning (hl : A.length = N) (q : P (lifeD f.bu)) : ∃ gs x, fsOf (A ++ fL c N sh m f M) c.SharedFire (.loc (N + 0)) = some gs ∧ gs.lookup ("burning" : Str) = some x ∧ P x := ⟨_, _, f_fs hl, lk_burning .., q⟩
theorem f_meth {k : Str} {P : Prop} (hk : ∀ d1 d2 d3 d4 d5 d6 d7, (fgs d1 d2 d3 d4 d5 d6 d7).lookup k = none) (hl : A.length = N) (q : P) : ∃ gs, fsOf (A ++ fL c N sh m f M) c.SharedFire (.loc (N + 0)) = some gs ∧ gs.lookup k = none ∧ P := ⟨_, f_fs hl, hk .., q⟩
theorem fs_wait (hl : A.length = N) {z : Int} {Q : Fl → Dl → Sg → Prop} {δ : Dl} (q : Q .nx δ (A ++ fL c N sh m { f with w := z } M)) : ∃ n gs, D.loc (N + 0) = .loc n ∧ (A ++ fL c N sh m f M)[n]? = some (.ins c.SharedFire gs) ∧ gs.length < 1000 ∧ Q .nx δ ((A ++ fL c N sh m f M).set n (.ins c.SharedFire (putD "wait" (.int z) gs))) := by
  refine ⟨_, _, rfl, f_get hl, (by show 7 < 1000; decide), ?_⟩
  rw [al_set hl, show fG N sh m f = fgs _ _ _ _ _ _ _ from rfl, pt_wait]
  exact q
theorem fs_burning (hl : A.length = N) {z : Int} {Q : Fl → Dl → Sg → Prop} {δ : Dl} (q : Q .nx δ (A ++ fL c N sh m { f with bu := some z } M)) : ∃ n gs, D.loc (N + 0) = .loc n ∧ (A ++ fL c N sh m f M)[n]? = some (.ins c.SharedFire gs) ∧ gs.length < 1000 ∧ Q .nx δ ((A ++ fL c N sh m f M).set n (.ins c.SharedFire (putD "burning" (.int z) gs))) := by
  refine ⟨_, _, rfl, f_get hl, (by show 7 < 1000; decide), ?_⟩
  rw [al_set hl, show fG N sh m f = fgs _ _ _ _ _ _ _ from rfl, pt_burning]
  exact q
theorem fs_at (hl : A.length = N) {z : Int} {Q : Fl → Dl → Sg → Prop} {δ : Dl} (q : Q .nx δ (A ++ fL c N sh m { f with t := z } M)) : ∃ n gs, D.loc (N + 0) = .loc n ∧ (A ++ fL c N sh m f M)[n]? = some (.ins c.SharedFire gs) ∧ gs.length < 1000 ∧ Q .nx δ ((A ++ fL c N sh m f M).set n (.ins c.SharedFire (putD "at" (.int z) gs))) := by
  refine ⟨_, _, rfl, f_get hl, (by show 7 < 1000; decide), ?_⟩
  rw [al_set hl, show fG N sh m f = fgs _ _ _ _ _ _ _ from rfl, pt_at]
  exact q
theorem fL_cl (hc : Cl A) (hl : A.length = N) (hM : ∀ x ∈ M, ∀ n, oldO n x = true) : Cl (A ++ fL c N sh m f M) := by
  refine hc.append fun x hx => ?_
  have h3 : A.length + (fL c N sh m f M).length = N + 3 + M.length := by
    rw [hl]
    show N + (M.length + 1 + 1 + 1) = _
    omega
  rw [h3]
  rcases List.mem_cons.mp hx with rfl | hx
  · show (oldL (N + 3 + M.length) (sh.map shT) && (true && (true && (decide (N + 1 < N + 3 + M.length) && (decide (N + 2 < N + 3 + M.length) && (true && (old (N + 3 + M.length) (lifeD f.bu) && true))))))) = true
    rw [oldL_map fun s _ => (rfl : old _ (shT s) = true), decide_eq_true (by omega), decide_eq_true (by omega), show old (N + 3 + M.length) (lifeD f.bu) = true by cases f.bu <;> rfl]
    rfl
  rcases List.mem_cons.mp hx with rfl | hx
  · exact oldL_ints _ _
  rcases List.mem_cons.mp hx with rfl | hx
  · exact oldL_ints _ _
  · exact hM x hx _
end
def lastF (sh : List Sh) (f : Fi) (i : Nat) : Int := f.ak.getD i 0 + (sh.getD i shz).wd
structure FiOk (sh : List Sh) (f : Fi) : Prop where
  nu : f.nu.length = sh.length
  ak : f.ak.length = sh.length
  few : sh.length < 100000
  b0 : ∀ s ∈ sh, 0 < s.b ∧ s.b < 1000000
  p0 : ∀ s ∈ sh, 0 < s.p ∧ s.p < 1000000
/-- the hot piece of the least last is that of share j -/
structure Pick (sh : List Sh) (f : Fi) (j : Nat) : Prop where
  lt : j < sh.length
  hot : f.ak.getD j 0 ≤ f.t
  least : ∀ i, i < sh.length → f.ak.getD i 0 ≤ f.t → lastF sh f j < lastF sh f i ∨ (lastF sh f j = lastF sh f i ∧ j ≤ i)
def askF (s : Sh) (n : Int) : Int := s.fi + n * s.b / s.p
def drawnF (sh : List Sh) (f : Fi) (j : Nat) : Fi :=
  ⟨f.t, f.nu.set j (f.nu.getD j 0 + 1), f.ak.set j (askF (sh.getD j shz) (f.nu.getD j 0 + 1)), (if f.t - f.ak.getD j 0 > f.w then f.t - f.ak.getD j 0 else f.w), f.bu⟩
theorem Pick.uni {sh : List Sh} {f : Fi} {i j : Nat} (h : Pick sh f i) (g : Pick sh f j) : i = j := by
  have h1 := h.least j g.lt g.hot
  have h2 := g.least i h.lt h.hot
  omega
theorem atI_g {bs : List Int} {k : Nat} (h : k < bs.length) : atI (bs.map D.int) (k : Int) = some (.int (bs.getD k 0)) := by
  rw [atI_ofNat, List.getElem?_map, List.getElem?_eq_getElem h, List.getD_eq_getElem?_getD, List.getElem?_eq_getElem h]
  rfl
theorem atI_sh {sh : List Sh} {k : Nat} (h : k < sh.length) : atI (sh.map shT) (k : Int) = some (shT (sh.getD k shz)) := by
  rw [atI_ofNat, List.getElem?_map, List.getElem?_eq_getElem h, List.getD_eq_getElem?_getD, List.getElem?_eq_getElem h]
  rfl
theorem sh_mem {sh : List Sh} {k : Nat} (h : k < sh.length) : sh.getD k shz ∈ sh := by
  rw [List.getD_eq_getElem?_getD, List.getElem?_eq_getElem h]
  exact List.getElem_mem h
local macro_rules | `(tactic| walk_at "wx") => `(tactic| first
  | with_reducible apply w_fld | with_reducible apply w_meth
  | (with_reducible apply f_shares; assumption) | (with_reducible apply f_mouth; assumption) | (with_reducible apply f_at; assumption) | (with_reducible apply f_numbers; assumption) | (with_reducible apply f_asks; assumption)
  | (with_reducible apply f_wait; assumption) | (with_reducible apply f_burning; assumption))
theorem w_body1 {φ : Nat → D → Sg → Option (D × Sg)} {n : Nat} {b : FS} {ds : List D} {S : Sg} {Q : D → Sg → Prop} (h : WS (b (ds.map some ++ List.replicate (n - ds.length) none) S) (Bd φ S.length Q)) : W (bodyF φ n b ds S) Q := by
  refine w_body ?_
  rw [List.append_nil]
  exact h
theorem w_finL {n : Nat} {d : D} {S : Sg} {Q : D → Sg → Prop} (h : S.length = n) (q : Q d S) : W (fin n d S) Q := ⟨d, S, if_pos h, q⟩
section
variable {c : Cs} {A : Sg} {N : Nat} {sh : List Sh} {m : Int} {f : Fi} {M : List Ob}
theorem last_ok (hl : A.length = N) (ok : FiOk sh f) {i : Nat} (hi : i < sh.length) : F_SharedFire_last_of c [.loc (N + 0), .int (i : Int)] (A ++ fL c N sh m f M) = some (.int (lastF sh f i), A ++ fL c N sh m f M) := by
  have main : W (F_SharedFire_last_of c [.loc (N + 0), .int (i : Int)] (A ++ fL c N sh m f M)) fun d Z => d = .int (lastF sh f i) ∧ Z = A ++ fL c N sh m f M := by
    unfold F_SharedFire_last_of B_SharedFire_last_of
    refine w_body1 ?_
    walk_at "w"
    refine wl_ix (k := 2) hl rfl (atI_g (by rw [ok.ak]; exact hi)) ?_
    walk_at "w"
    refine x_ixl (atI_sh hi) ?_
    walk_at "w"
    refine x_ixt (y := .int (sh.getD i shz).wd) rfl ?_
    walk_at "w"
    exact w_finL rfl ⟨rfl, rfl⟩
  obtain ⟨_, _, e, rfl, rfl⟩ := main
  exact e
end
/-! ### one draw -/
def hotP (f : Fi) (x : Int × Nat) : Bool := decide (x.1 ≤ f.t)
def hotV (sh : List Sh) (f : Fi) (x : Int × Nat) : Int × Int := (lastF sh f x.2, (x.2 : Int))
def hotL (sh : List Sh) (f : Fi) : List (Int × Int) := (f.ak.zipIdx.filter (hotP f)).map (hotV sh f)
theorem hotL_mem {sh : List Sh} {f : Fi} (ok : FiOk sh f) {q : Int × Int} : q ∈ hotL sh f ↔ ∃ i : Nat, i < sh.length ∧ f.ak.getD i 0 ≤ f.t ∧ q = (lastF sh f i, (i : Int)) := by
  unfold hotL
  rw [List.mem_map]
  constructor
  · rintro ⟨⟨a, i⟩, h, rfl⟩
    obtain ⟨h1, h2⟩ := List.mem_filter.mp h
    have h3 := List.mem_zipIdx_iff_getElem?.mp h1
    have h3 : f.ak[i]? = some a := h3
    have hlt := (List.getElem?_eq_some_iff.mp h3).1
    have h2 : a ≤ f.t := of_decide_eq_true h2
    refine ⟨i, by rw [← ok.ak]; exact hlt, ?_, rfl⟩
    rw [List.getD_eq_getElem?_getD, h3]
    exact h2
  · rintro ⟨i, hi, h, rfl⟩
    refine ⟨(f.ak.getD i 0, i), List.mem_filter.mpr ⟨?_, decide_eq_true h⟩, rfl⟩
    rw [List.mem_zipIdx_iff_getElem?]
    rw [← ok.ak] at hi
    show f.ak[i]? = some (f.ak.getD i 0)
    rw [List.getD_eq_getElem?_getD, List.getElem?_eq_getElem hi]
    rfl
theorem hotL_nil {sh : List Sh} {f : Fi} (ok : FiOk sh f) (h : hotL sh f = []) : ∀ i, i < sh.length → f.t < f.ak.getD i 0 := fun i hi => by
  refine Int.lt_of_not_ge fun k => ?_
  have := (hotL_mem ok).mpr ⟨i, hi, k, rfl⟩
  rw [h] at this
  cases this
theorem hotL_pick {sh : List Sh} {f : Fi} (ok : FiOk sh f) {p : Int × Int} {r : List (Int × Int)} (h : hotL sh f = p :: r) : ∃ j, Pick sh f j ∧ PySem.W.minOf p r = (lastF sh f j, (j : Int)) := by
  obtain ⟨h1, h2⟩ := minOf_spec r p
  rw [← h] at h1 h2
  obtain ⟨j, hj, hh, e⟩ := (hotL_mem ok).mp h1
  refine ⟨j, ⟨hj, hh, fun i hi hi2 => ?_⟩, e⟩
  have := h2 _ ((hotL_mem ok).mpr ⟨i, hi, hi2, rfl⟩)
  rw [e] at this
  dsimp only at this
  omega
section
variable {c : Cs} {A : Sg} {N : Nat} {sh : List Sh} {m : Int} {f : Fi} {M : List Ob}
theorem k_enLoc {xs : List Int} {k : Nat} {L : List Ob} (hl : A.length = N) (h : L[k]? = some (.lst (xs.map .int))) : enK [.loc (N + k)] (A ++ L) = some (xs.zipIdx.map fun p => .tup [.int (p.2 : Int), .int p.1]) := by
  rw [enK_1, wl_ls hl h]
  have := k_enl (xs.map D.int) (A ++ L)
  rw [enK_1, lsv_lst] at this
  rw [this, List.zipIdx_map, List.map_map]
  rfl
theorem asked_ok (b p n fi : Int) (hb : 0 < b ∧ b < 1000000) (hp : 0 < p ∧ p < 1000000) (S : Sg) : F_asked_at c [.tup [.int b, .int p], .int n, .int fi] S = some (.int (fi + n * b / p), S) := by
  have main : W (F_asked_at c [.tup [.int b, .int p], .int n, .int fi] S) fun d Z => d = .int (fi + n * b / p) ∧ Z = S := by
    unfold F_asked_at B_asked_at
    refine w_body1 ?_
    walk_at "w"
    exact w_finL rfl ⟨rfl, rfl⟩
  obtain ⟨_, _, e, rfl, rfl⟩ := main
  exact e
theorem hot_ok (hl : A.length = N) (ok : FiOk sh f) {δ : Dl} {Q : D → Sg → Prop} (h0 : δ[0]? = some (some (.loc (N + 0)))) (hδ : δ.length = 8) (q : Q (.lst ((hotL sh f).map prT)) (A ++ fL c N sh m f M)) :
    W (lcD enK (consA (fldD c.SharedFire "asks" (varD 0)) nilA) (tupG 2 (consG (nmG 2) (consG (nmG 7) nilG))) (tvD (op2D (cmpO fun i j => decide (i ≤ j)) (varD 7) (fldD c.SharedFire "at" (varD 0)))) (tupD (consA (methD c.SharedFire "last_of" (F_SharedFire_last_of c) [] (varD 0) (consA (varD 2) nilA)) (consA (varD 2) nilA))) [2, 7] δ (A ++ fL c N sh m f M)) Q := by
  obtain ⟨x1, x2, x3, x4, x5, x6, x7, rfl⟩ : ∃ x1 x2 x3 x4 x5 x6 x7, δ = [some (.loc (N + 0)), x1, x2, x3, x4, x5, x6, x7] := by
    match δ, hδ, h0 with
    | [a, b, c, d, e, f, g, h], _, h0 => cases h0; exact ⟨_, _, _, _, _, _, _, rfl⟩
  refine w_lcF (S1 := A ++ fL c N sh m f M) (ds := [.loc (N + 2)]) f.ak.zipIdx (fun p => .tup [.int (p.2 : Int), .int p.1]) (hotP f) (fun x => prT (hotV sh f x)) ?_ (k_enLoc (k := 2) hl rfl) (by rw [List.length_zipIdx, ok.ak]; have := ok.few; omega) ?_ ?_
  · walk_at "w"
    exact ⟨rfl, rfl⟩
  · rintro ⟨a, i⟩ hx
    have h3 : f.ak[i]? = some a := List.mem_zipIdx_iff_getElem?.mp hx
    have hlt := (List.getElem?_eq_some_iff.mp h3).1
    rw [ok.ak] at hlt
    walk_at "w"
    refine ⟨rfl, rfl, fun _ => ?_⟩
    walk_at "w"
    refine f_meth lk_last_of hl ?_
    walk_at "w"
    refine w_ex (last_ok hl ok hlt) ?_
    walk_at "w"
    exact ⟨rfl, rfl⟩
  · rw [show (fun x => prT (hotV sh f x)) = prT ∘ hotV sh f from rfl, ← List.map_map]
    exact q
theorem one_none (hl : A.length = N) (ok : FiOk sh f) (h : hotL sh f = []) : F_SharedFire_draw_one c [.loc (N + 0)] (A ++ fL c N sh m f M) = some (.non, A ++ fL c N sh m f M) := by
  have main : W (F_SharedFire_draw_one c [.loc (N + 0)] (A ++ fL c N sh m f M)) fun d Z => d = .non ∧ Z = A ++ fL c N sh m f M := by
    unfold F_SharedFire_draw_one B_SharedFire_draw_one
    refine w_body1 ?_
    walk_at "w"
    refine hot_ok hl ok rfl rfl ?_
    rw [h]
    walk_at "w"
    refine ⟨_, rfl, ?_⟩
    walk_at "w"
    exact w_finL rfl ⟨rfl, rfl⟩
  obtain ⟨_, _, e, rfl, rfl⟩ := main
  exact e
theorem one_some (hl : A.length = N) (ok : FiOk sh f) {j : Nat} (h : Pick sh f j) : F_SharedFire_draw_one c [.loc (N + 0)] (A ++ fL c N sh m f M) = some (.int (j : Int), A ++ fL c N sh m (drawnF sh f j) M) := by
  have main : W (F_SharedFire_draw_one c [.loc (N + 0)] (A ++ fL c N sh m f M)) fun d Z => d = .int (j : Int) ∧ Z = A ++ fL c N sh m (drawnF sh f j) M := by
    unfold F_SharedFire_draw_one B_SharedFire_draw_one
    refine w_body1 ?_
    walk_at "w"
    refine hot_ok hl ok rfl rfl ?_
    obtain ⟨p, r, hp⟩ : ∃ p r, hotL sh f = p :: r := by
      cases e : hotL sh f with
      | nil =>
        have := hotL_nil ok e j h.lt
        have := h.hot
        omega
      | cons p r => exact ⟨p, r, rfl⟩
    obtain ⟨j', hj', em⟩ := hotL_pick ok hp
    obtain rfl := h.uni hj'
    rw [hp]
    walk_at "w"
    refine ⟨_, rfl, ?_⟩
    walk_at "w"
    refine x_minP ?_
    rw [em]
    walk_at "w"
    refine x_ixt (y := .int (j : Int)) rfl ?_
    have hsm := sh_mem h.lt
    have hb := ok.b0 _ hsm
    have hp' := ok.p0 _ hsm
    have haj := h.lt
    rw [← ok.ak] at haj
    have hnj := h.lt
    rw [← ok.nu] at hnj
    walk_at "w"
    refine x_ixl (atI_sh h.lt) ?_
    walk_at "w"
    refine w_tupG (ds := [.int (sh.getD j shz).b, .int (sh.getD j shz).p, .int (sh.getD j shz).fi, .int (sh.getD j shz).wd]) rfl ?_
    walk_at "w"
    refine w_fldS ?_
    walk_at "w"
    refine wl_ix (k := 2) hl rfl (atI_g haj) ?_
    walk_at "w"
    refine fs_wait hl ?_
    walk_at "w"
    refine w_augSubS ?_
    walk_at "w"
    refine wl_ixL (k := 1) hl rfl (atI_g hnj) ?_
    walk_at "w"
    refine wl_set (k := 1) hl rfl (ixN_at (by rw [List.length_map]; exact hnj)) ?_
    rw [← List.map_set]
    have e2 : ∀ x : Int, (fL c N sh m { f with w := x } M).set 1 (.lst ((f.nu.set j (f.nu.getD j 0 + 1)).map D.int)) = fL c N sh m ⟨f.t, f.nu.set j (f.nu.getD j 0 + 1), f.ak, x, f.bu⟩ M := fun _ => rfl
    rw [e2]
    walk_at "w"
    refine wl_ix (k := 1) hl rfl (atI_g (bs := f.nu.set j (f.nu.getD j 0 + 1)) (by rw [List.length_set]; exact hnj)) ?_
    have e3 : (f.nu.set j (f.nu.getD j 0 + 1)).getD j 0 = f.nu.getD j 0 + 1 := by
      rw [List.getD_eq_getElem?_getD, List.getElem?_set_self hnj]
      rfl
    rw [e3]
    walk_at "w"
    refine w_ex (asked_ok _ _ _ _ hb hp' _) ?_
    walk_at "w"
    refine wl_set (k := 2) hl rfl (ixN_at (by rw [List.length_map]; exact haj)) ?_
    rw [← List.map_set]
    walk_at "w"
    refine w_finL (by rw [List.length_append, List.length_append]; rfl) ⟨rfl, ?_⟩
    rfl
  obtain ⟨_, _, e, rfl, rfl⟩ := main
  exact e
end
/-! ### a beat -/
open Classical in
noncomputable def pickF (sh : List Sh) (f : Fi) : Option Nat := if h : ∃ j, Pick sh f j then some h.choose else none
theorem pick_some {sh : List Sh} {f : Fi} {j : Nat} (h : Pick sh f j) : pickF sh f = some j := by
  unfold pickF
  have k : ∃ j, Pick sh f j := ⟨j, h⟩
  rw [dif_pos k]
  exact congrArg some (k.choose_spec.uni h)
theorem pick_of {sh : List Sh} {f : Fi} {j : Nat} (h : pickF sh f = some j) : Pick sh f j := by
  unfold pickF at h
  split at h
  · rename_i k
    cases h
    exact k.choose_spec
  · cases h
theorem pick_none {sh : List Sh} {f : Fi} (ok : FiOk sh f) (h : pickF sh f = none) : hotL sh f = [] := by
  cases e : hotL sh f with
  | nil => rfl
  | cons p r =>
    obtain ⟨j, hj, _⟩ := hotL_pick ok e
    rw [pick_some hj] at h
    cases h
theorem pick_no {sh : List Sh} {f : Fi} (h : ∀ i, i < sh.length → f.t < f.ak.getD i 0) : pickF sh f = none := by
  cases e : pickF sh f with
  | none => rfl
  | some j =>
    have p := pick_of e
    have := h j p.lt
    have := p.hot
    omega
noncomputable def goN (sh : List Sh) : Nat → Fi → List (Nat × Int) × Fi
  | 0, f => ([], f)
  | k + 1, f => match pickF sh f with
    | none => ([], f)
    | some j => ((j, f.nu.getD j 0) :: (goN sh k (drawnF sh f j)).1, (goN sh k (drawnF sh f j)).2)
theorem goN_none {sh : List Sh} {f : Fi} (h : pickF sh f = none) (k : Nat) : goN sh k f = ([], f) := by
  cases k with
  | zero => rfl
  | succ k =>
    unfold goN
    rw [h]
theorem goN_some {sh : List Sh} {f : Fi} {j : Nat} (h : pickF sh f = some j) (k : Nat) : goN sh (k + 1) f = ((j, f.nu.getD j 0) :: (goN sh k (drawnF sh f j)).1, (goN sh k (drawnF sh f j)).2) := by
  rw [goN, h]
theorem FiOk.drawn {sh : List Sh} {f : Fi} (ok : FiOk sh f) (j : Nat) : FiOk sh (drawnF sh f j) := ⟨by show (f.nu.set _ _).length = _; rw [List.length_set]; exact ok.nu, by show (f.ak.set _ _).length = _; rw [List.length_set]; exact ok.ak, ok.few, ok.b0, ok.p0⟩
theorem goN_len (sh : List Sh) : ∀ (k : Nat) (f : Fi), (goN sh k f).1.length ≤ k
  | 0, _ => Nat.le_refl 0
  | k + 1, f => by
    unfold goN
    split
    · exact Nat.zero_le _
    · have := goN_len sh k (drawnF sh f ‹Nat›)
      rw [List.length_cons]
      omega
theorem goN_ok (sh : List Sh) : ∀ (k : Nat) (f : Fi), FiOk sh f → FiOk sh (goN sh k f).2 ∧ (goN sh k f).2.t = f.t ∧ (goN sh k f).2.bu = f.bu
  | 0, _, ok => ⟨ok, rfl, rfl⟩
  | k + 1, f, ok => by
    unfold goN
    split
    · exact ⟨ok, rfl, rfl⟩
    · exact goN_ok sh k (drawnF sh f ‹Nat›) (ok.drawn _)
def lateP (sh : List Sh) (f : Fi) (i : Nat) : Bool := decide (lastF sh f i ≤ f.t)
def burnF (sh : List Sh) (f : Fi) : Option Int := match (List.range sh.length).filter (lateP sh f) with
  | [] => f.bu
  | i :: _ => some (i : Int)
def tickF (sh : List Sh) (f : Fi) : Fi := ⟨f.t + 1, f.nu, f.ak, f.w, burnF sh f⟩
noncomputable def beatF (sh : List Sh) (m : Nat) (f : Fi) : Fi := tickF sh (goN sh m f).2
def row3 (t : Int) (x : Nat × Int) : D := .tup [.int t, .int (x.1 : Int), .int x.2]
noncomputable def beatR (sh : List Sh) (m : Nat) (f : Fi) : List D := (goN sh m f).1.map (row3 f.t)
theorem FiOk.beat {sh : List Sh} {f : Fi} (ok : FiOk sh f) (m : Nat) : FiOk sh (beatF sh m f) := by
  obtain ⟨h, _, _⟩ := goN_ok sh m f ok
  exact ⟨h.nu, h.ak, h.few, h.b0, h.p0⟩
theorem beatR_len (sh : List Sh) (m : Nat) (f : Fi) : (beatR sh m f).length ≤ m := by
  unfold beatR
  rw [List.length_map]
  exact goN_len sh m f
theorem row3_old (n : Nat) (t : Int) (l : List (Nat × Int)) : oldL n (l.map (row3 t)) = true := oldL_map fun _ _ => rfl
theorem old_beatR (n : Nat) (sh : List Sh) (m : Nat) (f : Fi) : oldL n (beatR sh m f) = true := row3_old ..
section
variable {c : Cs} {A : Sg} {N : Nat} {sh : List Sh} {m : Nat} {f : Fi} {M : List Ob}
theorem fL_app (m : Int) (X : List Ob) : A ++ (fL c N sh m f M ++ X) = A ++ fL c N sh m f (M ++ X) := rfl
theorem fL_len (hl : A.length = N) (m : Int) : (A ++ fL c N sh m f M).length = N + (3 + M.length) := by
  rw [List.length_append, hl]
  show N + (M.length + 1 + 1 + 1) = _
  omega
theorem fL_at (m : Int) {k : Nat} (x : Ob) (h : k = 3 + M.length) : (fL c N sh m f (M ++ [x]))[k]? = some x := by
  subst h
  rw [show 3 + M.length = M.length + 1 + 1 + 1 by omega]
  show (M ++ [x])[M.length]? = some x
  rw [List.getElem?_append_right (Nat.le_refl _), Nat.sub_self]
  rfl
theorem fL_set (m : Int) {k : Nat} (x y : Ob) (h : k = 3 + M.length) : (fL c N sh m f (M ++ [x])).set k y = fL c N sh m f (M ++ [y]) := by
  subst h
  rw [show 3 + M.length = M.length + 1 + 1 + 1 by omega]
  show _ :: _ :: _ :: (M ++ [x]).set M.length y = _
  rw [List.set_append_right _ _ (Nat.le_refl _), Nat.sub_self]
  rfl
theorem fL_fin (hl : A.length = N) (hc : Cl A) (hM : ∀ x ∈ M, ∀ n, oldO n x = true) {n : Nat} (hn : n = N + (3 + M.length)) (m : Int) {ds : List D} (hd : ∀ n, oldL n ds = true) {Q : D → Sg → Prop} (q : Q (.lst ds) (A ++ fL c N sh m f M)) : W (fin n (.loc (N + (3 + M.length))) (A ++ fL c N sh m f (M ++ [.lst ds]))) Q := by
  subst hn
  have e : A ++ fL c N sh m f (M ++ [.lst ds]) = (A ++ fL c N sh m f M) ++ [.lst ds] := by
    rw [List.append_assoc]
    rfl
  rw [e]
  have hlen := fL_len (c := c) (sh := sh) (f := f) (M := M) hl m
  have cl := fL_cl (c := c) (sh := sh) (m := m) (f := f) hc hl hM
  refine wl_fin hlen (x := .lst ds) (List.cons_ne_nil _ _) ?_ (by rw [← hlen]; exact cl) q
  refine z_loc (by omega) (z_pl (ds := ds) ?_ (frzL_old _ (hd _)))
  rw [show N + (3 + M.length) = (A ++ fL c N sh m f M).length from hlen.symm]
  exact get_end
theorem x_isNL {S : Sg} {Q : D → Sg → Prop} (o : Option Int) (q : Q (.bl o.isNone) S) : W (isNO false (lifeD o) S) Q := by
  cases o with
  | none => exact x_isN_n q
  | some i => exact x_isN_i q
theorem draw_all (hl : A.length = N) (hc : Cl A) (hM : ∀ x ∈ M, ∀ n, oldO n x = true) (ok : FiOk sh f) (hm : m < 100000) :
    F_SharedFire_draw c [.loc (N + 0)] (A ++ fL c N sh (m : Int) f M) = some (.lst (beatR sh m f), A ++ fL c N sh (m : Int) (beatF sh m f) M) := by
  have main : W (F_SharedFire_draw c [.loc (N + 0)] (A ++ fL c N sh (m : Int) f M)) fun d Z => d = .lst (beatR sh m f) ∧ Z = A ++ fL c N sh (m : Int) (beatF sh m f) M := by
    unfold F_SharedFire_draw B_SharedFire_draw
    refine w_body1 ?_
    walk_at "w"
    have eL : (fL c N sh (m : Int) f M).length = 3 + M.length := by
      show M.length + 1 + 1 + 1 = _
      omega
    rw [eL]
    refine ws_imp (Q' := fun r δ Z => r = .nx ∧ ∃ x2 x3, δ = [some (.loc (N + 0)), some (.loc (N + (3 + M.length))), x2, x3] ∧ Z = A ++ fL c N sh (m : Int) (goN sh m f).2 (M ++ [.lst (beatR sh m f)])) (w_while (fun k δ Z => ∃ r g x2 x3, δ = [some (.loc (N + 0)), some (.loc (N + (3 + M.length))), x2, x3] ∧ Z = A ++ fL c N sh (m : Int) g (M ++ [.lst (r.map (row3 f.t))]) ∧ r.length ≤ m ∧ k = m - r.length ∧ FiOk sh g ∧ g.t = f.t ∧ goN sh m f = (r ++ (goN sh (m - r.length) g).1, (goN sh (m - r.length) g).2)) m (by omega) ?_ ?_) ?_
    · exact ⟨[], f, _, _, rfl, rfl, Nat.zero_le _, rfl, ok, rfl, rfl⟩
    · rintro k δ Z ⟨r, g, x2, x3, rfl, rfl, hr, rfl, og, ht, eg⟩
      walk_at "w"
      refine wl_len (k := 3 + M.length) hl (fL_at _ _ rfl) ?_
      rw [List.length_map]
      walk_at "w"
      refine br_d (fun hlt => ?_) (fun hge => ?_)
      · walk_at "w"
        refine f_meth lk_draw_one hl ?_
        walk_at "w"
        have hk : m - r.length = (m - r.length - 1) + 1 := by omega
        cases ep : pickF sh g with
        | none =>
          refine w_ex (one_none hl og (pick_none og ep)) ?_
          walk_at "w"
          refine w_break ?_
          walk_at "w"
          refine ⟨rfl, _, _, rfl, ?_⟩
          rw [goN_none ep, List.append_nil] at eg
          unfold beatR
          rw [eg]
        | some j =>
          have pj := pick_of ep
          refine w_ex (one_some hl og pj) ?_
          walk_at "w"
          have hnj := pj.lt
          rw [← og.nu] at hnj
          refine ⟨wl_isLoc (k := 3 + M.length) hl (fL_at _ _ rfl), ?_⟩
          walk_at "w"
          refine wl_ix (k := 1) hl rfl (atI_g (bs := (drawnF sh g j).nu) (by rw [(og.drawn j).nu]; exact pj.lt)) ?_
          have e3 : (drawnF sh g j).nu.getD j 0 = g.nu.getD j 0 + 1 := by
            show (g.nu.set j _).getD j 0 = _
            rw [List.getD_eq_getElem?_getD, List.getElem?_set_self hnj]
            rfl
          rw [e3]
          walk_at "w"
          refine wl_app (k := 3 + M.length) hl (fL_at _ _ rfl) (by rw [List.length_map]; omega) ?_
          rw [fL_set _ _ _ rfl]
          walk_at "w"
          rw [hk, goN_some ep] at eg
          refine ⟨m - (r.length + 1), by omega, r ++ [(j, g.nu.getD j 0)], drawnF sh g j, _, _, rfl, ?_, by rw [List.length_append]; show r.length + 1 ≤ m; omega, by rw [List.length_append]; rfl, og.drawn j, ht, ?_⟩
          · rw [List.map_append, show (drawnF sh g j).t = f.t from ht, Int.add_sub_cancel]
            rfl
          · rw [eg, List.length_append, show m - (r.length + [(j, g.nu.getD j 0)].length) = m - r.length - 1 from by show m - (r.length + 1) = _; omega, List.append_assoc]
            rfl
      · refine ⟨rfl, _, _, rfl, ?_⟩
        rw [show m - r.length = 0 by omega] at eg
        unfold beatR
        rw [eg]
        show _ = A ++ fL c N sh (m : Int) g (M ++ [.lst ((r ++ []).map (row3 f.t))])
        rw [List.append_nil]
    · rintro _ δ Z ⟨rfl, x2, x3, rfl, rfl⟩
      obtain ⟨og, ht, hb⟩ := goN_ok sh m f ok
      have eb : beatF sh m f = tickF sh (goN sh m f).2 := rfl
      rw [eb]
      generalize (goN sh m f).2 = g at og ht hb
      walk_at "w"
      have tail : ∀ (z : Option Int) (x3 : Option D), WS (fldaugS c.SharedFire "at" (varD 0) (cD (.int 1)) (int0 fun i j => .int (i + j)) [some (.loc (N + 0)), some (.loc (N + (3 + M.length))), x2, x3] (A ++ fL c N sh (m : Int) { g with bu := z } (M ++ [.lst (beatR sh m f)])))
          (Nx (Bd fin (A ++ fL c N sh (m : Int) f M).length fun d Z => d = .lst (beatR sh m f) ∧ Z = A ++ fL c N sh (m : Int) { g with t := g.t + 1, bu := z } M) fun δ1 S1 => WS (retS (varD 1) δ1 S1) (Bd fin (A ++ fL c N sh (m : Int) f M).length fun d Z => d = .lst (beatR sh m f) ∧ Z = A ++ fL c N sh (m : Int) { g with t := g.t + 1, bu := z } M)) := fun z x3 => by
        refine w_fldaugS ?_
        walk_at "w"
        refine fs_at hl ?_
        walk_at "w"
        exact fL_fin hl hc hM (fL_len hl _) _ (fun n => old_beatR n sh m f) ⟨rfl, rfl⟩
      refine w_lcF (S1 := A ++ fL c N sh (m : Int) g (M ++ [.lst (beatR sh m f)])) (ds := [.int (sh.length : Int)]) (List.range sh.length) (fun i : Nat => .int (i : Int)) (lateP sh g) (fun i : Nat => .int (i : Int)) ?_ (k_rng (by have := ok.few; omega) _) (by rw [List.length_range]; have := ok.few; omega) ?_ ?_
      · walk_at "w"
        rw [List.length_map]
        exact ⟨rfl, rfl⟩
      · intro i hi
        have hi := List.mem_range.mp hi
        walk_at "w"
        refine f_meth lk_last_of hl ?_
        walk_at "w"
        refine w_ex (last_ok hl og hi) ?_
        walk_at "w"
        refine ⟨rfl, rfl, fun _ => ?_⟩
        walk_at "w"
        exact ⟨rfl, rfl⟩
      · have hbu : burnF sh g = match (List.range sh.length).filter (lateP sh g) with
          | [] => g.bu
          | i :: _ => some (i : Int) := rfl
        have et : tickF sh g = { g with t := g.t + 1, bu := burnF sh g } := rfl
        rw [et]
        cases el : (List.range sh.length).filter (lateP sh g) with
        | nil =>
          rw [el] at hbu
          rw [hbu]
          walk_at "w"
          refine ⟨_, rfl, ?_⟩
          walk_at "w"
          exact tail g.bu _
        | cons i r =>
          rw [el] at hbu
          rw [hbu]
          walk_at "w"
          refine ⟨_, rfl, ?_⟩
          walk_at "w"
          refine w_fldS ?_
          walk_at "w"
          refine fs_burning hl ?_
          with_reducible apply nx_nx
          with_reducible apply w_seq
          exact tail (some (i : Int)) _
  obtain ⟨_, _, e, rfl, rfl⟩ := main
  exact e
end
/-! ### beats up to one, how far ahead, the beats in common -/
noncomputable def upF (sh : List Sh) (m : Nat) : Nat → Fi → Fi
  | 0, f => f
  | k + 1, f => match f.bu with
    | some _ => f
    | none => upF sh m k (beatF sh m f)
noncomputable def upR (sh : List Sh) (m : Nat) : Nat → Fi → List D
  | 0, _ => []
  | k + 1, f => match f.bu with
    | some _ => []
    | none => beatR sh m f ++ upR sh m k (beatF sh m f)
theorem up_burnt {sh : List Sh} {m k : Nat} {f : Fi} {i : Int} (h : f.bu = some i) : upF sh m k f = f ∧ upR sh m k f = [] := by
  cases k with
  | zero => exact ⟨rfl, rfl⟩
  | succ k =>
    constructor
    · rw [upF, h]
    · rw [upR, h]
theorem up_go {sh : List Sh} {m k : Nat} {f : Fi} (h : f.bu = none) : upF sh m (k + 1) f = upF sh m k (beatF sh m f) ∧ upR sh m (k + 1) f = beatR sh m f ++ upR sh m k (beatF sh m f) := by
  constructor
  · rw [upF, h]
  · rw [upR, h]
theorem beat_t {sh : List Sh} {m : Nat} {f : Fi} (ok : FiOk sh f) : (beatF sh m f).t = f.t + 1 := by
  show (goN sh m f).2.t + 1 = _
  rw [(goN_ok sh m f ok).2.1]
theorem FiOk.up {sh : List Sh} {m : Nat} : ∀ (k : Nat) {f : Fi}, FiOk sh f → FiOk sh (upF sh m k f)
  | 0, _, ok => ok
  | k + 1, f, ok => by
    cases h : f.bu with
    | some i => rw [(up_burnt h).1]; exact ok
    | none => rw [(up_go h).1]; exact FiOk.up k (ok.beat m)
def aheadF (sh : List Sh) (f : Fi) : List Int := (f.nu.zip sh).map fun x => x.1 * x.2.b - f.t * x.2.p
section
variable {c : Cs} {A : Sg} {N : Nat} {sh : List Sh} {m : Nat} {f : Fi} {M : List Ob}
theorem wl_ext {A : Sg} {L : List Ob} {N k : Nat} {xs ys : List D} {Q : D → Sg → Prop} (hl : A.length = N) (h : L[k]? = some (.lst xs)) (l : xs.length + ys.length < 1000000) (q : Q .non (A ++ L.set k (.lst (xs ++ ys)))) : W (extO (.loc (N + k)) [.lst ys] (A ++ L)) Q := by
  refine ⟨_, _, ?_, q⟩
  unfold extO
  dsimp only
  rw [al_get hl, h]
  show (if Fits _ then _ else _) = _
  rw [if_pos ((fits_iff _).mpr l), al_set hl]
theorem oldL_app (n : Nat) : ∀ (xs ys : List D), oldL n xs = true → oldL n ys = true → oldL n (xs ++ ys) = true
  | [], _, _, h => h
  | x :: xs, ys, h, h2 => by
    have h : (old n x && oldL n xs) = true := h
    rw [Bool.and_eq_true] at h
    show (old n x && oldL n (xs ++ ys)) = true
    rw [h.1, oldL_app n xs ys h.2 h2]
    rfl
theorem upto_ok (hl : A.length = N) (hc : Cl A) (hM : ∀ x ∈ M, ∀ n, oldO n x = true) (ok : FiOk sh f) (hm : m < 1000) (e : Int) (he : e - f.t < 500) :
    F_SharedFire_draw_up_to c [.loc (N + 0), .int e] (A ++ fL c N sh (m : Int) f M) = some (.lst (upR sh m (e - f.t).toNat f), A ++ fL c N sh (m : Int) (upF sh m (e - f.t).toNat f) M) := by
  have main : W (F_SharedFire_draw_up_to c [.loc (N + 0), .int e] (A ++ fL c N sh (m : Int) f M)) fun d Z => d = .lst (upR sh m (e - f.t).toNat f) ∧ Z = A ++ fL c N sh (m : Int) (upF sh m (e - f.t).toNat f) M := by
    unfold F_SharedFire_draw_up_to B_SharedFire_draw_up_to
    refine w_body1 ?_
    walk_at "w"
    have eL : (fL c N sh (m : Int) f M).length = 3 + M.length := by
      show M.length + 1 + 1 + 1 = _
      omega
    rw [eL]
    generalize hk : (e - f.t).toNat = k
    have hk5 : k ≤ 500 := by omega
    refine ws_imp (Q' := fun r δ Z => r = .nx ∧ δ = [some (.loc (N + 0)), some (.int e), some (.loc (N + (3 + M.length)))] ∧ (∀ n, oldL n (upR sh m k f) = true) ∧ Z = A ++ fL c N sh (m : Int) (upF sh m k f) (M ++ [.lst (upR sh m k f)])) (w_while (fun k' δ Z => ∃ r g, δ = [some (.loc (N + 0)), some (.int e), some (.loc (N + (3 + M.length)))] ∧ Z = A ++ fL c N sh (m : Int) g (M ++ [.lst r]) ∧ (∀ n, oldL n r = true) ∧
      k' = (e - g.t).toNat ∧ k' ≤ k ∧ FiOk sh g ∧ r.length ≤ m * (k - k') ∧ upF sh m k f = upF sh m k' g ∧ upR sh m k f = r ++ upR sh m k' g) k (by omega) ?_ ?_) ?_
    · exact ⟨[], f, rfl, rfl, fun _ => rfl, hk.symm, Nat.le_refl _, ok, Nat.zero_le _, rfl, rfl⟩
    · rintro k' δ Z ⟨r, g, rfl, rfl, hr, rfl, hkk, og, hrl, e1, e2⟩
      walk_at "w"
      refine br_d (fun hlt => ?_) (fun hge => ?_)
      · walk_at "w"
        refine x_isNL _ ?_
        walk_at "w"
        cases hb : g.bu with
        | some i =>
          walk_at "w"
          rw [(up_burnt hb).1] at e1
          rw [(up_burnt hb).2, List.append_nil] at e2
          rw [e1, e2]
          exact ⟨rfl, rfl, hr, rfl⟩
        | none =>
          refine br_t rfl ?_
          walk_at "w"
          refine ⟨wl_isLoc (k := 3 + M.length) hl (fL_at _ _ rfl), ?_⟩
          walk_at "w"
          refine f_meth lk_draw hl ?_
          walk_at "w"
          have hM' : ∀ x ∈ M ++ [.lst r], ∀ n, oldO n x = true := fun x hx n => by
            rcases List.mem_append.mp hx with hx | hx
            · exact hM x hx n
            · obtain rfl := List.mem_singleton.mp hx
              exact hr n
          refine w_ex (draw_all hl hc hM' og (by omega)) ?_
          walk_at "w"
          have hk1 : (e - g.t).toNat = (e - g.t - 1).toNat + 1 := by omega
          have hbl := beatR_len sh m g
          have hmul : m * (k - (e - g.t).toNat) + m = m * (k - (e - g.t - 1).toNat) := by
            rw [← Nat.mul_succ]
            congr 1
            omega
          have hmk : m * (k - (e - g.t - 1).toNat) ≤ 1000 * 500 := Nat.mul_le_mul (by omega) (by omega)
          refine wl_ext (k := 3 + M.length) hl (fL_at _ _ rfl) (by omega) ?_
          rw [fL_set _ _ _ rfl]
          walk_at "w"
          rw [hk1] at e1 e2
          rw [(up_go hb).1] at e1
          rw [(up_go hb).2, ← List.append_assoc] at e2
          have et := beat_t (m := m) og
          have e3 : (e - (beatF sh m g).t).toNat = (e - g.t - 1).toNat := by omega
          refine ⟨(e - g.t - 1).toNat, by omega, r ++ beatR sh m g, beatF sh m g, rfl, rfl, fun n => oldL_app n _ _ (hr n) (old_beatR n sh m g), e3.symm, by omega, og.beat m, ?_, e1, e2⟩
          rw [List.length_append]
          omega
      · rw [show (e - g.t).toNat = 0 by omega] at e1 e2
        have e1 : upF sh m k f = g := e1
        have e2 : upR sh m k f = r ++ [] := e2
        rw [List.append_nil] at e2
        rw [e1, e2]
        refine br_f rfl ?_
        exact ⟨rfl, rfl, hr, rfl⟩
    · rintro _ δ Z ⟨rfl, rfl, ho, rfl⟩
      walk_at "w"
      exact fL_fin hl hc hM (fL_len hl _) _ ho ⟨rfl, rfl⟩
  obtain ⟨_, _, e, rfl, rfl⟩ := main
  exact e
theorem k_zpLoc {α β : Type} {xs : List α} {ys : List β} {e : α → D} {e' : β → D} {k : Nat} {L : List Ob} (hl : A.length = N) (h : L[k]? = some (.lst (xs.map e))) (hxy : xs.length = ys.length) : zpK2 [.loc (N + k), .lst (ys.map e')] (A ++ L) = some ((xs.zip ys).map fun p => .tup [e p.1, e' p.2]) := by
  have h1 := k_zpl xs ys e e' hxy (A ++ L)
  unfold zpK2 at h1 ⊢
  dsimp only at h1 ⊢
  rw [wl_ls hl h]
  rw [lsv_lst] at h1
  exact h1
theorem ahead_ok (hl : A.length = N) (ok : FiOk sh f) : F_SharedFire_ahead c [.loc (N + 0)] (A ++ fL c N sh (m : Int) f M) = some (.lst ((aheadF sh f).map .int), A ++ fL c N sh (m : Int) f M) := by
  have main : W (F_SharedFire_ahead c [.loc (N + 0)] (A ++ fL c N sh (m : Int) f M)) fun d Z => d = .lst ((aheadF sh f).map .int) ∧ Z = A ++ fL c N sh (m : Int) f M := by
    unfold F_SharedFire_ahead B_SharedFire_ahead
    refine w_body1 ?_
    walk_at "w"
    refine w_lcA (S1 := A ++ fL c N sh (m : Int) f M) (ds := [.loc (N + 1), .lst (sh.map shT)]) (f.nu.zip sh) (fun x => .tup [.int x.1, shT x.2]) (fun x => .int (x.1 * x.2.b - f.t * x.2.p)) ?_ (k_zpLoc (k := 1) hl rfl ok.nu) (by rw [List.length_zip, ok.nu]; have := ok.few; omega) ?_ ?_
    · walk_at "w"
      exact ⟨rfl, rfl⟩
    · rintro ⟨x, s⟩ hx
      have hs := (List.of_mem_zip hx).2
      have hb := ok.b0 _ hs
      have hp := ok.p0 _ hs
      walk_at "w"
      refine x_ixt (y := .int s.b) rfl ?_
      walk_at "w"
      refine x_ixt (y := .int s.p) rfl ?_
      walk_at "w"
      exact ⟨rfl, rfl⟩
    · walk_at "w"
      refine w_finL rfl ⟨?_, rfl⟩
      unfold aheadF
      rw [List.map_map]
      rfl
  obtain ⟨_, _, e, rfl, rfl⟩ := main
  exact e
end
/-! ### the beats in common; settling -/
section
variable {c : Cs}
theorem gcdN_ok (a b : Nat) (hb : b < 10000000) (S : Sg) : F_common_divisor c [.int (a : Int), .int (b : Int)] S = some (.int ((Nat.gcd a b : Nat) : Int), S) := by
  have main : W (F_common_divisor c [.int (a : Int), .int (b : Int)] S) fun d Z => d = .int ((Nat.gcd a b : Nat) : Int) ∧ Z = S := by
    unfold F_common_divisor B_common_divisor
    refine w_body1 ?_
    walk_at "w"
    refine w_while (fun k δ Z => ∃ x y : Nat, δ = [some (.int (x : Int)), some (.int (y : Int))] ∧ Z = S ∧ k = y ∧ Nat.gcd x y = Nat.gcd a b ∧ y < 10000000) b (by omega) ⟨a, b, rfl, rfl, rfl, rfl, hb⟩ ?_
    rintro k δ Z ⟨x, y, rfl, rfl, rfl, hg, hy⟩
    walk_at "w"
    refine br_d (fun hlt => ?_) (fun hge => ?_)
    · walk_at "w"
      refine ⟨x % k, Nat.mod_lt _ (by omega), k, x % k, ?_, rfl, rfl, ?_, ?_⟩
      · rw [Int.natCast_emod]
        rfl
      · rw [← hg, Nat.gcd_comm x k, Nat.gcd_rec k x, Nat.gcd_comm]
      · have := Nat.mod_lt x (show 0 < k by omega)
        omega
    · walk_at "w"
      refine w_finL rfl ⟨?_, rfl⟩
      rw [← hg, show k = 0 by omega, Nat.gcd_zero_right]
  obtain ⟨_, _, e, rfl, rfl⟩ := main
  exact e
def cbN (sh : List Sh) : Nat := sh.foldl (fun a s => a / Nat.gcd a s.b.toNat * s.b.toNat) 1
theorem common_ok {sh : List Sh} (h : ∀ s ∈ sh, 0 < s.b ∧ s.b < 1000000) (S : Sg) : F_common_beats c [.lst (sh.map shT)] S = some (.int ((cbN sh : Nat) : Int), S) := by
  have main : W (F_common_beats c [.lst (sh.map shT)] S) fun d Z => d = .int ((cbN sh : Nat) : Int) ∧ Z = S := by
    unfold F_common_beats B_common_beats
    refine w_body1 ?_
    walk_at "w"
    refine w_forT (ds := [.lst (sh.map shT)]) sh shT (fun pre δ Z => ∃ x2 x3 x4 x5, δ = [some (.lst (sh.map shT)), some (.int ((cbN pre : Nat) : Int)), x2, x3, x4, x5] ∧ Z = S) ?_ (fun _ _ _ _ => k_sql _ _) ?_ ?_
    · walk_at "w"
      exact ⟨rfl, _, _, _, _, rfl, rfl⟩
    · rintro pre s post δ Z hx ⟨x2, x3, x4, x5, rfl, rfl⟩
      have hs := h s (by rw [hx]; simp)
      obtain ⟨b, hb⟩ := Int.eq_ofNat_of_zero_le (show 0 ≤ s.b by omega)
      have hb' : s.b = (b : Int) := hb
      refine w_tupG (ds := [.int s.b, .int s.p, .int s.fi, .int s.wd]) rfl ?_
      rw [hb']
      walk_at "w"
      refine w_ex (gcdN_ok _ b (by omega) _) ?_
      have hg : Nat.gcd (cbN pre) b ∣ b := Nat.gcd_dvd_right ..
      have hg1 := Nat.le_of_dvd (by omega) hg
      have hg0 : 0 < Nat.gcd (cbN pre) b := Nat.gcd_pos_of_pos_right _ (by omega)
      walk_at "w"
      refine ⟨some (.int (b : Int)), some (.int s.p), some (.int s.fi), some (.int s.wd), ?_, rfl⟩
      have e : cbN (pre ++ [s]) = cbN pre / Nat.gcd (cbN pre) b * b := by
        unfold cbN
        rw [List.foldl_append]
        show _ / Nat.gcd _ s.b.toNat * s.b.toNat = _
        rw [hb', Int.toNat_natCast]
      rw [e, Int.natCast_mul, Int.natCast_ediv]
      rfl
    · rintro δ Z ⟨x2, x3, x4, x5, rfl, rfl⟩
      walk_at "w"
      exact w_finL rfl ⟨rfl, rfl⟩
  obtain ⟨_, _, e, rfl, rfl⟩ := main
  exact e
end
theorem x_eqInts {S : Sg} {xs ys : List Int} {Q : D → Sg → Prop} (q : Q (.bl (decide (xs = ys))) S) : W (eqDO (.lst (xs.map .int)) (.lst (ys.map .int)) S) Q := by
  refine ⟨_, _, ?_, q⟩
  have hp : ∀ ns : List Int, pyT S (.lst (ns.map .int)) = some (.list (ns.map .int)) := fun ns => by
    show (pyL (ns.map .int)).bind _ = _
    rw [pyL_ints]
    rfl
  unfold eqDO deepO
  rw [hp, hp]
  show (if (SeqAt.shaped _ && SeqAt.shaped _) = true then _ else _) = _
  rw [shaped_ints, shaped_ints, if_pos (by rfl)]
  have := PySem.W.Datum.eqv xs ys
  show some (D.bl (PyData.eqv (.list (xs.map .int)) (.list (ys.map .int))), S) = _
  rw [show PyData.eqv (.list (xs.map .int)) (.list (ys.map .int)) = decide (xs = ys) from this]
/-- rounds of so many beats -/
noncomputable def rndF (sh : List Sh) (m many : Nat) (f : Fi) : Nat → Fi
  | 0 => f
  | r + 1 => upF sh m many (rndF sh m many f r)
theorem FiOk.rnd {sh : List Sh} {m many : Nat} {f : Fi} (ok : FiOk sh f) : ∀ r, FiOk sh (rndF sh m many f r)
  | 0 => ok
  | r + 1 => (FiOk.rnd ok r).up many
section
variable {c : Cs} {A : Sg} {N : Nat} {sh : List Sh} {m : Nat} {f g : Fi} {M : List Ob}
theorem settle_ok {Q : D → Sg → Prop} (hl : A.length = N) (hc : Cl A) (hM : ∀ x ∈ M, ∀ n, oldO n x = true) (ok : FiOk sh f) (hm : m < 1000) {mx : Int} (hmx : maxI f.ak = some mx) (hmt : mx - f.t < 500) (hcb : cbN sh < 500)
    (hg : upF sh m (mx - f.t).toNat f = g) (R : Nat) (hR : R < 1000000)
    (hgo : ∀ r, r < R → (rndF sh m (cbN sh) g r).bu = none ∧ ¬ ((rndF sh m (cbN sh) g (r + 1)).bu = none ∧ aheadF sh (rndF sh m (cbN sh) g (r + 1)) = aheadF sh (rndF sh m (cbN sh) g r)))
    (hend : (∃ i, (rndF sh m (cbN sh) g R).bu = some i) ∨ ((rndF sh m (cbN sh) g R).bu = none ∧ (rndF sh m (cbN sh) g (R + 1)).bu = none ∧ aheadF sh (rndF sh m (cbN sh) g (R + 1)) = aheadF sh (rndF sh m (cbN sh) g R)))
    (q1 : ∀ i, (rndF sh m (cbN sh) g R).bu = some i → Q .non (A ++ fL c N sh (m : Int) (rndF sh m (cbN sh) g R) M))
    (q2 : (rndF sh m (cbN sh) g R).bu = none → (rndF sh m (cbN sh) g (R + 1)).bu = none → aheadF sh (rndF sh m (cbN sh) g (R + 1)) = aheadF sh (rndF sh m (cbN sh) g R) → ∀ rows, Q (.lst rows) (A ++ fL c N sh (m : Int) (rndF sh m (cbN sh) g (R + 1)) M)) :
    W (F_SharedFire_settle c [.loc (N + 0)] (A ++ fL c N sh (m : Int) f M)) Q := by
  unfold F_SharedFire_settle B_SharedFire_settle
  refine w_body1 ?_
  walk_at "w"
  refine f_meth lk_upto hl ?_
  walk_at "w"
  refine x_maxA (wl_sq (k := 2) hl rfl) hmx ?_
  walk_at "w"
  refine w_ex (upto_ok hl hc hM ok hm mx hmt) ?_
  rw [hg]
  have og : FiOk sh g := by rw [← hg]; exact ok.up _
  walk_at "w"
  refine w_ex (common_ok ok.b0 _) ?_
  walk_at "w"
  refine w_while (fun k δ Z => ∃ r x2 x3, δ = [some (.loc (N + 0)), some (.int ((cbN sh : Nat) : Int)), x2, x3] ∧ Z = A ++ fL c N sh (m : Int) (rndF sh m (cbN sh) g r) M ∧ r + k = R) R (by omega) ⟨0, _, _, rfl, rfl, by omega⟩ ?_
  rintro k δ Z ⟨r, x2, x3, rfl, rfl, hrk⟩
  have orr := og.rnd (m := m) (many := cbN sh) r
  have orr1 := og.rnd (m := m) (many := cbN sh) (r + 1)
  have hroom : ∀ f' : Fi, (A ++ fL c N sh (m : Int) f' M).length = (A ++ fL c N sh (m : Int) f M).length := fun f' => by rw [fL_len hl, fL_len hl]
  walk_at "w"
  refine x_isNL _ ?_
  walk_at "w"
  cases hb : (rndF sh m (cbN sh) g r).bu with
  | some i =>
    have hrR : r = R := by
      refine Classical.byContradiction fun hne => ?_
      have := (hgo r (by omega)).1
      rw [hb] at this
      cases this
    subst hrR
    refine br_f rfl ?_
    walk_at "w"
    exact w_finL (hroom _) (q1 i hb)
  | none =>
    refine br_t rfl ?_
    walk_at "w"
    refine f_meth lk_ahead hl ?_
    walk_at "w"
    refine w_ex (ahead_ok hl orr) ?_
    walk_at "w"
    refine f_meth lk_upto hl ?_
    walk_at "w"
    refine w_ex (upto_ok hl hc hM orr hm _ (by omega)) ?_
    rw [show ((rndF sh m (cbN sh) g r).t + ((cbN sh : Nat) : Int) - (rndF sh m (cbN sh) g r).t).toNat = cbN sh by omega, show upF sh m (cbN sh) (rndF sh m (cbN sh) g r) = rndF sh m (cbN sh) g (r + 1) from rfl]
    walk_at "w"
    refine x_isNL _ ?_
    walk_at "w"
    cases hb1 : (rndF sh m (cbN sh) g (r + 1)).bu with
    | some i =>
      refine br_f rfl ?_
      walk_at "w"
      have hrR : r < R := by
        refine Classical.byContradiction fun hne => ?_
        have e : r = R := by omega
        subst e
        rcases hend with ⟨i', h⟩ | ⟨_, h, _⟩
        · rw [hb] at h; cases h
        · rw [hb1] at h; cases h
      exact ⟨R - (r + 1), by omega, r + 1, _, _, rfl, rfl, by omega⟩
    | none =>
      refine br_t rfl ?_
      walk_at "w"
      refine f_meth lk_ahead hl ?_
      walk_at "w"
      refine w_ex (ahead_ok hl orr1) ?_
      walk_at "w"
      refine x_eqInts ?_
      walk_at "w"
      refine br_d (fun he => ?_) (fun hne => ?_)
      · have hrR : r = R := by
          refine Classical.byContradiction fun hne => ?_
          exact (hgo r (by omega)).2 ⟨hb1, he⟩
        subst hrR
        walk_at "w"
        exact w_finL (hroom _) (q2 hb hb1 he _)
      · have hrR : r < R := by
          refine Classical.byContradiction fun hn => ?_
          have e : r = R := by omega
          subst e
          rcases hend with ⟨i', h⟩ | ⟨_, _, h⟩
          · rw [hb] at h; cases h
          · exact hne h
        walk_at "w"
        exact ⟨R - (r + 1), by omega, r + 1, _, _, rfl, rfl, by omega⟩
end
/-! ### like shares at one fire: which piece is drawn when -/
def asc (K b p j : Nat) : Nat := j / K * b / p
def numK (K J i : Nat) : Nat := (J + (K - 1 - i)) / K
structure Kb (K b p : Nat) : Prop where
  hk : 0 < K
  hb : 0 < b
  hp : 0 < p
  alt : K = 1 ∨ (b = 1 ∧ p = 1)
theorem Kb.eq {K b p : Nat} (h : Kb K b p) (j : Nat) : asc K b p j = j * b / (p * K) := by
  unfold asc
  rcases h.alt with rfl | ⟨rfl, rfl⟩
  · rw [Nat.div_one, Nat.mul_one]
  · rw [Nat.mul_one, Nat.mul_one, Nat.div_one, Nat.one_mul]
theorem asc_mono {K b p i j : Nat} (h : i ≤ j) : asc K b p i ≤ asc K b p j :=
  Nat.div_le_div_right (Nat.mul_le_mul_right _ (Nat.div_le_div_right h))
theorem num_split {K J : Nat} (hK : 0 < K) {i : Nat} (hi : i < K) : numK K J i = if i < J % K then J / K + 1 else J / K := by
  unfold numK
  have h := Nat.div_add_mod J K
  have hr := Nat.mod_lt J hK
  generalize J % K = r at *
  generalize J / K = q at *
  split
  · have e : J + (K - 1 - i) = (r - 1 - i) + K * (q + 1) := by
      rw [Nat.mul_succ]
      omega
    rw [e, Nat.add_mul_div_left _ _ hK, Nat.div_eq_of_lt (by omega)]
    omega
  · have e : J + (K - 1 - i) = (r + (K - 1 - i)) + K * q := by omega
    rw [e, Nat.add_mul_div_left _ _ hK, Nat.div_eq_of_lt (by omega)]
    omega
theorem mod_succ {K J : Nat} (hK : 0 < K) : (J % K + 1 < K ∧ (J + 1) % K = J % K + 1 ∧ (J + 1) / K = J / K) ∨ (J % K + 1 = K ∧ (J + 1) % K = 0 ∧ (J + 1) / K = J / K + 1) := by
  have h := Nat.div_add_mod J K
  have hr := Nat.mod_lt J hK
  generalize J % K = r at *
  generalize J / K = q at *
  by_cases hc : r + 1 < K
  · refine Or.inl ⟨hc, ?_, ?_⟩
    · rw [show J + 1 = (r + 1) + K * q by omega, Nat.add_mul_mod_self_left, Nat.mod_eq_of_lt hc]
    · rw [show J + 1 = (r + 1) + K * q by omega, Nat.add_mul_div_left _ _ hK, Nat.div_eq_of_lt hc]
      omega
  · have hc : r + 1 = K := by omega
    refine Or.inr ⟨hc, ?_, ?_⟩
    · rw [show J + 1 = 0 + K * (q + 1) by rw [Nat.mul_succ]; omega, Nat.add_mul_mod_self_left, Nat.zero_mod]
    · rw [show J + 1 = 0 + K * (q + 1) by rw [Nat.mul_succ]; omega, Nat.add_mul_div_left _ _ hK, Nat.zero_div]
      omega
theorem num_succ {K J : Nat} (hK : 0 < K) {i : Nat} (hi : i < K) : numK K (J + 1) i = if i = J % K then numK K J i + 1 else numK K J i := by
  rw [num_split hK hi, num_split hK hi]
  have hr := Nat.mod_lt J hK
  rcases mod_succ (J := J) hK with ⟨h1, h2, h3⟩ | ⟨h1, h2, h3⟩
  · rw [h2, h3]
    repeat' split
    all_goals omega
  · rw [h2, h3]
    repeat' split
    all_goals omega
def shK (K b p fi wd : Nat) : List Sh := List.replicate K ⟨b, p, fi, wd⟩
def stF (K b p fi : Nat) (t : Int) (J : Nat) (w : Int) (bu : Option Int) : Fi :=
  ⟨t, (List.range K).map fun i => ((numK K J i : Nat) : Int), (List.range K).map fun i => ((fi + numK K J i * b / p : Nat) : Int), w, bu⟩
theorem rg_getD {K i : Nat} (g : Nat → Int) (h : i < K) : ((List.range K).map g).getD i 0 = g i := by
  rw [List.getD_eq_getElem?_getD, List.getElem?_map, List.getElem?_range h]
  rfl
theorem shK_len {K b p fi wd : Nat} : (shK K b p fi wd).length = K := List.length_replicate ..
theorem shK_at {K b p fi wd i : Nat} (h : i < K) : (shK K b p fi wd).getD i shz = ⟨b, p, fi, wd⟩ := by
  unfold shK
  rw [List.getD_eq_getElem?_getD, List.getElem?_replicate, if_pos h]
  rfl
theorem stF_last {K b p fi wd : Nat} {t : Int} {J : Nat} {w : Int} {bu : Option Int} {i : Nat} (h : i < K) : lastF (shK K b p fi wd) (stF K b p fi t J w bu) i = ((fi + numK K J i * b / p + wd : Nat) : Int) := by
  unfold lastF
  rw [shK_at h]
  show ((List.range K).map _).getD i 0 + _ = _
  rw [rg_getD _ h]
  show (((fi + numK K J i * b / p : Nat) : Int)) + ((wd : Nat) : Int) = _
  omega
theorem stF_ask {K b p fi : Nat} {t : Int} {J : Nat} {w : Int} {bu : Option Int} {i : Nat} (h : i < K) : (stF K b p fi t J w bu).ak.getD i 0 = ((fi + numK K J i * b / p : Nat) : Int) := rg_getD _ h
theorem stF_num {K b p fi : Nat} {t : Int} {J : Nat} {w : Int} {bu : Option Int} {i : Nat} (h : i < K) : (stF K b p fi t J w bu).nu.getD i 0 = ((numK K J i : Nat) : Int) := rg_getD _ h
theorem num_ge {K J : Nat} (hK : 0 < K) {i : Nat} (hi : i < K) : J / K ≤ numK K J i := by
  rw [num_split hK hi]
  split <;> omega
theorem ask_ge {K b p J : Nat} (hK : 0 < K) {i : Nat} (hi : i < K) : asc K b p J ≤ numK K J i * b / p := Nat.div_le_div_right (Nat.mul_le_mul_right _ (num_ge hK hi))
theorem ask_at {K b p J : Nat} (hK : 0 < K) : numK K J (J % K) * b / p = asc K b p J := by
  rw [num_split hK (Nat.mod_lt J hK), if_neg (Nat.lt_irrefl _)]
  rfl
/-- the share ahead of the turn is asked a beat later -/
theorem ask_lt {K b p J : Nat} (h : Kb K b p) {i : Nat} (hi : i < J % K) : numK K J i * b / p = asc K b p J + 1 := by
  have hr := Nat.mod_lt J h.hk
  rw [num_split h.hk (by omega), if_pos hi]
  unfold asc
  rcases h.alt with rfl | ⟨rfl, rfl⟩
  · omega
  · rw [Nat.mul_one, Nat.mul_one, Nat.div_one, Nat.div_one]
theorem ask_nlt {K b p J : Nat} (hK : 0 < K) {i : Nat} (hi : ¬ i < J % K) (hk : i < K) : numK K J i * b / p = asc K b p J := by
  rw [num_split hK hk, if_neg hi]
  rfl
theorem pick_st {K b p fi wd : Nat} (h : Kb K b p) {t : Int} {J : Nat} {w : Int} {bu : Option Int} (ht : ((fi + asc K b p J : Nat) : Int) ≤ t) : pickF (shK K b p fi wd) (stF K b p fi t J w bu) = some (J % K) := by
  have hr := Nat.mod_lt J h.hk
  refine pick_some ⟨by rw [shK_len]; exact hr, ?_, fun i hi _ => ?_⟩
  · rw [stF_ask hr, ask_at h.hk]
    exact ht
  · rw [shK_len] at hi
    rw [stF_last hr, stF_last hi, ask_at h.hk]
    by_cases hc : i < J % K
    · rw [ask_lt h hc]
      omega
    · rw [ask_nlt h.hk hc hi]
      omega
theorem pick_stN {K b p fi wd : Nat} (h : Kb K b p) {t : Int} {J : Nat} {w : Int} {bu : Option Int} (ht : t < ((fi + asc K b p J : Nat) : Int)) : pickF (shK K b p fi wd) (stF K b p fi t J w bu) = none := by
  refine pick_no fun i hi => ?_
  rw [shK_len] at hi
  rw [stF_ask hi]
  have := ask_ge (b := b) (p := p) (J := J) h.hk hi
  show t < _
  omega
theorem rg_set {K i : Nat} (g g' : Nat → Int) (v : Int) (_ : i < K) (hv : g' i = v) (ho : ∀ j, j < K → j ≠ i → g' j = g j) : ((List.range K).map g).set i v = (List.range K).map g' := by
  refine List.ext_getElem (by simp) fun j h1 h2 => ?_
  have hj : j < K := by simpa using h2
  rw [List.getElem_set]
  split
  · rename_i e
    subst e
    simp [hv]
  · rename_i e
    simp [ho j hj (Ne.symm e)]
theorem drawn_st {K b p fi wd : Nat} (h : Kb K b p) {t : Int} {J : Nat} {w : Int} {bu : Option Int} : drawnF (shK K b p fi wd) (stF K b p fi t J w bu) (J % K) = stF K b p fi t (J + 1) (if t - ((fi + asc K b p J : Nat) : Int) > w then t - ((fi + asc K b p J : Nat) : Int) else w) bu := by
  have hr := Nat.mod_lt J h.hk
  unfold drawnF
  rw [stF_ask hr, stF_num hr, shK_at hr, ask_at h.hk]
  have e1 : numK K (J + 1) (J % K) = numK K J (J % K) + 1 := by rw [num_succ h.hk hr, if_pos rfl]
  have e2 : ∀ i, i < K → i ≠ J % K → numK K (J + 1) i = numK K J i := fun i hi hn => by rw [num_succ h.hk hi, if_neg hn]
  have a1 : (stF K b p fi t J w bu).nu.set (J % K) (((numK K J (J % K) : Nat) : Int) + 1) = (stF K b p fi t (J + 1) w bu).nu := by
    refine rg_set _ _ _ hr (by rw [e1]; rfl) fun i hi hn => ?_
    rw [e2 i hi hn]
  have a2 : (stF K b p fi t J w bu).ak.set (J % K) (askF ⟨b, p, fi, wd⟩ (((numK K J (J % K) : Nat) : Int) + 1)) = (stF K b p fi t (J + 1) w bu).ak := by
    refine rg_set _ _ _ hr ?_ fun i hi hn => ?_
    · rw [e1]
      show _ = ((fi : Nat) : Int) + (((numK K J (J % K) : Nat) : Int) + 1) * ((b : Nat) : Int) / ((p : Nat) : Int)
      rw [Int.natCast_add, Int.natCast_ediv, Int.natCast_mul]
      rfl
    · rw [e2 i hi hn]
  rw [a1, a2]
  rfl
/-- so many are drawn, each of them hot -/
theorem go_st {K b p fi wd : Nat} (h : Kb K b p) {t : Int} {bu : Option Int} : ∀ (k J : Nat) (w : Int), (∀ j, j < J + k → ((fi + asc K b p j : Nat) : Int) ≤ t) → ∃ w', (goN (shK K b p fi wd) k (stF K b p fi t J w bu)).2 = stF K b p fi t (J + k) w' bu ∧ ((∀ j, J ≤ j → j < J + k → ((fi + asc K b p j : Nat) : Int) = t) → 0 ≤ w → w' = w)
  | 0, J, w, _ => ⟨w, rfl, fun _ _ => rfl⟩
  | k + 1, J, w, hh => by
    have hp := pick_st (wd := wd) h (w := w) (bu := bu) (hh J (by omega))
    rw [goN_some hp, drawn_st h]
    obtain ⟨w', e, e2⟩ := go_st h k (J + 1) (if t - ((fi + asc K b p J : Nat) : Int) > w then t - ((fi + asc K b p J : Nat) : Int) else w) fun j hj => hh j (by omega)
    refine ⟨w', by rw [e, show J + 1 + k = J + (k + 1) by omega], fun g hw => ?_⟩
    have g0 := g J (Nat.le_refl _) (by omega)
    have ew : (if t - ((fi + asc K b p J : Nat) : Int) > w then t - ((fi + asc K b p J : Nat) : Int) else w) = w := if_neg (by omega)
    rw [e2 (fun j h1 h2 => g j (by omega) (by omega)) (by rw [ew]; exact hw), ew]
/-- with room to spare none that isn't hot is drawn -/
theorem go_stop {K b p fi wd : Nat} (h : Kb K b p) {t : Int} {bu : Option Int} {k n J : Nat} {w : Int} (hk : k ≤ n) (hh : ∀ j, j < J + k → ((fi + asc K b p j : Nat) : Int) ≤ t) (hn : k < n → t < ((fi + asc K b p (J + k) : Nat) : Int)) :
    (goN (shK K b p fi wd) n (stF K b p fi t J w bu)).2 = (goN (shK K b p fi wd) k (stF K b p fi t J w bu)).2 := by
  induction k generalizing n J w with
  | zero =>
    cases n with
    | zero => rfl
    | succ n =>
      have hn : t < ((fi + asc K b p J : Nat) : Int) := hn (by omega)
      rw [goN_none (pick_stN h hn)]
      rfl
  | succ k ih =>
    cases n with
    | zero => omega
    | succ n =>
      have hp := pick_st (wd := wd) h (w := w) (bu := bu) (hh J (by omega))
      rw [goN_some hp, goN_some hp, drawn_st h]
      exact ih (J := J + 1) (by omega) (fun j hj => hh j (by omega)) fun hlt => by
        rw [show J + 1 + k = J + (k + 1) by omega]
        exact hn (by omega)
/-- late is none of them -/
theorem late_no {K b p fi wd : Nat} (h : Kb K b p) {t : Int} {J : Nat} {w : Int} {bu : Option Int} (ht : t < ((fi + asc K b p J + wd : Nat) : Int)) : burnF (shK K b p fi wd) (stF K b p fi t J w bu) = bu := by
  unfold burnF
  have e : (List.range (shK K b p fi wd).length).filter (lateP (shK K b p fi wd) (stF K b p fi t J w bu)) = [] := by
    refine List.filter_eq_nil_iff.mpr fun i hi => ?_
    rw [shK_len] at hi
    have hi := List.mem_range.mp hi
    unfold lateP
    rw [stF_last hi]
    have := ask_ge (b := b) (p := p) (J := J) h.hk hi
    intro hd
    have hd : ((fi + numK K J i * b / p + wd : Nat) : Int) ≤ t := of_decide_eq_true hd
    omega
  rw [e]
  rfl
theorem filter_rg (P : Nat → Bool) {K j : Nat} (hj : j < K) (h : P j = true) (hl : ∀ i, i < j → P i = false) : ∃ r, (List.range K).filter P = j :: r := by
  have e : List.range K = List.range j ++ j :: (List.range (K - j - 1)).map (fun i => i + (j + 1)) := by
    refine List.ext_getElem (by simp; omega) fun i h1 h2 => ?_
    by_cases hc : i < j
    · rw [List.getElem_append_left (by simpa using hc)]
      simp
    · rw [List.getElem_append_right (by simpa using hc)]
      rcases Nat.lt_or_ge j i with hg | hg
      · obtain ⟨d, rfl⟩ : ∃ d, i = j + 1 + d := ⟨i - (j + 1), by omega⟩
        simp [show j + 1 + d - j = d + 1 by omega]
        omega
      · obtain rfl : i = j := by omega
        simp
  rw [e, List.filter_append, List.filter_eq_nil_iff.mpr fun i hi => by rw [hl i (List.mem_range.mp hi)]; exact Bool.false_ne_true, List.nil_append, List.filter_cons_of_pos h]
  exact ⟨_, rfl⟩
theorem late_at {K b p fi wd : Nat} (h : Kb K b p) {t : Int} {J : Nat} {w : Int} {bu : Option Int} (ht : t = ((fi + asc K b p J + wd : Nat) : Int)) : burnF (shK K b p fi wd) (stF K b p fi t J w bu) = some ((J % K : Nat) : Int) := by
  have hr := Nat.mod_lt J h.hk
  unfold burnF
  obtain ⟨r, e⟩ : ∃ r, (List.range (shK K b p fi wd).length).filter (lateP (shK K b p fi wd) (stF K b p fi t J w bu)) = (J % K) :: r := by
    rw [shK_len]
    refine filter_rg _ hr ?_ fun i hi => ?_
    · unfold lateP
      rw [stF_last hr, ask_at h.hk]
      exact decide_eq_true (show _ ≤ t by omega)
    · unfold lateP
      rw [stF_last (by omega), ask_lt h hi]
      exact decide_eq_false (show ¬ _ ≤ t by omega)
  rw [e]
/-- a beat: k more drawn, none late behind it -/
theorem beat_no {K b p fi wd m : Nat} (h : Kb K b p) {t : Int} {J k : Nat} {w : Int} (hk : k ≤ m) (hh : ∀ j, j < J + k → ((fi + asc K b p j : Nat) : Int) ≤ t) (hn : k < m → t < ((fi + asc K b p (J + k) : Nat) : Int)) (hl : t < ((fi + asc K b p (J + k) + wd : Nat) : Int)) :
    ∃ w', beatF (shK K b p fi wd) m (stF K b p fi t J w none) = stF K b p fi (t + 1) (J + k) w' none ∧ ((∀ j, J ≤ j → j < J + k → ((fi + asc K b p j : Nat) : Int) = t) → 0 ≤ w → w' = w) := by
  obtain ⟨w', e, e2⟩ := go_st (wd := wd) h (bu := none) k J w hh
  refine ⟨w', ?_, e2⟩
  unfold beatF
  rw [go_stop h hk hh hn, e]
  unfold tickF
  rw [late_no h hl]
  rfl
theorem beat_at {K b p fi wd m : Nat} (h : Kb K b p) {t : Int} {J : Nat} {w : Int} (hh : ∀ j, j < J + m → ((fi + asc K b p j : Nat) : Int) ≤ t) (hl : t = ((fi + asc K b p (J + m) + wd : Nat) : Int)) :
    ∃ w', beatF (shK K b p fi wd) m (stF K b p fi t J w none) = stF K b p fi (t + 1) (J + m) w' (some (((J + m) % K : Nat) : Int)) := by
  obtain ⟨w', e, _⟩ := go_st (wd := wd) h (bu := none) m J w hh
  refine ⟨w', ?_⟩
  unfold beatF
  rw [e]
  unfold tickF
  rw [late_at h hl]
  rfl
/-! ### from the first beat on: kept for ever, or burnt at some beat -/
theorem cb_sh {K b p fi wd : Nat} (hK : 0 < K) (hb : 0 < b) : cbN (shK K b p fi wd) = b := by
  have h1 : ∀ k, (List.replicate k (⟨b, p, fi, wd⟩ : Sh)).foldl (fun a s => a / Nat.gcd a s.b.toNat * s.b.toNat) b = b := fun k => by
    induction k with
    | zero => rfl
    | succ k ih =>
      rw [List.replicate_succ, List.foldl_cons]
      have e : b / Nat.gcd b (Sh.b ⟨b, p, fi, wd⟩).toNat * (Sh.b ⟨b, p, fi, wd⟩).toNat = b := by
        show b / Nat.gcd b ((b : Int).toNat) * ((b : Int).toNat) = b
        rw [Int.toNat_natCast, Nat.gcd_self, Nat.div_self hb, Nat.one_mul]
      rw [e]
      exact ih
  unfold cbN shK
  cases K with
  | zero => omega
  | succ k =>
    rw [List.replicate_succ, List.foldl_cons]
    have e : 1 / Nat.gcd 1 (Sh.b ⟨b, p, fi, wd⟩).toNat * (Sh.b ⟨b, p, fi, wd⟩).toNat = b := by
      show 1 / Nat.gcd 1 ((b : Int).toNat) * ((b : Int).toNat) = b
      rw [Int.toNat_natCast, Nat.gcd_one_left, Nat.div_one, Nat.one_mul]
    rw [e]
    exact h1 k
theorem ahead_st {K b p fi wd : Nat} {t : Int} {J : Nat} {w : Int} {bu : Option Int} : aheadF (shK K b p fi wd) (stF K b p fi t J w bu) = (List.range K).map fun i => ((numK K J i : Nat) : Int) * (b : Int) - t * (p : Int) := by
  unfold aheadF shK
  refine List.ext_getElem (by simp [stF]) fun i h1 h2 => ?_
  simp [stF]
theorem asc_zero {K b p : Nat} : asc K b p 0 = 0 := by
  unfold asc
  rw [Nat.zero_div, Nat.zero_mul, Nat.zero_div]
theorem pre_st {K b p fi wd m : Nat} (h : Kb K b p) : ∀ d, d ≤ fi → upF (shK K b p fi wd) m d (stF K b p fi (((fi - d : Nat) : Int)) 0 0 none) = stF K b p fi (fi : Int) 0 0 none
  | 0, _ => rfl
  | d + 1, hd => by
    obtain ⟨w', e, e2⟩ := beat_no (fi := fi) (wd := wd) (m := m) h (t := ((fi - (d + 1) : Nat) : Int)) (J := 0) (k := 0) (w := 0) (Nat.zero_le _) (fun j hj => absurd hj (by omega))
      (fun _ => by show _ < ((fi + asc K b p 0 : Nat) : Int); rw [asc_zero]; omega) (by show _ < ((fi + asc K b p 0 + wd : Nat) : Int); rw [asc_zero]; omega)
    rw [(up_go rfl).1, e, e2 (fun j h1 h2 => absurd h2 (by omega)) (Int.le_refl _)]
    have := pre_st (fi := fi) (wd := wd) (m := m) h d (by omega)
    rw [show ((fi - (d + 1) : Nat) : Int) + 1 = ((fi - d : Nat) : Int) by omega]
    exact this
def cntK (K b p d : Nat) : Nat := K * ((d * p + b - 1) / b)
theorem cnt_below {K b p d j : Nat} (h : Kb K b p) (hj : j < cntK K b p (d + 1)) : asc K b p j ≤ d := by
  unfold cntK at hj
  unfold asc
  have h1 : j / K < ((d + 1) * p + b - 1) / b := Nat.div_lt_of_lt_mul hj
  have h2 : (j / K + 1) * b ≤ (d + 1) * p + b - 1 := (Nat.le_div_iff_mul_le h.hb).mp h1
  rw [Nat.succ_mul] at h2
  have hb := h.hb
  exact Nat.le_of_lt_succ ((Nat.div_lt_iff_lt_mul h.hp).mpr (by rw [Nat.succ_eq_add_one]; omega))
theorem cnt_from {K b p d j : Nat} (h : Kb K b p) (hj : cntK K b p d ≤ j) : d ≤ asc K b p j := by
  unfold cntK at hj
  unfold asc
  have h1 : (d * p + b - 1) / b ≤ j / K := (Nat.le_div_iff_mul_le h.hk).mpr (by rw [Nat.mul_comm]; exact hj)
  have h2 : d * p + b - 1 < (j / K + 1) * b := (Nat.div_lt_iff_lt_mul h.hb).mp (Nat.lt_succ_of_le h1)
  rw [Nat.succ_mul] at h2
  exact (Nat.le_div_iff_mul_le h.hp).mpr (by omega)
theorem cnt_room {K b p m d : Nat} (h : Kb K b p) (hA : p * K ≤ m * b) : cntK K b p (d + 1) ≤ cntK K b p d + m := by
  unfold cntK
  rcases h.alt with rfl | ⟨rfl, rfl⟩
  · rw [Nat.one_mul, Nat.one_mul]
    rw [Nat.mul_one] at hA
    have e : ((d + 1) * p + b - 1) / b ≤ (d * p + b - 1 + b * m) / b := Nat.div_le_div_right (by
      rw [Nat.succ_mul, Nat.mul_comm b m]
      have := h.hb
      omega)
    rw [Nat.add_mul_div_left _ _ h.hb] at e
    exact e
  · simp only [Nat.mul_one, Nat.div_one, Nat.add_sub_cancel]
    rw [Nat.mul_succ]
    omega
theorem cnt_zero {K b p : Nat} (h : Kb K b p) : cntK K b p 0 = 0 := by
  unfold cntK
  rw [Nat.zero_mul, Nat.zero_add, Nat.div_eq_of_lt (by have := h.hb; omega), Nat.mul_zero]
theorem cnt_all {K b p : Nat} (h : Kb K b p) : cntK K b p b = K * p := by
  unfold cntK
  have hb := h.hb
  rw [show b * p + b - 1 = (b - 1) + b * p by omega, Nat.add_mul_div_left _ _ hb, Nat.div_eq_of_lt (by omega), Nat.zero_add]
theorem kept_st {K b p fi wd m : Nat} (h : Kb K b p) (hA : p * K ≤ m * b) : ∀ k d, upF (shK K b p fi wd) m k (stF K b p fi ((fi + d : Nat) : Int) (cntK K b p d) 0 none) = stF K b p fi ((fi + (d + k) : Nat) : Int) (cntK K b p (d + k)) 0 none
  | 0, d => rfl
  | k + 1, d => by
    have hr := cnt_room (d := d) h hA
    have hm : cntK K b p d ≤ cntK K b p (d + 1) := by
      unfold cntK
      exact Nat.mul_le_mul_left _ (Nat.div_le_div_right (by rw [Nat.succ_mul]; omega))
    have e0 : cntK K b p d + (cntK K b p (d + 1) - cntK K b p d) = cntK K b p (d + 1) := by omega
    have hf := cnt_from (d := d + 1) h (Nat.le_refl _)
    obtain ⟨w', e, e2⟩ := beat_no (fi := fi) (wd := wd) (m := m) h (t := ((fi + d : Nat) : Int)) (J := cntK K b p d) (k := cntK K b p (d + 1) - cntK K b p d) (w := 0) (by omega)
      (fun j hj => by rw [e0] at hj; have := cnt_below h hj; omega) (fun _ => by rw [e0]; omega) (by rw [e0]; omega)
    rw [(up_go rfl).1, e, e2 (fun j h1 h2 => by rw [e0] at h2; have := cnt_below h h2; have := cnt_from h h1; omega) (Int.le_refl _), e0]
    have := kept_st (fi := fi) (wd := wd) h hA k (d + 1)
    rw [show (((fi + d : Nat) : Int)) + 1 = ((fi + (d + 1) : Nat) : Int) by omega, this, show d + 1 + k = d + (k + 1) by omega]
/-- the beat behind whose draws the next piece is late -/
def Bn (b P m wd d : Nat) : Prop := m * (d + 1) * b / P + wd ≤ d
structure FirstAt (b P m wd D : Nat) : Prop where
  at_ : Bn b P m wd D
  no : ∀ e, e < D → ¬ Bn b P m wd e
theorem first_ex {b P m wd : Nat} (hP : 0 < P) (hB : m * b < P) : ∃ D, D < P * (wd + 1) ∧ FirstAt b P m wd D := by
  have hex : Bn b P m wd (P * (wd + 1) - 1) := by
    unfold Bn
    have h1 : 0 < P * (wd + 1) := Nat.mul_pos hP (by omega)
    rw [show P * (wd + 1) - 1 + 1 = P * (wd + 1) by omega, show m * (P * (wd + 1)) * b = P * (m * b * (wd + 1)) by
      rw [Nat.mul_left_comm m P, Nat.mul_assoc P, Nat.mul_assoc m, Nat.mul_comm (wd + 1) b, ← Nat.mul_assoc m b], Nat.mul_div_cancel_left _ hP]
    have h2 : (m * b + 1) * (wd + 1) ≤ P * (wd + 1) := Nat.mul_le_mul_right _ hB
    rw [Nat.succ_mul] at h2
    omega
  have least : ∀ n, ∀ d, d ≤ n → Bn b P m wd d → ∃ D, D ≤ d ∧ FirstAt b P m wd D := fun n => by
    induction n with
    | zero => exact fun d hd h => ⟨d, Nat.le_refl _, h, fun e he => absurd he (by omega)⟩
    | succ n ih =>
      intro d hd h
      by_cases hc : ∃ e, e < d ∧ Bn b P m wd e
      · obtain ⟨e, he, h2⟩ := hc
        obtain ⟨D, hD, hf⟩ := ih e (by omega) h2
        exact ⟨D, by omega, hf⟩
      · exact ⟨d, Nat.le_refl _, h, fun e he h3 => hc ⟨e, he, h3⟩⟩
  obtain ⟨D, hD, hf⟩ := least _ _ (Nat.le_refl _) hex
  have : 0 < P * (wd + 1) := Nat.mul_pos hP (by omega)
  exact ⟨D, by omega, hf⟩
theorem FirstAt.eq {b P m wd D : Nat} (h : FirstAt b P m wd D) : m * (D + 1) * b / P + wd = D := by
  have h1 : m * (D + 1) * b / P + wd ≤ D := h.at_
  rcases Nat.eq_zero_or_pos D with h0 | h0
  · generalize m * (D + 1) * b / P = x at h1 ⊢
    omega
  · have h2 := h.no (D - 1) (by omega)
    unfold Bn at h2
    have h3 : m * (D - 1 + 1) * b / P ≤ m * (D + 1) * b / P := Nat.div_le_div_right (Nat.mul_le_mul_right _ (Nat.mul_le_mul_left _ (by omega)))
    omega
theorem FirstAt.scale {b P m wd D o : Nat} (ho : 0 < o) (h : FirstAt b P m wd D) : FirstAt (o * b) (o * P) m wd D := by
  have e : ∀ d, Bn (o * b) (o * P) m wd d ↔ Bn b P m wd d := fun d => by
    unfold Bn
    rw [Nat.mul_left_comm, Nat.mul_div_mul_left _ _ ho]
  exact ⟨(e D).mpr h.at_, fun d hd hb => h.no d hd ((e d).mp hb)⟩
theorem drift {b P m d j : Nat} (hP : 0 < P) (hB : m * b < P) (hj : j < m * (d + 1)) : j * b / P ≤ d := by
  refine Nat.le_of_lt_succ ((Nat.div_lt_iff_lt_mul hP).mpr ?_)
  rcases Nat.eq_zero_or_pos b with rfl | hb
  · rw [Nat.mul_zero]
    exact Nat.mul_pos (by omega) hP
  · calc j * b < m * (d + 1) * b := Nat.mul_lt_mul_of_pos_right hj hb
      _ = (d + 1) * (m * b) := by rw [Nat.mul_comm m (d + 1), Nat.mul_assoc]
      _ ≤ (d + 1) * P := Nat.mul_le_mul_left _ (by omega)
theorem wait_st {K b p fi wd m D : Nat} (h : Kb K b p) (hB : m * b < p * K) (hD : FirstAt b (p * K) m wd D) : ∀ k d (w : Int), d + k ≤ D → ∃ w', upF (shK K b p fi wd) m k (stF K b p fi ((fi + d : Nat) : Int) (m * d) w none) = stF K b p fi ((fi + (d + k) : Nat) : Int) (m * (d + k)) w' none
  | 0, d, w, _ => ⟨w, rfl⟩
  | k + 1, d, w, hk => by
    have hP : 0 < p * K := Nat.mul_pos h.hp h.hk
    have e0 : m * d + m = m * (d + 1) := rfl
    have hno := hD.no d (by omega)
    unfold Bn at hno
    rw [← h.eq] at hno
    obtain ⟨w', e, _⟩ := beat_no (fi := fi) (wd := wd) (m := m) h (t := ((fi + d : Nat) : Int)) (J := m * d) (k := m) (w := w) (Nat.le_refl _)
      (fun j hj => by rw [e0] at hj; have := drift hP hB hj; rw [← h.eq] at this; omega) (fun hlt => absurd hlt (Nat.lt_irrefl _)) (by rw [e0]; omega)
    rw [(up_go rfl).1, e, e0]
    obtain ⟨w2, e2⟩ := wait_st (fi := fi) h hB hD k (d + 1) w' (by omega)
    refine ⟨w2, ?_⟩
    rw [show (((fi + d : Nat) : Int)) + 1 = ((fi + (d + 1) : Nat) : Int) by omega, e2, show d + 1 + k = d + (k + 1) by omega]
theorem up_add {sh : List Sh} {m : Nat} : ∀ (j k : Nat) (f : Fi), upF sh m (j + k) f = upF sh m k (upF sh m j f)
  | 0, k, f => by rw [Nat.zero_add]; rfl
  | j + 1, k, f => by
    cases hb : f.bu with
    | some i => rw [(up_burnt hb).1, (up_burnt hb).1, (up_burnt hb).1]
    | none =>
      rw [show j + 1 + k = (j + k) + 1 by omega, (up_go hb).1, (up_go hb).1]
      exact up_add j k _
theorem burnt_st {K b p fi wd m D : Nat} (h : Kb K b p) (hB : m * b < p * K) (hD : FirstAt b (p * K) m wd D) {k d : Nat} {w : Int} (hd : d ≤ D) (hk : D < d + k) : ∃ w', upF (shK K b p fi wd) m k (stF K b p fi ((fi + d : Nat) : Int) (m * d) w none) = stF K b p fi ((fi + D + 1 : Nat) : Int) (m * (D + 1)) w' (some ((m * (D + 1) % K : Nat) : Int)) := by
  have hP : 0 < p * K := Nat.mul_pos h.hp h.hk
  rw [show k = (D - d) + ((d + k - D - 1) + 1) by omega, up_add]
  obtain ⟨w1, e1⟩ := wait_st (fi := fi) h hB hD (D - d) d w (by omega)
  rw [e1, show d + (D - d) = D by omega, (up_go rfl).1]
  have e0 : m * D + m = m * (D + 1) := rfl
  have heq := hD.eq
  rw [← h.eq] at heq
  obtain ⟨w', e⟩ := beat_at (fi := fi) (wd := wd) (m := m) h (t := ((fi + D : Nat) : Int)) (J := m * D) (w := w1)
    (fun j hj => by rw [e0] at hj; have := drift hP hB hj; rw [← h.eq] at this; omega) (by rw [e0]; omega)
  rw [e, e0, (up_burnt rfl).1]
  exact ⟨w', by rw [show ((fi + D : Nat) : Int) + 1 = ((fi + D + 1 : Nat) : Int) by omega]⟩
/-! rounds -/
theorem rnd_kept {K b p fi wd m : Nat} (h : Kb K b p) (hA : p * K ≤ m * b) : rndF (shK K b p fi wd) m b (stF K b p fi (fi : Int) 0 0 none) 1 = stF K b p fi ((fi + b : Nat) : Int) (K * p) 0 none := by
  show upF _ m b (stF K b p fi (fi : Int) 0 0 none) = _
  have := kept_st (fi := fi) (wd := wd) h hA b 0
  rw [cnt_zero h, Nat.zero_add, cnt_all h] at this
  exact this
theorem num_all {K p i : Nat} (hi : i < K) : numK K (K * p) i = p := by
  unfold numK
  rw [Nat.add_comm, Nat.add_mul_div_left _ _ (by omega), Nat.div_eq_of_lt (by omega), Nat.zero_add]
theorem num_zero {K i : Nat} (hi : i < K) : numK K 0 i = 0 := by
  unfold numK
  exact Nat.div_eq_of_lt (by omega)
theorem ahead_kept {K b p fi wd : Nat} {w w2 : Int} {bu bu2 : Option Int} : aheadF (shK K b p fi wd) (stF K b p fi ((fi + b : Nat) : Int) (K * p) w bu) = aheadF (shK K b p fi wd) (stF K b p fi (fi : Int) 0 w2 bu2) := by
  rw [ahead_st, ahead_st]
  refine List.map_congr_left fun i hi => ?_
  have hi := List.mem_range.mp hi
  rw [num_all hi, num_zero hi, Int.natCast_add, Int.add_mul, Int.mul_comm (p : Int) (b : Int)]
  omega
theorem num_next {K J i : Nat} (hK : 0 < K) (hi : i < K) : J ≤ numK K J i * K + i := by
  unfold numK
  have h1 := Nat.div_add_mod (J + (K - 1 - i)) K
  have h2 := Nat.mod_lt (J + (K - 1 - i)) hK
  rw [Nat.mul_comm] at h1
  omega
theorem ahead_far {K b p fi wd m d : Nat} {w w2 : Int} {bu bu2 : Option Int} (h : Kb K b p) (hB : m * b < p * K) : aheadF (shK K b p fi wd) (stF K b p fi ((fi + (d + b) : Nat) : Int) (m * (d + b)) w bu) ≠ aheadF (shK K b p fi wd) (stF K b p fi ((fi + d : Nat) : Int) (m * d) w2 bu2) := by
  rw [ahead_st, ahead_st]
  intro e
  have hr := Nat.mod_lt (m * (d + b)) h.hk
  have e1 := congrArg (fun l : List Int => l.getD (m * (d + b) % K) 0) e
  rw [rg_getD _ hr, rg_getD _ hr] at e1
  have hn := num_next (J := m * d) h.hk hr
  have h1 := num_split (J := m * (d + b)) h.hk hr
  rw [if_neg (Nat.lt_irrefl _)] at h1
  have h2 := Nat.div_add_mod (m * (d + b)) K
  rw [← h1] at h2
  generalize numK K (m * (d + b)) (m * (d + b) % K) = x at e1 h2
  generalize numK K (m * d) (m * (d + b) % K) = y at e1 hn
  generalize m * (d + b) % K = i at h2 hn
  have e2 : (x : Int) * (b : Int) = ((y : Int) + (p : Int)) * (b : Int) := by
    have : ((fi + (d + b) : Nat) : Int) * (p : Int) = ((fi + d : Nat) : Int) * (p : Int) + (p : Int) * (b : Int) := by
      rw [show ((fi + (d + b) : Nat) : Int) = ((fi + d : Nat) : Int) + (b : Int) by omega, Int.add_mul, Int.mul_comm (b : Int)]
    rw [this] at e1
    rw [Int.add_mul]
    omega
  have hb := h.hb
  have e3 : (x : Int) = y + p := Int.eq_of_mul_eq_mul_right (by omega) e2
  have e4 : x = y + p := by omega
  subst e4
  rw [Nat.mul_comm, Nat.add_mul, Nat.mul_add] at h2
  omega
theorem rnd_wait {K b p fi wd m D : Nat} (h : Kb K b p) (hB : m * b < p * K) (hD : FirstAt b (p * K) m wd D) : ∀ r, r * b ≤ D → ∃ w, rndF (shK K b p fi wd) m b (stF K b p fi (fi : Int) 0 0 none) r = stF K b p fi ((fi + r * b : Nat) : Int) (m * (r * b)) w none
  | 0, _ => ⟨0, by rw [Nat.zero_mul, Nat.mul_zero]; rfl⟩
  | r + 1, hr => by
    rw [Nat.succ_mul] at hr
    obtain ⟨w, e⟩ := rnd_wait (fi := fi) h hB hD r (by omega)
    show ∃ w, upF _ m b (rndF _ m b _ r) = _
    rw [e]
    obtain ⟨w', e2⟩ := wait_st (fi := fi) h hB hD b (r * b) w hr
    exact ⟨w', by rw [e2, Nat.succ_mul]⟩
theorem rnd_burnt {K b p fi wd m D : Nat} (h : Kb K b p) (hB : m * b < p * K) (hD : FirstAt b (p * K) m wd D) : ∃ w, rndF (shK K b p fi wd) m b (stF K b p fi (fi : Int) 0 0 none) (D / b + 1) = stF K b p fi ((fi + D + 1 : Nat) : Int) (m * (D + 1)) w (some ((m * (D + 1) % K : Nat) : Int)) := by
  have h1 := Nat.div_mul_le_self D b
  have h2 : D < (D / b + 1) * b := by
    have := Nat.div_add_mod D b
    have := Nat.mod_lt D h.hb
    rw [Nat.succ_mul, Nat.mul_comm]
    omega
  rw [Nat.succ_mul] at h2
  obtain ⟨w, e⟩ := rnd_wait (fi := fi) h hB hD (D / b) h1
  show ∃ w, upF _ m b (rndF _ m b _ (D / b)) = _
  rw [e]
  exact burnt_st h hB hD h1 h2
theorem rnd_far {K b p fi wd m D : Nat} (h : Kb K b p) (hB : m * b < p * K) (hD : FirstAt b (p * K) m wd D) {r : Nat} (hr : r < D / b + 1) :
    (rndF (shK K b p fi wd) m b (stF K b p fi (fi : Int) 0 0 none) r).bu = none ∧ ¬ ((rndF (shK K b p fi wd) m b (stF K b p fi (fi : Int) 0 0 none) (r + 1)).bu = none ∧ aheadF (shK K b p fi wd) (rndF (shK K b p fi wd) m b (stF K b p fi (fi : Int) 0 0 none) (r + 1)) = aheadF (shK K b p fi wd) (rndF (shK K b p fi wd) m b (stF K b p fi (fi : Int) 0 0 none) r)) := by
  have h1 : r * b ≤ D := Nat.le_trans (Nat.mul_le_mul_right _ (by omega)) (Nat.div_mul_le_self D b)
  obtain ⟨w, e⟩ := rnd_wait (fi := fi) h hB hD r h1
  refine ⟨by rw [e]; rfl, fun ⟨g1, g2⟩ => ?_⟩
  by_cases hc : (r + 1) * b ≤ D
  · obtain ⟨w2, e2⟩ := rnd_wait (fi := fi) h hB hD (r + 1) hc
    rw [e, e2, Nat.succ_mul] at g2
    exact ahead_far h hB g2
  · have hr2 : r = D / b := by
      have : D / b < r + 1 := (Nat.div_lt_iff_lt_mul h.hb).mpr (by omega)
      omega
    subst hr2
    obtain ⟨w2, e2⟩ := rnd_burnt (fi := fi) h hB hD
    rw [e2] at g1
    cases g1
/-! ### the fire is made; for ever -/
theorem w_mk {φ : Nat → D → Sg → Option (D × Sg)} {C : Addr} {F : Fn} {dds : List D} {f : FA} {δ : Dl} {S : Sg} {Q : D → Sg → Prop}
    (h : W (f δ S) fun ds S1 => W (F (.loc S1.length :: (ds ++ dds)) (S1 ++ [.ins C []])) fun r S2 => r = .non ∧ W (φ S1.length (.loc (S1.length + 0)) S2) Q) : W (mkD φ C F dds f δ S) Q := by
  obtain ⟨ds, S1, e1, r, S2, e2, rfl, d, S3, e3, q⟩ := h
  refine ⟨d, S3, ?_, q⟩
  rw [mkD_ap, e1]
  show (F _ _).bd _ = _
  rw [e2]
  exact e3
theorem fs_put {A : Sg} {N : Nat} {L : List Ob} {C : Addr} {gs gs' : List (Str × D)} {f : Str} {v : D} {Q : Fl → Dl → Sg → Prop} {δ : Dl} (hl : A.length = N) (hg : L[0]? = some (.ins C gs)) (h : putD f v gs = gs') (l : gs.length < 1000) (q : Q .nx δ (A ++ L.set 0 (.ins C gs'))) : ∃ n hs, D.loc (N + 0) = .loc n ∧ (A ++ L)[n]? = some (.ins C hs) ∧ hs.length < 1000 ∧ Q .nx δ ((A ++ L).set n (.ins C (putD f v hs))) := by
  refine ⟨_, _, rfl, by rw [al_get hl]; exact hg, l, ?_⟩
  rw [al_set hl, h]
  exact q
theorem fs_get {A : Sg} {N : Nat} {L : List Ob} {C : Addr} {gs : List (Str × D)} {f : Str} {x : D} {P : D → Prop} (hl : A.length = N) (hg : L[0]? = some (.ins C gs)) (hx : gs.lookup f = some x) (q : P x) : ∃ hs y, fsOf (A ++ L) C (.loc (N + 0)) = some hs ∧ hs.lookup f = some y ∧ P y := by
  refine ⟨gs, x, ?_, hx, q⟩
  unfold fsOf
  dsimp only
  rw [al_get hl, hg]
  exact if_pos rfl
/-- the shares as handed in: each may be made a tuple -/
structure Shs (d : D) (sh : List Sh) : Prop where
  sq : ∃ e : Sh → D, (∀ Z, sqOf Z d = some (sh.map e)) ∧ ∀ s Z, tupleO [e s] Z = some (shT s, Z)
  few : sh.length < 100000
theorem shs_lst {sh : List Sh} (h : sh.length < 100000) : Shs (.lst (sh.map shT)) sh := ⟨⟨shT, fun _ => rfl, fun _ _ => tuplev_tup ..⟩, h⟩
def f00 (sh : List Sh) : Fi := ⟨0, List.replicate sh.length 0, sh.map (·.fi), 0, none⟩
theorem init_ok (c : Cs) {A : Sg} {N : Nat} {sh : List Sh} {d : D} {m : Int} (hl : A.length = N) (hs : Shs d sh) : F_SharedFire_init c [.loc (N + 0), d, .int m] (A ++ [.ins c.SharedFire []]) = some (.non, A ++ fL c N sh m (f00 sh) []) := by
  obtain ⟨⟨e, hd, he⟩, few⟩ := hs
  have main : W (F_SharedFire_init c [.loc (N + 0), d, .int m] (A ++ [.ins c.SharedFire []])) fun r Z => r = .non ∧ Z = A ++ fL c N sh m (f00 sh) [] := by
    unfold F_SharedFire_init B_SharedFire_init
    refine w_body1 ?_
    walk_at "w"
    refine w_fldS ?_
    refine w_lcA (S1 := A ++ [.ins c.SharedFire []]) (ds := [d]) sh e shT ?_ (by rw [sqK_1, hd]) (by omega) ?_ ?_
    · walk_at "w"
      exact ⟨rfl, rfl⟩
    · intro s _
      walk_at "w"
      exact ⟨_, _, he s _, rfl, rfl⟩
    walk_at "w"
    refine fs_put (L := [.ins c.SharedFire []]) (gs' := [("shares", .lst (sh.map shT))]) hl rfl (by kernel_rfl) (by decide) ?_
    walk_at "w"
    refine w_fldS ?_
    walk_at "w"
    refine fs_put hl rfl (gs' := [("shares", .lst (sh.map shT)), ("mouth", .int m)]) (by kernel_rfl) (by show 1 < 1000; decide) ?_
    walk_at "w"
    refine w_fldS ?_
    walk_at "w"
    refine fs_put hl rfl (gs' := [("shares", .lst (sh.map shT)), ("mouth", .int m), ("at", .int 0)]) (by kernel_rfl) (by show 2 < 1000; decide) ?_
    walk_at "w"
    refine w_fldS ?_
    walk_at "w"
    refine x_lenSq (hd _) ?_
    rw [List.length_map]
    walk_at "w"
    refine wl_mulN hl (by rw [r63_iff]; omega) (by show 1 * _ < _; omega) ?_
    walk_at "w"
    refine fs_put hl rfl (gs' := [("shares", .lst (sh.map shT)), ("mouth", .int m), ("at", .int 0), ("numbers", .loc (N + 1))]) (by kernel_rfl) (by show 3 < 1000; decide) ?_
    walk_at "w"
    refine w_fldS ?_
    refine wl_lcN ?_
    refine w_lcA (S1 := A ++ [.ins c.SharedFire [("shares", .lst (sh.map shT)), ("mouth", .int m), ("at", .int 0), ("numbers", .loc (N + 1))], .lst (List.replicate (sh.length : Int).toNat [D.int 0]).flatten]) (ds := [.lst (sh.map shT)]) sh shT (fun s => .int s.fi) ?_ (k_sql _ _) (by omega) ?_ ?_
    · walk_at "w"
      refine fs_get (x := .lst (sh.map shT)) hl rfl (by kernel_rfl) ?_
      exact ⟨rfl, rfl⟩
    · intro s _
      walk_at "w"
      refine x_ixt (y := .int s.fi) rfl ?_
      exact ⟨rfl, rfl⟩
    refine ⟨_, _, _, _, rfl, rfl, hl, ?_⟩
    walk_at "w"
    refine fs_put hl rfl (gs' := [("shares", .lst (sh.map shT)), ("mouth", .int m), ("at", .int 0), ("numbers", .loc (N + 1)), ("asks", .loc (N + 2))]) (by kernel_rfl) (by show 4 < 1000; decide) ?_
    walk_at "w"
    refine w_fldS ?_
    walk_at "w"
    refine fs_put hl rfl (gs' := [("shares", .lst (sh.map shT)), ("mouth", .int m), ("at", .int 0), ("numbers", .loc (N + 1)), ("asks", .loc (N + 2)), ("wait", .int 0)]) (by kernel_rfl) (by show 5 < 1000; decide) ?_
    walk_at "w"
    refine w_fldS ?_
    walk_at "w"
    refine fs_put hl rfl (gs' := fgs (.lst (sh.map shT)) (.int m) (.int 0) (.loc (N + 1)) (.loc (N + 2)) (.int 0) .non) (by kernel_rfl) (by show 6 < 1000; decide) ?_
    walk_at "w"
    refine ⟨rfl, ?_⟩
    have e1 : (List.replicate (sh.length : Int).toNat [D.int 0]).flatten = (List.replicate sh.length (0 : Int)).map .int := by
      rw [Int.toNat_natCast, List.map_replicate, List.flatten_replicate_singleton]
    rw [e1, show sh.map (fun s => D.int s.fi) = (sh.map (·.fi)).map .int by rw [List.map_map]; rfl]
    rfl
  obtain ⟨_, _, e, rfl, rfl⟩ := main
  exact e
theorem wl_finP {S : Sg} {L : List Ob} {d : D} {Q : D → Sg → Prop} (hc : Cl S) (hd : old S.length d = true) (q : Q d S) : W (fin S.length d (S ++ L)) Q := by
  cases L with
  | nil => exact wl_fin0 rfl q
  | cons x L => exact wl_fin rfl (List.cons_ne_nil _ _) (frzG_old _ hd) hc q
/-- what comes of a fire that settles behind so many rounds -/
structure Ends (sh : List Sh) (m many : Nat) (g : Fi) (R : Nat) : Prop where
  few : R < 1000000
  go : ∀ r, r < R → (rndF sh m many g r).bu = none ∧ ¬ ((rndF sh m many g (r + 1)).bu = none ∧ aheadF sh (rndF sh m many g (r + 1)) = aheadF sh (rndF sh m many g r))
  fin : (∃ i : Nat, i < sh.length ∧ (rndF sh m many g R).bu = some (i : Int)) ∨ ((rndF sh m many g R).bu = none ∧ (rndF sh m many g (R + 1)).bu = none ∧ aheadF sh (rndF sh m many g (R + 1)) = aheadF sh (rndF sh m many g R))
noncomputable def endD (sh : List Sh) (m many : Nat) (g : Fi) (R : Nat) : D := match (rndF sh m many g R).bu with
  | some i => .tup [.str "burnt", .int i, .int ((rndF sh m many g R).nu.getD i.toNat 0)]
  | none => .tup [.str "kept", .int (rndF sh m many g (R + 1)).w]
theorem f00_ok {sh : List Sh} (few : sh.length < 100000) (b0 : ∀ s ∈ sh, 0 < s.b ∧ s.b < 1000000) (p0 : ∀ s ∈ sh, 0 < s.p ∧ s.p < 1000000) : FiOk sh (f00 sh) :=
  ⟨List.length_replicate .., List.length_map .., few, b0, p0⟩
theorem ever_ok (c : Cs) {S : Sg} {sh : List Sh} {d : D} {m : Nat} {mx : Int} {g : Fi} {R : Nat} (hs : Shs d sh) (ok : FiOk sh (f00 sh)) (hm : m < 1000) (hmx : maxI (sh.map (·.fi)) = some mx) (hmt : mx < 500) (hcb : cbN sh < 500)
    (hg : upF sh m mx.toNat (f00 sh) = g) (hE : Ends sh m (cbN sh) g R) (hc : Cl S) : F_for_ever c [d, .int (m : Int)] S = some (endD sh m (cbN sh) g R, S) := by
  have main : W (F_for_ever c [d, .int (m : Int)] S) fun r Z => r = endD sh m (cbN sh) g R ∧ Z = S := by
    have hl : S.length = S.length := rfl
    have no : ∀ x ∈ ([] : List Ob), ∀ n, oldO n x = true := fun x hx => by cases hx
    unfold F_for_ever B_for_ever
    refine w_body1 ?_
    walk_at "w"
    refine w_mk ?_
    walk_at "w"
    refine w_ex (init_ok c hl hs) ?_
    refine ⟨rfl, ?_⟩
    walk_at "w"
    refine f_meth lk_settle hl ?_
    walk_at "w"
    have hR := hE.few
    refine settle_ok hl hc no ok hm (mx := mx) hmx (by show mx - 0 < 500; omega) hcb (g := g) (by show upF sh m (mx - 0).toNat _ = _; rw [Int.sub_zero]; exact hg) R hR hE.go ?_ ?_ ?_
    · rcases hE.fin with ⟨i, _, h⟩ | h
      · exact .inl ⟨_, h⟩
      · exact .inr h
    · intro i hi
      obtain ⟨j, rfl, hj⟩ : ∃ j : Nat, i = (j : Int) ∧ j < sh.length := by
        rcases hE.fin with ⟨j, hj, h⟩ | ⟨h, _⟩
        · rw [hi] at h
          cases h
          exact ⟨j, rfl, hj⟩
        · rw [hi] at h
          cases h
      have og : FiOk sh (rndF sh m (cbN sh) g R) := by
        rw [← hg]
        exact (ok.up _).rnd R
      walk_at "w"
      rw [hi]
      refine wl_ix (k := 1) hl rfl (atI_g (by rw [og.nu]; exact hj)) ?_
      walk_at "w"
      refine wl_finP hc rfl ⟨?_, rfl⟩
      unfold endD
      rw [hi]
      rfl
    · intro h1 h2 _ rows
      walk_at "w"
      refine wl_finP hc rfl ⟨?_, rfl⟩
      unfold endD
      rw [h1]
  obtain ⟨_, _, e, rfl, rfl⟩ := main
  exact e
/-! ### pieces of shares, drawn beat by beat for ever -/
def aK (sh : List Sh) (i n : Nat) : Int := askF (sh.getD i shz) (n : Int)
def lK (sh : List Sh) (i n : Nat) : Int := aK sh i n + (sh.getD i shz).wd
structure Sk (sh : List Sh) : Prop where
  b0 : ∀ i, 0 < (sh.getD i shz).b
  p0 : ∀ i, 0 < (sh.getD i shz).p
  w0 : ∀ i, 0 ≤ (sh.getD i shz).wd
  w20 : ∀ i, (sh.getD i shz).wd ≤ 20
  f0 : ∀ i, 0 ≤ (sh.getD i shz).fi
theorem aK_mono {sh : List Sh} (h : Sk sh) {i n k : Nat} (hn : n ≤ k) : aK sh i n ≤ aK sh i k := by
  unfold aK askF
  have h1 : (n : Int) * (sh.getD i shz).b ≤ (k : Int) * (sh.getD i shz).b := Int.mul_le_mul_of_nonneg_right (by omega) (Int.le_of_lt (h.b0 i))
  have h2 := Int.ediv_le_ediv (h.p0 i) h1
  omega
theorem lK_mono {sh : List Sh} (h : Sk sh) {i n k : Nat} (hn : n ≤ k) : lK sh i n ≤ lK sh i k := by
  have := aK_mono h (i := i) hn
  unfold lK
  omega
theorem aK_fi {sh : List Sh} (h : Sk sh) (i n : Nat) : (sh.getD i shz).fi ≤ aK sh i n := by
  have h0 : aK sh i 0 = (sh.getD i shz).fi := by
    unfold aK askF
    rw [show ((0 : Nat) : Int) = 0 from rfl, Int.zero_mul, Int.zero_ediv, Int.add_zero]
  have := aK_mono h (i := i) (Nat.zero_le n)
  omega
/-- how many of a share's pieces are asked by a beat -/
def arr (sh : List Sh) (i : Nat) (t : Int) : Nat := (((t - (sh.getD i shz).fi + 1) * (sh.getD i shz).p + (sh.getD i shz).b - 1) / (sh.getD i shz).b).toNat
theorem lt_arr {sh : List Sh} (h : Sk sh) {i n : Nat} {t : Int} : n < arr sh i t ↔ aK sh i n ≤ t := by
  unfold arr aK askF
  have hb := h.b0 i
  have hp := h.p0 i
  generalize (sh.getD i shz).b = b at *
  generalize (sh.getD i shz).p = p at *
  generalize (sh.getD i shz).fi = fi at *
  have h1 : n < (((t - fi + 1) * p + b - 1) / b).toNat ↔ ((n : Int) + 1) ≤ ((t - fi + 1) * p + b - 1) / b := by omega
  have h2 : fi + (n : Int) * b / p ≤ t ↔ (n : Int) * b / p < t - fi + 1 := by omega
  rw [h1, h2, Int.le_ediv_iff_mul_le hb, Int.ediv_lt_iff_lt_mul hp, Int.add_mul, Int.one_mul]
  omega
theorem arr_mono {sh : List Sh} (h : Sk sh) {i : Nat} {t u : Int} (ht : t ≤ u) : arr sh i t ≤ arr sh i u := by
  refine Nat.le_of_not_lt fun hc => ?_
  have h1 := (lt_arr h).mp hc
  have h2 := (lt_arr h).mpr (Int.le_trans h1 ht)
  omega
def stG (sh : List Sh) (t : Int) (num : Nat → Nat) (w : Int) (bu : Option Int) : Fi :=
  ⟨t, (List.range sh.length).map fun i => ((num i : Nat) : Int), (List.range sh.length).map fun i => aK sh i (num i), w, bu⟩
section
variable {sh : List Sh} {t : Int} {num : Nat → Nat} {w : Int} {bu : Option Int} {i : Nat}
theorem stG_num (h : i < sh.length) : (stG sh t num w bu).nu.getD i 0 = (num i : Int) := rg_getD _ h
theorem stG_ask (h : i < sh.length) : (stG sh t num w bu).ak.getD i 0 = aK sh i (num i) := rg_getD _ h
theorem stG_last (h : i < sh.length) : lastF sh (stG sh t num w bu) i = lK sh i (num i) := by
  unfold lastF
  rw [stG_ask h]
  rfl
end
/-- the piece that is drawn next: of the hot ones the one of the least last, of like ones of the first share -/
structure Pk (sh : List Sh) (t : Int) (num : Nat → Nat) (j : Nat) : Prop where
  lt : j < sh.length
  hot : aK sh j (num j) ≤ t
  least : ∀ i, i < sh.length → aK sh i (num i) ≤ t → lK sh j (num j) < lK sh i (num i) ∨ (lK sh j (num j) = lK sh i (num i) ∧ j ≤ i)
theorem pk_iff {sh : List Sh} {t : Int} {num : Nat → Nat} {w : Int} {bu : Option Int} {j : Nat} : Pick sh (stG sh t num w bu) j ↔ Pk sh t num j := by
  constructor
  · intro h
    have h1 := h.hot
    rw [stG_ask h.lt] at h1
    refine ⟨h.lt, h1, fun i hi hh => ?_⟩
    have h2 := h.least i hi (by rw [stG_ask hi]; exact hh)
    rw [stG_last h.lt, stG_last hi] at h2
    exact h2
  · intro h
    refine ⟨h.lt, by rw [stG_ask h.lt]; exact h.hot, fun i hi hh => ?_⟩
    rw [stG_ask hi] at hh
    rw [stG_last h.lt, stG_last hi]
    exact h.least i hi hh
theorem Pk.uni {sh : List Sh} {t : Int} {num : Nat → Nat} {i j : Nat} (h : Pk sh t num i) (g : Pk sh t num j) : i = j := by
  have h1 := h.least j g.lt g.hot
  have h2 := g.least i h.lt h.hot
  omega
/-- of some that are hot one is drawn -/
theorem pk_ex {sh : List Sh} {t : Int} {num : Nat → Nat} : ∀ k, k ≤ sh.length → (∃ i, i < k ∧ aK sh i (num i) ≤ t) → ∃ j, j < k ∧ aK sh j (num j) ≤ t ∧ ∀ i, i < k → aK sh i (num i) ≤ t → lK sh j (num j) < lK sh i (num i) ∨ (lK sh j (num j) = lK sh i (num i) ∧ j ≤ i)
  | 0, _, ⟨i, hi, _⟩ => absurd hi (by omega)
  | k + 1, hk, ⟨i, hi, hh⟩ => by
    by_cases hc : ∃ i, i < k ∧ aK sh i (num i) ≤ t
    · obtain ⟨j, hj, h1, h2⟩ := pk_ex k (by omega) hc
      by_cases hk2 : aK sh k (num k) ≤ t ∧ lK sh k (num k) < lK sh j (num j)
      · refine ⟨k, by omega, hk2.1, fun i hi2 h3 => ?_⟩
        rcases Nat.lt_or_ge i k with h4 | h4
        · have := h2 i h4 h3
          omega
        · obtain rfl : i = k := by omega
          omega
      · refine ⟨j, by omega, h1, fun i hi2 h3 => ?_⟩
        rcases Nat.lt_or_ge i k with h4 | h4
        · exact h2 i h4 h3
        · obtain rfl : i = k := by omega
          have : ¬ lK sh i (num i) < lK sh j (num j) := fun z => hk2 ⟨h3, z⟩
          omega
    · obtain rfl : i = k := by
        refine Classical.byContradiction fun hne => hc ⟨i, by omega, hh⟩
      refine ⟨i, by omega, hh, fun j hj h3 => ?_⟩
      obtain rfl : j = i := by
        refine Classical.byContradiction fun hne => hc ⟨j, by omega, h3⟩
      omega
open Classical in
noncomputable def pkN (sh : List Sh) (t : Int) (num : Nat → Nat) : Option Nat := if h : ∃ j, Pk sh t num j then some h.choose else none
theorem pkN_some {sh : List Sh} {t : Int} {num : Nat → Nat} {j : Nat} (h : Pk sh t num j) : pkN sh t num = some j := by
  unfold pkN
  have k : ∃ j, Pk sh t num j := ⟨j, h⟩
  rw [dif_pos k]
  exact congrArg some (k.choose_spec.uni h)
theorem pkN_of {sh : List Sh} {t : Int} {num : Nat → Nat} {j : Nat} (h : pkN sh t num = some j) : Pk sh t num j := by
  unfold pkN at h
  split at h
  · rename_i k
    cases h
    exact k.choose_spec
  · cases h
theorem pkN_none {sh : List Sh} {t : Int} {num : Nat → Nat} (h : pkN sh t num = none) {i : Nat} (hi : i < sh.length) : t < aK sh i (num i) := by
  refine Int.lt_of_not_ge fun hc => ?_
  obtain ⟨j, h1, h2, h3⟩ := pk_ex (num := num) sh.length (Nat.le_refl _) ⟨i, hi, hc⟩
  rw [pkN_some ⟨h1, h2, h3⟩] at h
  cases h
theorem pickF_eq {sh : List Sh} {t : Int} {num : Nat → Nat} {w : Int} {bu : Option Int} : pickF sh (stG sh t num w bu) = pkN sh t num := by
  cases e : pkN sh t num with
  | some j => exact pick_some (pk_iff.mpr (pkN_of e))
  | none =>
    refine pick_no fun i hi => ?_
    rw [stG_ask hi]
    exact pkN_none e hi
def updN (num : Nat → Nat) (j : Nat) : Nat → Nat := fun i => if i = j then num i + 1 else num i
theorem drawn_stG {sh : List Sh} {t : Int} {num : Nat → Nat} {w : Int} {bu : Option Int} {j : Nat} (hj : j < sh.length) : drawnF sh (stG sh t num w bu) j = stG sh t (updN num j) (if t - aK sh j (num j) > w then t - aK sh j (num j) else w) bu := by
  unfold drawnF
  rw [stG_ask hj, stG_num hj]
  have u1 : updN num j j = num j + 1 := if_pos rfl
  have u2 : ∀ i, i ≠ j → updN num j i = num i := fun i h => if_neg h
  have a1 : (stG sh t num w bu).nu.set j ((num j : Int) + 1) = (stG sh t (updN num j) w bu).nu := by
    refine rg_set _ _ _ hj (by rw [u1]; rfl) fun i _ hn => ?_
    rw [u2 i hn]
  have a2 : (stG sh t num w bu).ak.set j (askF (sh.getD j shz) ((num j : Int) + 1)) = (stG sh t (updN num j) w bu).ak := by
    refine rg_set _ _ _ hj (by rw [u1]; rfl) fun i _ hn => ?_
    rw [u2 i hn]
  rw [a1, a2]
  rfl
/-- so many draws at a beat: the numbers behind them, the longest wait -/
noncomputable def gn (sh : List Sh) (t : Int) : Nat → (Nat → Nat) → Nat → Nat
  | 0, num => num
  | k + 1, num => match pkN sh t num with
    | none => num
    | some j => gn sh t k (updN num j)
noncomputable def gw (sh : List Sh) (t : Int) : Nat → (Nat → Nat) → Int → Int
  | 0, _, w => w
  | k + 1, num, w => match pkN sh t num with
    | none => w
    | some j => gw sh t k (updN num j) (if t - aK sh j (num j) > w then t - aK sh j (num j) else w)
section
variable {sh : List Sh} {t : Int} {num : Nat → Nat} {k : Nat}
theorem gn_none (h : pkN sh t num = none) : gn sh t k num = num := by
  cases k with
  | zero => rfl
  | succ k => rw [gn, h]
theorem gn_some {j : Nat} (h : pkN sh t num = some j) : gn sh t (k + 1) num = gn sh t k (updN num j) := by rw [gn, h]
theorem gw_none {w : Int} (h : pkN sh t num = none) : gw sh t k num w = w := by
  cases k with
  | zero => rfl
  | succ k => rw [gw, h]
theorem gw_some {j : Nat} {w : Int} (h : pkN sh t num = some j) : gw sh t (k + 1) num w = gw sh t k (updN num j) (if t - aK sh j (num j) > w then t - aK sh j (num j) else w) := by rw [gw, h]
end
theorem goN_stG {sh : List Sh} {t : Int} {bu : Option Int} : ∀ (k : Nat) (num : Nat → Nat) (w : Int), (goN sh k (stG sh t num w bu)).2 = stG sh t (gn sh t k num) (gw sh t k num w) bu
  | 0, _, _ => rfl
  | k + 1, num, w => by
    cases e : pkN sh t num with
    | none => rw [goN_none (by rw [pickF_eq]; exact e), gn_none e, gw_none e]
    | some j =>
      rw [goN_some (by rw [pickF_eq]; exact e), gn_some e, gw_some e, drawn_stG (pkN_of e).lt]
      exact goN_stG k _ _
/-! ### how many of a set of pieces are drawn -/
def sm (g : Nat → Nat) : Nat → Nat
  | 0 => 0
  | k + 1 => sm g k + g k
theorem sm_le {g g' : Nat → Nat} : ∀ {k : Nat}, (∀ i, i < k → g i ≤ g' i) → sm g k ≤ sm g' k
  | 0, _ => Nat.le_refl _
  | k + 1, h => Nat.add_le_add (sm_le fun i hi => h i (by omega)) (h k (by omega))
theorem sm_congr {g g' : Nat → Nat} {k : Nat} (h : ∀ i, i < k → g i = g' i) : sm g k = sm g' k :=
  Nat.le_antisymm (sm_le fun i hi => Nat.le_of_eq (h i hi)) (sm_le fun i hi => Nat.le_of_eq (h i hi).symm)
theorem sm_add {g g' : Nat → Nat} : ∀ {k : Nat}, sm (fun i => g i + g' i) k = sm g k + sm g' k
  | 0 => rfl
  | k + 1 => by
    show sm _ k + (g k + g' k) = sm g k + g k + (sm g' k + g' k)
    rw [sm_add]
    omega
theorem sm_one {g g' : Nat → Nat} {j d : Nat} : ∀ {k : Nat}, j < k → (∀ i, i < k → i ≠ j → g' i = g i) → g' j = g j + d → sm g' k = sm g k + d
  | 0, h, _, _ => absurd h (by omega)
  | k + 1, h, h1, h2 => by
    show sm g' k + g' k = sm g k + g k + d
    rcases Nat.lt_or_ge j k with hj | hj
    · rw [sm_one hj (fun i hi => h1 i (by omega)) h2, h1 k (by omega) (by omega)]
      omega
    · obtain rfl : j = k := by omega
      rw [sm_congr fun i hi => h1 i (by omega) (by omega), h2]
      omega
theorem sm_lt {g g' : Nat → Nat} {j : Nat} {k : Nat} (hj : j < k) (h : ∀ i, i < k → g i ≤ g' i) (h2 : g j < g' j) : sm g k < sm g' k := by
  have := sm_one (g := g) (g' := fun i => if i = j then g i + 1 else g i) (d := 1) hj (fun i _ hn => if_neg hn) (if_pos rfl)
  have := sm_le (g := fun i => if i = j then g i + 1 else g i) (g' := g') (k := k) fun i hi => by
    split
    · rename_i e
      subst e
      exact h2
    · exact h i hi
  omega
def DmK (sh : List Sh) (c num : Nat → Nat) : Nat := sm (fun i => min (num i) (c i)) sh.length
def Am (sh : List Sh) (c : Nat → Nat) (t : Int) : Nat := sm (fun i => min (arr sh i t) (c i)) sh.length
/-- none that isn't of the set, of those asked by then, is ahead of one that is -/
def Closed (sh : List Sh) (c : Nat → Nat) (T : Int) : Prop := ∀ i j n k, i < sh.length → j < sh.length → n < c i → c j ≤ k → aK sh j k ≤ T → lK sh i n < lK sh j k ∨ (lK sh i n = lK sh j k ∧ i ≤ j)
def Asked (sh : List Sh) (t : Int) (num : Nat → Nat) : Prop := ∀ i, i < sh.length → num i ≤ arr sh i t
theorem Asked.mono {sh : List Sh} (h : Sk sh) {t u : Int} {num : Nat → Nat} (a : Asked sh t num) (ht : t ≤ u) : Asked sh u num := fun i hi => Nat.le_trans (a i hi) (arr_mono h ht)
theorem Asked.put {sh : List Sh} (h : Sk sh) {t : Int} {num : Nat → Nat} (a : Asked sh t num) {j : Nat} (p : Pk sh t num j) : Asked sh t (updN num j) := fun i hi => by
  unfold updN
  split
  · rename_i e
    subst e
    exact (lt_arr h).mpr p.hot
  · exact a i hi
theorem Asked.gn {sh : List Sh} (h : Sk sh) {t : Int} : ∀ {k : Nat} {num : Nat → Nat}, Asked sh t num → Asked sh t (gn sh t k num)
  | 0, _, a => a
  | k + 1, num, a => by
    cases e : pkN sh t num with
    | none => rw [gn_none e]; exact a
    | some j => rw [gn_some e]; exact Asked.gn h (a.put h (pkN_of e))
theorem Dm_le {sh : List Sh} {c num : Nat → Nat} {t : Int} (a : Asked sh t num) : DmK sh c num ≤ Am sh c t := sm_le fun i hi => by
  have := a i hi
  omega
theorem Dm_pick {sh : List Sh} (h : Sk sh) {c num : Nat → Nat} {t T : Int} (hc : Closed sh c T) (ht : t ≤ T) (a : Asked sh t num) {j : Nat} (p : Pk sh t num j) : DmK sh c (updN num j) = min (DmK sh c num + 1) (Am sh c t) := by
  have hot := (lt_arr h).mpr p.hot
  have u1 : updN num j j = num j + 1 := if_pos rfl
  have u2 : ∀ i, i ≠ j → updN num j i = num i := fun i h => if_neg h
  by_cases hj : num j < c j
  · have e : DmK sh c (updN num j) = DmK sh c num + 1 := by
      refine sm_one p.lt (fun i _ hn => by rw [u2 i hn]) ?_
      rw [u1]
      omega
    have l : DmK sh c num < Am sh c t := sm_lt p.lt (fun i hi => by have := a i hi; omega) (by omega)
    omega
  · have e : DmK sh c (updN num j) = DmK sh c num := sm_congr fun i hi => by
      by_cases hij : i = j
      · subst hij
        rw [u1]
        omega
      · rw [u2 i hij]
    have l : DmK sh c num = Am sh c t := sm_congr fun i hi => by
      have ai := a i hi
      rcases Nat.lt_or_ge (num i) (min (arr sh i t) (c i)) with hlt | hge
      · have hoti := (lt_arr h).mp (show num i < arr sh i t by omega)
        have k1 := hc i j (num i) (num j) hi p.lt (by omega) (by omega) (Int.le_trans p.hot ht)
        have k2 := p.least i hi hoti
        have : i = j := by omega
        subst this
        omega
      · omega
    omega
theorem Dm_none {sh : List Sh} (h : Sk sh) {c num : Nat → Nat} {t : Int} (a : Asked sh t num) (p : pkN sh t num = none) : DmK sh c num = Am sh c t := sm_congr fun i hi => by
  have h1 := pkN_none p hi
  have h2 : ¬ num i < arr sh i t := fun z => by
    have := (lt_arr h).mp z
    omega
  have := a i hi
  omega
theorem Dm_go {sh : List Sh} (h : Sk sh) {c : Nat → Nat} {t T : Int} (hc : Closed sh c T) (ht : t ≤ T) : ∀ (k : Nat) (num : Nat → Nat), Asked sh t num → DmK sh c (gn sh t k num) = min (DmK sh c num + k) (Am sh c t)
  | 0, num, a => by
    have := Dm_le (c := c) a
    show DmK sh c num = _
    omega
  | k + 1, num, a => by
    cases e : pkN sh t num with
    | none =>
      rw [gn_none e, Dm_none h a e]
      omega
    | some j =>
      have p := pkN_of e
      rw [gn_some e, Dm_go h hc ht k _ (a.put h p), Dm_pick h hc ht a p]
      omega
/-! all beats, one after the other -/
noncomputable def NT (sh : List Sh) (m : Nat) : Nat → Nat → Nat
  | 0 => fun _ => 0
  | t + 1 => gn sh (t : Int) m (NT sh m t)
noncomputable def WT (sh : List Sh) (m : Nat) : Nat → Int
  | 0 => 0
  | t + 1 => gw sh (t : Int) m (NT sh m t) (WT sh m t)
theorem NT_ask {sh : List Sh} (h : Sk sh) {m : Nat} : ∀ t : Nat, Asked sh ((t : Int) - 1) (NT sh m t)
  | 0 => fun i _ => Nat.zero_le _
  | t + 1 => by
    have := ((NT_ask h (m := m) t).mono h (u := (t : Int)) (by omega)).gn h (k := m)
    rw [show ((t + 1 : Nat) : Int) - 1 = (t : Int) by omega]
    exact this
theorem Dm_succ {sh : List Sh} (h : Sk sh) {m : Nat} {c : Nat → Nat} {t : Nat} {T : Int} (hc : Closed sh c T) (ht : (t : Int) ≤ T) : DmK sh c (NT sh m (t + 1)) = min (DmK sh c (NT sh m t) + m) (Am sh c (t : Int)) :=
  Dm_go h hc ht m _ ((NT_ask h t).mono h (by omega))
theorem gn_mono {sh : List Sh} {t : Int} {i : Nat} : ∀ {k : Nat} {num : Nat → Nat}, num i ≤ gn sh t k num i
  | 0, _ => Nat.le_refl _
  | k + 1, num => by
    cases e : pkN sh t num with
    | none => rw [gn_none e]; exact Nat.le_refl _
    | some j =>
      rw [gn_some e]
      refine Nat.le_trans ?_ gn_mono
      unfold updN
      split <;> omega
theorem NT_mono {sh : List Sh} {m t s i : Nat} : NT sh m t i ≤ NT sh m (t + s) i := by
  induction s with
  | zero => exact Nat.le_refl _
  | succ s ih => exact Nat.le_trans ih gn_mono
theorem upd_out {sh : List Sh} {t : Int} {i : Nat} (hi : sh.length ≤ i) : ∀ {k : Nat} {num : Nat → Nat}, gn sh t k num i = num i
  | 0, _ => rfl
  | k + 1, num => by
    cases e : pkN sh t num with
    | none => rw [gn_none e]
    | some j =>
      rw [gn_some e, upd_out hi]
      have := (pkN_of e).lt
      exact if_neg (by omega)
theorem NT_out {sh : List Sh} {m i : Nat} (hi : sh.length ≤ i) : ∀ t, NT sh m t i = 0
  | 0 => rfl
  | t + 1 => by
    show gn sh (t : Int) m (NT sh m t) i = 0
    rw [upd_out hi, NT_out hi t]
/-! ### rounds: put later by a round all is as it was -/
structure Dv (sh : List Sh) (P : Nat) : Prop where
  pos : 0 < P
  dv : ∀ i, i < sh.length → ∃ q : Nat, (P : Int) = (q : Int) * (sh.getD i shz).b
def piK (sh : List Sh) (P : Nat) (i : Nat) : Nat := if i < sh.length then ((P : Int) / (sh.getD i shz).b * (sh.getD i shz).p).toNat else 0
theorem piK_eq {sh : List Sh} (h : Sk sh) {P : Nat} (d : Dv sh P) {i : Nat} (hi : i < sh.length) : ((piK sh P i : Nat) : Int) * (sh.getD i shz).b = (P : Int) * (sh.getD i shz).p := by
  obtain ⟨q, hq⟩ := d.dv i hi
  have hb := h.b0 i
  have hp := h.p0 i
  unfold piK
  rw [if_pos hi]
  generalize (sh.getD i shz).b = b at *
  generalize (sh.getD i shz).p = p at *
  rw [hq, Int.mul_ediv_cancel _ (by omega), Int.toNat_of_nonneg (Int.mul_nonneg (by omega) (by omega)), Int.mul_assoc, Int.mul_assoc, Int.mul_comm p b]
theorem aK_shift {sh : List Sh} (h : Sk sh) {P : Nat} (d : Dv sh P) {i : Nat} (hi : i < sh.length) (n : Nat) : aK sh i (n + piK sh P i) = aK sh i n + P := by
  have e := piK_eq h d hi
  have hp := h.p0 i
  unfold aK askF
  rw [Int.natCast_add, Int.add_mul, e, Int.add_mul_ediv_right _ _ (by omega)]
  omega
theorem lK_shift {sh : List Sh} (h : Sk sh) {P : Nat} (d : Dv sh P) {i : Nat} (hi : i < sh.length) (n : Nat) : lK sh i (n + piK sh P i) = lK sh i n + P := by
  have := aK_shift h d hi n
  unfold lK
  omega
theorem aK_first {sh : List Sh} (h : Sk sh) {P : Nat} (d : Dv sh P) {i : Nat} (hi : i < sh.length) {n : Nat} (hn : n < piK sh P i) : aK sh i n < (sh.getD i shz).fi + P := by
  have e := piK_eq h d hi
  have hp := h.p0 i
  have hb := h.b0 i
  unfold aK askF
  have : (n : Int) * (sh.getD i shz).b / (sh.getD i shz).p < P := by
    rw [Int.ediv_lt_iff_lt_mul hp, ← e]
    exact Int.mul_lt_mul_of_pos_right (by omega) hb
  omega
theorem arr_shift {sh : List Sh} (h : Sk sh) {P : Nat} (d : Dv sh P) {i : Nat} (hi : i < sh.length) {t : Int} (ht : (sh.getD i shz).fi - 1 ≤ t) : arr sh i (t + P) = arr sh i t + piK sh P i := by
  refine Nat.le_antisymm (Nat.le_of_not_lt fun hc => ?_) (Nat.le_of_not_lt fun hc => ?_)
  · have h1 := (lt_arr h).mp hc
    rw [aK_shift h d hi] at h1
    have := (lt_arr h).mpr (show aK sh i (arr sh i t) ≤ t by omega)
    omega
  · have h1 : ¬ aK sh i (arr sh i (t + P)) ≤ t + P := fun z => by
      have := (lt_arr h).mpr z
      omega
    rcases Nat.lt_or_ge (arr sh i (t + P)) (piK sh P i) with h2 | h2
    · have := aK_first h d hi h2
      omega
    · obtain ⟨x, hx⟩ : ∃ x, arr sh i (t + P) = x + piK sh P i := ⟨_, (Nat.sub_add_cancel h2).symm⟩
      rw [hx] at h1 hc
      rw [aK_shift h d hi] at h1
      have := (lt_arr h (n := x) (i := i) (t := t)).mp (by omega)
      omega
def sft (sh : List Sh) (P : Nat) (num : Nat → Nat) : Nat → Nat := fun i => num i + piK sh P i
theorem upd_sft {sh : List Sh} {P : Nat} {num : Nat → Nat} {j : Nat} : updN (sft sh P num) j = sft sh P (updN num j) := by
  funext i
  unfold updN sft
  by_cases e : i = j
  · show (if i = j then _ else _) = (if i = j then _ else _) + _
    rw [if_pos e, if_pos e]
    omega
  · show (if i = j then _ else _) = (if i = j then _ else _) + _
    rw [if_neg e, if_neg e]
theorem pk_shift {sh : List Sh} (h : Sk sh) {P : Nat} (d : Dv sh P) {t : Int} {num : Nat → Nat} {j : Nat} : Pk sh (t + P) (sft sh P num) j ↔ Pk sh t num j := by
  unfold sft
  constructor
  · intro p
    have h1 := p.hot
    rw [aK_shift h d p.lt] at h1
    refine ⟨p.lt, by omega, fun i hi hh => ?_⟩
    have h2 := p.least i hi (by rw [aK_shift h d hi]; omega)
    rw [lK_shift h d p.lt, lK_shift h d hi] at h2
    omega
  · intro p
    refine ⟨p.lt, by rw [aK_shift h d p.lt]; have := p.hot; omega, fun i hi hh => ?_⟩
    rw [aK_shift h d hi] at hh
    have h2 := p.least i hi (by omega)
    rw [lK_shift h d p.lt, lK_shift h d hi]
    omega
theorem pkN_shift {sh : List Sh} (h : Sk sh) {P : Nat} (d : Dv sh P) {t : Int} {num : Nat → Nat} : pkN sh (t + P) (sft sh P num) = pkN sh t num := by
  cases e : pkN sh t num with
  | some j => exact pkN_some ((pk_shift h d).mpr (pkN_of e))
  | none =>
    cases e2 : pkN sh (t + P) (sft sh P num) with
    | none => rfl
    | some j =>
      rw [pkN_some ((pk_shift h d).mp (pkN_of e2))] at e
      cases e
theorem gn_shift {sh : List Sh} (h : Sk sh) {P : Nat} (d : Dv sh P) {t : Int} : ∀ (k : Nat) (num : Nat → Nat), gn sh (t + P) k (sft sh P num) = sft sh P (gn sh t k num)
  | 0, _ => rfl
  | k + 1, num => by
    cases e : pkN sh t num with
    | none => rw [gn_none e, gn_none (by rw [pkN_shift h d]; exact e)]
    | some j => rw [gn_some e, gn_some (by rw [pkN_shift h d]; exact e), upd_sft, gn_shift h d k]
theorem gw_shift {sh : List Sh} (h : Sk sh) {P : Nat} (d : Dv sh P) {t : Int} : ∀ (k : Nat) (num : Nat → Nat) (w : Int), gw sh (t + P) k (sft sh P num) w = gw sh t k num w
  | 0, _, _ => rfl
  | k + 1, num, w => by
    cases e : pkN sh t num with
    | none => rw [gw_none e, gw_none (by rw [pkN_shift h d]; exact e)]
    | some j =>
      have e2 : aK sh j (sft sh P num j) = aK sh j (num j) + P := aK_shift h d (pkN_of e).lt _
      rw [gw_some e, gw_some (by rw [pkN_shift h d]; exact e), upd_sft, gw_shift h d k, e2, show t + (P : Int) - (aK sh j (num j) + P) = t - aK sh j (num j) by omega]
def Rep (sh : List Sh) (m P t : Nat) : Prop := NT sh m (t + P) = sft sh P (NT sh m t)
theorem Rep.next {sh : List Sh} (h : Sk sh) {m P t : Nat} (d : Dv sh P) (r : Rep sh m P t) : Rep sh m P (t + 1) := by
  unfold Rep at r ⊢
  rw [show t + 1 + P = t + P + 1 by omega]
  show gn sh ((t + P : Nat) : Int) m (NT sh m (t + P)) = _
  rw [r, Int.natCast_add, gn_shift h d]
  rfl
theorem Rep.add {sh : List Sh} (h : Sk sh) {m P t : Nat} (d : Dv sh P) (r : Rep sh m P t) : ∀ s, Rep sh m P (t + s)
  | 0 => r
  | s + 1 => (Rep.add h d r s).next h d
def Burnt (sh : List Sh) (m t : Nat) : Prop := ∃ i, i < sh.length ∧ lK sh i (NT sh m (t + 1) i) ≤ (t : Int)
def NoB (sh : List Sh) (m T : Nat) : Prop := ∀ t, t < T → ¬ Burnt sh m t
theorem Rep.burnt {sh : List Sh} (h : Sk sh) {m P t : Nat} (d : Dv sh P) (r : Rep sh m P (t + 1)) (b : Burnt sh m (t + P)) : Burnt sh m t := by
  obtain ⟨i, hi, hb⟩ := b
  refine ⟨i, hi, ?_⟩
  rw [show t + P + 1 = t + 1 + P by omega, r] at hb
  have : lK sh i (sft sh P (NT sh m (t + 1)) i) = lK sh i (NT sh m (t + 1) i) + P := lK_shift h d hi _
  omega
theorem Rep.never {sh : List Sh} (h : Sk sh) {m P t : Nat} (d : Dv sh P) (r : Rep sh m P t) (n : NoB sh m (t + P)) : ∀ T, NoB sh m T := by
  have main : ∀ s, ∀ u, u < s → ¬ Burnt sh m u := fun s => by
    induction s with
    | zero => exact fun u hu => absurd hu (by omega)
    | succ s ih =>
      intro u hu
      rcases Nat.lt_or_ge u (t + P) with h1 | h1
      · exact n u h1
      · intro b
        obtain ⟨v, rfl⟩ : ∃ v, u = v + P := ⟨u - P, by omega⟩
        have r2 := r.add h d (v + 1 - t)
        rw [show t + (v + 1 - t) = v + 1 by omega] at r2
        have := d.pos
        exact ih v (by omega) (r2.burnt h d b)
  exact fun T u hu => main T u hu
/-! waits -/
theorem gw_ge {sh : List Sh} {t : Int} : ∀ {k : Nat} {num : Nat → Nat} {w : Int}, w ≤ gw sh t k num w
  | 0, _, _ => Int.le_refl _
  | k + 1, num, w => by
    cases e : pkN sh t num with
    | none => rw [gw_none e]; exact Int.le_refl _
    | some j =>
      rw [gw_some e]
      refine Int.le_trans ?_ gw_ge
      split <;> omega
theorem gw_max {sh : List Sh} {t : Int} : ∀ {k : Nat} {num : Nat → Nat} {w : Int}, 0 ≤ w → gw sh t k num w = max w (gw sh t k num 0)
  | 0, _, w, h => by
    show w = max w 0
    omega
  | k + 1, num, w, h => by
    cases e : pkN sh t num with
    | none => rw [gw_none e, gw_none e]; omega
    | some j =>
      have g1 := gw_max (sh := sh) (t := t) (k := k) (num := updN num j) (w := if t - aK sh j (num j) > 0 then t - aK sh j (num j) else 0) (by split <;> omega)
      have g2 := gw_max (sh := sh) (t := t) (k := k) (num := updN num j) (w := if t - aK sh j (num j) > w then t - aK sh j (num j) else w) (by split <;> omega)
      rw [gw_some e, gw_some e, g1, g2]
      split <;> split <;> omega
theorem WT_pos {sh : List Sh} {m : Nat} : ∀ t, 0 ≤ WT sh m t
  | 0 => Int.le_refl _
  | t + 1 => Int.le_trans (WT_pos t) gw_ge
theorem WT_mono {sh : List Sh} {m t : Nat} : ∀ s, WT sh m t ≤ WT sh m (t + s)
  | 0 => Int.le_refl _
  | s + 1 => Int.le_trans (WT_mono s) gw_ge
theorem Rep.wait {sh : List Sh} (h : Sk sh) {m P t : Nat} (d : Dv sh P) (r : Rep sh m P t) : ∀ s, WT sh m (t + P + s) = WT sh m (t + P) := by
  have main : ∀ s, ∀ u, u ≤ s → WT sh m (t + P + u) = WT sh m (t + P) := fun s => by
    induction s with
    | zero =>
      intro u hu
      obtain rfl : u = 0 := by omega
      rfl
    | succ s ih =>
      intro u hu
      rcases Nat.lt_or_ge u (s + 1) with h1 | h1
      · exact ih u (by omega)
      obtain rfl : u = s + 1 := by omega
      have r2 : NT sh m (t + P + s) = sft sh P (NT sh m (t + s)) := by
        have := r.add h d s
        unfold Rep at this
        rw [← this, show t + s + P = t + P + s by omega]
      have e : WT sh m (t + P + (s + 1)) = gw sh ((t + s : Nat) : Int) m (NT sh m (t + s)) (WT sh m (t + P)) := by
        show gw sh ((t + P + s : Nat) : Int) m (NT sh m (t + P + s)) (WT sh m (t + P + s)) = _
        rw [r2, ih s (Nat.le_refl _), show ((t + P + s : Nat) : Int) = ((t + s : Nat) : Int) + (P : Int) by omega, gw_shift h d]
      have e2 : WT sh m (t + s + 1) = gw sh ((t + s : Nat) : Int) m (NT sh m (t + s)) (WT sh m (t + s)) := rfl
      have le : WT sh m (t + s + 1) ≤ WT sh m (t + P) := by
        have hp := d.pos
        rcases Nat.lt_or_ge (s + 1) P with h2 | h2
        · have := WT_mono (sh := sh) (m := m) (t := t + s + 1) (P - (s + 1))
          rw [show t + s + 1 + (P - (s + 1)) = t + P by omega] at this
          exact this
        · have := ih (s + 1 - P) (by omega)
          rw [show t + P + (s + 1 - P) = t + s + 1 by omega] at this
          omega
      rw [gw_max (WT_pos _)] at e e2
      omega
  exact fun s => main s s (Nat.le_refl _)
/-! ### some round behind the first beat ends as it began, or a piece burns -/
def Beg (sh : List Sh) (t : Nat) : Prop := ∀ i, i < sh.length → (sh.getD i shz).fi ≤ (t : Int)
noncomputable def Tot (sh : List Sh) (m t : Nat) : Nat := sm (NT sh m t) sh.length
def Aall (sh : List Sh) (t : Int) : Nat := sm (fun i => arr sh i t) sh.length
def Pit (sh : List Sh) (P : Nat) : Nat := sm (piK sh P) sh.length
theorem Aall_shift {sh : List Sh} (h : Sk sh) {P : Nat} (d : Dv sh P) {t : Int} (ht : ∀ i, i < sh.length → (sh.getD i shz).fi - 1 ≤ t) : Aall sh (t + P) = Aall sh t + Pit sh P := by
  unfold Aall Pit
  rw [← sm_add]
  exact sm_congr fun i hi => arr_shift h d hi (ht i hi)
theorem Tot_le {sh : List Sh} (h : Sk sh) {m t : Nat} : Tot sh m t ≤ Aall sh ((t : Int) - 1) := sm_le fun i hi => NT_ask h t i hi
theorem Dm_all {sh : List Sh} (h : Sk sh) {m t : Nat} {T : Int} (ht : (t : Int) - 1 ≤ T) : DmK sh (fun i => arr sh i T) (NT sh m t) = Tot sh m t := sm_congr fun i hi => by
  have h1 := NT_ask h (m := m) t i hi
  have h2 := arr_mono h (i := i) ht
  show min (NT sh m t i) (arr sh i T) = _
  omega
theorem Am_all {sh : List Sh} (h : Sk sh) {t T : Int} (ht : t ≤ T) : Am sh (fun i => arr sh i T) t = Aall sh t := sm_congr fun i _ => by
  have h2 := arr_mono h (i := i) ht
  show min (arr sh i t) (arr sh i T) = _
  omega
theorem Tot_succ {sh : List Sh} (h : Sk sh) {m t : Nat} : Tot sh m (t + 1) = min (Tot sh m t + m) (Aall sh (t : Int)) := by
  have hc : Closed sh (fun i => arr sh i (t : Int)) (t : Int) := fun i j n k _ _ _ hk ha => by
    have := (lt_arr h).mpr ha
    have hk : arr sh j (t : Int) ≤ k := hk
    omega
  have := Dm_succ h (m := m) (t := t) hc (Int.le_refl _)
  rw [Dm_all h (by omega), Dm_all h (by omega), Am_all h (Int.le_refl _)] at this
  exact this
theorem Tot_room {sh : List Sh} (h : Sk sh) {m t : Nat} : ∀ s, Tot sh m (t + s) ≤ Tot sh m t + m * s
  | 0 => Nat.le_refl _
  | s + 1 => by
    have h1 := Tot_succ h (m := m) (t := t + s)
    have h2 := Tot_room h (m := m) (t := t) s
    rw [Nat.mul_succ]
    show Tot sh m (t + s + 1) ≤ _
    omega
/-- what is late by then is drawn -/
theorem drawn_by {sh : List Sh} (h : Sk sh) {m u i n : Nat} (nb : NoB sh m u) (hi : i < sh.length) (hl : lK sh i n < (u : Int)) : n < NT sh m u i := by
  refine Nat.lt_of_not_le fun hc => ?_
  have h0 := h.w0 i
  have h1 := aK_fi h i n
  have h2 := h.f0 i
  have h3 : lK sh i n = aK sh i n + (sh.getD i shz).wd := rfl
  obtain ⟨v, rfl⟩ : ∃ v, u = v + 1 := ⟨u - 1, by omega⟩
  refine nb v (by omega) ⟨i, hi, ?_⟩
  have := lK_mono h (i := i) hc
  omega
theorem waits_few {sh : List Sh} (h : Sk sh) {m t : Nat} (nb : NoB sh m (t + 20)) : Aall sh ((t : Int) - 1) ≤ Tot sh m t + m * 20 := by
  refine Nat.le_trans (sm_le fun i hi => ?_) (Tot_room h 20)
  refine Nat.le_of_not_lt fun hc => ?_
  have h1 := (lt_arr h).mp hc
  have h2 := h.w20 i
  have h3 : lK sh i (NT sh m (t + 20) i) = aK sh i (NT sh m (t + 20) i) + (sh.getD i shz).wd := rfl
  have := drawn_by h nb hi (n := NT sh m (t + 20) i) (by omega)
  omega
theorem Tot_up {sh : List Sh} (h : Sk sh) {m P t : Nat} (d : Dv sh P) (hb : Beg sh t) (e : Tot sh m t + Pit sh P ≤ Tot sh m (t + P)) : ∀ s, Tot sh m (t + s) + Pit sh P ≤ Tot sh m (t + s + P)
  | 0 => e
  | s + 1 => by
    have ih := Tot_up h d hb e s
    have h1 := Tot_succ h (m := m) (t := t + s)
    have h2 := Tot_succ h (m := m) (t := t + s + P)
    have h3 := Aall_shift h d (t := ((t + s : Nat) : Int)) fun i hi => by have := hb i hi; omega
    rw [show ((t + s + P : Nat) : Int) = ((t + s : Nat) : Int) + (P : Int) by omega, h3] at h2
    rw [show t + (s + 1) + P = t + s + P + 1 by omega, show t + (s + 1) = t + s + 1 by omega]
    omega
theorem Tot_dn {sh : List Sh} (h : Sk sh) {m P t : Nat} (d : Dv sh P) (hb : Beg sh t) (e : Tot sh m (t + P) ≤ Tot sh m t + Pit sh P) : ∀ s, Tot sh m (t + s + P) ≤ Tot sh m (t + s) + Pit sh P
  | 0 => e
  | s + 1 => by
    have ih := Tot_dn h d hb e s
    have h1 := Tot_succ h (m := m) (t := t + s)
    have h2 := Tot_succ h (m := m) (t := t + s + P)
    have h3 := Aall_shift h d (t := ((t + s : Nat) : Int)) fun i hi => by have := hb i hi; omega
    rw [show ((t + s + P : Nat) : Int) = ((t + s : Nat) : Int) + (P : Int) by omega, h3] at h2
    rw [show t + (s + 1) + P = t + s + P + 1 by omega, show t + (s + 1) = t + s + 1 by omega]
    omega
theorem Aall_rounds {sh : List Sh} (h : Sk sh) {P t : Nat} (d : Dv sh P) (hb : Beg sh t) : ∀ r : Nat, Aall sh (((t + r * P : Nat) : Int) - 1) = Aall sh ((t : Int) - 1) + r * Pit sh P
  | 0 => by rw [Nat.zero_mul, Nat.zero_mul]; rfl
  | r + 1 => by
    have h3 := Aall_shift h d (t := ((t + r * P : Nat) : Int) - 1) fun i hi => by have := hb i hi; omega
    rw [Nat.succ_mul, Nat.succ_mul, show ((t + (r * P + P) : Nat) : Int) - 1 = ((t + r * P : Nat) : Int) - 1 + (P : Int) by omega, h3, Aall_rounds h d hb r]
    omega
theorem even_ex {sh : List Sh} (h : Sk sh) {m P t : Nat} (d : Dv sh P) (hb : Beg sh t) (nb : NoB sh m (t + (m * 20 + 1) * P + 20)) : ∃ r, r ≤ m * 20 ∧ Tot sh m (t + r * P + P) = Tot sh m (t + r * P) + Pit sh P := by
  refine Classical.byContradiction fun hno => ?_
  have hne : ∀ r, r ≤ m * 20 → Tot sh m (t + r * P + P) ≠ Tot sh m (t + r * P) + Pit sh P := fun r hr e => hno ⟨r, hr, e⟩
  have few : ∀ r, r ≤ m * 20 + 1 → Aall sh ((t : Int) - 1) + r * Pit sh P ≤ Tot sh m (t + r * P) + m * 20 := fun r hr => by
    rw [← Aall_rounds h d hb r]
    have : r * P ≤ (m * 20 + 1) * P := Nat.mul_le_mul_right _ hr
    exact waits_few h fun u hu => nb u (by omega)
  have most : ∀ r, Tot sh m (t + r * P) ≤ Aall sh ((t : Int) - 1) + r * Pit sh P := fun r => by
    rw [← Aall_rounds h d hb r]
    exact Tot_le h
  have step : ∀ r, t + (r + 1) * P = t + r * P + P := fun r => by rw [Nat.succ_mul]; omega
  rcases Nat.le_total (Tot sh m t + Pit sh P) (Tot sh m (t + P)) with hu | hu
  · have grow : ∀ r, r ≤ m * 20 + 1 → Tot sh m t + r * Pit sh P + r ≤ Tot sh m (t + r * P) := fun r => by
      induction r with
      | zero => intro _; rw [Nat.zero_mul, Nat.zero_mul]; exact Nat.le_refl _
      | succ r ih =>
        intro hr
        have h1 := ih (by omega)
        have h2 := Tot_up h d hb hu (r * P)
        have h3 := hne r (by omega)
        rw [step, Nat.succ_mul]
        omega
    have h1 := grow (m * 20 + 1) (Nat.le_refl _)
    have h2 := most (m * 20 + 1)
    have h3 := few 0 (by omega)
    rw [Nat.zero_mul, Nat.zero_mul, Nat.add_zero, Nat.add_zero] at h3
    omega
  · have grow : ∀ r, r ≤ m * 20 + 1 → Tot sh m (t + r * P) + r ≤ Tot sh m t + r * Pit sh P := fun r => by
      induction r with
      | zero => intro _; rw [Nat.zero_mul, Nat.zero_mul]; exact Nat.le_refl _
      | succ r ih =>
        intro hr
        have h1 := ih (by omega)
        have h2 := Tot_dn h d hb hu (r * P)
        have h3 := hne r (by omega)
        rw [step, Nat.succ_mul]
        omega
    have h1 := grow (m * 20 + 1) (Nat.le_refl _)
    have h2 := few (m * 20 + 1) (Nat.le_refl _)
    have h3 := most 0
    rw [Nat.zero_mul, Nat.zero_mul, Nat.add_zero, Nat.add_zero] at h3
    omega
/-- the pieces ahead of one of share i, and its own ones below x -/
def cc (sh : List Sh) (x : Nat) (L : Int) (i : Nat) : Nat → Nat := fun j => if j = i then x else if j < i then arr sh j (L - (sh.getD j shz).wd) else arr sh j (L - 1 - (sh.getD j shz).wd)
theorem cc_closed {sh : List Sh} (h : Sk sh) {n x i : Nat} (hx : n ≤ x) (hx2 : x ≤ n + 1) (T : Int) : Closed sh (cc sh x (lK sh i n) i) T := by
  intro a b k l ha hb hk hl _
  have lo : lK sh a k < lK sh i n ∨ (lK sh a k = lK sh i n ∧ a ≤ i) := by
    unfold cc at hk
    split at hk
    · rename_i e
      subst e
      have := lK_mono h (i := a) (show k ≤ n by omega)
      omega
    split at hk
    · have h1 := (lt_arr h).mp hk
      have h2 : lK sh a k = aK sh a k + (sh.getD a shz).wd := rfl
      omega
    · have h1 := (lt_arr h).mp hk
      have h2 : lK sh a k = aK sh a k + (sh.getD a shz).wd := rfl
      omega
  have hi : lK sh i n < lK sh b l ∨ (lK sh i n = lK sh b l ∧ i ≤ b) := by
    unfold cc at hl
    split at hl
    · rename_i e
      subst e
      have := lK_mono h (i := b) (show n ≤ l by omega)
      omega
    split at hl
    · have h1 : ¬ aK sh b l ≤ lK sh i n - (sh.getD b shz).wd := fun z => by
        have := (lt_arr h).mpr z
        omega
      have h2 : lK sh b l = aK sh b l + (sh.getD b shz).wd := rfl
      omega
    · have h1 : ¬ aK sh b l ≤ lK sh i n - 1 - (sh.getD b shz).wd := fun z => by
        have := (lt_arr h).mpr z
        omega
      have h2 : lK sh b l = aK sh b l + (sh.getD b shz).wd := rfl
      omega
  omega
/-- all that is drawn by then is of the set, where the piece is hot later -/
theorem cc_all {sh : List Sh} (h : Sk sh) {m t n x i : Nat} (hx : n ≤ x) (hl : (t : Int) + 20 ≤ lK sh i n) : DmK sh (cc sh x (lK sh i n) i) (NT sh m t) = Tot sh m t := sm_congr fun j hj => by
  have h1 := NT_ask h (m := m) t j hj
  have h2 : NT sh m t j ≤ cc sh x (lK sh i n) i j := by
    have w20 := h.w20 j
    unfold cc
    split
    · rename_i e
      subst e
      have h3 : ¬ n < arr sh j ((t : Int) - 1) := fun z => by
        have := (lt_arr h).mp z
        have : lK sh j n = aK sh j n + (sh.getD j shz).wd := rfl
        omega
      omega
    split
    · exact Nat.le_trans h1 (arr_mono h (by omega))
    · exact Nat.le_trans h1 (arr_mono h (by omega))
  omega
theorem cc_shift {sh : List Sh} (h : Sk sh) {P t n x i : Nat} (d : Dv sh P) (hi : i < sh.length) (hb : Beg sh t) (hl : (t : Int) + 20 ≤ lK sh i n) {j : Nat} (hj : j < sh.length) : cc sh (x + piK sh P i) (lK sh i (n + piK sh P i)) i j = cc sh x (lK sh i n) i j + piK sh P j := by
  have w20 := h.w20 j
  have bj := hb j hj
  rw [lK_shift h d hi]
  unfold cc
  split
  · rename_i e
    rw [e]
  split
  · rw [← arr_shift h d hj (by omega)]
    congr 1
    omega
  · rw [← arr_shift h d hj (by omega)]
    congr 1
    omega
theorem Dm_one {sh : List Sh} {num : Nat → Nat} {n i : Nat} {L : Int} (hi : i < sh.length) : DmK sh (cc sh (n + 1) L i) num = DmK sh (cc sh n L i) num + (if n < num i then 1 else 0) := by
  refine sm_one hi (fun j _ hn => ?_) ?_
  · unfold cc
    rw [if_neg hn, if_neg hn]
  · unfold cc
    rw [if_pos rfl, if_pos rfl]
    split <;> omega
theorem even_set {sh : List Sh} (h : Sk sh) {m P t n x i : Nat} (d : Dv sh P) (hb : Beg sh t) (hi : i < sh.length) (e : Tot sh m (t + P) = Tot sh m t + Pit sh P) (hx : n ≤ x) (hx2 : x ≤ n + 1) (hl : (t : Int) + 20 ≤ lK sh i n) :
    ∀ s, DmK sh (cc sh (x + piK sh P i) (lK sh i (n + piK sh P i)) i) (NT sh m (t + P + s)) = DmK sh (cc sh x (lK sh i n) i) (NT sh m (t + s)) + Pit sh P
  | 0 => by
    have hl2 := lK_shift h d hi n
    show DmK sh _ (NT sh m (t + P)) = DmK sh _ (NT sh m t) + _
    rw [cc_all h hx hl, cc_all h (by omega) (by omega), e]
  | s + 1 => by
    have ih := even_set h d hb hi e hx hx2 hl s
    have h1 := Dm_succ h (m := m) (t := t + s) (cc_closed h hx hx2 ((t + s : Nat) : Int) (i := i)) (Int.le_refl _)
    have h2 := Dm_succ h (m := m) (t := t + P + s) (cc_closed h (n := n + piK sh P i) (x := x + piK sh P i) (by omega) (by omega) ((t + P + s : Nat) : Int) (i := i)) (Int.le_refl _)
    have h3 : Am sh (cc sh (x + piK sh P i) (lK sh i (n + piK sh P i)) i) ((t + P + s : Nat) : Int) = Am sh (cc sh x (lK sh i n) i) ((t + s : Nat) : Int) + Pit sh P := by
      unfold Am Pit
      rw [← sm_add]
      refine sm_congr fun j hj => ?_
      have bj := hb j hj
      rw [cc_shift h d hi hb hl hj, show ((t + P + s : Nat) : Int) = ((t + s : Nat) : Int) + (P : Int) by omega, arr_shift h d hj (by omega)]
      omega
    rw [show t + P + (s + 1) = t + P + s + 1 by omega, show t + (s + 1) = t + s + 1 by omega]
    omega
theorem rep_of {sh : List Sh} (h : Sk sh) {m P t s : Nat} (d : Dv sh P) (hb : Beg sh t) (e : Tot sh m (t + P) = Tot sh m t + Pit sh P) (hs : 20 ≤ s) (nb : NoB sh m (t + P + s)) : Rep sh m P (t + s) := by
  unfold Rep
  funext i
  unfold sft
  rw [show t + s + P = t + P + s by omega]
  rcases Nat.lt_or_ge i sh.length with hi | hi
  · have w20 := h.w20 i
    have bi := hb i hi
    have key : ∀ n, n < NT sh m (t + s) i ↔ n + piK sh P i < NT sh m (t + P + s) i := fun n => by
      have hl2 := lK_shift h d hi n
      rcases Int.lt_or_le (lK sh i n) ((t : Int) + 20) with hl | hl
      · have h1 := drawn_by h (u := t + s) (fun u hu => nb u (by omega)) hi (n := n) (by omega)
        have h2 := drawn_by h (u := t + P + s) nb hi (n := n + piK sh P i) (by omega)
        exact ⟨fun _ => h2, fun _ => h1⟩
      · have h1 := even_set h d hb hi e (x := n) (Nat.le_refl _) (by omega) hl s
        have h2 := even_set h d hb hi e (x := n + 1) (by omega) (Nat.le_refl _) hl s
        have h3 := Dm_one (sh := sh) (num := NT sh m (t + s)) (n := n) (L := lK sh i n) hi
        have h4 := Dm_one (sh := sh) (num := NT sh m (t + P + s)) (n := n + piK sh P i) (L := lK sh i (n + piK sh P i)) hi
        rw [show n + 1 + piK sh P i = n + piK sh P i + 1 by omega] at h2
        by_cases c1 : n < NT sh m (t + s) i
        · rw [if_pos c1] at h3
          by_cases c2 : n + piK sh P i < NT sh m (t + P + s) i
          · exact ⟨fun _ => c2, fun _ => c1⟩
          · rw [if_neg c2] at h4
            omega
        · rw [if_neg c1] at h3
          by_cases c2 : n + piK sh P i < NT sh m (t + P + s) i
          · rw [if_pos c2] at h4
            omega
          · exact ⟨fun z => absurd z c1, fun z => absurd z c2⟩
    have low : piK sh P i ≤ NT sh m (t + P + s) i := by
      refine Nat.le_of_not_lt fun hc => ?_
      have h1 := aK_first h d hi hc
      have h2 : lK sh i (NT sh m (t + P + s) i) = aK sh i (NT sh m (t + P + s) i) + (sh.getD i shz).wd := rfl
      have := drawn_by h (u := t + P + s) nb hi (n := NT sh m (t + P + s) i) (by omega)
      omega
    have k1 := key (NT sh m (t + s) i)
    have k2 := key (NT sh m (t + P + s) i - piK sh P i)
    rw [Nat.sub_add_cancel low] at k2
    omega
  · rw [NT_out hi, NT_out hi]
    unfold piK
    rw [if_neg (by omega)]
theorem rep_ex {sh : List Sh} (h : Sk sh) {m P t : Nat} (d : Dv sh P) (hb : Beg sh t) (nb : NoB sh m (t + (m * 20 + 41) * P)) : ∃ r, r ≤ m * 20 + 20 ∧ Rep sh m P (t + r * P) := by
  have hp := d.pos
  have h1 : (m * 20 + 1) * P + 20 ≤ (m * 20 + 41) * P := by
    have e : (m * 20 + 1 + 40) * P = (m * 20 + 1) * P + 40 * P := Nat.add_mul ..
    have := Nat.mul_le_mul_left 40 hp
    rw [show m * 20 + 41 = (m * 20 + 1) + 40 by omega, e]
    omega
  obtain ⟨r, hr, e⟩ := even_ex h d hb (m := m) fun u hu => nb u (by omega)
  have hb2 : Beg sh (t + r * P) := fun i hi => by
    have := hb i hi
    omega
  refine ⟨r + 20, by omega, ?_⟩
  have h2 : t + r * P + P + 20 * P ≤ t + (m * 20 + 41) * P := by
    have := Nat.mul_le_mul_right P (show r + 1 + 20 ≤ m * 20 + 41 by omega)
    rw [Nat.add_mul, Nat.add_mul] at this
    omega
  have := rep_of h d hb2 e (s := 20 * P) (by omega) fun u hu => nb u (by omega)
  rw [show t + r * P + 20 * P = t + (r + 20) * P by rw [Nat.add_mul]; omega] at this
  exact this
/-! ### the fire goes so -/
noncomputable def ptF (sh : List Sh) (m t : Nat) : Fi := stG sh (t : Int) (NT sh m t) (WT sh m t) none
theorem late_iff {sh : List Sh} {t : Int} {num : Nat → Nat} {w : Int} {bu : Option Int} {i : Nat} (hi : i < sh.length) : lateP sh (stG sh t num w bu) i = decide (lK sh i (num i) ≤ t) := by
  unfold lateP
  rw [stG_last hi]
  rfl
/-- the first share that is late -/
structure LateAt (sh : List Sh) (m t j : Nat) : Prop where
  lt : j < sh.length
  at_ : lK sh j (NT sh m (t + 1) j) ≤ (t : Int)
  no : ∀ i, i < j → ¬ lK sh i (NT sh m (t + 1) i) ≤ (t : Int)
theorem late_ex {sh : List Sh} {m t : Nat} (h : Burnt sh m t) : ∃ j, LateAt sh m t j := by
  have main : ∀ n i, i ≤ n → i < sh.length → lK sh i (NT sh m (t + 1) i) ≤ (t : Int) → ∃ j, LateAt sh m t j := fun n => by
    induction n with
    | zero =>
      intro i hi h1 h2
      exact ⟨i, h1, h2, fun k hk => absurd hk (by omega)⟩
    | succ n ih =>
      intro i hi h1 h2
      by_cases hc : ∃ k, k < i ∧ lK sh k (NT sh m (t + 1) k) ≤ (t : Int)
      · obtain ⟨k, hk, h3⟩ := hc
        exact ih k (by omega) (by omega) h3
      · exact ⟨i, h1, h2, fun k hk h3 => hc ⟨k, hk, h3⟩⟩
  obtain ⟨i, h1, h2⟩ := h
  exact main i i (Nat.le_refl _) h1 h2
theorem LateAt.uni {sh : List Sh} {m t i j : Nat} (h : LateAt sh m t i) (g : LateAt sh m t j) : i = j := by
  rcases Nat.lt_trichotomy i j with k | k | k
  · exact absurd h.at_ (g.no i k)
  · exact k
  · exact absurd g.at_ (h.no j k)
theorem beat_pt {sh : List Sh} {m t : Nat} : beatF sh m (ptF sh m t) = stG sh ((t + 1 : Nat) : Int) (NT sh m (t + 1)) (WT sh m (t + 1)) (burnF sh (stG sh (t : Int) (NT sh m (t + 1)) (WT sh m (t + 1)) none)) := by
  unfold beatF ptF
  rw [goN_stG]
  rfl
theorem beat_no' {sh : List Sh} {m t : Nat} (h : ¬ Burnt sh m t) : beatF sh m (ptF sh m t) = ptF sh m (t + 1) := by
  rw [beat_pt]
  have e : (List.range sh.length).filter (lateP sh (stG sh (t : Int) (NT sh m (t + 1)) (WT sh m (t + 1)) none)) = [] := List.filter_eq_nil_iff.mpr fun i hi => by
    have hi := List.mem_range.mp hi
    rw [late_iff hi]
    intro hd
    exact h ⟨i, hi, of_decide_eq_true hd⟩
  unfold burnF
  rw [e]
  rfl
theorem beat_at' {sh : List Sh} {m t j : Nat} (h : LateAt sh m t j) : beatF sh m (ptF sh m t) = stG sh ((t + 1 : Nat) : Int) (NT sh m (t + 1)) (WT sh m (t + 1)) (some (j : Int)) := by
  rw [beat_pt]
  obtain ⟨r, e⟩ := filter_rg (lateP sh (stG sh (t : Int) (NT sh m (t + 1)) (WT sh m (t + 1)) none)) h.lt (by rw [late_iff h.lt]; exact decide_eq_true h.at_) fun i hi => by
    have := h.lt
    rw [late_iff (by omega)]
    exact decide_eq_false (h.no i hi)
  unfold burnF
  rw [e]
theorem up_no {sh : List Sh} {m : Nat} : ∀ (k d : Nat), (∀ t, d ≤ t → t < d + k → ¬ Burnt sh m t) → upF sh m k (ptF sh m d) = ptF sh m (d + k)
  | 0, _, _ => rfl
  | k + 1, d, h => by
    rw [(up_go rfl).1, beat_no' (h d (Nat.le_refl _) (by omega)), up_no k (d + 1) fun t h1 h2 => h t (by omega) (by omega), show d + 1 + k = d + (k + 1) by omega]
theorem up_at {sh : List Sh} {m k d T j : Nat} (h : ∀ t, d ≤ t → t < T → ¬ Burnt sh m t) (hj : LateAt sh m T j) (hd : d ≤ T) (hk : T < d + k) : upF sh m k (ptF sh m d) = stG sh ((T + 1 : Nat) : Int) (NT sh m (T + 1)) (WT sh m (T + 1)) (some (j : Int)) := by
  rw [show k = (T - d) + ((d + k - T - 1) + 1) by omega, up_add, up_no (T - d) d fun t h1 h2 => h t h1 (by omega), show d + (T - d) = T by omega, (up_go rfl).1, beat_at' hj, (up_burnt rfl).1]
theorem ahead_pt {sh : List Sh} {t : Int} {num : Nat → Nat} {w : Int} {bu : Option Int} : aheadF sh (stG sh t num w bu) = (List.range sh.length).map fun i => ((num i : Nat) : Int) * (sh.getD i shz).b - t * (sh.getD i shz).p := by
  unfold aheadF
  refine List.ext_getElem (by simp [stG]) fun i h1 h2 => ?_
  have hi : i < sh.length := by simpa using h2
  simp [stG, List.getD_eq_getElem?_getD, List.getElem?_eq_getElem hi]
theorem ahead_rep {sh : List Sh} (h : Sk sh) {m P t : Nat} (d : Dv sh P) : aheadF sh (ptF sh m (t + P)) = aheadF sh (ptF sh m t) ↔ Rep sh m P t := by
  unfold ptF
  rw [ahead_pt, ahead_pt]
  constructor
  · intro e
    unfold Rep
    funext i
    unfold sft
    rcases Nat.lt_or_ge i sh.length with hi | hi
    · have e1 := congrArg (fun l : List Int => l.getD i 0) e
      rw [rg_getD _ hi, rg_getD _ hi] at e1
      have e2 := piK_eq h d hi
      have hb := h.b0 i
      generalize (sh.getD i shz).b = b at *
      generalize (sh.getD i shz).p = p at *
      have e3 : ((NT sh m (t + P) i : Nat) : Int) * b = (((NT sh m t i + piK sh P i : Nat)) : Int) * b := by
        rw [Int.natCast_add, Int.add_mul, e2]
        rw [show ((t + P : Nat) : Int) = (t : Int) + (P : Int) by omega, Int.add_mul] at e1
        omega
      have := Int.eq_of_mul_eq_mul_right (by omega) e3
      omega
    · rw [NT_out hi, NT_out hi]
      unfold piK
      rw [if_neg (by omega)]
  · intro r
    refine List.map_congr_left fun i hi => ?_
    have hi := List.mem_range.mp hi
    have e2 := piK_eq h d hi
    rw [r]
    unfold sft
    rw [Int.natCast_add, Int.add_mul, e2, show ((t + P : Nat) : Int) = (t : Int) + (P : Int) by omega, Int.add_mul]
    omega
theorem f00_pt {sh : List Sh} {m : Nat} (f00 : Fi) (e : f00 = ⟨0, List.replicate sh.length 0, sh.map (·.fi), 0, none⟩) : f00 = ptF sh m 0 := by
  have e1 : List.replicate sh.length (0 : Int) = (List.range sh.length).map fun i => ((NT sh m 0 i : Nat) : Int) := by
    refine List.ext_getElem (by simp) fun i h1 h2 => ?_
    rw [List.getElem_replicate, List.getElem_map]
    rfl
  have e2 : sh.map (·.fi) = (List.range sh.length).map fun i => aK sh i (NT sh m 0 i) := by
    refine List.ext_getElem (by simp) fun i h1 h2 => ?_
    have hi : i < sh.length := by simpa using h2
    rw [List.getElem_map, List.getElem_map, List.getElem_range]
    show _ = askF (sh.getD i shz) ((0 : Nat) : Int)
    unfold askF
    rw [show ((0 : Nat) : Int) = 0 from rfl, Int.zero_mul, Int.zero_ediv, Int.add_zero, List.getD_eq_getElem?_getD, List.getElem?_eq_getElem hi]
    rfl
  rw [e, e1, e2]
  rfl
/-- all rounds behind the first beats -/
theorem rnd_no {sh : List Sh} {m P t : Nat} : ∀ r, NoB sh m (t + r * P) → rndF sh m P (ptF sh m t) r = ptF sh m (t + r * P)
  | 0, _ => by rw [Nat.zero_mul]; rfl
  | r + 1, h => by
    rw [Nat.succ_mul] at h ⊢
    show upF sh m P (rndF sh m P (ptF sh m t) r) = _
    rw [rnd_no r fun u hu => h u (by omega), up_no P (t + r * P) fun u _ h2 => h u (by omega), Nat.add_assoc]
theorem least_ex' (Q : Nat → Prop) {n : Nat} (h : Q n) : ∃ k, k ≤ n ∧ Q k ∧ ∀ i, i < k → ¬ Q i := by
  have main : ∀ n i, i ≤ n → Q i → ∃ k, k ≤ i ∧ Q k ∧ ∀ i, i < k → ¬ Q i := fun n => by
    induction n with
    | zero => exact fun i hi hq => ⟨i, Nat.le_refl _, hq, fun k hk => absurd hk (by omega)⟩
    | succ n ih =>
      intro i hi hq
      by_cases hc : ∃ k, k < i ∧ Q k
      · obtain ⟨k, hk, h3⟩ := hc
        obtain ⟨l, hl, h4⟩ := ih k (by omega) h3
        exact ⟨l, by omega, h4⟩
      · exact ⟨i, Nat.le_refl _, hq, fun k hk h3 => hc ⟨k, hk, h3⟩⟩
  exact main n n (Nat.le_refl _) h
/-- what comes of it -/
def Res (sh : List Sh) (m : Nat) (r : Nat × Nat ⊕ Int) : Prop :=
  (∃ T j, NoB sh m T ∧ LateAt sh m T j ∧ r = .inl (j, NT sh m (T + 1) j)) ∨ ((∀ T, NoB sh m T) ∧ r = .inr (WT sh m 100000))
theorem Res.uni {sh : List Sh} {m : Nat} {r q : Nat × Nat ⊕ Int} (h : Res sh m r) (g : Res sh m q) : r = q := by
  have bt : ∀ {T j}, LateAt sh m T j → Burnt sh m T := fun l => ⟨_, l.lt, l.at_⟩
  rcases h with ⟨T, j, n1, l1, rfl⟩ | ⟨n1, rfl⟩
  · rcases g with ⟨U, k, n2, l2, rfl⟩ | ⟨n2, rfl⟩
    · have e : T = U := by
        rcases Nat.lt_trichotomy T U with z | z | z
        · exact absurd (bt l1) (n2 T z)
        · exact z
        · exact absurd (bt l2) (n1 U z)
      subst e
      rw [l1.uni l2]
    · exact absurd (bt l1) (n2 (T + 1) T (by omega))
  · rcases g with ⟨U, k, n2, l2, rfl⟩ | ⟨n2, rfl⟩
    · exact absurd (bt l2) (n1 (U + 1) U (by omega))
    · rfl
structure EndsR (sh : List Sh) (m P : Nat) (g : Fi) (R : Nat) : Prop where
  few : R < 1000000
  go : ∀ r, r < R → (rndF sh m P g r).bu = none ∧ ¬ ((rndF sh m P g (r + 1)).bu = none ∧ aheadF sh (rndF sh m P g (r + 1)) = aheadF sh (rndF sh m P g r))
  fin : (∃ j n : Nat, j < sh.length ∧ (rndF sh m P g R).bu = some (j : Int) ∧ (rndF sh m P g R).nu.getD j 0 = (n : Int) ∧ Res sh m (.inl (j, n))) ∨ ((rndF sh m P g R).bu = none ∧ (rndF sh m P g (R + 1)).bu = none ∧ aheadF sh (rndF sh m P g (R + 1)) = aheadF sh (rndF sh m P g R) ∧ Res sh m (.inr (rndF sh m P g (R + 1)).w))
theorem ends_ex {sh : List Sh} (h : Sk sh) {m P t : Nat} (d : Dv sh P) (hb : Beg sh t) (hP : P ≤ 500) (ht : t ≤ 500) (hm : m ≤ 4) {g : Fi} (hg : g = upF sh m t (ptF sh m 0)) : ∃ R, EndsR sh m P g R := by
  have hbig : (m * 20 + 41) * P ≤ 121 * 500 := Nat.mul_le_mul (by omega) hP
  by_cases hB : ∃ T, Burnt sh m T
  · obtain ⟨T0, hT0⟩ := hB
    obtain ⟨T, _, hT, hfirst⟩ := least_ex' (Burnt sh m) hT0
    have nb : NoB sh m T := hfirst
    obtain ⟨j, hj⟩ := late_ex hT
    have hres : Res sh m (.inl (j, NT sh m (T + 1) j)) := .inl ⟨T, j, nb, hj, rfl⟩
    rcases Nat.lt_or_ge T t with hlt | hge
    · rw [up_at (fun u _ h2 => nb u h2) hj (Nat.zero_le _) (by omega)] at hg
      refine ⟨0, by decide, fun r hr => absurd hr (by omega), .inl ⟨j, _, hj.lt, ?_, ?_, hres⟩⟩
      · show g.bu = _
        rw [hg]
        rfl
      · show g.nu.getD j 0 = _
        rw [hg, stG_num hj.lt]
    · rw [up_no t 0 fun u _ h2 => nb u (by omega), Nat.zero_add] at hg
      subst hg
      have hPp := d.pos
      have hTb : T < t + (m * 20 + 41) * P := by
        refine Nat.lt_of_not_le fun hc => ?_
        obtain ⟨r, hr, rep⟩ := rep_ex h d hb (m := m) fun u hu => nb u (by omega)
        have : r * P ≤ (m * 20 + 20) * P := Nat.mul_le_mul_right _ hr
        have e : (m * 20 + 20 + 21) * P = (m * 20 + 20) * P + 21 * P := Nat.add_mul ..
        rw [show m * 20 + 41 = m * 20 + 20 + 21 by omega] at hc
        exact rep.never h d (fun u hu => nb u (by omega)) (T + 1) T (by omega) hT
      have hdm := Nat.div_add_mod (T - t) P
      have hml := Nat.mod_lt (T - t) hPp
      rw [Nat.mul_comm] at hdm
      have hno : ∀ r, r ≤ (T - t) / P → NoB sh m (t + r * P) := fun r hr u hu => by
        have : r * P ≤ (T - t) / P * P := Nat.mul_le_mul_right _ hr
        exact nb u (by omega)
      have elast : rndF sh m P (ptF sh m t) ((T - t) / P + 1) = stG sh ((T + 1 : Nat) : Int) (NT sh m (T + 1)) (WT sh m (T + 1)) (some (j : Int)) := by
        show upF sh m P (rndF sh m P (ptF sh m t) ((T - t) / P)) = _
        rw [rnd_no _ (hno _ (Nat.le_refl _))]
        exact up_at (fun u _ h2 => nb u h2) hj (by omega) (by omega)
      refine ⟨(T - t) / P + 1, ?_, fun r hr => ?_, .inl ⟨j, _, hj.lt, ?_, ?_, hres⟩⟩
      · have := Nat.div_le_self (T - t) P
        omega
      · have e1 := rnd_no r (hno r (by omega))
        refine ⟨by rw [e1]; rfl, fun ⟨h1, h2⟩ => ?_⟩
        rcases Nat.lt_or_ge r ((T - t) / P) with hr2 | hr2
        · have e2 := rnd_no (r + 1) (hno (r + 1) (by omega))
          rw [e1, e2, Nat.succ_mul, ← Nat.add_assoc, ahead_rep h d] at h2
          have n2 := hno (r + 1) (by omega)
          rw [Nat.succ_mul, ← Nat.add_assoc] at n2
          exact h2.never h d n2 (T + 1) T (by omega) hT
        · rw [show r + 1 = (T - t) / P + 1 by omega, elast] at h1
          cases h1
      · rw [elast]
        rfl
      · rw [elast, stG_num hj.lt]
  · have nb : ∀ T, NoB sh m T := fun T u _ hu => hB ⟨u, hu⟩
    rw [up_no t 0 fun u _ _ hu => hB ⟨u, hu⟩, Nat.zero_add] at hg
    subst hg
    obtain ⟨r0, hr0, rep0⟩ := rep_ex h d hb (m := m) (nb _)
    obtain ⟨R, hR, rep, hfirst⟩ := least_ex' (fun r => Rep sh m P (t + r * P)) rep0
    have e1 : ∀ r, rndF sh m P (ptF sh m t) r = ptF sh m (t + r * P) := fun r => rnd_no r (nb _)
    have step : ∀ r, t + (r + 1) * P = t + r * P + P := fun r => by rw [Nat.succ_mul]; omega
    refine ⟨R, by omega, fun r hr => ⟨by rw [e1]; rfl, fun ⟨_, h2⟩ => ?_⟩, .inr ⟨by rw [e1]; rfl, by rw [e1]; rfl, ?_, .inr ⟨nb, ?_⟩⟩⟩
    · rw [e1, e1, step, ahead_rep h d] at h2
      exact hfirst r hr h2
    · rw [e1, e1, step, ahead_rep h d]
      exact rep
    · rw [e1, step]
      show Sum.inr (WT sh m (t + R * P + P)) = _
      have hs : t + R * P + P ≤ 100000 := by
        have h1 : (R + 1) * P ≤ 101 * 500 := Nat.mul_le_mul (by omega) hP
        rw [Nat.succ_mul] at h1
        omega
      have := rep.wait h d (100000 - (t + R * P + P))
      rw [show t + R * P + P + (100000 - (t + R * P + P)) = 100000 by omega] at this
      rw [this]
/-! ### what waits, in its order -/
def pcR (sh : List Sh) (x : Nat × Nat) : List Int := [lK sh x.1 x.2, (x.1 : Int), (x.2 : Int)]
def ltK (sh : List Sh) (x y : Nat × Nat) : Prop := lK sh x.1 x.2 < lK sh y.1 y.2 ∨ (lK sh x.1 x.2 = lK sh y.1 y.2 ∧ (x.1 < y.1 ∨ (x.1 = y.1 ∧ x.2 < y.2)))
def leK (sh : List Sh) (x y : Nat × Nat) : Bool := rowLe (pcR sh x) (pcR sh y)
theorem rowLe3 (a b c d e f : Int) : rowLe [a, b, c] [d, e, f] = if a = d then (if b = e then (if c = f then true else decide (c < f)) else decide (b < e)) else decide (a < d) := rfl
theorem leK_iff {sh : List Sh} {x y : Nat × Nat} : leK sh x y = true ↔ ¬ ltK sh y x := by
  unfold leK pcR ltK
  rw [rowLe3]
  split
  · split
    · split
      · simp only [true_iff]
        omega
      · rw [decide_eq_true_iff]
        omega
    · rw [decide_eq_true_iff]
      omega
  · rw [decide_eq_true_iff]
    omega
theorem ltK_irr {sh : List Sh} {x : Nat × Nat} : ¬ ltK sh x x := by
  unfold ltK
  omega
theorem ltK_tr {sh : List Sh} {x y z : Nat × Nat} (h : ltK sh x y) (k : ltK sh y z) : ltK sh x z := by
  unfold ltK at *
  omega
theorem ltK_tot {sh : List Sh} {x y : Nat × Nat} (h : ¬ ltK sh x y) (k : ¬ ltK sh y x) : x = y := by
  unfold ltK at *
  exact Prod.ext (by omega) (by omega)
theorem strict_eq {sh : List Sh} : ∀ {l r : List (Nat × Nat)}, l.Pairwise (ltK sh) → r.Pairwise (ltK sh) → (∀ x, x ∈ l ↔ x ∈ r) → l = r
  | [], [], _, _, _ => rfl
  | [], y :: r, _, _, h => absurd ((h y).mpr (List.mem_cons_self ..)) (by simp)
  | x :: l, [], _, _, h => absurd ((h x).mp (List.mem_cons_self ..)) (by simp)
  | x :: l, y :: r, hl, hr, h => by
    have ha := List.pairwise_cons.mp hl
    have hb := List.pairwise_cons.mp hr
    have e : x = y := by
      rcases List.mem_cons.mp ((h x).mp (List.mem_cons_self ..)) with e | e
      · exact e
      rcases List.mem_cons.mp ((h y).mpr (List.mem_cons_self ..)) with e2 | e2
      · exact e2.symm
      · exact absurd (ltK_tr (ha.1 y e2) (hb.1 x e)) ltK_irr
    subst e
    have : l = r := strict_eq ha.2 hb.2 fun z => by
      constructor
      · intro hz
        rcases List.mem_cons.mp ((h z).mp (List.mem_cons_of_mem _ hz)) with e | e
        · subst e
          exact absurd (ha.1 z hz) ltK_irr
        · exact e
      · intro hz
        rcases List.mem_cons.mp ((h z).mpr (List.mem_cons_of_mem _ hz)) with e | e
        · subst e
          exact absurd (hb.1 z hz) ltK_irr
        · exact e
    rw [this]
/-- these pieces wait: in their order; in any order -/
structure Ws (sh : List Sh) (ws : List (Nat × Nat)) (num a : Nat → Nat) : Prop where
  srt : ws.Pairwise (ltK sh)
  mem : ∀ i n, (i, n) ∈ ws ↔ i < sh.length ∧ num i ≤ n ∧ n < a i
structure Wd (sh : List Sh) (ws : List (Nat × Nat)) (num a : Nat → Nat) : Prop where
  nodup : ws.Nodup
  mem : ∀ i n, (i, n) ∈ ws ↔ i < sh.length ∧ num i ≤ n ∧ n < a i
theorem Ws.uni {sh : List Sh} {ws vs : List (Nat × Nat)} {num a num' a' : Nat → Nat} (h : Ws sh ws num a) (g : Ws sh vs num' a') (e : ∀ i, i < sh.length → num i = num' i ∧ a i = a' i) : ws = vs :=
  strict_eq h.srt g.srt fun ⟨i, n⟩ => by
    rw [h.mem, g.mem]
    constructor
    · rintro ⟨h1, h2, h3⟩
      obtain ⟨e1, e2⟩ := e i h1
      omega
    · rintro ⟨h1, h2, h3⟩
      obtain ⟨e1, e2⟩ := e i h1
      omega
theorem Ws.wd {sh : List Sh} {ws : List (Nat × Nat)} {num a : Nat → Nat} (h : Ws sh ws num a) : Wd sh ws num a :=
  ⟨h.srt.imp fun k e => by subst e; exact ltK_irr k, h.mem⟩
theorem Wd.put {sh : List Sh} {ws : List (Nat × Nat)} {num a : Nat → Nat} (h : Wd sh ws num a) {p : Nat} (hp : p < sh.length) (hn : num p ≤ a p) : Wd sh (ws ++ [(p, a p)]) num (updN a p) := by
  refine ⟨List.nodup_append.mpr ⟨h.nodup, by simp, fun x hx y hy => ?_⟩, fun i n => ?_⟩
  · obtain rfl := List.mem_singleton.mp hy
    rintro rfl
    have := ((h.mem p (a p)).mp hx).2.2
    omega
  · rw [List.mem_append, List.mem_singleton, h.mem]
    unfold updN
    by_cases e : i = p
    · subst e
      rw [if_pos rfl]
      constructor
      · rintro (⟨h1, h2, h3⟩ | h4)
        · omega
        · have : n = a i := congrArg Prod.snd h4
          omega
      · rintro ⟨h1, h2, h3⟩
        by_cases e2 : n = a i
        · exact .inr (by rw [e2])
        · exact .inl ⟨h1, h2, by omega⟩
    · rw [if_neg e]
      constructor
      · rintro (h1 | h4)
        · exact h1
        · exact absurd (congrArg Prod.fst h4) e
      · exact .inl
theorem Wd.congr {sh : List Sh} {ws : List (Nat × Nat)} {num a num' a' : Nat → Nat} (h : Wd sh ws num a) (e : ∀ i, i < sh.length → num i = num' i ∧ a i = a' i) : Wd sh ws num' a' := ⟨h.nodup, fun i n => by
  rw [h.mem]
  constructor
  · rintro ⟨h1, h2, h3⟩
    obtain ⟨e1, e2⟩ := e i h1
    omega
  · rintro ⟨h1, h2, h3⟩
    obtain ⟨e1, e2⟩ := e i h1
    omega⟩
/-- sorted they stand in their order -/
theorem Wd.sort {sh : List Sh} {ws : List (Nat × Nat)} {num a : Nat → Nat} (h : Wd sh ws num a) : ∃ vs, (ws.map (pcR sh)).mergeSort rowLe = vs.map (pcR sh) ∧ vs.length = ws.length ∧ Ws sh vs num a := by
  refine ⟨ws.mergeSort (leK sh), ?_, (List.mergeSort_perm _ _).length_eq, ?_, fun i n => by rw [List.mem_mergeSort]; exact h.mem i n⟩
  · exact (List.map_mergeSort (r := leK sh) (s := rowLe) (f := pcR sh) (fun _ _ _ _ => rfl)).symm
  · have s := List.pairwise_mergeSort (le := leK sh) (fun a b c h1 h2 => by
      rw [leK_iff] at *
      unfold ltK at *
      omega) (fun a b => by
      rw [Bool.or_eq_true, leK_iff, leK_iff]
      unfold ltK
      omega) ws
    have nd : (ws.mergeSort (leK sh)).Nodup := (List.mergeSort_perm ws (leK sh)).nodup_iff.mpr h.nodup
    refine (s.and nd).imp fun {x y} ⟨h1, h2⟩ => ?_
    rw [leK_iff] at h1
    refine Classical.byContradiction fun hc => h2 (ltK_tot hc h1)
theorem Ws.head {sh : List Sh} (hk : Sk sh) {x : Nat × Nat} {ws : List (Nat × Nat)} {num a : Nat → Nat} {t : Int} (h : Ws sh (x :: ws) num a) (ha : ∀ i, i < sh.length → a i = arr sh i t) : x.2 = num x.1 ∧ Pk sh t num x.1 ∧ Ws sh ws (updN num x.1) a := by
  obtain ⟨i, n⟩ := x
  obtain ⟨hs, hr⟩ := List.pairwise_cons.mp h.srt
  obtain ⟨h1, h2, h3⟩ := (h.mem i n).mp (List.mem_cons_self ..)
  have low : ∀ j, j < sh.length → num j < a j → (j, num j) = (i, n) ∨ ltK sh (i, n) (j, num j) := fun j hj hlt => by
    rcases List.mem_cons.mp ((h.mem j (num j)).mpr ⟨hj, Nat.le_refl _, hlt⟩) with e | e
    · exact .inl e
    · exact .inr (hs _ e)
  have en : n = num i := by
    rcases low i h1 (by omega) with e | e
    · exact (congrArg Prod.snd e).symm
    · have := lK_mono hk (i := i) h2
      unfold ltK at e
      dsimp only at e
      omega
  subst en
  have hot : aK sh i (num i) ≤ t := by
    rw [ha i h1] at h3
    exact (lt_arr hk).mp h3
  refine ⟨rfl, ⟨h1, hot, fun j hj hh => ?_⟩, hr, fun j k => ?_⟩
  · have := (lt_arr hk).mpr hh
    rw [← ha j hj] at this
    rcases low j hj this with e | e
    · have : j = i := congrArg Prod.fst e
      subst this
      exact .inr ⟨rfl, Nat.le_refl _⟩
    · unfold ltK at e
      dsimp only at e
      show lK sh i (num i) < _ ∨ (lK sh i (num i) = _ ∧ i ≤ j)
      omega
  · have hm : (j, k) ∈ ws ↔ (j, k) ∈ (i, num i) :: ws ∧ (j, k) ≠ (i, num i) := by
      constructor
      · intro hz
        refine ⟨List.mem_cons_of_mem _ hz, fun e => ?_⟩
        rw [e] at hz
        exact ltK_irr (hs _ hz)
      · rintro ⟨hz, hne⟩
        rcases List.mem_cons.mp hz with e | e
        · exact absurd e hne
        · exact e
    rw [hm, h.mem]
    show _ ↔ j < sh.length ∧ (if j = i then num j + 1 else num j) ≤ k ∧ k < a j
    by_cases e : j = i
    · subst e
      rw [if_pos rfl]
      constructor
      · rintro ⟨⟨k1, k2, k3⟩, k4⟩
        refine ⟨k1, ?_, k3⟩
        refine Nat.lt_of_le_of_ne k2 fun z => k4 (by rw [z])
      · rintro ⟨k1, k2, k3⟩
        refine ⟨⟨k1, by omega, k3⟩, fun z => ?_⟩
        have : k = num j := congrArg Prod.snd z
        omega
    · rw [if_neg e]
      constructor
      · rintro ⟨k1, _⟩
        exact k1
      · intro k1
        exact ⟨k1, fun z => e (congrArg Prod.fst z)⟩
def wtF (sh : List Sh) (t w : Int) (x : Nat × Nat) : Int := if t - aK sh x.1 x.2 > w then t - aK sh x.1 x.2 else w
/-- the first so many of them are drawn -/
theorem Ws.go {sh : List Sh} (hk : Sk sh) {a : Nat → Nat} {t : Int} (ha : ∀ i, i < sh.length → a i = arr sh i t) : ∀ (k : Nat) (ws : List (Nat × Nat)) (num : Nat → Nat) (w : Int), Ws sh ws num a → Ws sh (ws.drop k) (gn sh t k num) a ∧ (ws.take k).foldl (wtF sh t) w = gw sh t k num w
  | 0, ws, num, w, h => ⟨h, rfl⟩
  | k + 1, [], num, w, h => by
    have hn : pkN sh t num = none := by
      cases e : pkN sh t num with
      | none => rfl
      | some j =>
        have p := pkN_of e
        have h1 := (lt_arr hk).mpr p.hot
        rw [← ha j p.lt] at h1
        have := (h.mem j (num j)).mpr ⟨p.lt, Nat.le_refl _, h1⟩
        cases this
    rw [gn_none hn, gw_none hn]
    exact ⟨h, rfl⟩
  | k + 1, x :: ws, num, w, h => by
    obtain ⟨e1, p, h2⟩ := h.head hk ha
    rw [gn_some (pkN_some p), gw_some (pkN_some p)]
    have := Ws.go hk ha k ws (updN num x.1) (wtF sh t w x) h2
    refine ⟨this.1, ?_⟩
    show (ws.take k).foldl (wtF sh t) (wtF sh t w x) = _
    rw [this.2]
    unfold wtF
    rw [e1]
/-! late ones -/
def lateL (sh : List Sh) (t : Int) (ws : List (Nat × Nat)) : List (Nat × Nat) := ws.filter fun x => decide (lK sh x.1 x.2 < t)
theorem late_none {sh : List Sh} (hk : Sk sh) {m t : Nat} {ws : List (Nat × Nat)} (h : Ws sh ws (NT sh m t) (fun i => arr sh i ((t : Int) - 1))) (nb : NoB sh m (t - 1)) (e : lateL sh t ws = []) : NoB sh m t := fun u hu b => by
  rcases Nat.lt_or_ge u (t - 1) with h1 | h1
  · exact nb u h1 b
  obtain rfl : t = u + 1 := by omega
  obtain ⟨i, hi, hl⟩ := b
  have w0 := hk.w0 i
  have h2 : lK sh i (NT sh m (u + 1) i) = aK sh i (NT sh m (u + 1) i) + (sh.getD i shz).wd := rfl
  have h3 := (lt_arr hk (n := NT sh m (u + 1) i) (i := i) (t := ((u + 1 : Nat) : Int) - 1)).mpr (by omega)
  have h4 := (h.mem i _).mpr ⟨hi, Nat.le_refl _, h3⟩
  have h5 : (i, NT sh m (u + 1) i) ∈ lateL sh ((u + 1 : Nat) : Int) ws := List.mem_filter.mpr ⟨h4, decide_eq_true (show lK sh i (NT sh m (u + 1) i) < ((u + 1 : Nat) : Int) by omega)⟩
  rw [e] at h5
  cases h5
theorem late_some {sh : List Sh} (hk : Sk sh) {m t : Nat} {ws r : List (Nat × Nat)} {x : Nat × Nat} (h : Ws sh ws (NT sh m t) (fun i => arr sh i ((t : Int) - 1))) (nb : NoB sh m (t - 1)) (e : lateL sh t ws = x :: r) :
    ∀ z, z ∈ x :: r → (∀ y, y ∈ x :: r → ¬ ltK sh y z) → Res sh m (.inl z) := by
  have hx : ∀ y, y ∈ x :: r → y.1 < sh.length ∧ NT sh m t y.1 ≤ y.2 ∧ lK sh y.1 y.2 < (t : Int) := fun y hy => by
    rw [← e] at hy
    obtain ⟨h1, h2⟩ := List.mem_filter.mp hy
    obtain ⟨h3, h4, _⟩ := (h.mem y.1 y.2).mp h1
    exact ⟨h3, h4, of_decide_eq_true h2⟩
  intro z hz hmin
  obtain ⟨z1, z2, z3⟩ := hx z hz
  have low : ∀ i n, 0 ≤ lK sh i n := fun i n => by
    have := aK_fi hk i n
    have := hk.f0 i
    have := hk.w0 i
    unfold lK
    omega
  have t1 : 1 ≤ t := by
    have := low z.1 z.2
    omega
  obtain ⟨T, rfl⟩ : ∃ T, t = T + 1 := ⟨t - 1, by omega⟩
  have nb : NoB sh m T := nb
  have hB : Burnt sh m T := ⟨z.1, z1, by have := lK_mono hk (i := z.1) z2; omega⟩
  obtain ⟨j, hj⟩ := late_ex hB
  -- nothing was late at the beat before
  have exact_ : ∀ i n, i < sh.length → NT sh m (T + 1) i ≤ n → (T : Int) ≤ lK sh i n := fun i n hi hn => by
    rcases Nat.eq_zero_or_pos T with h0 | h0
    · have := low i n
      omega
    · refine Int.not_lt.mp fun hc => ?_
      refine nb (T - 1) (by omega) ⟨i, hi, ?_⟩
      rw [show T - 1 + 1 = T by omega]
      have h1 : NT sh m T i ≤ n := Nat.le_trans (NT_mono (s := 1)) hn
      have := lK_mono hk (i := i) h1
      omega
  have jl := exact_ j _ hj.lt (Nat.le_refl _)
  have ja := hj.at_
  have zl := exact_ z.1 z.2 z1 z2
  have w0 := hk.w0 j
  have h2 : lK sh j (NT sh m (T + 1) j) = aK sh j (NT sh m (T + 1) j) + (sh.getD j shz).wd := rfl
  have h3 := (lt_arr hk (n := NT sh m (T + 1) j) (i := j) (t := ((T + 1 : Nat) : Int) - 1)).mpr (by omega)
  have hin : (j, NT sh m (T + 1) j) ∈ x :: r := by
    rw [← e]
    exact List.mem_filter.mpr ⟨(h.mem j _).mpr ⟨hj.lt, Nat.le_refl _, h3⟩, decide_eq_true (show lK sh j (NT sh m (T + 1) j) < ((T + 1 : Nat) : Int) by omega)⟩
  have hm := hmin _ hin
  have ez : z = (j, NT sh m (T + 1) j) := by
    have hzj : ¬ z.1 < j := fun hlt => hj.no z.1 hlt (by have := lK_mono hk (i := z.1) z2; omega)
    unfold ltK at hm
    dsimp only at hm
    have e1 : z.1 = j := by omega
    refine Prod.ext e1 ?_
    show z.2 = NT sh m (T + 1) j
    rw [e1] at z2
    omega
  rw [ez]
  exact .inl ⟨T, j, nb, hj, rfl⟩
/-! so again behind a round -/
def nowR (sh : List Sh) (t : Int) (nx : Nat → Nat) (x : Nat × Nat) : List Int := [lK sh x.1 x.2 - t, (x.1 : Int), (x.2 : Int) - (nx x.1 : Int)]
theorem now_rep {sh : List Sh} (hk : Sk sh) {m P u : Nat} (d : Dv sh P) (hb : Beg sh u) {ws vs : List (Nat × Nat)} {nx ny : Nat → Nat} (hx : ∀ i, i < sh.length → nx i = arr sh i ((u : Int) - 1)) (hy : ∀ i, i < sh.length → ny i = arr sh i (((u + P : Nat) : Int) - 1))
    (h : Ws sh ws (NT sh m u) nx) (g : Ws sh vs (NT sh m (u + P)) ny) : vs.map (nowR sh ((u + P : Nat) : Int) ny) = ws.map (nowR sh (u : Int) nx) ↔ Rep sh m P u := by
  have ea : ∀ i, i < sh.length → ny i = nx i + piK sh P i := fun i hi => by
    rw [hx i hi, hy i hi, ← arr_shift hk d hi (by have := hb i hi; omega)]
    congr 1
    omega
  constructor
  · intro e
    unfold Rep
    funext i
    unfold sft
    rcases Nat.lt_or_ge i sh.length with hi | hi
    · have e0 := ea i hi
      have ax := NT_ask hk (m := m) u i hi
      have ay := NT_ask hk (m := m) (u + P) i hi
      rw [← hx i hi] at ax
      rw [← hy i hi] at ay
      rcases Nat.lt_trichotomy (NT sh m (u + P) i) (NT sh m u i + piK sh P i) with hc | hc | hc
      · have hm := (g.mem i (NT sh m (u + P) i)).mpr ⟨hi, Nat.le_refl _, by omega⟩
        have h1 : nowR sh ((u + P : Nat) : Int) ny (i, NT sh m (u + P) i) ∈ ws.map (nowR sh (u : Int) nx) := by
          rw [← e]
          exact List.mem_map_of_mem hm
        obtain ⟨⟨j, n⟩, hj, h2⟩ := List.mem_map.mp h1
        unfold nowR at h2
        injection h2 with _ h2
        injection h2 with h3 h2
        injection h2 with h4 _
        have : j = i := by
          have h3 : (j : Int) = (i : Int) := h3
          omega
        subst this
        have := ((h.mem j n).mp hj).2.1
        have h4 : (n : Int) - (nx j : Int) = (NT sh m (u + P) j : Int) - (ny j : Int) := h4
        omega
      · exact hc
      · have hm := (h.mem i (NT sh m u i)).mpr ⟨hi, Nat.le_refl _, by omega⟩
        have h1 : nowR sh (u : Int) nx (i, NT sh m u i) ∈ vs.map (nowR sh ((u + P : Nat) : Int) ny) := by
          rw [e]
          exact List.mem_map_of_mem hm
        obtain ⟨⟨j, n⟩, hj, h2⟩ := List.mem_map.mp h1
        unfold nowR at h2
        injection h2 with _ h2
        injection h2 with h3 h2
        injection h2 with h4 _
        have : j = i := by
          have h3 : (j : Int) = (i : Int) := h3
          omega
        subst this
        have := ((g.mem j n).mp hj).2.1
        have h4 : (n : Int) - (ny j : Int) = (NT sh m u j : Int) - (nx j : Int) := h4
        omega
    · rw [NT_out hi, NT_out hi]
      unfold piK
      rw [if_neg (by omega)]
  · intro r
    have hws : ∀ x, x ∈ ws → x.1 < sh.length := fun x hx => ((h.mem x.1 x.2).mp hx).1
    have sh' : Ws sh (ws.map fun x => (x.1, x.2 + piK sh P x.1)) (NT sh m (u + P)) ny := by
      refine ⟨List.pairwise_map.mpr (h.srt.imp_of_mem fun {x y} hx hy k => ?_), fun i n => ?_⟩
      · unfold ltK at k ⊢
        dsimp only
        rw [lK_shift hk d (hws x hx), lK_shift hk d (hws y hy)]
        rcases k with k | ⟨k1, k | ⟨k2, k3⟩⟩
        · exact .inl (by omega)
        · exact .inr ⟨by omega, .inl k⟩
        · exact .inr ⟨by omega, .inr ⟨k2, by rw [k2]; omega⟩⟩
      · rw [r, List.mem_map]
        show _ ↔ i < sh.length ∧ NT sh m u i + piK sh P i ≤ n ∧ n < ny i
        constructor
        · rintro ⟨⟨j, k⟩, hj, e⟩
          obtain ⟨h1, h2, h3⟩ := (h.mem j k).mp hj
          have e1 : j = i := congrArg Prod.fst e
          have e2 : k + piK sh P j = n := congrArg Prod.snd e
          subst e1
          have := ea j h1
          omega
        · rintro ⟨h1, h2, h3⟩
          have := ea i h1
          refine ⟨(i, n - piK sh P i), (h.mem i _).mpr ⟨h1, by omega, by omega⟩, Prod.ext rfl ?_⟩
          show n - piK sh P i + piK sh P i = n
          omega
    rw [g.uni sh' fun i _ => ⟨rfl, rfl⟩, List.map_map]
    refine List.map_congr_left fun x hx => ?_
    have hi := hws x hx
    show nowR sh ((u + P : Nat) : Int) ny (x.1, x.2 + piK sh P x.1) = _
    unfold nowR
    dsimp only
    rw [lK_shift hk d hi, ea x.1 hi, show lK sh x.1 x.2 + (P : Int) - ((u + P : Nat) : Int) = lK sh x.1 x.2 - (u : Int) by omega, show ((x.2 + piK sh P x.1 : Nat) : Int) - ((nx x.1 + piK sh P x.1 : Nat) : Int) = (x.2 : Int) - (nx x.1 : Int) by omega]
/-! the least of some -/
theorem min_pc {sh : List Sh} : ∀ (r : List (Nat × Nat)) (x : Nat × Nat), ∃ z, z ∈ x :: r ∧ minR (pcR sh x) (r.map (pcR sh)) = pcR sh z ∧ ∀ y, y ∈ x :: r → ¬ ltK sh y z
  | [], x => ⟨x, List.mem_cons_self .., minR_nil _, fun y hy => by
      obtain rfl := List.mem_singleton.mp hy
      exact ltK_irr⟩
  | y :: r, x => by
    have hlt : PySem.W.listLt (pcR sh y) (pcR sh x) = true ↔ ltK sh y x := by
      unfold pcR
      rw [listLt3, decide_eq_true_iff]
      unfold ltK
      omega
    rw [List.map_cons, minR_cons]
    by_cases h : PySem.W.listLt (pcR sh y) (pcR sh x) = true
    · rw [if_pos h]
      obtain ⟨z, h1, h2, h3⟩ := min_pc r y
      refine ⟨z, List.mem_cons_of_mem _ h1, h2, fun w hw => ?_⟩
      rcases List.mem_cons.mp hw with rfl | hw
      · intro hc
        exact h3 y (List.mem_cons_self ..) (ltK_tr (hlt.mp h) hc)
      · exact h3 w hw
    · rw [if_neg h]
      obtain ⟨z, h1, h2, h3⟩ := min_pc r x
      refine ⟨z, ?_, h2, fun w hw => ?_⟩
      · rcases List.mem_cons.mp h1 with e | e
        · rw [e]; exact List.mem_cons_self ..
        · exact List.mem_cons_of_mem _ (List.mem_cons_of_mem _ e)
      · rcases List.mem_cons.mp hw with rfl | hw
        · exact h3 _ (List.mem_cons_self ..)
        rcases List.mem_cons.mp hw with rfl | hw
        · intro hc
          have hx := h3 x (List.mem_cons_self ..)
          have : ¬ ltK sh w x := fun z => h (hlt.mpr z)
          unfold ltK at *
          omega
        · exact h3 w (List.mem_cons_of_mem _ hw)
/-! bounds -/
theorem arr_few {sh : List Sh} (h : Sk sh) {i t : Nat} (h6 : (sh.getD i shz).p ≤ 6) : arr sh i (t : Int) ≤ 6 * (t + 1) := by
  refine Nat.le_of_not_lt fun hc => ?_
  have h1 := (lt_arr h).mp hc
  unfold aK askF at h1
  have hb := h.b0 i
  have hp := h.p0 i
  have hf := h.f0 i
  generalize (sh.getD i shz).b = b at *
  generalize (sh.getD i shz).p = p at *
  generalize (sh.getD i shz).fi = fi at *
  have h2 : ((6 * (t + 1) : Nat) : Int) * b / p < (t : Int) + 1 := by omega
  rw [Int.ediv_lt_iff_lt_mul hp] at h2
  have h3 : ((6 * (t + 1) : Nat) : Int) * 1 ≤ ((6 * (t + 1) : Nat) : Int) * b := Int.mul_le_mul_of_nonneg_left (by omega) (by omega)
  have h4 : ((t : Int) + 1) * p ≤ ((t : Int) + 1) * 6 := Int.mul_le_mul_of_nonneg_left h6 (by omega)
  omega
/-! ### k39: the shares drawn -/
theorem at4K {a b c d lo hi w : Int} (w0 : 0 ≤ w) (w4 : w < 4) (ha : lo ≤ a ∧ a ≤ hi) (hb : lo ≤ b ∧ b ≤ hi) (hc : lo ≤ c ∧ c ≤ hi) (hd : lo ≤ d ∧ d ≤ hi) : ∃ x, atI [D.int a, D.int b, .int c, .int d] w = some (.int x) ∧ lo ≤ x ∧ x ≤ hi := by
  rcases (show w = 0 ∨ w = 1 ∨ w = 2 ∨ w = 3 by omega) with rfl | rfl | rfl | rfl
  · exact ⟨a, rfl, ha⟩
  · exact ⟨b, rfl, hb⟩
  · exact ⟨c, rfl, hc⟩
  · exact ⟨d, rfl, hd⟩
theorem at2K {a b lo hi w : Int} (w0 : 0 ≤ w) (w2 : w < 2) (ha : lo ≤ a ∧ a ≤ hi) (hb : lo ≤ b ∧ b ≤ hi) : ∃ x, atI [D.int a, D.int b] w = some (.int x) ∧ lo ≤ x ∧ x ≤ hi := by
  rcases (show w = 0 ∨ w = 1 by omega) with rfl | rfl
  · exact ⟨a, rfl, ha⟩
  · exact ⟨b, rfl, hb⟩
structure Sk1 (s : Sh) : Prop where
  b0 : 1 ≤ s.b
  b6 : s.b ≤ 6
  p0 : 1 ≤ s.p
  p6 : s.p ≤ 6
  f0 : 0 ≤ s.fi
  f40 : s.fi ≤ 40
  w0 : 0 ≤ s.wd
  w20 : s.wd ≤ 20
theorem x_catT {S : Sg} {xs ys : List D} {Q : D → Sg → Prop} (h1 : xs ≠ []) (h2 : ys ≠ []) (l : xs.length + ys.length < 1000000) (q : Q (.tup (xs ++ ys)) S) : W (catTO (.tup xs) (.tup ys) S) Q := ⟨_, _, v_catT h1 h2 l, q⟩
theorem shares_ok (c : Cs) {S : Sg} {t : Nat} {b n : Int} (h : Tp S t b n) (hn : n ≤ 700000) (hc : Cl S) : ∃ (sh : List Sh) (Z : Sg), F_Lshares c [.loc t] S = some (.lst (sh.map shT), Z) ∧ (1 ≤ sh.length ∧ sh.length ≤ 6 ∧ ∀ s ∈ sh, Sk1 s) ∧ Sa S t b (n + 100) Z := by
  have main : W (F_Lshares c [.loc t] S) fun d Z => ∃ sh : List Sh, d = .lst (sh.map shT) ∧ (1 ≤ sh.length ∧ sh.length ≤ 6 ∧ ∀ s ∈ sh, Sk1 s) ∧ Sa S t b (n + 100) Z := by
    have hs := h.sa
    have hl := hs.len
    unfold F_Lshares B_Lshares
    refine w_body ?_
    walk_at "w"
    refine w_draw c hs (by omega) (by decide) (by decide) fun way A w0 w1 hs hl => ?_
    obtain ⟨x, ex, x0, x1⟩ := at4K (a := 2) (b := 6) (c := 6) (d := 6) (lo := 1) (hi := 6) w0 w1 (by decide) (by decide) (by decide) (by decide)
    walk_at "w"
    obtain ⟨mm, Z, er, q0, q1, s⟩ := draw_s c (S := A ++ [.lst []]) (hs.tp.app) (by omega) (many := x) (by omega) (by omega)
    obtain ⟨A', rfl, s'⟩ := s.popL hs.tp.lt
    have hs := hs.trans s'
    have hl := hs.len
    obtain ⟨many, em, n0, n1⟩ : ∃ many : Nat, 1 + mm = (many : Int) ∧ 1 ≤ many ∧ many ≤ 6 := ⟨(1 + mm).toNat, by omega, by omega, by omega⟩
    refine w_forN many (fun i δ Z => ∃ (A : Sg) (sh : List Sh) (x3 x4 x5 : Option D), δ = [some (.loc t), some (.int way), some (.loc (S.length + 0)), x3, x4, x5] ∧ Z = A ++ [.lst (sh.map shT)] ∧ Sa S t b (n + 2 + 6 * (i : Int)) A ∧ sh.length = i ∧ ∀ s ∈ sh, Sk1 s) (by omega) ?_ ?_ ?_
    · walk_at "w"
      refine w_ex er ?_
      walk_at "w"
      rw [em]
      exact ⟨rfl, A', [], _, _, _, rfl, rfl, hs.mono (by omega), rfl, fun s hs => by cases hs⟩
    · rintro i δ Z hi ⟨A, sh, x3, x4, x5, rfl, rfl, hs, hwl, hw⟩
      have hl := hs.len
      obtain ⟨y, ey, y0, y1⟩ := at4K (a := 2) (b := 1) (c := 2) (d := 6) (lo := 1) (hi := 6) w0 w1 (by decide) (by decide) (by decide) (by decide)
      walk_at "w"
      refine w_draw c hs (by omega) (by decide) (by decide) fun d1 A a1 b1 hs hl => ?_
      walk_at "w"
      refine w_draw c hs (by omega) (by omega) (by omega) fun d2 A a2 b2 hs hl => ?_
      walk_at "w"
      refine w_draw c hs (by omega) (by decide) (by decide) fun d3 A a3 b3 hs hl => ?_
      obtain ⟨z, ez, z0, z1⟩ := at2K (a := 1) (b := 41) (lo := 1) (hi := 41) a3 b3 (by decide) (by decide)
      walk_at "w"
      refine w_draw c hs (by omega) (by omega) (by omega) fun d4 A a4 b4 hs hl => ?_
      walk_at "w"
      obtain ⟨u, eu, u0, u1⟩ := at2K (w := if decide (0 < way) = true then 1 else 0) (a := 21) (b := 5) (lo := 1) (hi := 21) (by split <;> decide) (by split <;> decide) (by decide) (by decide)
      walk_at "w"
      refine w_draw c hs (by omega) (by decide) (by decide) fun d5 A a5 b5 hs hl => ?_
      obtain ⟨v, ev, v0, v1⟩ := at2K (w := d5) (a := 3) (b := u) (lo := 1) (hi := 21) a5 b5 (by decide) (by omega)
      walk_at "w"
      refine w_draw c hs (by omega) (by omega) (by omega) fun d6 A a6 b6 hs hl => ?_
      walk_at "w"
      refine x_catT (List.cons_ne_nil _ _) (List.cons_ne_nil _ _) (by show 2 + 2 < 1000000; decide) ?_
      walk_at "w"
      refine ⟨A, sh ++ [⟨1 + d1, 1 + d2, d4, d6⟩], _, _, _, rfl, ?_, hs.mono (by omega), by rw [List.length_append, hwl]; rfl, fun s hm => ?_⟩
      · rw [List.map_append]
        rfl
      · rcases List.mem_append.mp hm with hm | hm
        · exact hw s hm
        · rw [List.mem_singleton.mp hm]
          exact ⟨by show 1 ≤ 1 + d1; omega, by show 1 + d1 ≤ 6; omega, by show 1 ≤ 1 + d2; omega, by show 1 + d2 ≤ 6; omega, a4, by show d4 ≤ 40; omega, a6, by show d6 ≤ 20; omega⟩
    · rintro δ Z ⟨A, sh, x3, x4, x5, rfl, rfl, hs, hwl, hw⟩
      have hl := hs.len
      walk_at "w"
      refine wl_fin hl (x := .lst (sh.map shT)) (List.cons_ne_nil _ _) ?_ (by rw [← hl]; exact hs.cl hc) ⟨sh, rfl, ⟨by omega, by omega, hw⟩, hs.mono (by omega)⟩
      exact z_loc (by omega) (z_pl (by rw [al_get hl]; rfl) (frzL_old _ (oldL_map fun _ _ => rfl)))
  obtain ⟨d, Z, e, sh, rfl, h1, h2⟩ := main
  exact ⟨sh, Z, e, h1, h2⟩
/-! ### turns: beat by beat -/
def rowP (p : Int × Nat) : List Int := [p.1, (p.2 : Int)]
def leP (p q : Int × Nat) : Bool := rowLe (rowP p) (rowP q)
theorem rowLe_pair (a b c d : Int) : rowLe [a, b] [c, d] = if a = c then (if b = d then true else decide (b < d)) else decide (a < c) := rfl
theorem leP_eq (p q : Int × Nat) : leP p q = decide (p.1 < q.1 ∨ (p.1 = q.1 ∧ p.2 ≤ q.2)) := by
  unfold leP rowP
  rw [rowLe_pair]
  split
  · rename_i h
    split
    · rename_i h2
      have : p.2 = q.2 := by omega
      symm
      rw [decide_eq_true_iff]
      exact .inr ⟨h, by omega⟩
    · rename_i h2
      rw [Bool.eq_iff_iff, decide_eq_true_iff, decide_eq_true_iff]
      omega
  · rename_i h
    rw [Bool.eq_iff_iff, decide_eq_true_iff, decide_eq_true_iff]
    omega
theorem leP_tot (p q : Int × Nat) : (leP p q || leP q p) = true := by
  rw [leP_eq, leP_eq, Bool.or_eq_true, decide_eq_true_iff, decide_eq_true_iff]
  omega
theorem leP_tr (p q r : Int × Nat) : leP p q = true → leP q r = true → leP p r = true := by
  rw [leP_eq, leP_eq, leP_eq, decide_eq_true_iff, decide_eq_true_iff, decide_eq_true_iff]
  omega
theorem leP_anti {p q : Int × Nat} (h : leP p q = true) (k : leP q p = true) : p = q := by
  rw [leP_eq, decide_eq_true_iff] at h k
  have h1 : p.1 = q.1 := by omega
  have h2 : p.2 = q.2 := by omega
  exact Prod.ext h1 h2
/-- two sorted lists of the same things -/
theorem sorted_eq : ∀ {l r : List (Int × Nat)}, l.Perm r → l.Pairwise (fun p q => leP p q = true) → r.Pairwise (fun p q => leP p q = true) → l = r
  | [], r, h, _, _ => (List.Perm.nil_eq h)
  | a :: l, [], h, _, _ => absurd h.length_eq (by simp)
  | a :: l, b :: r, h, hl, hr => by
    have ha := List.pairwise_cons.mp hl
    have hb := List.pairwise_cons.mp hr
    have e : a = b := by
      have h1 : a ∈ b :: r := h.mem_iff.mp (by simp)
      have h2 : b ∈ a :: l := h.mem_iff.mpr (by simp)
      rcases List.mem_cons.mp h1 with h1 | h1
      · exact h1
      · rcases List.mem_cons.mp h2 with h2 | h2
        · exact h2.symm
        · exact leP_anti (ha.1 b h2) (hb.1 a h1)
    subst e
    rw [sorted_eq ((List.perm_cons a).mp h) ha.2 hb.2]
def srtP (l : List (Int × Nat)) : List (Int × Nat) := l.mergeSort leP
theorem srtP_perm (l : List (Int × Nat)) : (srtP l).Perm l := List.mergeSort_perm l leP
theorem srtP_sorted (l : List (Int × Nat)) : (srtP l).Pairwise (fun p q => leP p q = true) := List.pairwise_mergeSort leP_tr leP_tot l
theorem srtP_eq {l r : List (Int × Nat)} (h : l.Perm r) : srtP l = srtP r := sorted_eq ((srtP_perm l).trans (h.trans (srtP_perm r).symm)) (srtP_sorted l) (srtP_sorted r)
theorem perm_of_mem {α : Type} [DecidableEq α] {l r : List α} (hl : l.Nodup) (hr : r.Nodup) (h : ∀ a, a ∈ l ↔ a ∈ r) : l.Perm r := by
  rw [List.perm_iff_count]
  intro a
  rw [hl.count, hr.count]
  by_cases q : a ∈ l
  · rw [if_pos q, if_pos ((h a).mp q)]
  · rw [if_neg q, if_neg fun z => q ((h a).mpr z)]
section
variable (ws : List (Int × Int)) (m : Nat)
def hotAt (told : List (Option Int)) (b : Int) : List (Int × Nat) :=
  (ws.zipIdx.filter fun p => (decide (p.1.1 ≤ b) && decide (b ≤ p.1.2)) && decide (told[p.2]? = some none)).map fun p => (p.1.2, p.2)
def setAll (b : Int) (rows : List (Int × Nat)) (told : List (Option Int)) : List (Option Int) := rows.foldl (fun t q => t.set q.2 (some b)) told
def stepT (b : Int) (told : List (Option Int)) : List (Option Int) := setAll b ((srtP (hotAt ws told b)).take m) told
def tellT : Nat → List (Option Int)
  | 0 => List.replicate ws.length none
  | b + 1 => stepT ws m (b : Int) (tellT b)
end
theorem setAll_len (b : Int) : ∀ (rows : List (Int × Nat)) (told : List (Option Int)), (setAll b rows told).length = told.length
  | [], _ => rfl
  | q :: rows, told => by
    show (setAll b rows (told.set q.2 (some b))).length = _
    rw [setAll_len b rows, List.length_set]
theorem tellT_len (ws : List (Int × Int)) (m : Nat) : ∀ b, (tellT ws m b).length = ws.length
  | 0 => List.length_replicate ..
  | b + 1 => by
    show (setAll _ _ _).length = _
    rw [setAll_len, tellT_len ws m b]
theorem setAll_none (b : Int) : ∀ (rows : List (Int × Nat)) (told : List (Option Int)) (k : Nat), (setAll b rows told)[k]? = some none ↔ told[k]? = some none ∧ ∀ q ∈ rows, q.2 ≠ k
  | [], told, k => by simp [setAll]
  | q :: rows, told, k => by
    show (setAll b rows (told.set q.2 (some b)))[k]? = some none ↔ _
    rw [setAll_none b rows]
    constructor
    · rintro ⟨h1, h2⟩
      have hne : q.2 ≠ k := fun e => by
        subst e
        by_cases hk : q.2 < told.length
        · rw [List.getElem?_set_self hk] at h1; cases h1
        · rw [List.getElem?_eq_none (by rw [List.length_set]; omega)] at h1; cases h1
      rw [List.getElem?_set_ne hne] at h1
      refine ⟨h1, fun x hx => ?_⟩
      rcases List.mem_cons.mp hx with rfl | hx
      · exact hne
      · exact h2 x hx
    · rintro ⟨h1, h2⟩
      rw [List.getElem?_set_ne (h2 q (by simp))]
      exact ⟨h1, fun x hx => h2 x (by simp [hx])⟩
theorem hot_mem {ws : List (Int × Int)} {told : List (Option Int)} {b : Int} {p : Int × Nat} : p ∈ hotAt ws told b ↔ ∃ f, ws[p.2]? = some (f, p.1) ∧ f ≤ b ∧ b ≤ p.1 ∧ told[p.2]? = some none := by
  unfold hotAt
  rw [List.mem_map]
  constructor
  · rintro ⟨⟨⟨f, l⟩, k⟩, hq, rfl⟩
    rw [List.mem_filter] at hq
    obtain ⟨h1, h2⟩ := hq
    have h1' := List.mem_zipIdx_iff_getElem?.mp h1
    rw [Bool.and_eq_true, Bool.and_eq_true, decide_eq_true_iff, decide_eq_true_iff, decide_eq_true_iff] at h2
    exact ⟨f, h1', h2.1.1, h2.1.2, h2.2⟩
  · rintro ⟨f, h1, h2, h3, h4⟩
    refine ⟨((f, p.1), p.2), ?_, rfl⟩
    rw [List.mem_filter]
    refine ⟨List.mem_zipIdx_iff_getElem?.mpr h1, ?_⟩
    rw [Bool.and_eq_true, Bool.and_eq_true, decide_eq_true_iff, decide_eq_true_iff, decide_eq_true_iff]
    exact ⟨⟨h2, h3⟩, h4⟩
theorem zipIdx_nodup {α : Type} (l : List α) (k : Nat) : (l.zipIdx k).Nodup := by
  have h : ((l.zipIdx k).map (·.2)).Nodup := by
    rw [List.zipIdx_map_snd]
    exact List.nodup_range'
  exact List.Pairwise.of_map _ (fun a b q e => q (congrArg _ e)) h
theorem hot_nodup (ws : List (Int × Int)) (told : List (Option Int)) (b : Int) : (hotAt ws told b).Nodup := by
  have h : ((hotAt ws told b).map (·.2)).Nodup := by
    unfold hotAt
    rw [List.map_map]
    show ((ws.zipIdx.filter _).map (·.2)).Nodup
    refine List.Nodup.sublist (List.filter_sublist.map _) ?_
    rw [List.zipIdx_map_snd]
    exact List.nodup_range'
  exact List.Pairwise.of_map _ (fun a b q e => q (congrArg _ e)) h
theorem stepT_none {ws : List (Int × Int)} {m : Nat} {told : List (Option Int)} {b : Int} (h : hotAt ws told b = []) : stepT ws m b told = told := by
  unfold stepT
  rw [h]
  have : srtP [] = [] := List.Perm.eq_nil (srtP_perm [])
  rw [this, List.take_nil]
  rfl
/-- no piece is hot from a beat on: nothing changes -/
theorem tellT_still {ws : List (Int × Int)} {m : Nat} {b : Nat} (told : List (Option Int)) (he : tellT ws m b = told) : ∀ k, (∀ x : Nat, b ≤ x → x < b + k → hotAt ws told (x : Int) = []) → tellT ws m (b + k) = told
  | 0, _ => he
  | k + 1, h => by
    have ih := tellT_still told he k fun x h1 h2 => h x h1 (by omega)
    show stepT ws m ((b + k : Nat) : Int) (tellT ws m (b + k)) = told
    rw [ih]
    exact stepT_none (h (b + k) (by omega) (by omega))
/-! ### turns: as the program goes -/
theorem rowLe_tot : ∀ x y : List Int, (rowLe x y || rowLe y x) = true
  | [], _ => rfl
  | _ :: _, [] => by simp [rowLe]
  | x :: xs, y :: ys => by
    unfold rowLe
    by_cases h : x = y
    · subst h
      rw [if_pos rfl, if_pos rfl]
      exact rowLe_tot xs ys
    · rw [if_neg h, if_neg (Ne.symm h), Bool.or_eq_true, decide_eq_true_iff, decide_eq_true_iff]
      omega
theorem rowLe_tr : ∀ x y z : List Int, rowLe x y = true → rowLe y z = true → rowLe x z = true
  | [], _, _, _, _ => rfl
  | _ :: _, [], _, h, _ => by simp [rowLe] at h
  | _ :: _, _ :: _, [], _, h => by simp [rowLe] at h
  | x :: xs, y :: ys, z :: zs, h, k => by
    unfold rowLe at h k ⊢
    split at h <;> split at k <;> split
    · exact rowLe_tr xs ys zs h k
    · omega
    · rw [decide_eq_true_iff] at k; omega
    · rw [decide_eq_true_iff] at k ⊢; omega
    · rw [decide_eq_true_iff] at h; omega
    · rw [decide_eq_true_iff] at h ⊢; omega
    · rw [decide_eq_true_iff] at h k; omega
    · rw [decide_eq_true_iff] at h k ⊢; omega
abbrev Tri := Int × Int × Nat
def rowQ (q : Tri) : List Int := [q.1, q.2.1, (q.2.2 : Int)]
def leQ (p q : Tri) : Bool := rowLe (rowQ p) (rowQ q)
def tri (ws : List (Int × Int)) : List Tri := ws.zipIdx.map fun p => (p.1.1, p.1.2, p.2)
def comQ (ws : List (Int × Int)) : List Tri := (tri ws).mergeSort leQ
theorem leQ_first {p q : Tri} (h : leQ p q = true) : p.1 ≤ q.1 := by
  unfold leQ rowQ rowLe at h
  split at h
  · omega
  · rw [decide_eq_true_iff] at h; omega
theorem comQ_perm (ws : List (Int × Int)) : (comQ ws).Perm (tri ws) := List.mergeSort_perm _ _
theorem comQ_sorted (ws : List (Int × Int)) : (comQ ws).Pairwise (fun p q => p.1 ≤ q.1) :=
  (List.pairwise_mergeSort (le := leQ) (fun a b c => rowLe_tr (rowQ a) (rowQ b) (rowQ c)) (fun a b => rowLe_tot (rowQ a) (rowQ b)) (tri ws)).imp leQ_first
theorem comQ_len (ws : List (Int × Int)) : (comQ ws).length = ws.length := by
  rw [(comQ_perm ws).length_eq]
  unfold tri
  rw [List.length_map, List.length_zipIdx]
theorem tri_mem {ws : List (Int × Int)} {q : Tri} : q ∈ tri ws ↔ ws[q.2.2]? = some (q.1, q.2.1) := by
  unfold tri
  rw [List.mem_map]
  constructor
  · rintro ⟨⟨⟨f, l⟩, k⟩, h, rfl⟩
    exact List.mem_zipIdx_iff_getElem?.mp h
  · intro h
    exact ⟨((q.1, q.2.1), q.2.2), List.mem_zipIdx_iff_getElem?.mpr h, rfl⟩
theorem com_mem {ws : List (Int × Int)} {q : Tri} : q ∈ comQ ws ↔ ws[q.2.2]? = some (q.1, q.2.1) := (comQ_perm ws).mem_iff.trans tri_mem
theorem tri_nodup (ws : List (Int × Int)) : (comQ ws).Nodup := by
  refine (comQ_perm ws).nodup_iff.mpr ?_
  have h : ((tri ws).map (·.2.2)).Nodup := by
    unfold tri
    rw [List.map_map]
    show ((ws.zipIdx).map (·.2)).Nodup
    rw [List.zipIdx_map_snd]
    exact List.nodup_range'
  exact List.Pairwise.of_map _ (fun a b q e => q (congrArg (fun q : Tri => q.2.2) e)) h
theorem setAll_val (b : Int) : ∀ (rows : List (Int × Nat)) (told : List (Option Int)) (k : Nat) (x : Int), (setAll b rows told)[k]? = some (some x) → told[k]? = some (some x) ∨ (x = b ∧ ∃ q ∈ rows, q.2 = k)
  | [], _, _, _, h => .inl h
  | q :: rows, told, k, x, h => by
    rcases setAll_val b rows (told.set q.2 (some b)) k x h with h | ⟨h1, r, hr, h2⟩
    · by_cases e : q.2 = k
      · subst e
        by_cases hk : q.2 < told.length
        · rw [List.getElem?_set_self hk] at h
          have := Option.some.inj (Option.some.inj h)
          exact .inr ⟨this.symm, q, by simp, rfl⟩
        · rw [List.getElem?_eq_none (by rw [List.length_set]; omega)] at h; cases h
      · rw [List.getElem?_set_ne e] at h
        exact .inl h
    · exact .inr ⟨h1, r, by simp [hr], h2⟩
theorem tellT_val (ws : List (Int × Int)) (m : Nat) : ∀ (b k : Nat) (x : Int), (tellT ws m b)[k]? = some (some x) → ∃ f l, ws[k]? = some (f, l) ∧ f ≤ x ∧ x ≤ l ∧ x < (b : Int)
  | 0, k, x, h => by
    unfold tellT at h
    rw [List.getElem?_replicate] at h
    split at h <;> cases h
  | b + 1, k, x, h => by
    rcases setAll_val _ _ _ _ _ h with h | ⟨rfl, q, hq, rfl⟩
    · obtain ⟨f, l, h1, h2, h3, h4⟩ := tellT_val ws m b k x h
      exact ⟨f, l, h1, h2, h3, by omega⟩
    · have hq' := (srtP_perm _).mem_iff.mp (List.mem_of_mem_take hq)
      obtain ⟨f, h1, h2, h3, h4⟩ := hot_mem.mp hq'
      exact ⟨f, q.1, h1, h2, h3, by omega⟩
theorem told_none {ws : List (Int × Int)} {m b k : Nat} {f l : Int} (h : ws[k]? = some (f, l)) (hf : (b : Int) ≤ f) : (tellT ws m b)[k]? = some none := by
  have hk : k < (tellT ws m b).length := by rw [tellT_len]; exact (List.getElem?_eq_some_iff.mp h).1
  cases e : (tellT ws m b)[k] with
  | none => rw [List.getElem?_eq_getElem hk, e]
  | some x =>
    obtain ⟨f', l', h1, h2, _, h4⟩ := tellT_val ws m b k x (by rw [List.getElem?_eq_getElem hk, e])
    rw [h] at h1
    cases h1
    omega
/-- at the head of the great loop -/
structure Head (ws : List (Int × Int)) (m beat : Nat) (told : List (Option Int)) (hot : List (Int × Nat)) (c : Nat) : Prop where
  t : told = tellT ws m beat
  nd : hot.Nodup
  hm : ∀ p, p ∈ hot ↔ ∃ f, ws[p.2]? = some (f, p.1) ∧ f < (beat : Int) ∧ (beat : Int) ≤ p.1 + 1 ∧ told[p.2]? = some none
  c0 : c ≤ (comQ ws).length
  c1 : ∀ q ∈ (comQ ws).take c, q.1 < (beat : Int)
  c2 : ∀ q ∈ (comQ ws).drop c, (beat : Int) ≤ q.1
section
variable {ws : List (Int × Int)} {m beat : Nat} {told : List (Option Int)} {hot : List (Int × Nat)} {c : Nat}
theorem Head.zero (h : ∀ w ∈ ws, 0 ≤ w.1) : Head ws m 0 (List.replicate ws.length none) [] 0 := by
  refine ⟨rfl, List.nodup_nil, fun p => ⟨fun h => (by cases h), ?_⟩, Nat.zero_le _, fun q hq => (by rw [List.take_zero] at hq; cases hq), fun q hq => ?_⟩
  · rintro ⟨f, h1, h2, _⟩
    have := h _ (List.mem_of_getElem? h1)
    exact absurd h2 (by simpa using this)
  · rw [List.drop_zero] at hq
    exact h (q.1, q.2.1) (List.mem_of_getElem? (com_mem.mp hq))
theorem in_com {q : Tri} (h : ws[q.2.2]? = some (q.1, q.2.1)) (c : Nat) : q ∈ (comQ ws).take c ∨ q ∈ (comQ ws).drop c := by
  have := com_mem.mpr h
  rw [← List.take_append_drop c (comQ ws)] at this
  exact List.mem_append.mp this
/-- nothing happens up to the next first -/
theorem Head.jump (h : Head ws m beat told hot c) (hh : hot = []) {q : Tri} (hq : (comQ ws)[c]? = some q) {b1 : Nat} (hb : q.1 = (b1 : Int)) : beat ≤ b1 ∧ told = tellT ws m b1 := by
  have hd : (comQ ws).drop c = q :: (comQ ws).drop (c + 1) := by
    rw [List.drop_eq_getElem_cons (List.getElem?_eq_some_iff.mp hq).1, (List.getElem?_eq_some_iff.mp hq).2]
  have hle : beat ≤ b1 := by
    have := h.c2 q (by rw [hd]; simp)
    omega
  refine ⟨hle, ?_⟩
  have := tellT_still (ws := ws) (m := m) (b := beat) told h.t.symm (b1 - beat) fun x h1 h2 => ?_
  · rw [show beat + (b1 - beat) = b1 by omega] at this
    exact this.symm
  · cases he : hotAt ws told (x : Int) with
    | nil => rfl
    | cons p r =>
      have hp : p ∈ hotAt ws told (x : Int) := by rw [he]; simp
      obtain ⟨f, e1, e2, e3, e4⟩ := hot_mem.mp hp
      rcases in_com (q := (f, p.1, p.2)) e1 c with hc | hc
      · have := h.c1 _ hc
        have hin : p ∈ hot := (h.hm p).mpr ⟨f, e1, this, by omega, e4⟩
        rw [hh] at hin; cases hin
      · rw [hd] at hc
        have hs := comQ_sorted ws
        rw [← List.take_append_drop c (comQ ws), List.pairwise_append] at hs
        have hs2 := hs.2.1
        rw [hd, List.pairwise_cons] at hs2
        rcases List.mem_cons.mp hc with e | hc
        · have : f = q.1 := by rw [← e]
          omega
        · have := hs2.1 _ hc
          have this : q.1 ≤ f := this
          omega
/-- a turn of the great loop: b1 its beat, c' how many have come -/
theorem Head.turn (h : Head ws m beat told hot c) {b1 c' : Nat} (hle : beat ≤ b1) (ht : told = tellT ws m b1) (hj : hot ≠ [] → b1 = beat) (hc : c ≤ c') (hc0 : c' ≤ (comQ ws).length) (hc1 : ∀ q ∈ (comQ ws).take c', q.1 ≤ (b1 : Int)) (hc2 : ∀ q ∈ (comQ ws).drop c', (b1 : Int) < q.1) :
    srtP ((hot ++ (((comQ ws).drop c).take (c' - c)).map fun q => (q.2.1, q.2.2)).filter fun p => decide ((b1 : Int) ≤ p.1)) = srtP (hotAt ws told (b1 : Int)) ∧
    Head ws m (b1 + 1) (setAll (b1 : Int) ((srtP (hotAt ws told (b1 : Int))).take m) told) ((srtP (hotAt ws told (b1 : Int))).drop m) c' := by
  have hsplit : (comQ ws).take c' = (comQ ws).take c ++ ((comQ ws).drop c).take (c' - c) := by
    rw [show c' = c + (c' - c) by omega, List.take_add, show c + (c' - c) - c = c' - c by omega]
  have hnewC : ∀ q ∈ ((comQ ws).drop c).take (c' - c), q ∈ (comQ ws).drop c := fun q hq => List.mem_of_mem_take hq
  have new_nd : ((((comQ ws).drop c).take (c' - c)).map fun q : Tri => (q.2.1, q.2.2)).Nodup := by
    have hn : (((comQ ws).drop c).take (c' - c)).Nodup := ((tri_nodup ws).sublist (List.drop_sublist _ _)).sublist (List.take_sublist _ _)
    rw [List.Nodup, List.pairwise_map]
    refine (List.Pairwise.and_mem.mp hn).imp fun {p q} hpq e => ?_
    obtain ⟨hp, hq, hne⟩ := hpq
    have e1 := com_mem.mp (List.mem_of_mem_drop (hnewC p hp))
    have e2 := com_mem.mp (List.mem_of_mem_drop (hnewC q hq))
    have e3 : p.2.2 = q.2.2 := congrArg (·.2) e
    rw [e3, e2] at e1
    have e4 := Option.some.inj e1
    apply hne
    have a1 : q.1 = p.1 := congrArg (·.1) e4
    have a2 : q.2.1 = p.2.1 := congrArg (·.2) e4
    exact Prod.ext a1.symm (Prod.ext a2.symm e3)
  have eq1 : srtP ((hot ++ (((comQ ws).drop c).take (c' - c)).map fun q => (q.2.1, q.2.2)).filter fun p => decide ((b1 : Int) ≤ p.1)) = srtP (hotAt ws told (b1 : Int)) := by
    refine srtP_eq (perm_of_mem ?_ (hot_nodup ..) fun p => ?_)
    · refine List.Nodup.sublist List.filter_sublist ?_
      rw [List.nodup_append]
      refine ⟨h.nd, new_nd, fun a ha b hb e => ?_⟩
      subst e
      obtain ⟨f, e1, e2, _⟩ := (h.hm a).mp ha
      obtain ⟨q, hq, rfl⟩ := List.mem_map.mp hb
      have e3 := com_mem.mp (List.mem_of_mem_drop (hnewC q hq))
      have e4 := h.c2 q (hnewC q hq)
      dsimp only at e1
      rw [e3] at e1
      have : q.1 = f := congrArg (·.1) (Option.some.inj e1)
      omega
    · rw [List.mem_filter, List.mem_append, decide_eq_true_iff, hot_mem]
      constructor
      · rintro ⟨hp | hp, hb⟩
        · obtain ⟨f, e1, e2, e3, e4⟩ := (h.hm p).mp hp
          exact ⟨f, e1, by omega, hb, e4⟩
        · obtain ⟨q, hq, rfl⟩ := List.mem_map.mp hp
          have e3 := com_mem.mp (List.mem_of_mem_drop (hnewC q hq))
          have e4 := h.c2 q (hnewC q hq)
          refine ⟨q.1, e3, hc1 q (by rw [hsplit]; exact List.mem_append_right _ hq), hb, ?_⟩
          rw [h.t]
          exact told_none e3 e4
      · rintro ⟨f, e1, e2, e3, e4⟩
        refine ⟨?_, e3⟩
        rcases in_com (q := (f, p.1, p.2)) e1 c' with hq | hq
        · rw [hsplit] at hq
          rcases List.mem_append.mp hq with hq | hq
          · exact .inl ((h.hm p).mpr ⟨f, e1, h.c1 _ hq, by omega, e4⟩)
          · exact .inr (List.mem_map.mpr ⟨_, hq, rfl⟩)
        · have := hc2 _ hq
          have this : (b1 : Int) < f := this
          omega
  refine ⟨eq1, ?_, ?_, fun p => ?_, hc0, fun q hq => ?_, fun q hq => ?_⟩
  · show _ = stepT ws m (b1 : Int) (tellT ws m b1)
    rw [← ht]
    rfl
  · exact ((srtP_perm _).nodup_iff.mpr (hot_nodup ..)).sublist (List.drop_sublist _ _)
  · have hsn : (srtP (hotAt ws told (b1 : Int))).Nodup := (srtP_perm _).nodup_iff.mpr (hot_nodup ..)
    have hone : ∀ a b : Int × Nat, a ∈ hotAt ws told (b1 : Int) → b ∈ hotAt ws told (b1 : Int) → a.2 = b.2 → a = b := fun a b ha hb e => by
      obtain ⟨f, e1, _⟩ := hot_mem.mp ha
      obtain ⟨g, e2, _⟩ := hot_mem.mp hb
      rw [e, e2] at e1
      have : b.1 = a.1 := congrArg (·.2) (Option.some.inj e1)
      exact Prod.ext this.symm e
    constructor
    · intro hp
      have hp1 := (srtP_perm _).mem_iff.mp (List.mem_of_mem_drop hp)
      obtain ⟨f, e1, e2, e3, e4⟩ := hot_mem.mp hp1
      refine ⟨f, e1, by omega, by omega, (setAll_none _ _ _ _).mpr ⟨e4, fun q hq e => ?_⟩⟩
      have hq1 := (srtP_perm _).mem_iff.mp (List.mem_of_mem_take hq)
      have := hone q p hq1 hp1 e
      subst this
      rw [← List.take_append_drop m (srtP (hotAt ws told (b1 : Int))), List.nodup_append] at hsn
      exact hsn.2.2 q hq q hp rfl
    · rintro ⟨f, e1, e2, e3, e4⟩
      obtain ⟨e4, hno⟩ := (setAll_none _ _ _ _).mp e4
      have hp : p ∈ srtP (hotAt ws told (b1 : Int)) := (srtP_perm _).mem_iff.mpr (hot_mem.mpr ⟨f, e1, by omega, by omega, e4⟩)
      rw [← List.take_append_drop m (srtP (hotAt ws told (b1 : Int)))] at hp
      rcases List.mem_append.mp hp with hp | hp
      · exact absurd rfl (hno p hp)
      · exact hp
  · have := hc1 q hq
    omega
  · have := hc2 q hq
    omega
/-- the end -/
theorem Head.end (h : Head ws m beat told [] c) (hc : (comQ ws).length ≤ c) {N : Nat} (hN : ∀ w ∈ ws, w.2 < (N : Int)) : told = tellT ws m N := by
  have late : ∀ (x : Nat) (tl : List (Option Int)), N ≤ x → hotAt ws tl (x : Int) = [] := fun x tl hx => by
    cases he : hotAt ws tl (x : Int) with
    | nil => rfl
    | cons p r =>
      have hp : p ∈ hotAt ws tl (x : Int) := by rw [he]; simp
      obtain ⟨f, e1, e2, e3, e4⟩ := hot_mem.mp hp
      have := hN _ (List.mem_of_getElem? e1)
      have this : p.1 < (N : Int) := this
      omega
  by_cases hb : beat ≤ N
  · have := tellT_still (ws := ws) (m := m) (b := beat) told h.t.symm (N - beat) fun x h1 h2 => ?_
    · rw [show beat + (N - beat) = N by omega] at this
      exact this.symm
    · cases he : hotAt ws told (x : Int) with
      | nil => rfl
      | cons p r =>
        have hp : p ∈ hotAt ws told (x : Int) := by rw [he]; simp
        obtain ⟨f, e1, e2, e3, e4⟩ := hot_mem.mp hp
        have hin := com_mem.mpr (show ws[((f, p.1, p.2) : Tri).2.2]? = some (f, p.1) from e1)
        have hfb := h.c1 (f, p.1, p.2) (by rw [List.take_of_length_le hc]; exact hin)
        have := (h.hm p).mpr ⟨f, e1, hfb, by omega, e4⟩
        cases this
  · have := tellT_still (ws := ws) (m := m) (b := N) (tellT ws m N) rfl (beat - N) fun x h1 h2 => late x _ h1
    rw [show N + (beat - N) = beat by omega] at this
    rw [h.t, this]
end
/-! ### the same shares, put later by so much -/
structure Sim (sh sq : List Sh) (y : Nat) : Prop where
  len : sq.length = sh.length
  a : ∀ i n, i < sh.length → aK sq i n = aK sh i n + y
  l : ∀ i n, i < sh.length → lK sq i n = lK sh i n + y
theorem Sim.pk {sh sq : List Sh} {y : Nat} (s : Sim sh sq y) {t : Int} {num : Nat → Nat} {j : Nat} : Pk sq (t + y) num j ↔ Pk sh t num j := by
  constructor
  · intro p
    have hj : j < sh.length := by rw [← s.len]; exact p.lt
    have h1 := p.hot
    rw [s.a j _ hj] at h1
    refine ⟨hj, by omega, fun i hi hh => ?_⟩
    have h2 := p.least i (by rw [s.len]; exact hi) (by rw [s.a i _ hi]; omega)
    rw [s.l j _ hj, s.l i _ hi] at h2
    omega
  · intro p
    refine ⟨by rw [s.len]; exact p.lt, by rw [s.a j _ p.lt]; have := p.hot; omega, fun i hi hh => ?_⟩
    rw [s.len] at hi
    rw [s.a i _ hi] at hh
    have h2 := p.least i hi (by omega)
    rw [s.l j _ p.lt, s.l i _ hi]
    omega
theorem Sim.pkE {sh sq : List Sh} {y : Nat} (s : Sim sh sq y) {t : Int} {num : Nat → Nat} : pkN sq (t + y) num = pkN sh t num := by
  cases e : pkN sh t num with
  | some j => exact pkN_some (s.pk.mpr (pkN_of e))
  | none =>
    cases e2 : pkN sq (t + y) num with
    | none => rfl
    | some j =>
      rw [pkN_some (s.pk.mp (pkN_of e2))] at e
      cases e
theorem Sim.gnE {sh sq : List Sh} {y : Nat} (s : Sim sh sq y) {t : Int} : ∀ (k : Nat) (num : Nat → Nat), gn sq (t + y) k num = gn sh t k num
  | 0, _ => rfl
  | k + 1, num => by
    cases e : pkN sh t num with
    | none => rw [gn_none e, gn_none (by rw [s.pkE]; exact e)]
    | some j => rw [gn_some e, gn_some (by rw [s.pkE]; exact e), Sim.gnE s k]
theorem Sim.gwE {sh sq : List Sh} {y : Nat} (s : Sim sh sq y) {t : Int} : ∀ (k : Nat) (num : Nat → Nat) (w : Int), gw sq (t + y) k num w = gw sh t k num w
  | 0, _, _ => rfl
  | k + 1, num, w => by
    cases e : pkN sh t num with
    | none => rw [gw_none e, gw_none (by rw [s.pkE]; exact e)]
    | some j => rw [gw_some e, gw_some (by rw [s.pkE]; exact e), Sim.gwE s k, s.a j _ (pkN_of e).lt, show t + (y : Int) - (aK sh j (num j) + y) = t - aK sh j (num j) by omega]
theorem Sim.early {sh sq : List Sh} (hk : Sk sh) {y m : Nat} (s : Sim sh sq y) : ∀ t, t ≤ y → NT sq m t = (fun _ => 0) ∧ WT sq m t = 0
  | 0, _ => ⟨rfl, rfl⟩
  | t + 1, h => by
    obtain ⟨h1, h2⟩ := Sim.early hk s t (by omega)
    have hn : pkN sq (t : Int) (fun _ => 0) = none := by
      cases e : pkN sq (t : Int) (fun _ => 0) with
      | none => rfl
      | some j =>
        have p := pkN_of e
        have hj : j < sh.length := by rw [← s.len]; exact p.lt
        have h3 := p.hot
        rw [s.a j _ hj] at h3
        have := aK_fi hk j 0
        have := hk.f0 j
        omega
    constructor
    · show gn sq (t : Int) m (NT sq m t) = _
      rw [h1, gn_none hn]
    · show gw sq (t : Int) m (NT sq m t) (WT sq m t) = _
      rw [h1, h2, gw_none hn]
theorem Sim.late {sh sq : List Sh} (hk : Sk sh) {y m : Nat} (s : Sim sh sq y) : ∀ t, NT sq m (t + y) = NT sh m t ∧ WT sq m (t + y) = WT sh m t
  | 0 => by
    rw [Nat.zero_add]
    exact s.early hk y (Nat.le_refl _)
  | t + 1 => by
    obtain ⟨h1, h2⟩ := Sim.late hk s (m := m) t
    rw [show t + 1 + y = t + y + 1 by omega]
    constructor
    · show gn sq ((t + y : Nat) : Int) m (NT sq m (t + y)) = _
      rw [h1, Int.natCast_add, s.gnE]
      rfl
    · show gw sq ((t + y : Nat) : Int) m (NT sq m (t + y)) (WT sq m (t + y)) = _
      rw [h1, h2, Int.natCast_add, s.gwE]
      rfl
theorem lK_pos {sh : List Sh} (hk : Sk sh) (i n : Nat) : 0 ≤ lK sh i n := by
  have := aK_fi hk i n
  have := hk.f0 i
  have := hk.w0 i
  unfold lK
  omega
theorem Sim.burnt {sh sq : List Sh} (hk : Sk sh) {y m t : Nat} (s : Sim sh sq y) : Burnt sq m t ↔ ∃ u, t = u + y ∧ Burnt sh m u := by
  constructor
  · rintro ⟨i, hi, hb⟩
    rw [s.len] at hi
    rw [s.l i _ hi] at hb
    have := lK_pos hk i (NT sq m (t + 1) i)
    refine ⟨t - y, by omega, i, hi, ?_⟩
    have e := (s.late hk (m := m) (t - y + 1)).1
    rw [show t - y + 1 + y = t + 1 by omega] at e
    rw [e] at hb
    omega
  · rintro ⟨u, rfl, i, hi, hb⟩
    refine ⟨i, by rw [s.len]; exact hi, ?_⟩
    have e := (s.late hk (m := m) (u + 1)).1
    rw [show u + y + 1 = u + 1 + y by omega, e, s.l i _ hi]
    omega
/-- none ever burns: the longest wait is known by some beat -/
theorem wt_still {sh : List Sh} (hk : Sk sh) (d : Dv sh 60) {m b0 : Nat} (hb : Beg sh b0) (hb0 : b0 ≤ 40) (hm : m ≤ 5) (nb : ∀ T, NoB sh m T) {u v : Nat} (hu : 10000 ≤ u) (hv : 10000 ≤ v) : WT sh m u = WT sh m v := by
  obtain ⟨r, hr, rep⟩ := rep_ex hk d hb (m := m) (nb _)
  have h1 : r * 60 ≤ 120 * 60 := Nat.mul_le_mul_right _ (by omega)
  have e := fun w (hw : 10000 ≤ w) => rep.wait hk d (w - (b0 + r * 60 + 60))
  have e1 := e u hu
  have e2 := e v hv
  rw [show b0 + r * 60 + 60 + (u - (b0 + r * 60 + 60)) = u by omega] at e1
  rw [show b0 + r * 60 + 60 + (v - (b0 + r * 60 + 60)) = v by omega] at e2
  rw [e1, e2]
theorem Sim.res {sh sq : List Sh} (hk : Sk sh) (d : Dv sh 60) {m b0 : Nat} (hb : Beg sh b0) (hb0 : b0 ≤ 40) (hm : m ≤ 5) {y : Nat} (hy : y ≤ 40) (s : Sim sh sq y) {r : Nat × Nat ⊕ Int} (h : Res sh m r) : Res sq m r := by
  rcases h with ⟨T, j, nb, lj, rfl⟩ | ⟨nb, rfl⟩
  · have e := (s.late hk (m := m) (T + 1)).1
    refine .inl ⟨T + y, j, fun u hu b => ?_, ⟨by rw [s.len]; exact lj.lt, ?_, fun i hi => ?_⟩, ?_⟩
    · obtain ⟨v, rfl, b2⟩ := (s.burnt hk).mp b
      exact nb v (by omega) b2
    · rw [show T + y + 1 = T + 1 + y by omega, e, s.l j _ lj.lt]
      have := lj.at_
      omega
    · have := lj.lt
      rw [show T + y + 1 = T + 1 + y by omega, e, s.l i _ (by omega)]
      have := lj.no i hi
      omega
    · rw [show T + y + 1 = T + 1 + y by omega, e]
  · refine .inr ⟨fun T u hu b => ?_, ?_⟩
    · obtain ⟨v, rfl, b2⟩ := (s.burnt hk).mp b
      exact nb (v + 1) v (by omega) b2
    · have e := (s.late hk (m := m) (100000 - y)).2
      rw [show 100000 - y + y = 100000 by omega] at e
      rw [e, wt_still hk d hb hb0 hm nb (u := 100000) (v := 100000 - y) (by omega) (by omega)]
/-! ### a piece burns just where too many must be drawn within some beats -/
def cl (sh : List Sh) (L : Int) : Nat → Nat := fun i => arr sh i (L - (sh.getD i shz).wd)
theorem cl_lt {sh : List Sh} (hk : Sk sh) {L : Int} {i n : Nat} : n < cl sh L i ↔ lK sh i n ≤ L := by
  unfold cl lK
  rw [lt_arr hk]
  omega
theorem cl_closed {sh : List Sh} (hk : Sk sh) (L T : Int) : Closed sh (cl sh L) T := fun i j n k _ _ hn hk2 _ => by
  have h1 := (cl_lt hk).mp hn
  have h2 : ¬ lK sh j k ≤ L := fun z => by
    have := (cl_lt hk).mpr z
    omega
  omega
def Nl (sh : List Sh) (L : Int) : Nat := sm (cl sh L) sh.length
def Sb (sh : List Sh) (k : Nat) (L : Int) : Nat := Am sh (cl sh L) ((k : Int) - 1)
theorem arr_neg {sh : List Sh} (hk : Sk sh) (i : Nat) : arr sh i (((0 : Nat) : Int) - 1) = 0 := by
  refine Nat.le_zero.mp (Nat.le_of_not_lt fun hc => ?_)
  have h1 := (lt_arr hk).mp hc
  have h2 := aK_fi hk i 0
  have h3 := hk.f0 i
  omega
theorem sm_zero : ∀ {k : Nat} {g : Nat → Nat}, (∀ i, i < k → g i = 0) → sm g k = 0
  | 0, _, _ => rfl
  | k + 1, g, h => by
    show sm g k + g k = 0
    rw [sm_zero fun i hi => h i (by omega), h k (by omega)]
theorem Sb_zero {sh : List Sh} (hk : Sk sh) {L : Int} : Sb sh 0 L = 0 := sm_zero fun i _ => by
  have := arr_neg hk i
  omega
/-- how many of the pieces of that last are drawn -/
noncomputable def DrL (sh : List Sh) (m : Nat) (L : Int) (t : Nat) : Nat := DmK sh (cl sh L) (NT sh m t)
theorem Dl_zero {sh : List Sh} {m : Nat} {L : Int} : DrL sh m L 0 = 0 := sm_zero fun _ _ => Nat.zero_min _
theorem Dl_succ {sh : List Sh} (hk : Sk sh) {m : Nat} {L : Int} {t : Nat} : DrL sh m L (t + 1) = min (DrL sh m L t + m) (Sb sh (t + 1) L) := by
  have := Dm_succ hk (m := m) (t := t) (cl_closed hk L (t : Int)) (Int.le_refl _)
  unfold Sb
  rw [show ((t + 1 : Nat) : Int) - 1 = (t : Int) by omega]
  exact this
theorem not_burnt {sh : List Sh} (hk : Sk sh) {m T : Nat} : ¬ Burnt sh m T ↔ Nl sh (T : Int) ≤ DrL sh m (T : Int) (T + 1) := by
  constructor
  · intro h
    refine sm_le fun i hi => ?_
    have : cl sh (T : Int) i ≤ NT sh m (T + 1) i := by
      refine Nat.le_of_not_lt fun hc => h ⟨i, hi, (cl_lt hk).mp hc⟩
    omega
  · rintro h ⟨i, hi, hb⟩
    have h1 := (cl_lt hk).mpr hb
    have : DrL sh m (T : Int) (T + 1) < Nl sh (T : Int) := sm_lt hi (fun j _ => by omega) (by omega)
    omega
def Hl (sh : List Sh) (m T : Nat) : Prop := ∀ k, k ≤ T → Nl sh (T : Int) ≤ Sb sh k (T : Int) + m * (T + 1 - k)
theorem hall {sh : List Sh} (hk : Sk sh) {m T : Nat} : ¬ Burnt sh m T ↔ Hl sh m T := by
  rw [not_burnt hk]
  have room : ∀ k s, DrL sh m (T : Int) (k + s) ≤ DrL sh m (T : Int) k + m * s := fun k s => by
    induction s with
    | zero => exact Nat.le_refl _
    | succ s ih =>
      have := Dl_succ hk (m := m) (L := (T : Int)) (t := k + s)
      rw [Nat.mul_succ]
      show DrL sh m (T : Int) (k + s + 1) ≤ _
      omega
  have top : ∀ k, DrL sh m (T : Int) k ≤ Sb sh k (T : Int) := fun k => by
    cases k with
    | zero =>
      rw [Dl_zero]
      exact Nat.zero_le _
    | succ k =>
      have := Dl_succ hk (m := m) (L := (T : Int)) (t := k)
      omega
  constructor
  · intro h k hkT
    have h1 := room k (T + 1 - k)
    rw [show k + (T + 1 - k) = T + 1 by omega] at h1
    have h2 := top k
    omega
  · intro h
    have main : ∀ t, t ≤ T + 1 → Nl sh (T : Int) ≤ DrL sh m (T : Int) t + m * (T + 1 - t) := fun t => by
      induction t with
      | zero =>
        intro _
        have := h 0 (Nat.zero_le _)
        rw [Sb_zero hk] at this
        rw [Dl_zero]
        exact this
      | succ t ih =>
        intro ht
        have h1 := ih (by omega)
        have h2 := Dl_succ hk (m := m) (L := (T : Int)) (t := t)
        have h3 : m * (T + 1 - t) = m * (T + 1 - (t + 1)) + m := by
          rw [← Nat.mul_succ]
          congr 1
          omega
        have h4 : Nl sh (T : Int) ≤ Sb sh (t + 1) (T : Int) + m * (T + 1 - (t + 1)) := by
          rcases Nat.lt_or_ge t T with h5 | h5
          · exact h (t + 1) h5
          · refine Nat.le_trans ?_ (Nat.le_add_right _ _)
            refine sm_le fun i _ => ?_
            have w0 := hk.w0 i
            have := arr_mono hk (i := i) (show (T : Int) - (sh.getD i shz).wd ≤ ((t + 1 : Nat) : Int) - 1 by omega)
            unfold cl
            omega
        omega
    have := main (T + 1) (Nat.le_refl _)
    rw [Nat.sub_self, Nat.mul_zero] at this
    exact this
/-- how many of the pieces must be drawn from beat k to beat T -/
def Wn (sh : List Sh) (k T : Nat) : Nat := sm (fun i => cl sh (T : Int) i - arr sh i ((k : Int) - 1)) sh.length
theorem hall_win {sh : List Sh} {m T : Nat} : Hl sh m T ↔ ∀ k, k ≤ T → Wn sh k T ≤ m * (T + 1 - k) := by
  have e : ∀ k, Nl sh (T : Int) = Wn sh k T + Sb sh k (T : Int) := fun k => by
    unfold Nl Wn Sb Am
    rw [← sm_add]
    exact sm_congr fun i _ => by omega
  constructor
  · intro h k hk
    have h1 := h k hk
    rw [e k] at h1
    omega
  · intro h k hk
    have h1 := h k hk
    rw [e k]
    omega
/-! ### in another order, wider, fewer -/
def arrS (s : Sh) (t : Int) : Nat := (((t - s.fi + 1) * s.p + s.b - 1) / s.b).toNat
def wnS (k T : Nat) (s : Sh) : Nat := arrS s ((T : Int) - s.wd) - arrS s ((k : Int) - 1)
theorem sm_range (g : Nat → Nat) : ∀ k, sm g k = ((List.range k).map g).sum
  | 0 => rfl
  | k + 1 => by
    rw [List.range_succ, List.map_append, List.sum_append]
    show sm g k + g k = _
    rw [sm_range g k]
    simp
theorem Wn_sum {sh : List Sh} {k T : Nat} : Wn sh k T = (sh.map (wnS k T)).sum := by
  unfold Wn
  rw [sm_range]
  congr 1
  refine List.ext_getElem (by simp) fun i h1 h2 => ?_
  have hi : i < sh.length := by simpa using h2
  rw [List.getElem_map, List.getElem_map, List.getElem_range]
  unfold cl arr wnS arrS
  rw [List.getD_eq_getElem?_getD, List.getElem?_eq_getElem hi]
  rfl
theorem kept_le {sh sq : List Sh} (hk : Sk sh) (hq : Sk sq) {m m' : Nat} (hm : m ≤ m') (hw : ∀ k T, Wn sq k T ≤ Wn sh k T) {T : Nat} (h : ¬ Burnt sh m T) : ¬ Burnt sq m' T := by
  rw [hall hk, hall_win] at h
  rw [hall hq, hall_win]
  intro k hkT
  exact Nat.le_trans (hw k T) (Nat.le_trans (h k hkT) (Nat.mul_le_mul_right _ hm))
theorem perm_burnt {sh sq : List Sh} (hk : Sk sh) (hq : Sk sq) {m T : Nat} (hp : sq.Perm sh) : Burnt sq m T ↔ Burnt sh m T := by
  have e : ∀ k T, Wn sq k T = Wn sh k T := fun k T => by
    rw [Wn_sum, Wn_sum]
    exact (hp.map _).sum_nat
  constructor
  · intro h
    refine Classical.byContradiction fun hc => ?_
    exact kept_le hk hq (Nat.le_refl m) (fun k T => Nat.le_of_eq (e k T)) hc h
  · intro h
    refine Classical.byContradiction fun hc => ?_
    exact kept_le hq hk (Nat.le_refl m) (fun k T => Nat.le_of_eq (e k T).symm) hc h
theorem late_exact {sh : List Sh} (hk : Sk sh) {m T j : Nat} (nb : NoB sh m T) (l : LateAt sh m T j) : lK sh j (NT sh m (T + 1) j) = (T : Int) := by
  have h1 := l.at_
  have h0 := lK_pos hk j (NT sh m (T + 1) j)
  rcases Nat.eq_zero_or_pos T with h2 | h2
  · omega
  · refine Int.le_antisymm h1 (Int.not_lt.mp fun hc => ?_)
    refine nb (T - 1) (by omega) ⟨j, l.lt, ?_⟩
    rw [show T - 1 + 1 = T by omega]
    have h3 : NT sh m T j ≤ NT sh m (T + 1) j := NT_mono (s := 1)
    have := lK_mono hk (i := j) h3
    omega
/-- of another order the same comes: as many kept, a burnt piece of the same last -/
theorem perm_res {sh sq : List Sh} (hk : Sk sh) (hq : Sk sq) {m : Nat} (hp : sq.Perm sh) {r q : Nat × Nat ⊕ Int} (h : Res sh m r) (g : Res sq m q) :
    (∃ j n j' n', r = .inl (j, n) ∧ q = .inl (j', n') ∧ j < sh.length ∧ j' < sq.length ∧ lK sh j n = lK sq j' n') ∨ (∃ w w', r = .inr w ∧ q = .inr w') := by
  have bt : ∀ {s : List Sh} {T j}, LateAt s m T j → Burnt s m T := fun l => ⟨_, l.lt, l.at_⟩
  rcases h with ⟨T, j, n1, l1, rfl⟩ | ⟨n1, rfl⟩
  · rcases g with ⟨U, k, n2, l2, rfl⟩ | ⟨n2, rfl⟩
    · have e : T = U := by
        rcases Nat.lt_trichotomy T U with z | z | z
        · exact absurd ((perm_burnt hk hq hp).mpr (bt l1)) (n2 T z)
        · exact z
        · exact absurd ((perm_burnt hk hq hp).mp (bt l2)) (n1 U z)
      subst e
      exact .inl ⟨_, _, _, _, rfl, rfl, l1.lt, l2.lt, by rw [late_exact hk n1 l1, late_exact hq n2 l2]⟩
    · exact absurd ((perm_burnt hk hq hp).mpr (bt l1)) (n2 (T + 1) T (by omega))
  · rcases g with ⟨U, k, n2, l2, rfl⟩ | ⟨n2, rfl⟩
    · exact absurd ((perm_burnt hk hq hp).mp (bt l2)) (n1 (U + 1) U (by omega))
    · exact .inr ⟨_, _, rfl, rfl⟩
theorem arrS_mono {s : Sh} (hb : 0 < s.b) (hp : 0 < s.p) {t u : Int} (h : t ≤ u) : arrS s t ≤ arrS s u := by
  unfold arrS
  have h1 : (t - s.fi + 1) * s.p ≤ (u - s.fi + 1) * s.p := Int.mul_le_mul_of_nonneg_right (by omega) (by omega)
  have h2 := Int.ediv_le_ediv hb (show (t - s.fi + 1) * s.p + s.b - 1 ≤ (u - s.fi + 1) * s.p + s.b - 1 by omega)
  omega
theorem wider_le {xs ys : List Sh} {s : Sh} (hb : 0 < s.b) (hp : 0 < s.p) (hw : s.wd ≤ 20) (k T : Nat) : Wn (xs ++ ⟨s.b, s.p, s.fi, 20⟩ :: ys) k T ≤ Wn (xs ++ s :: ys) k T := by
  rw [Wn_sum, Wn_sum, List.map_append, List.map_append, List.sum_append, List.sum_append, List.map_cons, List.map_cons, List.sum_cons, List.sum_cons]
  have h : wnS k T ⟨s.b, s.p, s.fi, 20⟩ ≤ wnS k T s := by
    have := arrS_mono hb hp (show (T : Int) - 20 ≤ (T : Int) - s.wd by omega)
    have e1 : ∀ t, arrS ⟨s.b, s.p, s.fi, 20⟩ t = arrS s t := fun _ => rfl
    unfold wnS
    rw [e1, e1]
    show arrS s ((T : Int) - 20) - _ ≤ _
    omega
  omega
theorem fewer_le {xs ys : List Sh} {s : Sh} (k T : Nat) : Wn (xs ++ ys) k T ≤ Wn (xs ++ s :: ys) k T := by
  rw [Wn_sum, Wn_sum, List.map_append, List.map_append, List.sum_append, List.sum_append, List.map_cons, List.sum_cons]
  omega
/-! a mouth wider: each is drawn no later -/
theorem gn_le {sh : List Sh} (hk : Sk sh) {t : Int} : ∀ (k k' : Nat) (num num' : Nat → Nat), k ≤ k' → Asked sh t num → Asked sh t num' → (∀ i, num i ≤ num' i) → ∀ i, gn sh t k num i ≤ gn sh t k' num' i
  | 0, k', num, num', _, _, _, h, i => Nat.le_trans (h i) gn_mono
  | k + 1, k', num, num', hkk, a, a', h, i => by
    cases e : pkN sh t num with
    | none =>
      rw [gn_none e]
      exact Nat.le_trans (h i) gn_mono
    | some j =>
      rw [gn_some e]
      have p := pkN_of e
      cases e' : pkN sh t num' with
      | none =>
        rw [gn_none e']
        rcases Nat.lt_or_ge i sh.length with hi | hi
        · have h1 := (Asked.put hk a p).gn hk (k := k) i hi
          have h2 := pkN_none e' hi
          have h3 : ¬ num' i < arr sh i t := fun z => by
            have := (lt_arr hk).mp z
            omega
          omega
        · rw [upd_out hi]
          show (if i = j then num i + 1 else num i) ≤ _
          rw [if_neg (by have := p.lt; omega)]
          exact h i
      | some j' =>
        have p' := pkN_of e'
        obtain ⟨k2, rfl⟩ : ∃ k2, k' = k2 + 1 := ⟨k' - 1, by omega⟩
        rw [gn_some e']
        refine gn_le hk k k2 _ _ (by omega) (Asked.put hk a p) (Asked.put hk a' p') (fun l => ?_) i
        have hl := h l
        show (if l = j then num l + 1 else num l) ≤ (if l = j' then num' l + 1 else num' l)
        by_cases hlj : l = j
        · subst hlj
          rw [if_pos rfl]
          rcases Nat.lt_or_ge (num l) (num' l) with h1 | h1
          · split <;> omega
          · have h2 : num' l = num l := by omega
            have : l = j' := by
              have q : Pk sh t num' l := by
                refine ⟨p.lt, by rw [h2]; exact p.hot, fun i hi hh => ?_⟩
                have h3 := aK_mono hk (i := i) (h i)
                have h4 := p.least i hi (by omega)
                have h5 := lK_mono hk (i := i) (h i)
                rw [h2]
                omega
              exact q.uni p'
            rw [if_pos this]
            omega
        · rw [if_neg hlj]
          split <;> omega
theorem NT_le {sh : List Sh} (hk : Sk sh) {m m' : Nat} (hm : m ≤ m') : ∀ t i, NT sh m t i ≤ NT sh m' t i
  | 0, _ => Nat.le_refl _
  | t + 1, i => gn_le hk m m' _ _ hm ((NT_ask hk t).mono hk (by omega)) ((NT_ask hk t).mono hk (by omega)) (NT_le hk hm t) i
theorem gw_iff {sh : List Sh} {t w0 : Int} : ∀ (k : Nat) (num : Nat → Nat) (w : Int), gw sh t k num w ≤ w0 ↔ w ≤ w0 ∧ ∀ i n, num i ≤ n → n < gn sh t k num i → t - aK sh i n ≤ w0
  | 0, num, w => ⟨fun h => ⟨h, fun i n h1 h2 => absurd (Nat.lt_of_le_of_lt h1 h2) (Nat.lt_irrefl _)⟩, fun h => h.1⟩
  | k + 1, num, w => by
    cases e : pkN sh t num with
    | none =>
      rw [gw_none e, gn_none e]
      exact ⟨fun h => ⟨h, fun i n h1 h2 => absurd (Nat.lt_of_le_of_lt h1 h2) (Nat.lt_irrefl _)⟩, fun h => h.1⟩
    | some j =>
      rw [gw_some e, gn_some e, gw_iff k]
      have um : ∀ i, updN num j i ≤ gn sh t k (updN num j) i := fun i => gn_mono
      have uj : updN num j j = num j + 1 := if_pos rfl
      have uo : ∀ i, i ≠ j → updN num j i = num i := fun i h => if_neg h
      constructor
      · rintro ⟨h1, h2⟩
        refine ⟨by split at h1 <;> omega, fun i n h3 h4 => ?_⟩
        by_cases hij : i = j
        · subst hij
          rcases Nat.eq_or_lt_of_le h3 with h5 | h5
          · subst h5
            split at h1 <;> omega
          · exact h2 i n (by rw [uj]; exact h5) h4
        · exact h2 i n (by rw [uo i hij]; exact h3) h4
      · rintro ⟨h1, h2⟩
        have h3 := h2 j (num j) (Nat.le_refl _) (by have := um j; rw [uj] at this; omega)
        refine ⟨by split <;> omega, fun i n h4 h5 => h2 i n ?_ h5⟩
        by_cases hij : i = j
        · subst hij
          rw [uj] at h4
          omega
        · rw [uo i hij] at h4
          exact h4
theorem WT_iff {sh : List Sh} {m : Nat} {w0 : Int} (h0 : 0 ≤ w0) : ∀ t, WT sh m t ≤ w0 ↔ ∀ u, u < t → ∀ i n, NT sh m u i ≤ n → n < NT sh m (u + 1) i → (u : Int) - aK sh i n ≤ w0
  | 0 => ⟨fun _ u hu => absurd hu (by omega), fun _ => h0⟩
  | t + 1 => by
    show gw sh (t : Int) m (NT sh m t) (WT sh m t) ≤ w0 ↔ _
    rw [gw_iff, WT_iff h0 t]
    constructor
    · rintro ⟨h1, h2⟩ u hu
      rcases Nat.lt_or_ge u t with h3 | h3
      · exact h1 u h3
      · obtain rfl : u = t := by omega
        exact h2
    · intro h
      exact ⟨fun u hu => h u (by omega), h t (by omega)⟩
/-- a piece is drawn at some beat -/
theorem drawn_at {sh : List Sh} {m i n : Nat} : ∀ {u : Nat}, n < NT sh m u i → ∃ v, v < u ∧ NT sh m v i ≤ n ∧ n < NT sh m (v + 1) i
  | 0, h => absurd h (Nat.not_lt_zero _)
  | u + 1, h => by
    rcases Nat.lt_or_ge n (NT sh m u i) with h1 | h1
    · obtain ⟨v, h2, h3⟩ := drawn_at h1
      exact ⟨v, by omega, h3⟩
    · exact ⟨u, by omega, h1, h⟩
theorem NT_up {sh : List Sh} {m i t u : Nat} (h : t ≤ u) : NT sh m t i ≤ NT sh m u i := by
  have := NT_mono (sh := sh) (m := m) (t := t) (s := u - t) (i := i)
  rw [show t + (u - t) = u by omega] at this
  exact this
/-- none burns: what is drawn by another way no later waits no longer -/
theorem wait_le {sh : List Sh} (hk : Sk sh) {m m' : Nat} (hm : m ≤ m') {t U : Nat} (nb : ∀ T, NoB sh m T) (hU : t + 30 ≤ U) : WT sh m' t ≤ WT sh m U := by
  rw [WT_iff (WT_pos U)]
  intro u hu i n h1 h2
  have w20 := hk.w20 i
  have ha : aK sh i n ≤ (u : Int) := by
    rcases Nat.lt_or_ge i sh.length with hi | hi
    · have h3 := NT_ask hk (m := m') (u + 1) i hi
      have := (lt_arr hk).mp (show n < arr sh i (((u + 1 : Nat) : Int) - 1) by omega)
      omega
    · rw [NT_out hi] at h2
      exact absurd h2 (Nat.not_lt_zero _)
  have hi : i < sh.length := by
    refine Nat.lt_of_not_le fun hi => ?_
    rw [NT_out hi] at h2
    exact absurd h2 (Nat.not_lt_zero _)
  have hl : lK sh i n = aK sh i n + (sh.getD i shz).wd := rfl
  have h4 := drawn_by hk (nb U) hi (n := n) (by omega)
  obtain ⟨v, v1, v2, v3⟩ := drawn_at h4
  have h5 : u ≤ v := by
    refine Nat.le_of_not_lt fun hc => ?_
    have h6 := NT_up (sh := sh) (m := m) (i := i) (show v + 1 ≤ u by omega)
    have h7 := NT_le hk hm u i
    omega
  have := (WT_iff (WT_pos U) U).mp (Int.le_refl _) v v1 i n v2 v3
  omega
/-! ### turns of the pieces asked ahead of some beat -/
theorem nodup_len {α : Type} [DecidableEq α] : ∀ {l r : List α}, l.Nodup → (∀ x, x ∈ l → x ∈ r) → l.length ≤ r.length
  | [], _, _, _ => Nat.zero_le _
  | x :: l, r, h, hs => by
    obtain ⟨h1, h2⟩ := List.nodup_cons.mp h
    have hx := hs x (List.mem_cons_self ..)
    have := nodup_len (r := r.erase x) h2 fun y hy => (List.mem_erase_of_ne (fun e => h1 (by rw [← e]; exact hy))).mpr (hs y (List.mem_cons_of_mem _ hy))
    rw [List.length_erase_of_mem hx] at this
    have := List.length_pos_of_mem hx
    rw [List.length_cons]
    omega
def lexP (x y : Nat × Nat) : Prop := x.1 < y.1 ∨ (x.1 = y.1 ∧ x.2 < y.2)
/-- the pieces asked ahead of a beat, share by share -/
structure Rw (sh : List Sh) (B : Nat) (R : List (Nat × Nat)) : Prop where
  srt : R.Pairwise lexP
  mem : ∀ i n, (i, n) ∈ R ↔ i < sh.length ∧ aK sh i n < (B : Int)
def wsR (sh : List Sh) (R : List (Nat × Nat)) : List (Int × Int) := R.map fun x => (aK sh x.1 x.2, lK sh x.1 x.2)
theorem ws_at {sh : List Sh} {R : List (Nat × Nat)} {k : Nat} {f l : Int} : (wsR sh R)[k]? = some (f, l) ↔ ∃ x, R[k]? = some x ∧ aK sh x.1 x.2 = f ∧ lK sh x.1 x.2 = l := by
  unfold wsR
  rw [List.getElem?_map, Option.map_eq_some_iff]
  constructor
  · rintro ⟨x, h1, h2⟩
    injection h2 with h3 h4
    exact ⟨x, h1, h3, h4⟩
  · rintro ⟨x, h1, h2, h3⟩
    exact ⟨x, h1, Prod.ext h2 h3⟩
theorem Rw.lt {sh : List Sh} {B : Nat} {R : List (Nat × Nat)} (h : Rw sh B R) {k l : Nat} {x y : Nat × Nat} (hk : R[k]? = some x) (hl : R[l]? = some y) : k < l ↔ lexP x y := by
  have main : ∀ {k l : Nat} {x y : Nat × Nat}, R[k]? = some x → R[l]? = some y → k < l → lexP x y := fun {k l x y} hk hl hlt => by
    obtain ⟨h1, e1⟩ := List.getElem?_eq_some_iff.mp hk
    obtain ⟨h2, e2⟩ := List.getElem?_eq_some_iff.mp hl
    rw [← e1, ← e2]
    exact List.pairwise_iff_getElem.mp h.srt k l h1 h2 hlt
  refine ⟨main hk hl, fun hx => ?_⟩
  rcases Nat.lt_trichotomy k l with h1 | h1 | h1
  · exact h1
  · subst h1
    rw [hk] at hl
    cases hl
    unfold lexP at hx
    omega
  · have := main hl hk h1
    unfold lexP at this hx
    omega
theorem hot_piece {sh : List Sh} {R : List (Nat × Nat)} {told : List (Option Int)} {b : Int} {q : Int × Nat} : q ∈ hotAt (wsR sh R) told b ↔ ∃ x, R[q.2]? = some x ∧ q.1 = lK sh x.1 x.2 ∧ aK sh x.1 x.2 ≤ b ∧ b ≤ lK sh x.1 x.2 ∧ told[q.2]? = some none := by
  rw [hot_mem]
  constructor
  · rintro ⟨f, h1, h2, h3, h4⟩
    obtain ⟨x, e1, e2, e3⟩ := ws_at.mp h1
    exact ⟨x, e1, e3.symm, by omega, by omega, h4⟩
  · rintro ⟨x, e1, e2, e3, e4, e5⟩
    exact ⟨aK sh x.1 x.2, ws_at.mpr ⟨x, e1, rfl, e2.symm⟩, e3, by omega, e5⟩
/-- what waits at a beat can be listed in its order -/
theorem wsK_ex {sh : List Sh} {num a : Nat → Nat} (h : ∀ i, i < sh.length → num i ≤ a i) : ∃ ws, Ws sh ws num a := by
  have one : ∀ (p : Nat), p < sh.length → ∀ (d : Nat) (l : List (Nat × Nat)) (cur : Nat → Nat), Wd sh l num cur → cur p = num p → ∃ l' cur', Wd sh l' num cur' ∧ cur' p = num p + d ∧ ∀ i, i ≠ p → cur' i = cur i := fun p hp d => by
    induction d with
    | zero => exact fun l cur hw hc => ⟨l, cur, hw, hc, fun _ _ => rfl⟩
    | succ d ih =>
      intro l cur hw hc
      obtain ⟨l', cur', h1, h2, h3⟩ := ih l cur hw hc
      refine ⟨_, _, h1.put hp (by omega), ?_, fun i hi => ?_⟩
      · show (if p = p then cur' p + 1 else cur' p) = _
        rw [if_pos rfl]
        omega
      · show (if i = p then cur' i + 1 else cur' i) = _
        rw [if_neg hi]
        exact h3 i hi
  have all : ∀ p, p ≤ sh.length → ∃ l cur, Wd sh l num cur ∧ (∀ i, i < p → cur i = a i) ∧ (∀ i, p ≤ i → cur i = num i) := fun p => by
    induction p with
    | zero => exact fun _ => ⟨[], num, ⟨List.nodup_nil, fun i n => ⟨fun z => (by cases z), fun z => (by omega)⟩⟩, fun i hi => absurd hi (by omega), fun _ _ => rfl⟩
    | succ p ih =>
      intro hp
      obtain ⟨l, cur, h1, h2, h3⟩ := ih (by omega)
      obtain ⟨l', cur', g1, g2, g3⟩ := one p (by omega) (a p - num p) l cur h1 (h3 p (Nat.le_refl _))
      refine ⟨l', cur', g1, fun i hi => ?_, fun i hi => ?_⟩
      · by_cases e : i = p
        · subst e
          have := h i (by omega)
          omega
        · rw [g3 i e]
          exact h2 i (by omega)
      · rw [g3 i (by omega)]
        exact h3 i (by omega)
  obtain ⟨l, cur, h1, h2, _⟩ := all sh.length (Nat.le_refl _)
  obtain ⟨vs, _, _, h3⟩ := h1.sort
  refine ⟨vs, h3.srt, fun i n => ?_⟩
  rw [h3.mem]
  constructor
  · rintro ⟨k1, k2, k3⟩
    rw [h2 i k1] at k3
    exact ⟨k1, k2, k3⟩
  · rintro ⟨k1, k2, k3⟩
    rw [← h2 i k1] at k3
    exact ⟨k1, k2, k3⟩
theorem piece_lt {sh : List Sh} {B : Nat} {R : List (Nat × Nat)} (h : Rw sh B R) {p q : Int × Nat} {x y : Nat × Nat} (hx : R[p.2]? = some x) (hy : R[q.2]? = some y) (ex : p.1 = lK sh x.1 x.2) (ey : q.1 = lK sh y.1 y.2) (hne : p ≠ q) : leP p q = true ↔ ltK sh x y := by
  have h1 := h.lt hx hy
  rw [leP_eq, decide_eq_true_iff]
  unfold ltK
  unfold lexP at h1
  rw [ex, ey]
  constructor
  · rintro (h2 | ⟨h2, h3⟩)
    · exact .inl h2
    · refine .inr ⟨h2, h1.mp (Nat.lt_of_le_of_ne h3 fun e => hne (Prod.ext (by omega) e))⟩
  · rintro (h2 | ⟨h2, h3⟩)
    · exact .inl h2
    · exact .inr ⟨h2, Nat.le_of_lt (h1.mpr h3)⟩
theorem srt_nodup {l : List (Int × Nat)} (h : l.Nodup) : (srtP l).Nodup := (srtP_perm l).nodup_iff.mpr h
section
variable {sh : List Sh} {B m : Nat} {R : List (Nat × Nat)}
theorem take_drop_le {l : List (Int × Nat)} {p q : Int × Nat} (hp : p ∈ (srtP l).take m) (hq : q ∈ (srtP l).drop m) : leP p q = true := by
  have h := srtP_sorted l
  rw [← List.take_append_drop m (srtP l), List.pairwise_append] at h
  exact h.2.2 p hp q hq
/-- a piece that the fire draws at a beat is drawn by turns, then or ahead of it -/
theorem turn_step (hk : Sk sh) (hR : Rw sh B R) {b : Nat} (nb : NoB sh m b) {told : List (Option Int)} (_ : told.length = R.length) (ih : ∀ (k : Nat) (x : Nat × Nat), R[k]? = some x → x.2 < NT sh m b x.1 → told[k]? ≠ some none)
    {k : Nat} {x : Nat × Nat} (hx : R[k]? = some x) (h1 : NT sh m b x.1 ≤ x.2) (h2 : x.2 < NT sh m (b + 1) x.1) (hn : told[k]? = some none) : ∃ q ∈ (srtP (hotAt (wsR sh R) told (b : Int))).take m, q.2 = k := by
  have hi : x.1 < sh.length := ((hR.mem x.1 x.2).mp (List.mem_of_getElem? hx)).1
  have ask : aK sh x.1 x.2 ≤ (b : Int) := by
    have h3 := NT_ask hk (m := m) (b + 1) x.1 hi
    have := (lt_arr hk).mp (show x.2 < arr sh x.1 (((b + 1 : Nat) : Int) - 1) by omega)
    omega
  have last : (b : Int) ≤ lK sh x.1 x.2 := by
    refine Int.not_lt.mp fun hc => ?_
    have := drawn_by hk nb hi hc
    omega
  have hot : (lK sh x.1 x.2, k) ∈ hotAt (wsR sh R) told (b : Int) := hot_piece.mpr ⟨x, hx, rfl, ask, last, hn⟩
  have hmem : (lK sh x.1 x.2, k) ∈ srtP (hotAt (wsR sh R) told (b : Int)) := (srtP_perm _).mem_iff.mpr hot
  by_cases hin : (lK sh x.1 x.2, k) ∈ (srtP (hotAt (wsR sh R) told (b : Int))).take m
  · exact ⟨_, hin, rfl⟩
  exfalso
  have hdrop : (lK sh x.1 x.2, k) ∈ (srtP (hotAt (wsR sh R) told (b : Int))).drop m := by
    rw [← List.take_append_drop m (srtP _), List.mem_append] at hmem
    exact hmem.resolve_left hin
  have hlen : ((srtP (hotAt (wsR sh R) told (b : Int))).take m).length = m := by
    have := List.length_pos_of_mem hdrop
    rw [List.length_drop] at this
    rw [List.length_take]
    omega
  generalize hS : (srtP (hotAt (wsR sh R) told (b : Int))).take m = S1 at hin hlen
  have hS1 : ∀ q ∈ S1, ∃ y, R[q.2]? = some y ∧ q.1 = lK sh y.1 y.2 ∧ aK sh y.1 y.2 ≤ (b : Int) ∧ NT sh m b y.1 ≤ y.2 ∧ ltK sh y x ∧ y.1 < sh.length := fun q hq => by
    have hq1 : q ∈ hotAt (wsR sh R) told (b : Int) := (srtP_perm _).mem_iff.mp (List.mem_of_mem_take (by rw [hS]; exact hq))
    obtain ⟨y, e1, e2, e3, e4, e5⟩ := hot_piece.mp hq1
    have hy : y.1 < sh.length := ((hR.mem y.1 y.2).mp (List.mem_of_getElem? e1)).1
    refine ⟨y, e1, e2, e3, Nat.le_of_not_lt fun hc => ih _ _ e1 hc e5, ?_, hy⟩
    have hle := take_drop_le (m := m) (p := q) (by rw [hS]; exact hq) hdrop
    refine (piece_lt hR (p := q) (q := (lK sh x.1 x.2, k)) e1 hx e2 rfl fun e => hin ?_).mp hle
    rw [← e]
    exact hq
  -- the fire's own waiting ones
  have ha : ∀ i, i < sh.length → NT sh m b i ≤ arr sh i (b : Int) := fun i hi => Nat.le_trans (NT_ask hk b i hi) (arr_mono hk (by omega))
  obtain ⟨ws, hW⟩ := wsK_ex ha
  have hgo := (hW.go hk (fun i _ => rfl) m ws (NT sh m b) 0).1
  have hxw : x ∈ ws := (hW.mem x.1 x.2).mpr ⟨hi, h1, (lt_arr hk).mpr ask⟩
  have hxt : x ∈ ws.take m := by
    rw [← List.take_append_drop m ws, List.mem_append] at hxw
    refine hxw.resolve_right fun hd => ?_
    have h3 : NT sh m (b + 1) x.1 ≤ x.2 := ((hgo.mem x.1 x.2).mp hd).2.1
    omega
  have below : ∀ y ∈ ws, ltK sh y x → y ∈ ws.take m := fun y hy hlt => by
    rw [← List.take_append_drop m ws, List.mem_append] at hy
    refine hy.resolve_right fun hd => ?_
    have hp := hW.srt
    rw [← List.take_append_drop m ws, List.pairwise_append] at hp
    exact ltK_irr (ltK_tr (hp.2.2 x hxt y hd) hlt)
  have nd : (x :: S1.map fun q => R.getD q.2 (0, 0)).Nodup := by
    refine List.nodup_cons.mpr ⟨fun hc => ?_, ?_⟩
    · obtain ⟨q, hq, e⟩ := List.mem_map.mp hc
      obtain ⟨y, e1, _, _, _, e5, _⟩ := hS1 q hq
      rw [List.getD_eq_getElem?_getD, e1] at e
      have e : y = x := e
      rw [e] at e5
      exact ltK_irr e5
    · refine List.pairwise_map.mpr ((show S1.Nodup by rw [← hS]; exact (srt_nodup (hot_nodup _ _ _)).sublist (List.take_sublist _ _)).imp_of_mem fun {p q} hp hq hne e => hne ?_)
      obtain ⟨y, e1, e2, _⟩ := hS1 p hp
      obtain ⟨z, f1, f2, _⟩ := hS1 q hq
      rw [List.getD_eq_getElem?_getD, List.getD_eq_getElem?_getD, e1, f1] at e
      have e : y = z := e
      subst e
      have : p.2 = q.2 := by
        have h5 := hR.lt e1 f1
        have h6 := hR.lt f1 e1
        unfold lexP at h5 h6
        omega
      exact Prod.ext (by rw [e2, f2]) this
  have hle := nodup_len (r := ws.take m) nd fun y hy => by
    rcases List.mem_cons.mp hy with rfl | hy
    · exact hxt
    · obtain ⟨q, hq, e⟩ := List.mem_map.mp hy
      obtain ⟨z, e1, _, e3, e4, e5, e6⟩ := hS1 q hq
      rw [List.getD_eq_getElem?_getD, e1] at e
      have e : z = y := e
      subst e
      exact below z ((hW.mem z.1 z.2).mpr ⟨e6, e4, (lt_arr hk).mpr e3⟩) e5
  rw [List.length_cons, List.length_map, hlen, List.length_take] at hle
  omega
theorem turns_A (hk : Sk sh) (hR : Rw sh B R) : ∀ b, NoB sh m b → ∀ (k : Nat) (x : Nat × Nat), R[k]? = some x → x.2 < NT sh m b x.1 → (tellT (wsR sh R) m b)[k]? ≠ some none
  | 0, _, k, x, _, h => absurd h (Nat.not_lt_zero _)
  | b + 1, nb, k, x, hx, h => fun hn => by
    have nb2 : NoB sh m b := fun u hu => nb u (by omega)
    have hn : (setAll (b : Int) ((srtP (hotAt (wsR sh R) (tellT (wsR sh R) m b) (b : Int))).take m) (tellT (wsR sh R) m b))[k]? = some none := hn
    obtain ⟨h1, h2⟩ := (setAll_none _ _ _ _).mp hn
    rcases Nat.lt_or_ge x.2 (NT sh m b x.1) with h3 | h3
    · exact turns_A hk hR b nb2 k x hx h3 h1
    · obtain ⟨q, hq, e⟩ := turn_step hk hR nb2 (told := tellT (wsR sh R) m b) (by rw [tellT_len]; unfold wsR; rw [List.length_map]) (turns_A hk hR b nb2) hx h3 h h1
      exact h2 q hq e
/-- and ahead of the first that burns, as long as all that is asked is told, no other -/
theorem turns_B (hk : Sk sh) (hR : Rw sh B R) : ∀ b, b ≤ B → NoB sh m (b - 1) → ∀ (k : Nat) (x : Nat × Nat), R[k]? = some x → NT sh m b x.1 ≤ x.2 → (tellT (wsR sh R) m b)[k]? = some none
  | 0, _, _, k, x, hx, _ => by
    show (List.replicate _ none)[k]? = _
    rw [List.getElem?_replicate, if_pos (by unfold wsR; rw [List.length_map]; exact (List.getElem?_eq_some_iff.mp hx).1)]
  | b + 1, hb, nb, k, x, hx, h => by
    have nb : NoB sh m b := nb
    have ihB := turns_B hk hR b (by omega) fun u hu => nb u (by omega)
    have h0 : NT sh m b x.1 ≤ x.2 := Nat.le_trans (NT_mono (s := 1)) h
    have hi : x.1 < sh.length := ((hR.mem x.1 x.2).mp (List.mem_of_getElem? hx)).1
    show (setAll (b : Int) ((srtP (hotAt (wsR sh R) (tellT (wsR sh R) m b) (b : Int))).take m) (tellT (wsR sh R) m b))[k]? = some none
    refine (setAll_none _ _ _ _).mpr ⟨ihB k x hx h0, fun q hq hqk => ?_⟩
    have hnd := (srt_nodup (hot_nodup (wsR sh R) (tellT (wsR sh R) m b) (b : Int))).sublist (List.take_sublist m _)
    obtain ⟨x', e1, e2, e3, e4, e5⟩ := hot_piece.mp ((srtP_perm _).mem_iff.mp (List.mem_of_mem_take hq))
    rw [hqk, hx] at e1
    cases e1
    have ha : ∀ i, i < sh.length → NT sh m b i ≤ arr sh i (b : Int) := fun i hi => Nat.le_trans (NT_ask hk b i hi) (arr_mono hk (by omega))
    obtain ⟨ws, hW⟩ := wsK_ex ha
    have hgo := (hW.go hk (fun i _ => rfl) m ws (NT sh m b) 0).1
    have hxd : x ∈ ws.drop m := (hgo.mem x.1 x.2).mpr ⟨hi, h, (lt_arr hk).mpr e3⟩
    have hlen : (ws.take m).length = m := by
      have := List.length_pos_of_mem hxd
      rw [List.length_drop] at this
      rw [List.length_take]
      omega
    have hp := hW.srt
    rw [← List.take_append_drop m ws, List.pairwise_append] at hp
    -- each of those drawn is of the turns, ahead of this one
    have hT : ∀ y ∈ ws.take m, ∃ l, R[l]? = some y ∧ (lK sh y.1 y.2, l) ∈ (srtP (hotAt (wsR sh R) (tellT (wsR sh R) m b) (b : Int))).take m ∧ ltK sh y x := fun y hy => by
      obtain ⟨g1, g2, g3⟩ := (hW.mem y.1 y.2).mp (List.mem_of_mem_take hy)
      have ya := (lt_arr hk).mp g3
      obtain ⟨l, hl⟩ := List.mem_iff_getElem?.mp ((hR.mem y.1 y.2).mpr ⟨g1, by omega⟩)
      have ylt := hp.2.2 y hy x hxd
      have ylast : (b : Int) ≤ lK sh y.1 y.2 := by
        refine Int.not_lt.mp fun hc => ?_
        have := drawn_by hk nb g1 hc
        omega
      have yhot : (lK sh y.1 y.2, l) ∈ srtP (hotAt (wsR sh R) (tellT (wsR sh R) m b) (b : Int)) := (srtP_perm _).mem_iff.mpr (hot_piece.mpr ⟨y, hl, rfl, ya, ylast, ihB l y hl g2⟩)
      refine ⟨l, hl, ?_, ylt⟩
      rw [← List.take_append_drop m (srtP _), List.mem_append] at yhot
      refine yhot.resolve_right fun hd => ?_
      have hle := take_drop_le (m := m) hq hd
      have hq2 : R[q.2]? = some x := by rw [hqk]; exact hx
      by_cases e : q = (lK sh y.1 y.2, l)
      · have : l = k := by rw [← hqk, e]
        subst this
        rw [hx] at hl
        cases hl
        exact ltK_irr ylt
      · exact ltK_irr (ltK_tr ((piece_lt hR hq2 hl e2 rfl e).mp hle) ylt)
    have nd : (x :: ws.take m).Nodup := List.nodup_cons.mpr ⟨fun hc => ltK_irr (hp.2.2 x hc x hxd), hW.wd.nodup.sublist (List.take_sublist _ _)⟩
    have hle := nodup_len (r := ((srtP (hotAt (wsR sh R) (tellT (wsR sh R) m b) (b : Int))).take m).map fun p => R.getD p.2 (0, 0)) nd fun y hy => by
      rcases List.mem_cons.mp hy with rfl | hy
      · refine List.mem_map.mpr ⟨q, hq, ?_⟩
        rw [hqk, List.getD_eq_getElem?_getD, hx]
        rfl
      · obtain ⟨l, h5, h6, _⟩ := hT y hy
        refine List.mem_map.mpr ⟨_, h6, ?_⟩
        rw [List.getD_eq_getElem?_getD, h5]
        rfl
    rw [List.length_cons, List.length_map, hlen, List.length_take] at hle
    omega
/-! what is told stays told -/
theorem setAll_keep (b : Int) : ∀ (rows : List (Int × Nat)) (told : List (Option Int)) (k : Nat), (∀ q ∈ rows, q.2 ≠ k) → (setAll b rows told)[k]? = told[k]?
  | [], _, _, _ => rfl
  | q :: rows, told, k, h => by
    show (setAll b rows (told.set q.2 (some b)))[k]? = _
    rw [setAll_keep b rows _ k fun x hx => h x (List.mem_cons_of_mem _ hx), List.getElem?_set_ne (h q (List.mem_cons_self ..))]
theorem told_keep {ws : List (Int × Int)} {b k : Nat} {v : Int} (h : (tellT ws m b)[k]? = some (some v)) : ∀ s, (tellT ws m (b + s))[k]? = some (some v)
  | 0 => h
  | s + 1 => by
    have ih := told_keep h s
    show (setAll _ _ (tellT ws m (b + s)))[k]? = _
    rw [setAll_keep _ _ _ _ fun q hq e => ?_]
    · exact ih
    · obtain ⟨_, _, _, _, h5⟩ := hot_mem.mp ((srtP_perm _).mem_iff.mp (List.mem_of_mem_take hq))
      have ih : (tellT ws m (b.add s))[k]? = some (some v) := ih
      rw [e, ih] at h5
      cases h5
theorem told_back {ws : List (Int × Int)} {b k : Nat} {v : Int} (hv : v < (b : Int)) : ∀ s, (tellT ws m (b + s))[k]? = some (some v) → (tellT ws m b)[k]? = some (some v)
  | 0, h => h
  | s + 1, h => by
    have h : (setAll ((b + s : Nat) : Int) _ (tellT ws m (b + s)))[k]? = some (some v) := h
    rcases setAll_val _ _ _ _ _ h with h1 | ⟨h1, _⟩
    · exact told_back hv s h1
    · omega
theorem told_some {ws : List (Int × Int)} {b k : Nat} (hk : k < ws.length) (h : (tellT ws m b)[k]? ≠ some none) : ∃ v, (tellT ws m b)[k]? = some (some v) := by
  have hl : k < (tellT ws m b).length := by
    rw [tellT_len]
    exact hk
  rw [List.getElem?_eq_getElem hl] at h ⊢
  cases e : (tellT ws m b)[k] with
  | none => rw [e] at h; exact absurd rfl h
  | some v => exact ⟨v, rfl⟩
/-- where none burns: each is told a beat, and none waits longer -/
theorem turns_kept (hk : Sk sh) (hR : Rw sh B R) (nb : ∀ T, NoB sh m T) {N : Nat} (hN : B + 40 ≤ N) {U : Nat} (hU : B + 40 ≤ U) {k : Nat} {x : Nat × Nat} (hx : R[k]? = some x) : ∃ v, (tellT (wsR sh R) m N)[k]? = some (some v) ∧ v - aK sh x.1 x.2 ≤ WT sh m U := by
  obtain ⟨hi, hB⟩ := (hR.mem x.1 x.2).mp (List.mem_of_getElem? hx)
  have w20 := hk.w20 x.1
  have h0 := lK_pos hk x.1 x.2
  have hl : lK sh x.1 x.2 = aK sh x.1 x.2 + (sh.getD x.1 shz).wd := rfl
  have hkl : k < (wsR sh R).length := by
    unfold wsR
    rw [List.length_map]
    exact (List.getElem?_eq_some_iff.mp hx).1
  obtain ⟨v, v1, v2, v3⟩ := drawn_at (drawn_by hk (nb (B + 30)) hi (n := x.2) (by omega))
  obtain ⟨y, hy⟩ := told_some hkl (turns_A hk hR (v + 1) (nb _) k x hx v3)
  obtain ⟨_, _, _, _, _, hyv⟩ := tellT_val _ _ _ _ _ hy
  have := told_keep hy (N - (v + 1))
  rw [show v + 1 + (N - (v + 1)) = N by omega] at this
  refine ⟨y, this, ?_⟩
  have := (WT_iff (WT_pos U) U).mp (Int.le_refl _) v (by omega) x.1 x.2 v2 v3
  omega
/-- all that comes ahead of what burns first is told a beat -/
theorem turns_ahead (hk : Sk sh) (hR : Rw sh B R) {T N : Nat} (nb : NoB sh m T) (hN : T ≤ N) {k : Nat} {x : Nat × Nat} (hx : R[k]? = some x) (hl : lK sh x.1 x.2 < (T : Int)) : ∃ v, (tellT (wsR sh R) m N)[k]? = some (some v) := by
  obtain ⟨hi, hB⟩ := (hR.mem x.1 x.2).mp (List.mem_of_getElem? hx)
  have hkl : k < (wsR sh R).length := by
    unfold wsR
    rw [List.length_map]
    exact (List.getElem?_eq_some_iff.mp hx).1
  obtain ⟨y, hy⟩ := told_some hkl (turns_A hk hR T nb k x hx (drawn_by hk nb hi hl))
  have := told_keep hy (N - T)
  rw [show T + (N - T) = N by omega] at this
  exact ⟨y, this⟩
/-- what burns first is told none, if all asked by then is told -/
theorem turns_burnt (hk : Sk sh) (hR : Rw sh B R) {T N j : Nat} (nb : NoB sh m T) (lj : LateAt sh m T j) (hT : T < B) (hN : B ≤ N) {k : Nat} (hx : R[k]? = some (j, NT sh m (T + 1) j)) : (tellT (wsR sh R) m N)[k]? = some none := by
  have hkl : k < (wsR sh R).length := by
    unfold wsR
    rw [List.length_map]
    exact (List.getElem?_eq_some_iff.mp hx).1
  refine Classical.byContradiction fun hc => ?_
  obtain ⟨v, hv⟩ := told_some hkl hc
  obtain ⟨f, l, h1, _, h3, _⟩ := tellT_val _ _ _ _ _ hv
  obtain ⟨y, e1, _, e3⟩ := ws_at.mp h1
  rw [hx] at e1
  cases e1
  have ex := late_exact hk nb lj
  have ex : lK sh j (NT sh m (T + 1) j) = (T : Int) := ex
  have e3 : lK sh j (NT sh m (T + 1) j) = l := e3
  have hb := told_back (ws := wsR sh R) (m := m) (b := T + 1) (k := k) (v := v) (by omega) (N - (T + 1)) (by rw [show T + 1 + (N - (T + 1)) = N by omega]; exact hv)
  have hB := turns_B hk hR (m := m) (T + 1) (by omega) nb k _ hx (Nat.le_refl _)
  rw [hB] at hb
  cases hb
end
/-! ### turns, walked -/
def pairT (p : Int × Nat) : D := rowT (rowP p)
theorem com_rows (ws : List (Int × Int)) : ((tri ws).map rowQ).mergeSort rowLe = (comQ ws).map rowQ := by
  unfold comQ
  exact (List.map_mergeSort (r := leQ) (s := rowLe) (f := rowQ) (fun _ _ _ _ => rfl)).symm
theorem srt_rows (l : List (Int × Nat)) : (l.map rowP).mergeSort rowLe = (srtP l).map rowP := by
  unfold srtP
  exact (List.map_mergeSort (r := leP) (s := rowLe) (f := rowP) (fun _ _ _ _ => rfl)).symm
theorem get_set0 {L : List Ob} {k : Nat} {o x : Ob} (h : L[0]? = some o) (hk : k ≠ 0) : (L.set k x)[0]? = some o := by
  rw [List.getElem?_set_ne hk]; exact h
theorem get_setk {L : List Ob} {k : Nat} {o x : Ob} (h : L[k]? = some o) : (L.set k x)[k]? = some x := List.getElem?_set_self (List.getElem?_eq_some_iff.mp h).1
theorem get_app {L : List Ob} {k : Nat} {o x : Ob} (h : L[k]? = some o) : (L ++ [x])[k]? = some o := by
  rw [List.getElem?_append_left (List.getElem?_eq_some_iff.mp h).1]; exact h
theorem get_new {L : List Ob} {x : Ob} : (L ++ [x])[L.length]? = some x := List.getElem?_concat_length
theorem get_ne {L : List Ob} {k : Nat} {o : Ob} (h : L[0]? = some o) (hk : k = L.length) : k ≠ 0 := by
  have := (List.getElem?_eq_some_iff.mp h).1
  omega
/-- nothing but plain entries -/
def Pl (L : List Ob) : Prop := L.all (oldO 0) = true
theorem Pl.push {L : List Ob} {o : Ob} (h : Pl L) (ho : oldO 0 o = true) : Pl (L ++ [o]) := by
  unfold Pl at h ⊢
  rw [List.all_append, h, List.all_cons, ho]
  rfl
theorem Pl.set {L : List Ob} {o : Ob} {k : Nat} (h : Pl L) (ho : oldO 0 o = true) : Pl (L.set k o) := by
  unfold Pl at h ⊢
  rw [List.all_eq_true] at h ⊢
  intro x hx
  rcases List.mem_or_eq_of_mem_set hx with hx | rfl
  · exact h x hx
  · exact ho
theorem Pl.append {L M : List Ob} (h : Pl L) (k : Pl M) : Pl (L ++ M) := by
  unfold Pl at h k ⊢
  rw [List.all_append, h, k]
  rfl
theorem Cl.plain {S : Sg} {L : List Ob} (h : Cl S) (p : Pl L) : Cl (S ++ L) := h.app fun x hx => oldO_mono (Nat.zero_le _) _ (List.all_eq_true.mp p x hx)
theorem pl_life (l : List (Option Int)) : oldO 0 (.lst (l.map lifeD)) = true := oldL_map fun o _ => by cases o <;> rfl
theorem pl_pair (l : List (Int × Nat)) : oldO 0 (.lst (l.map pairT)) = true := oldL_map fun _ _ => rfl
theorem pl00 (ws : List (Int × Int)) : Pl ([] ++ [.lst ((List.replicate ws.length (none : Option Int)).map lifeD)] ++ [.lst []]) :=
  Pl.push (Pl.push (show Pl [] from rfl) (pl_life _)) rfl
theorem com_at {ws : List (Int × Int)} {c : Nat} {q : Tri} (h : (comQ ws)[c]? = some q) : atI ((comQ ws).map fun q => rowT (rowQ q)) (c : Int) = some (.tup [.int q.1, .int q.2.1, .int (q.2.2 : Int)]) := by
  rw [atI_ofNat, List.getElem?_map, h]
  rfl
theorem turns_ok (c : Cs) {S : Sg} {d : D} {ws : List (Int × Int)} {e : Int × Int → D} {m N : Nat} {Q : D → Sg → Prop} (hd : ∀ L, sqOf (S ++ L) d = some (ws.map e)) (he : ∀ w S', sqOf S' (e w) = some [.int w.1, .int w.2]) (hlen : ws.length ≤ 1000)
    (hw : ∀ w ∈ ws, 0 ≤ w.1 ∧ w.1 ≤ w.2 ∧ w.2 < (N : Int)) (hN : N ≤ 1000000000000000)
    (q : ∀ L k, Pl L → L[k]? = some (.lst ((tellT ws m N).map lifeD)) → Q (.loc (S.length + k)) (S ++ L)) : W (F_turns c [d, .int (m : Int)] S) Q := by
  have hl : S.length = S.length := rfl
  unfold F_turns B_turns
  refine w_body ?_
  walk_at "w"
  refine x_lenSq (hd []) ?_
  walk_at "w"
  refine wl_mulN hl (r63P (by rw [List.length_map]; omega)) (by rw [List.length_map, Int.toNat_natCast]; show 1 * _ < _; omega) ?_
  rw [List.length_map, Int.toNat_natCast, show (List.replicate ws.length [D.non]).flatten = (List.replicate ws.length (none : Option Int)).map lifeD by
    clear hlen hw hd q
    induction ws.length with
    | zero => rfl
    | succ k ih => rw [List.replicate_succ, List.flatten_cons, ih, List.replicate_succ, List.map_cons]; rfl]
  walk_at "w"
  refine w_lcA (S1 := S ++ ([] ++ [.lst ((List.replicate ws.length (none : Option Int)).map lifeD)])) (ds := [d]) ws.zipIdx (fun p => .tup [.int (p.2 : Int), e p.1]) (fun p => rowT (rowQ (p.1.1, p.1.2, p.2))) (by walk_at "w"; exact ⟨rfl, rfl⟩) (k_enA ws e (hd _)) (by rw [List.length_zipIdx]; omega) (fun p hp => ?_) ?_
  · walk_at "w"
    refine w_tupAG (he _ _) rfl ?_
    walk_at "w"
    exact ⟨rfl, rfl⟩
  have eT : ws.zipIdx.map (fun p => rowT (rowQ (p.1.1, p.1.2, p.2))) = ((tri ws).map rowQ).map rowT := by
    unfold tri
    rw [List.map_map, List.map_map]
    rfl
  walk_at "w"
  rw [eT]
  refine x_sortR (fun r hr => by obtain ⟨q, _, rfl⟩ := List.mem_map.mp hr; simp [rowQ]) ?_
  rw [com_rows, List.map_map]
  walk_at "w"
  refine w_while (fun n δ Z => ∃ (beat c0 k : Nat) (told : List (Option Int)) (hot : List (Int × Nat)) (L : List Ob) (x7 x8 x9 : Option D), δ = [some d, some (.int (m : Int)), some (.loc (S.length + 0)), some (.lst ((comQ ws).map (rowT ∘ rowQ))), some (.int (c0 : Int)), some (.loc (S.length + k)), some (.int (beat : Int)), x7, x8, x9] ∧
      Pl L ∧ Z = S ++ L ∧ L[0]? = some (.lst (told.map lifeD)) ∧ L[k]? = some (.lst (hot.map pairT)) ∧ k ≠ 0 ∧ hot.length ≤ c0 ∧ Head ws m beat told hot c0 ∧ n = N + 2 - beat) (N + 2) (by omega) ?_ ?_
  · refine ⟨0, 0, 1, List.replicate ws.length none, [], _, _, _, _, rfl, pl00 ws, rfl, rfl, rfl, by decide, Nat.le_refl _, Head.zero fun w h => (hw w h).1, rfl⟩
  · rintro n δ Z ⟨beat, c0, k, told, hot, L, x7, x8, x9, rfl, pl, rfl, h0, hk, k0, hcc, H, rfl⟩
    have hcl : (comQ ws).length ≤ 1000 := by rw [comQ_len]; exact hlen
    have hcond : ∀ {δ : Dl}, δ[5]? = some (some (.loc (S.length + k))) → δ[4]? = some (some (.int (c0 : Int))) → δ[3]? = some (some (.lst ((comQ ws).map (rowT ∘ rowQ)))) →
        orD (truD (varD 5)) (tvD (op2D (cmpO fun i j => decide (i < j)) (varD 4) (cbD lenO (consA (varD 3) nilA)))) δ (S ++ L) = some (!hot.isEmpty || decide (c0 < (comQ ws).length), S ++ L) := fun d5 d4 d3 => by
      refine r_or (r_tru (r_v d5) (wl_truE hl hk)) ?_
      cases hot with
      | cons a r => rfl
      | nil =>
        refine i_n rfl (r_tv (r_op2 (r_v d4) (r_cb (r_cons (r_v d3) r_nil) (lenv_lst _ _)) ?_))
        rw [cmpO_int, List.length_map]
        congr 3
        show _ = decide _
        rw [decide_eq_decide]
        omega
    refine w_ex (hcond rfl rfl rfl) ?_
    refine br_c (fun hgo => ?_) (fun hgo => ?_)
    · have hgo' : hot ≠ [] ∨ c0 < (comQ ws).length := by
        rw [Bool.or_eq_true, decide_eq_true_iff] at hgo
        rcases hgo with h | h
        · refine .inl fun e => ?_
          rw [e] at h; cases h
        · exact .inr h
      have hbN : beat ≤ N := by
        rcases hgo' with h | h
        · obtain ⟨p, hp⟩ := List.exists_mem_of_ne_nil _ h
          obtain ⟨f, e1, _, e3, _⟩ := (H.hm p).mp hp
          have h1 := (hw _ (List.mem_of_getElem? e1)).2.2
          have h1 : p.1 < (N : Int) := h1
          omega
        · have hq := List.getElem_mem h
          have h2 := H.c2 _ (by rw [List.drop_eq_getElem_cons h]; exact List.mem_cons_self ..)
          have h3 := hw _ (List.mem_of_getElem? (com_mem.mp hq))
          have h4 : (comQ ws)[c0].1 ≤ (comQ ws)[c0].2.1 := h3.2.1
          have h5 : (comQ ws)[c0].2.1 < (N : Int) := h3.2.2
          omega
      obtain ⟨b1, hb1, ht1, hj1, hif⟩ : ∃ b1 : Nat, beat ≤ b1 ∧ told = tellT ws m b1 ∧ (hot ≠ [] → b1 = beat) ∧
          ifS (notD (truD (varD 5))) (setS 6 (cbD max2O (consA (varD 6) (consA (op2D ixO (op2D ixO (varD 3) (varD 4)) (cD (.int 0))) nilA)))) nextS
            [some d, some (.int (m : Int)), some (.loc (S.length + 0)), some (.lst ((comQ ws).map (rowT ∘ rowQ))), some (.int (c0 : Int)), some (.loc (S.length + k)), some (.int (beat : Int)), x7, x8, x9] (S ++ L) =
          some (.nx, [some d, some (.int (m : Int)), some (.loc (S.length + 0)), some (.lst ((comQ ws).map (rowT ∘ rowQ))), some (.int (c0 : Int)), some (.loc (S.length + k)), some (.int (b1 : Int)), x7, x8, x9], S ++ L) := by
        by_cases hne : hot = []
        · have hlt : c0 < (comQ ws).length := hgo'.resolve_left fun h => h hne
          have hq := List.getElem?_eq_getElem hlt
          have h3 := hw _ (List.mem_of_getElem? (com_mem.mp (List.getElem_mem hlt)))
          have h4 : (0 : Int) ≤ (comQ ws)[c0].1 := h3.1
          obtain ⟨b1, hb⟩ := Int.eq_ofNat_of_zero_le h4
          obtain ⟨g1, g2⟩ := H.jump hne hq hb
          refine ⟨b1, g1, g2, fun h => (h hne).elim, ?_⟩
          refine r_if (r_not (r_tru (r_v rfl) (wl_truE hl hk))) (i_y (by rw [hne]; rfl) ?_)
          rw [r_set (r_cb (r_cons (r_v rfl) (r_cons (r_op2 (r_op2 (r_v rfl) (r_v rfl) (v_ixl (com_at hq))) r_c (v_ixt (atI_0 _ _))) r_nil)) (max2v _ _ _))]
          have e : (if (comQ ws)[c0].1 > (beat : Int) then (comQ ws)[c0].1 else (beat : Int)) = (b1 : Int) := by split <;> omega
          rw [e]
          rfl
        · refine ⟨beat, Nat.le_refl _, H.t, fun _ => rfl, ?_⟩
          refine r_if (r_not (r_tru (r_v rfl) (wl_truE hl hk))) (i_n ?_ r_next)
          cases hot with
          | nil => exact (hne rfl).elim
          | cons a r => rfl
      refine w_seq (ws_ex hif ?_)
      walk_at "w"
      refine w_while (fun n δ Z => ∃ (c1 : Nat) (L : List Ob), δ = [some d, some (.int (m : Int)), some (.loc (S.length + 0)), some (.lst ((comQ ws).map (rowT ∘ rowQ))), some (.int (c1 : Int)), some (.loc (S.length + k)), some (.int (b1 : Int)), x7, x8, x9] ∧ Pl L ∧ Z = S ++ L ∧ L[0]? = some (.lst (told.map lifeD)) ∧
          L[k]? = some (.lst ((hot ++ (((comQ ws).drop c0).take (c1 - c0)).map fun q => (q.2.1, q.2.2)).map pairT)) ∧ c0 ≤ c1 ∧ c1 ≤ (comQ ws).length ∧ (∀ q ∈ (comQ ws).take c1, q.1 ≤ (b1 : Int)) ∧ n = (comQ ws).length - c1) ((comQ ws).length - c0) (by omega) ?_ ?_
      · refine ⟨c0, L, rfl, pl, rfl, h0, ?_, Nat.le_refl _, H.c0, fun q hq => ?_, rfl⟩
        · rw [Nat.sub_self, List.take_zero, List.map_nil, List.append_nil]
          exact hk
        · have := H.c1 q hq
          omega
      · rintro n δ Z ⟨c1, L, rfl, pl, rfl, h0, hk, hc01, hc1l, hc1, rfl⟩
        have hcond2 : ∀ {δ : Dl}, δ[3]? = some (some (.lst ((comQ ws).map (rowT ∘ rowQ)))) → δ[4]? = some (some (.int (c1 : Int))) → δ[6]? = some (some (.int (b1 : Int))) →
            andD (tvD (op2D (cmpO fun i j => decide (i < j)) (varD 4) (cbD lenO (consA (varD 3) nilA)))) (tvD (op2D (cmpO fun i j => decide (i ≤ j)) (op2D ixO (op2D ixO (varD 3) (varD 4)) (cD (.int 0))) (varD 6))) δ (S ++ L) =
              some ((match (comQ ws)[c1]? with | some q => decide (q.1 ≤ (b1 : Int)) | none => false), S ++ L) := fun d3 d4 d6 => by
          refine r_and (r_tv (r_op2 (r_v d4) (r_cb (r_cons (r_v d3) r_nil) (lenv_lst _ _)) (cmpO_int _ _ _ _))) ?_
          rw [List.length_map]
          cases hq : (comQ ws)[c1]? with
          | none =>
            have := List.getElem?_eq_none_iff.mp hq
            exact i_n (decide_eq_false (by omega)) rfl
          | some q =>
            have := (List.getElem?_eq_some_iff.mp hq).1
            exact i_y (decide_eq_true (by omega)) (r_tv (r_op2 (r_op2 (r_op2 (r_v d3) (r_v d4) (v_ixl (com_at hq))) r_c (v_ixt (atI_0 _ _))) (r_v d6) (cmpO_int _ _ _ _)))
        have hnl : (hot ++ (((comQ ws).drop c0).take (c1 - c0)).map fun q => (q.2.1, q.2.2)).length ≤ c1 := by
          rw [List.length_append, List.length_map, List.length_take]
          omega
        have hsz : ((hot ++ (((comQ ws).drop c0).take (c1 - c0)).map fun q => (q.2.1, q.2.2)).map pairT).length < 1000000 := by
          rw [List.length_map]
          omega
        refine w_ex (hcond2 rfl rfl rfl) ?_
        refine br_c (fun hgo2 => ?_) (fun hst => ?_)
        · obtain ⟨q, hq, hle⟩ : ∃ q, (comQ ws)[c1]? = some q ∧ q.1 ≤ (b1 : Int) := by
            cases hq : (comQ ws)[c1]? with
            | none => rw [hq] at hgo2; cases hgo2
            | some q =>
              rw [hq] at hgo2
              exact ⟨q, rfl, of_decide_eq_true hgo2⟩
          have hlt := (List.getElem?_eq_some_iff.mp hq).1
          have hat := com_at hq
          walk_at "w"
          have eL : ((hot ++ (((comQ ws).drop c0).take (c1 - c0)).map fun q => (q.2.1, q.2.2)).map pairT) ++ [D.tup [.int q.2.1, .int (q.2.2 : Int)]] = (hot ++ (((comQ ws).drop c0).take (c1 + 1 - c0)).map fun q => (q.2.1, q.2.2)).map pairT := by
            rw [show c1 + 1 - c0 = (c1 - c0) + 1 by omega, List.take_succ, List.getElem?_drop, show c0 + (c1 - c0) = c1 by omega, hq]
            simp only [List.map_append, List.append_assoc, Option.toList_some, List.map_cons, List.map_nil]
            rfl
          refine ⟨(comQ ws).length - (c1 + 1), by omega, c1 + 1, _, rfl, pl.set (by rw [eL]; exact pl_pair _), rfl, get_set0 h0 k0, by rw [get_setk hk, eL], by omega, by omega, fun x hx => ?_, rfl⟩
          rw [List.take_succ, hq] at hx
          rcases List.mem_append.mp hx with hx | hx
          · exact hc1 x hx
          · rw [show x = q by simpa using hx]; exact hle
        · have hc2 : ∀ q ∈ (comQ ws).drop c1, (b1 : Int) < q.1 := fun q hq => by
            by_cases hlt : c1 < (comQ ws).length
            · have hg := List.getElem?_eq_getElem hlt
              rw [hg] at hst
              have hst := of_decide_eq_false hst
              have hs := comQ_sorted ws
              rw [← List.take_append_drop c1 (comQ ws), List.pairwise_append] at hs
              have hs2 := hs.2.1
              rw [List.drop_eq_getElem_cons hlt] at hs2 hq
              rw [List.pairwise_cons] at hs2
              rcases List.mem_cons.mp hq with rfl | hq
              · omega
              · have := hs2.1 q hq
                omega
            · rw [List.drop_eq_nil_of_le (by omega)] at hq
              cases hq
          obtain ⟨he1, hH⟩ := H.turn hb1 ht1 hj1 hc01 hc1l hc1 hc2
          generalize hot ++ (((comQ ws).drop c0).take (c1 - c0)).map (fun q => (q.2.1, q.2.2)) = hot1 at hk hnl he1
          walk_at "w"
          refine w_lcF (S1 := S ++ L) (ds := [.loc (S.length + k)]) hot1 pairT (fun p => decide ((b1 : Int) ≤ p.1)) pairT (by walk_at "w"; exact ⟨rfl, rfl⟩) (by rw [sqK_1]; exact wl_sq hl hk) (by omega) (fun p hp => ?_) ?_
          · refine w_tupG (ds := [.int p.1, .int (p.2 : Int)]) rfl ?_
            walk_at "w"
            refine ⟨rfl, rfl, fun _ => ?_⟩
            walk_at "w"
            exact ⟨rfl, rfl⟩
          have eP : ∀ l : List (Int × Nat), l.map pairT = (l.map rowP).map rowT := fun l => by rw [List.map_map]; rfl
          walk_at "w"
          rw [eP]
          refine wl_sortRN hl (fun r hr => by obtain ⟨q, _, rfl⟩ := List.mem_map.mp hr; simp [rowP]) ?_
          rw [srt_rows, he1, ← eP]
          have hsl : (srtP (hotAt ws told (b1 : Int))).length ≤ c1 := by
            rw [← he1, (srtP_perm _).length_eq]
            exact Nat.le_trans (List.length_filter_le ..) hnl
          have hin : ∀ p ∈ srtP (hotAt ws told (b1 : Int)), p.2 < told.length := fun p hp => by
            obtain ⟨f, _, _, _, e4⟩ := hot_mem.mp ((srtP_perm _).mem_iff.mp hp)
            exact (List.getElem?_eq_some_iff.mp e4).1
          generalize srtP (hotAt ws told (b1 : Int)) = srt at hsl hin hH
          walk_at "w"
          refine w_forT (ds := [.lst ((srt.take m).map pairT)]) (srt.take m) pairT (fun pre δ Z => ∃ (L2 : List Ob) (x7 x8 : Option D), δ = [some d, some (.int (m : Int)), some (.loc (S.length + 0)), some (.lst ((comQ ws).map (rowT ∘ rowQ))), some (.int (c1 : Int)), some (.loc (S.length + L.length)), some (.int (b1 : Int)), x7, x8, x9] ∧ Pl L2 ∧ Z = S ++ L2 ∧ L2[0]? = some (.lst ((setAll (b1 : Int) pre told).map lifeD)) ∧
            L2[L.length]? = some (.lst (srt.map pairT))) ?_ (fun _ _ _ _ => k_sql _ _) ?_ ?_
          · walk_at "w"
            refine wl_sl hl get_new ?_
            walk_at "w"
            rw [cut_take, ← List.map_take]
            exact ⟨rfl, _, _, _, rfl, pl.push (pl_pair _), rfl, get_app h0, get_new⟩
          · rintro pre p post δ Z hx ⟨L2, x7, x8, rfl, pl2, rfl, g0, gk⟩
            have hpm : p ∈ srt.take m := by rw [hx]; simp
            have hpl := hin p (List.mem_of_mem_take hpm)
            refine w_tupG (ds := [.int p.1, .int (p.2 : Int)]) rfl ?_
            walk_at "w"
            refine wl_set hl g0 (j := p.2) ?_ ?_
            · rw [List.length_map]
              exact ixN_at (by rw [setAll_len]; exact hpl)
            walk_at "w"
            have eS : ((setAll (b1 : Int) pre told).map lifeD).set p.2 (.int (b1 : Int)) = ((setAll (b1 : Int) pre told).set p.2 (some (b1 : Int))).map lifeD := (List.map_set (f := lifeD) (a := some (b1 : Int))).symm
            refine ⟨_, _, _, rfl, pl2.set (by rw [eS]; exact pl_life _), rfl, ?_, ?_⟩
            · rw [get_setk g0]
              show some (Ob.lst (((setAll (b1 : Int) pre told).map lifeD).set p.2 (lifeD (some (b1 : Int))))) = _
              rw [← List.map_set]
              unfold setAll
              rw [List.foldl_append]
              rfl
            · have hL0 := (List.getElem?_eq_some_iff.mp h0).1
              rw [List.getElem?_set_ne (by omega)]
              exact gk
          · rintro δ Z ⟨L2, x7, x8, rfl, pl2, rfl, g0, gk⟩
            walk_at "w"
            refine wl_slN hl gk ?_
            walk_at "w"
            rw [cut_drop, ← List.map_drop]
            have hL2 := (List.getElem?_eq_some_iff.mp g0).1
            exact ⟨N + 2 - (b1 + 1), by omega, b1 + 1, c1, L2.length, _, srt.drop m, _, _, _, _, rfl, pl2.push (pl_pair _), rfl, get_app g0, get_new, by omega, by rw [List.length_drop]; omega, hH, rfl⟩
    · have hh : hot = [] := by
        rw [Bool.or_eq_false_iff] at hgo
        cases hot with
        | nil => rfl
        | cons a r => exact absurd hgo.1 (by simp)
      have hc : (comQ ws).length ≤ c0 := by
        rw [Bool.or_eq_false_iff, decide_eq_false_iff_not] at hgo
        omega
      subst hh
      have := H.end hc fun w h => (hw w h).2.2
      walk_at "w"
      exact q L 0 pl (by rw [← this]; exact h0)
/-! ### lists of pairs of numbers, at any depth -/
section
variable {α : Type} {f : α → PyData}
theorem layAll_map (h : ∀ a, (f a).canLay0 = true) : ∀ l : List α, PyData.canLayAll0 (l.map f) = true
  | [] => by unfold PyData.canLayAll0; rfl
  | a :: r => by
    rw [List.map_cons]
    unfold PyData.canLayAll0
    rw [h a, layAll_map h r]
    rfl
theorem depAll_map {k : Nat} (h : ∀ a, (f a).depth ≤ k) : ∀ l : List α, PyData.depthAll (l.map f) ≤ k
  | [] => by rw [List.map_nil]; unfold PyData.depthAll; exact Nat.zero_le _
  | a :: r => by
    rw [List.map_cons]
    unfold PyData.depthAll
    have := depAll_map h r
    have := h a
    omega
theorem eqvAll_map (h : ∀ a, PyData.eqv (f a) (f a) = true) : ∀ l : List α, PyData.eqvAll (l.map f) (l.map f) = true
  | [] => by unfold PyData.eqvAll; rfl
  | a :: r => by
    rw [List.map_cons]
    unfold PyData.eqvAll
    rw [h a, eqvAll_map h r]
    rfl
theorem pyL_map {g : α → D} (h : ∀ a, pyD (g a) = some (f a)) : ∀ l : List α, pyL (l.map g) = some (l.map f)
  | [] => by unfold pyL; rfl
  | a :: r => by
    rw [List.map_cons, List.map_cons]
    unfold pyL
    rw [h a, pyL_map h r]
    rfl
theorem shaped_map {k : Nat} (h : ∀ a, (f a).canLay0 = true) (hd : ∀ a, (f a).depth ≤ k) (hk : k < 64) (l : List α) : SeqAt.shaped (.list (l.map f)) = true := by
  unfold SeqAt.shaped PyData.canLay0 PyData.depth
  rw [layAll_map h, Bool.true_and]
  have := depAll_map hd l
  exact decide_eq_true (by omega)
end
section
variable {S : Sg} {Q : D → Sg → Prop}
theorem x_neNil {d : D} {ps : List PyData} (h : pyT S d = some (.list ps)) (hs : SeqAt.shaped (.list ps) = true) (q : Q (.bl (!ps.isEmpty)) S) : W (neDO d (.lst []) S) Q := by
  refine ⟨_, _, ?_, q⟩
  unfold neDO deepO
  rw [h, show pyT S (.lst []) = some (.list (([] : List Int).map .int)) from by unfold pyT pyD pyL; rfl]
  show (if (SeqAt.shaped _ && SeqAt.shaped _) = true then _ else _) = _
  rw [hs, shaped_ints, if_pos (by rfl)]
  show some (D.bl (!PyData.eqv (.list ps) (.list [])), S) = _
  rw [eqv_nil]
theorem x_neSame {d e : D} {p : PyData} (h : pyT S d = some p) (h2 : pyT S e = some p) (hs : SeqAt.shaped p = true) (hr : PyData.eqv p p = true) (q : Q (.bl false) S) : W (neDO d e S) Q := by
  refine ⟨_, _, ?_, q⟩
  unfold neDO deepO
  rw [h, h2]
  show (if (SeqAt.shaped _ && SeqAt.shaped _) = true then _ else _) = _
  rw [hs, if_pos (by rfl)]
  show some (D.bl (!PyData.eqv p p), S) = _
  rw [hr]
  rfl
end
def pyW (w : Int × Int) : PyData := .tuple [.int w.1, .int w.2]
theorem pyW_ok (w : Int × Int) : pyD (.tup [.int w.1, .int w.2]) = some (pyW w) := by
  unfold pyD pyL pyD pyL pyD pyL pyW
  rfl
theorem pyW_lay (w : Int × Int) : (pyW w).canLay0 = true := by
  unfold pyW PyData.canLay0 PyData.canLayAll0 PyData.canLay0 PyData.canLayAll0 PyData.canLay0 PyData.canLayAll0
  rfl
theorem pyW_dep (w : Int × Int) : (pyW w).depth ≤ 9 := by
  unfold pyW PyData.depth PyData.depthAll PyData.depth PyData.depthAll PyData.depth PyData.depthAll
  decide
theorem pyW_eqv (w : Int × Int) : PyData.eqv (pyW w) (pyW w) = true := by
  unfold pyW PyData.eqv PyData.eqvAll PyData.eqv PyData.eqvAll PyData.eqv PyData.eqvAll
  simp
theorem pyWs_shaped (ws : List (Int × Int)) : SeqAt.shaped (.list (ws.map pyW)) = true := shaped_map pyW_lay pyW_dep (by decide) ws
theorem pyWs_eqv (ws : List (Int × Int)) : PyData.eqv (.list (ws.map pyW)) (.list (ws.map pyW)) = true := by
  unfold PyData.eqv
  exact eqvAll_map pyW_eqv ws
/-! ### rows of three numbers, as told and as data -/
def pyR3 (r : List Int) : PyData := .tuple (r.map .int)
theorem pyR3_ok (r : List Int) : pyD (rowT r) = some (pyR3 r) := by
  unfold rowT pyD
  rw [pyL_ints]
  rfl
theorem int_lay (i : Int) : (PyData.int i).canLay0 = true := by
  unfold PyData.canLay0
  rfl
theorem int_dep (i : Int) : (PyData.int i).depth ≤ 4 := by
  unfold PyData.depth
  decide
theorem pyR3_lay (r : List Int) : (pyR3 r).canLay0 = true := by
  unfold pyR3 PyData.canLay0
  exact layAll_map int_lay r
theorem pyR3_dep (r : List Int) : (pyR3 r).depth ≤ 9 := by
  have := depAll_map int_dep r
  unfold pyR3 PyData.depth
  omega
theorem pyR3_shaped (rs : List (List Int)) : SeqAt.shaped (.list (rs.map pyR3)) = true := shaped_map pyR3_lay pyR3_dep (by decide) rs
theorem pyR3_eqv (rs qs : List (List Int)) : PyData.eqv (.list (rs.map pyR3)) (.list (qs.map pyR3)) = decide (rs = qs) := by
  have h := PySem.W.Datum.eqv (rs.map tpI) (qs.map tpI)
  have e : ∀ xs : List (List Int), PySem.W.Datum.toD (xs.map tpI) = PyData.list (xs.map pyR3) := fun xs => by
    show PyData.list ((xs.map tpI).map PySem.W.Datum.toD) = _
    rw [List.map_map]
    rfl
  rw [e, e] at h
  rw [h]
  refine decide_eq_decide.mpr ⟨fun k => ?_, fun k => by rw [k]⟩
  have := congrArg (List.map PySem.W.Tup.items) k
  rw [List.map_map, List.map_map] at this
  rw [show (PySem.W.Tup.items ∘ tpI) = id from rfl, List.map_id, List.map_id] at this
  exact this
theorem pyT_rows {S : Sg} (rs : List (List Int)) : pyT S (.lst (rs.map rowT)) = some (.list (rs.map pyR3)) := by
  unfold pyT pyD
  dsimp only
  rw [pyL_map (f := pyR3) (g := rowT) pyR3_ok]
  rfl
theorem none_shaped : SeqAt.shaped .none = true := by
  unfold SeqAt.shaped PyData.canLay0 PyData.depth
  rfl
theorem x_eqRows {S : Sg} {rs qs : List (List Int)} {Q : D → Sg → Prop} (q : Q (.bl (decide (rs = qs))) S) : W (eqDO (.lst (rs.map rowT)) (.lst (qs.map rowT)) S) Q := by
  refine ⟨_, _, ?_, q⟩
  unfold eqDO deepO
  rw [pyT_rows, pyT_rows]
  show (if (SeqAt.shaped _ && SeqAt.shaped _) = true then _ else _) = _
  rw [pyR3_shaped, pyR3_shaped, if_pos (by rfl)]
  show some (D.bl (PyData.eqv _ _), S) = _
  rw [pyR3_eqv]
theorem x_eqNone {S : Sg} {rs : List (List Int)} {Q : D → Sg → Prop} (q : Q (.bl false) S) : W (eqDO (.lst (rs.map rowT)) .non S) Q := by
  refine ⟨_, _, ?_, q⟩
  unfold eqDO deepO
  rw [pyT_rows, show pyT S .non = some .none from by unfold pyT pyD; rfl]
  show (if (SeqAt.shaped _ && SeqAt.shaped _) = true then _ else _) = _
  rw [pyR3_shaped, none_shaped, if_pos (by rfl)]
  show some (D.bl (PyData.eqv _ _), S) = _
  unfold PyData.eqv
  rfl
/-! ### the same -/
theorem kc1 : kitB "str" "list" = some false := by decide +kernel
theorem kc2 : kitB "int" "list" = some false := by decide +kernel
theorem kc3 : kitB "int" "tuple" = some false := by decide +kernel
theorem kc4 : kitB "str" "tuple" = some false := by decide +kernel
theorem kc5 : kitB "list" "tuple" = some false := by decide +kernel
theorem kc6 : kitB "str" "bool" = some false := by decide +kernel
theorem kl3 : kitL "int" ["list", "tuple"] = some false := by decide +kernel
theorem kl4 : kitL "str" ["list", "tuple"] = some false := by decide +kernel
theorem kl5 : kitL "int" ["str", "bool"] = some false := by decide +kernel
theorem kl6 : kitL "str" ["str", "bool"] = some true := by decide +kernel
theorem ty3 : tysOf [.ty "str", .ty "bool"] = some ["str", "bool"] := rfl
theorem same_int (c : Cs) (n : Nat) (S : Sg) (i : Int) : F_Lsame c (n + 1) [.int i, .int i] S = some (.bl true, S) := by
  have h1 := kl3
  have h2 := kl5
  have h3 := ty2
  have h4 := ty3
  have h5 := kb1
  have h6 := kb2
  have h7 : decide (i = i) = true := decide_eq_true rfl
  unfold F_Lsame
  walk_at "ev*"
  exact fin_eq _ _ rfl
theorem same_str (c : Cs) (n : Nat) (S : Sg) (i : Str) : F_Lsame c (n + 1) [.str i, .str i] S = some (.bl true, S) := by
  have h1 := kl4
  have h2 := kl6
  have h3 := ty2
  have h4 := ty3
  have h5 := kc6
  have h7 : decide (i = i) = true := decide_eq_true rfl
  have h8 : isNoneB (.str i) = false := rfl
  have h9 : decide (false = false) = true := rfl
  unfold F_Lsame
  walk_at "ev*"
  exact fin_eq _ _ rfl
theorem zipL_self (ds : List D) : zipL ds ds = ds.map fun d => .tup [d, d] := by
  unfold zipL
  induction ds with
  | nil => rfl
  | cons d ds ih => rw [List.zipWith_cons_cons, ih]; rfl
theorem zp_tup (S : Sg) (ds : List D) : zpK2 [.tup ds, .tup ds] S = some (ds.map fun d => .tup [d, d]) := by
  show (none : Option (List D)).or (if ds.length = ds.length then some (zipL ds ds) else none) = _
  rw [if_pos rfl, zipL_self]
  rfl
theorem zp_lst (S : Sg) (ds : List D) : zpK2 [.lst ds, .lst ds] S = some (ds.map fun d => .tup [d, d]) := by
  show (if ds.length = ds.length then some (zipL ds ds) else none).or _ = _
  rw [if_pos rfl, zipL_self]
  rfl
theorem all_true (ds : List D) : blsOf (ds.map fun _ => D.bl true) = some (ds.map fun _ => true) ∧ (ds.map fun _ => true).all id = true := by
  refine ⟨?_, by simp⟩
  rw [show (ds.map fun _ => D.bl true) = (ds.map fun _ => true).map D.bl by simp only [List.map_map]; rfl]
  exact blsOf_map _
theorem same_items (c : Cs) {n : Nat} {S : Sg} {ds : List D} {x : D} {δ0 δ1 : Option D} (hz : zpK2 [x, x] S = some (ds.map fun d => .tup [d, d])) (h : ∀ d ∈ ds, F_Lsame c n [d, d] S = some (.bl true, S)) :
    lcGo zpK2 [x, x] (ds.map fun d => .tup [d, d]) (tupG 2 (consG (nmG 2) (consG (nmG 3) nilG))) yesT (fnD (F_Lsame c n) [] (consA (varD 2) (consA (varD 3) nilA))) [δ0, δ1, none, none] (ds.map fun d => .tup [d, d]) [] S = some (ds.map fun _ => .bl true, S) := by
  have := lcGo_map (k := zpK2) (ds := [x, x]) (items := ds.map fun d => .tup [d, d]) (g := tupG 2 (consG (nmG 2) (consG (nmG 3) nilG))) (c := yesT) (f := fnD (F_Lsame c n) [] (consA (varD 2) (consA (varD 3) nilA))) (δ := [δ0, δ1, none, none]) (S := S) (h := fun _ => .bl true) hz (r := ds.map fun d => .tup [d, d]) (acc := []) (fun y hy => by
    obtain ⟨d, hd, rfl⟩ := List.mem_map.mp hy
    have hh := h d hd
    refine mapC' (δ' := [δ0, δ1, some d, some d]) rfl ?_
    walk_at "ev*")
  rw [this, List.map_map]
  rfl
theorem same_tup (c : Cs) {n : Nat} {S : Sg} {ds : List D} (hl : ds.length < 1000) (h : ∀ d ∈ ds, F_Lsame c n [d, d] S = some (.bl true, S)) : F_Lsame c (n + 1) [.tup ds, .tup ds] S = some (.bl true, S) := by
  have q := same_items c (δ0 := some (.tup ds)) (δ1 := some (.tup ds)) (zp_tup S ds) h
  have h1 := kl2
  have h3 := ty2
  have h5 := kb4
  have h6 := kb5
  have h7 : decide (false = false) = true := rfl
  have h8 : decide (true = true) = true := rfl
  have h9 : decide ((ds.length : Int) = (ds.length : Int)) = true := decide_eq_true rfl
  obtain ⟨a1, a2⟩ := all_true ds
  have hz := zp_tup S ds
  have hlim : (ds.map fun d => D.tup [d, d]).length < 1000000 := by rw [List.length_map]; omega
  have hw : wipeD [some (.tup ds), some (.tup ds), none, none] [2, 3] = [some (.tup ds), some (.tup ds), none, none] := rfl
  clear h
  unfold F_Lsame
  walk_at "ev*"
  exact fin_eq _ _ rfl
theorem same_lst (c : Cs) {n : Nat} {S : Sg} {ds : List D} (hl : ds.length < 1000) (h : ∀ d ∈ ds, F_Lsame c n [d, d] S = some (.bl true, S)) : F_Lsame c (n + 1) [.lst ds, .lst ds] S = some (.bl true, S) := by
  have q := same_items c (δ0 := some (.lst ds)) (δ1 := some (.lst ds)) (zp_lst S ds) h
  have h1 := kl1
  have h3 := ty2
  have h5 := kb3
  have h6 := kc5
  have h7 : decide (false = false) = true := rfl
  have h8 : decide (true = true) = true := rfl
  have h9 : decide ((ds.length : Int) = (ds.length : Int)) = true := decide_eq_true rfl
  obtain ⟨a1, a2⟩ := all_true ds
  have hz := zp_lst S ds
  have hlim : (ds.map fun d => D.tup [d, d]).length < 1000000 := by rw [List.length_map]; omega
  have hw : wipeD [some (.lst ds), some (.lst ds), none, none] [2, 3] = [some (.lst ds), some (.lst ds), none, none] := rfl
  clear h
  unfold F_Lsame
  walk_at "ev*"
  exact fin_eq _ _ rfl
/-! ### k44: what comes of shares (from k39) -/
def resT : Nat × Nat ⊕ Int → D
  | .inl (j, n) => .tup [.str "burnt", .int (j : Int), .int (n : Int)]
  | .inr w => .tup [.str "kept", .int w]
theorem w_forR {k : Ik} {f : FA} {g : FG} {body : FS} {δ : Dl} {S : Sg} {Q : Fl → Dl → Sg → Prop} {ds : List D} (m : Nat) (e : Nat → D) (I : Nat → Dl → Sg → Prop)
    (hf : W (f δ S) fun ds' S1 => ds' = ds ∧ I 0 δ S1) (hk : ∀ i δ S, I i δ S → k ds S = some ((List.range m).map e))
    (hs : ∀ i δ S, i < m → I i δ S → WG (g (e i) δ S) fun δ1 S1 => WS (body δ1 S1) (Tn Q (I (i + 1))))
    (hq : ∀ δ S, I m δ S → Q .nx δ S) : WS (forS k f g body δ S) Q := by
  refine w_forT (List.range m) e (fun pre δ S => I pre.length δ S) hf (fun _ _ S p => hk _ _ _ p) ?_ (fun δ S p => hq δ S (by rw [List.length_range] at p; exact p))
  intro pre x post δ S hx p
  have hi : pre.length < (List.range m).length := by rw [hx, List.length_append, List.length_cons]; omega
  have hxx : x = pre.length := by
    have h1 : (List.range m)[pre.length]? = some x := by rw [hx, List.getElem?_append_right (Nat.le_refl _), Nat.sub_self]; rfl
    rw [List.getElem?_eq_getElem hi, List.getElem_range] at h1
    exact (Option.some.inj h1).symm
  subst hxx
  rw [List.length_range] at hi
  have := hs pre.length δ S hi p
  rw [List.length_append]
  exact this
theorem asked_sh (c : Cs) {sh : List Sh} (hk : Sk sh) {p n : Nat} (hb : (sh.getD p shz).b < 1000000) (hp : (sh.getD p shz).p < 1000000) (S : Sg) : F_Lasked_at c [shT (sh.getD p shz), .int (n : Int)] S = some (.int (aK sh p n), S) := by
  have b0 := hk.b0 p
  have p0 := hk.p0 p
  have main : W (F_Lasked_at c [shT (sh.getD p shz), .int (n : Int)] S) fun d Z => d = .int (aK sh p n) ∧ Z = S := by
    unfold F_Lasked_at B_Lasked_at shT
    refine w_body1 ?_
    walk_at "w"
    exact w_finL rfl ⟨rfl, rfl⟩
  obtain ⟨_, _, e, rfl, rfl⟩ := main
  exact e
theorem shz_ok : Sk1 shz := ⟨by decide, by decide, by decide, by decide, by decide, by decide, by decide, by decide⟩
theorem sk_at {sh : List Sh} (h : ∀ s ∈ sh, Sk1 s) (i : Nat) : Sk1 (sh.getD i shz) := by
  rw [List.getD_eq_getElem?_getD]
  cases e : sh[i]? with
  | none => exact shz_ok
  | some s => exact h s (List.mem_of_getElem? e)
theorem sk_of {sh : List Sh} (h : ∀ s ∈ sh, Sk1 s) : Sk sh :=
  ⟨fun i => by have := (sk_at h i).b0; omega, fun i => by have := (sk_at h i).p0; omega, fun i => (sk_at h i).w0, fun i => (sk_at h i).w20, fun i => (sk_at h i).f0⟩
theorem div60 {b : Nat} (h0 : 1 ≤ b) (h6 : b ≤ 6) : b ∣ 60 := by
  rcases (show b = 1 ∨ b = 2 ∨ b = 3 ∨ b = 4 ∨ b = 5 ∨ b = 6 by omega) with rfl | rfl | rfl | rfl | rfl | rfl <;> decide
theorem cb_dvd : ∀ {sh : List Sh} {a : Nat}, (∀ s ∈ sh, Sk1 s) → a ∣ 60 → 0 < a → (sh.foldl (fun a s => a / Nat.gcd a s.b.toNat * s.b.toNat) a) ∣ 60 ∧ 0 < (sh.foldl (fun a s => a / Nat.gcd a s.b.toNat * s.b.toNat) a) ∧ a ∣ (sh.foldl (fun a s => a / Nat.gcd a s.b.toNat * s.b.toNat) a) ∧ ∀ s ∈ sh, s.b.toNat ∣ (sh.foldl (fun a s => a / Nat.gcd a s.b.toNat * s.b.toNat) a)
  | [], a, _, h, h0 => ⟨h, h0, Nat.dvd_refl a, fun s hs => by cases hs⟩
  | s :: sh, a, hs, h, h0 => by
    have k := hs s (List.mem_cons_self ..)
    have hb : 1 ≤ s.b.toNat ∧ s.b.toNat ≤ 6 := by
      have := k.b0
      have := k.b6
      omega
    rw [List.foldl_cons]
    generalize hbs : s.b.toNat = b at hb
    have hg : 0 < Nat.gcd a b := Nat.gcd_pos_of_pos_left _ h0
    obtain ⟨x, hx⟩ := Nat.gcd_dvd_left a b
    obtain ⟨y, hy⟩ := Nat.gcd_dvd_right a b
    have e : a / Nat.gcd a b * b = Nat.lcm a b := by
      have e1 : a / Nat.gcd a b = x := Nat.div_eq_of_eq_mul_right hg hx
      rw [e1]
      unfold Nat.lcm
      refine (Nat.div_eq_of_eq_mul_right hg ?_).symm
      rw [← Nat.mul_assoc, ← hx]
    rw [e]
    have l60 : Nat.lcm a b ∣ 60 := Nat.lcm_dvd h (div60 hb.1 hb.2)
    obtain ⟨h1, h2, h3, h4⟩ := cb_dvd (a := Nat.lcm a b) (fun z hz => hs z (List.mem_cons_of_mem _ hz)) l60 (Nat.lcm_pos h0 (by omega))
    refine ⟨h1, h2, Nat.dvd_trans (Nat.dvd_lcm_left a b) h3, fun z hz => ?_⟩
    rcases List.mem_cons.mp hz with rfl | hz
    · rw [hbs]
      exact Nat.dvd_trans (Nat.dvd_lcm_right a b) h3
    · exact h4 z hz
theorem dv_of {sh : List Sh} (h : ∀ s ∈ sh, Sk1 s) {P : Nat} (hP : 0 < P) (hd : ∀ s ∈ sh, s.b.toNat ∣ P) : Dv sh P := by
  refine ⟨hP, fun i hi => ?_⟩
  have hm : sh.getD i shz ∈ sh := sh_mem hi
  have k := h _ hm
  obtain ⟨q, hq⟩ := hd _ hm
  refine ⟨q, ?_⟩
  have b0 := k.b0
  have e : ((sh.getD i shz).b.toNat : Int) = (sh.getD i shz).b := Int.toNat_of_nonneg (by omega)
  rw [hq, Int.natCast_mul, e, Int.mul_comm]
theorem begin_ex {sh : List Sh} (h : ∀ s ∈ sh, Sk1 s) (h1 : 1 ≤ sh.length) : ∃ b0 : Nat, maxI (sh.map (·.fi)) = some (b0 : Int) ∧ b0 ≤ 40 ∧ Beg sh b0 := by
  cases sh with
  | nil => exact absurd h1 (by decide)
  | cons x r =>
    obtain ⟨k1, k2, k3⟩ := foldmax_le (r.map (·.fi)) x.fi
    have kx := h x (List.mem_cons_self ..)
    have hv : 0 ≤ (r.map (·.fi)).foldl (fun a b : Int => if b > a then b else a) x.fi := by
      have := kx.f0
      omega
    have e : maxI ((x :: r).map (·.fi)) = some ((r.map (·.fi)).foldl (fun a b : Int => if b > a then b else a) x.fi) := rfl
    generalize (r.map (·.fi)).foldl (fun a b : Int => if b > a then b else a) x.fi = v at *
    obtain ⟨n, rfl⟩ := Int.eq_ofNat_of_zero_le hv
    refine ⟨n, e, ?_, fun i hi => ?_⟩
    · rcases k3 with k3 | k3
      · have := kx.f40
        omega
      · obtain ⟨s, hs, k4⟩ := List.mem_map.mp k3
        have := (h s (List.mem_cons_of_mem _ hs)).f40
        omega
    · rcases List.mem_cons.mp (sh_mem hi) with e2 | e2
      · rw [e2]
        exact k1
      · exact k2 _ (List.mem_map_of_mem e2)
theorem shs_gen {sh : List Sh} {d : D} (e : Sh → D) (hd : ∀ Z, sqOf Z d = some (sh.map e)) (he : ∀ s Z, tupleO [e s] Z = some (shT s, Z)) (h : sh.length < 100000) : Shs d sh := ⟨⟨e, hd, he⟩, h⟩
theorem same_res (c : Cs) (n : Nat) (S : Sg) (r : Nat × Nat ⊕ Int) : F_Lsame c (n + 2) [resT r, resT r] S = some (.bl true, S) := by
  rcases r with ⟨j, k⟩ | w
  · refine same_tup c (show 3 < 1000 by decide) fun d hd => ?_
    rcases List.mem_cons.mp hd with rfl | hd
    · exact same_str c _ S _
    rcases List.mem_cons.mp hd with rfl | hd
    · exact same_int c _ S _
    · obtain rfl := List.mem_singleton.mp hd
      exact same_int c _ S _
  · refine same_tup c (show 2 < 1000 by decide) fun d hd => ?_
    rcases List.mem_cons.mp hd with rfl | hd
    · exact same_str c _ S _
    · obtain rfl := List.mem_singleton.mp hd
      exact same_int c _ S _
section
variable {c : Cs} {S : Sg} {sh : List Sh} {m : Nat} {d : D}
theorem fire_ok (h : ∀ s ∈ sh, Sk1 s) (h1 : 1 ≤ sh.length) (h6 : sh.length ≤ 6) (hm : m ≤ 4) (hs : Shs d sh) (hc : Cl S) : ∃ r, F_for_ever c [d, .int (m : Int)] S = some (resT r, S) ∧ Res sh m r := by
  have hk := sk_of h
  obtain ⟨b0, hmx, hb0, hbg⟩ := begin_ex h h1
  obtain ⟨c1, c2, _, c4⟩ := cb_dvd h (Nat.one_dvd 60) (by decide)
  have c1 : cbN sh ∣ 60 := c1
  have c2 : 0 < cbN sh := c2
  have cb := Nat.le_of_dvd (by decide) c1
  have d := dv_of h c2 c4
  have hf := f00_pt (m := m) (f00 sh) rfl
  obtain ⟨R, hE⟩ := ends_ex hk d hbg (by omega) (by omega) hm (g := upF sh m b0 (f00 sh)) (by rw [hf])
  have ok : FiOk sh (f00 sh) := f00_ok (by omega) (fun s hs => by have := (h s hs).b0; have := (h s hs).b6; omega) (fun s hs => by have := (h s hs).p0; have := (h s hs).p6; omega)
  have hE2 : Ends sh m (cbN sh) (upF sh m b0 (f00 sh)) R := by
    refine ⟨hE.few, hE.go, ?_⟩
    rcases hE.fin with ⟨j, n, e1, e2, _⟩ | ⟨e1, e2, e3, _⟩
    · exact .inl ⟨j, e1, e2⟩
    · exact .inr ⟨e1, e2, e3⟩
  have e := ever_ok c (m := m) hs ok (by omega) hmx (by omega) (by omega) (g := upF sh m b0 (f00 sh)) rfl hE2 hc
  rcases hE.fin with ⟨j, n, e1, e2, e3, e4⟩ | ⟨e1, e2, e3, e4⟩
  · refine ⟨.inl (j, n), ?_, e4⟩
    rw [e]
    unfold endD
    rw [e2]
    show some (D.tup [.str "burnt", .int (j : Int), .int ((rndF sh m (cbN sh) (upF sh m b0 (f00 sh)) R).nu.getD ((j : Int).toNat) 0)], S) = _
    rw [Int.toNat_natCast, e3]
    rfl
  · refine ⟨.inr _, ?_, e4⟩
    rw [e]
    unfold endD
    rw [e1]
    rfl
end
theorem dv60 {sh : List Sh} (h : ∀ s ∈ sh, Sk1 s) : Dv sh 60 := dv_of h (by decide) fun s hs => by
  have := (h s hs).b0
  have := (h s hs).b6
  exact div60 (by omega) (by omega)
theorem x_neS {S : Sg} {Q : D → Sg → Prop} {i j : Str} (q : Q (.bl (!decide (i = j))) S) : W (neO (.str i) (.str j) S) Q := ⟨_, _, rfl, q⟩
theorem fin_top2 {S : Sg} {Q : D → Sg → Prop} (q : ∀ S', Q (.bl true) S') : W (fin 0 (.bl true) S) Q := by
  by_cases hz : S.length = 0
  · exact ⟨_, _, fin_eq _ _ hz, q _⟩
  · exact ⟨_, _, z_fin hz (frzG_old _ rfl) (by rw [List.take_zero]; rfl), q _⟩
/-! ### the wishes mixed -/
theorem wl_listN {A : Sg} {L : List Ob} {N : Nat} {Q : D → Sg → Prop} (hl : A.length = N) {d : D} {xs : List D} (h : sqOf (A ++ L) d = some xs) (q : Q (.loc (N + L.length)) (A ++ (L ++ [.lst xs]))) : W (listN [d] (A ++ L)) Q := by
  refine ⟨_, _, ?_, q⟩
  unfold listN
  dsimp only
  rw [h, Option.bind_some, List.length_append, hl, List.append_assoc]
theorem erase_map {α β : Type} (f : α → β) : ∀ (l : List α) (j : Nat), (l.eraseIdx j).map f = (l.map f).eraseIdx j
  | [], _ => rfl
  | _ :: _, 0 => rfl
  | a :: l, j + 1 => by
    show f a :: (l.eraseIdx j).map f = _
    rw [erase_map f l j]
    rfl
theorem erase_perm {α : Type} : ∀ (l : List α) {j : Nat} (h : j < l.length), (l[j] :: l.eraseIdx j).Perm l
  | a :: l, 0, _ => List.Perm.refl _
  | a :: l, j + 1, h => by
    show (l[j]'(by simpa using h) :: a :: l.eraseIdx j).Perm (a :: l)
    exact (List.Perm.swap _ _ _).trans (List.Perm.cons a (erase_perm l (by simpa using h)))
/-! ### least_mouth -/
theorem inF_none : ∀ l : List (Option Int), inF .non (l.map lifeD) = decide (none ∈ l)
  | [] => rfl
  | none :: r => by
    rw [decide_eq_true (List.mem_cons_self ..)]
    rfl
  | some x :: r => by
    have ih := inF_none r
    show inF .non (r.map lifeD) = _
    rw [ih, decide_eq_decide]
    simp
theorem flat_life (l : List (Option Int)) : (l.map lifeD).all flatD = true := by
  rw [List.all_map, List.all_eq_true]
  intro o _
  cases o <;> rfl
/-! ### k44: another order -/
def rwS (s : Sh) : List Int := [s.b, s.p, s.fi, s.wd]
theorem shT_rows (sh : List Sh) : sh.map shT = (sh.map rwS).map rowT := by
  rw [List.map_map]
  rfl
theorem mixed_ok (c : Cs) {S : Sg} {t : Nat} {b n : Int} (h : Tp S t b n) (hn : n ≤ 700000) (hc : Cl S) {ws : List Sh} (hlen : ws.length ≤ 1000) : ∃ (vs : List Sh) (Z : Sg), F_Lmixed c [.loc t, .lst (ws.map shT)] S = some (.lst (vs.map shT), Z) ∧ vs.Perm ws ∧ Sa S t b (n + 1000) Z := by
  have main : W (F_Lmixed c [.loc t, .lst (ws.map shT)] S) fun d Z => ∃ vs : List Sh, d = .lst (vs.map shT) ∧ vs.Perm ws ∧ Sa S t b (n + 1000) Z := by
    have hs := h.sa
    have hl := hs.len
    unfold F_Lmixed B_Lmixed
    refine w_body ?_
    walk_at "w"
    refine wl_listN hl (sqv_lst ..) ?_
    walk_at "w"
    refine w_while (fun m δ Z => ∃ (A : Sg) (rest done : List Sh), δ = [some (.loc t), some (.lst (ws.map shT)), some (.loc (S.length + 0)), some (.loc (S.length + 1))] ∧ Z = A ++ [.lst (rest.map shT), .lst (done.map shT)] ∧ (done ++ rest).Perm ws ∧ Sa S t b (n + (done.length : Int)) A ∧ m = rest.length) ws.length (by omega) ?_ ?_
    · exact ⟨S, ws, [], rfl, rfl, List.Perm.refl _, hs.mono (by simp), rfl⟩
    · rintro m δ Z ⟨A, rest, done, rfl, rfl, hp, hs, rfl⟩
      have hl := hs.len
      have hpl := hp.length_eq
      rw [List.length_append] at hpl
      have hsz : (done.map shT).length < 1000000 := by
        rw [List.length_map]; omega
      have hpy : pyT (A ++ [.lst (rest.map shT), .lst (done.map shT)]) (.loc (S.length + 0)) = some (.list ((rest.map rwS).map pyR3)) := by
        unfold pyT
        dsimp only
        rw [wl_ls (L := [.lst (rest.map shT), .lst (done.map shT)]) hl (k := 0) rfl, Option.bind_some, shT_rows, pyL_map (f := pyR3) (g := rowT) pyR3_ok]
        rfl
      walk_at "w"
      refine x_neNil hpy (pyR3_shaped _) ?_
      walk_at "w"
      refine br_c (fun hne => ?_) (fun hem => ?_)
      · have h0 : 0 < rest.length := by
          cases rest with
          | nil => exact absurd hne (by decide)
          | cons a r => exact Nat.succ_pos _
        walk_at "w"
        refine w_draw c hs (by omega) (by rw [List.length_map]; omega) (by rw [List.length_map]; omega) fun r A r0 r1 hs hl => ?_
        rw [List.length_map] at r1
        obtain ⟨j, rfl⟩ := Int.eq_ofNat_of_zero_le r0
        have hj : j < rest.length := by omega
        have hat : (rest.map shT)[j]? = some (shT rest[j]) := by
          rw [List.getElem?_map, List.getElem?_eq_getElem hj]
          rfl
        walk_at "w"
        refine wl_popAt hl rfl hat (by omega) ?_
        walk_at "w"
        refine ⟨(rest.eraseIdx j).length, by rw [List.length_eraseIdx, if_pos hj]; omega, A, rest.eraseIdx j, done ++ [rest[j]], rfl, ?_, ?_, hs.mono (by rw [List.length_append]; show _ ≤ n + ((done.length + 1 : Nat) : Int); omega), rfl⟩
        · rw [List.map_append, erase_map]
          rfl
        · refine List.Perm.trans ?_ hp
          rw [List.append_assoc]
          exact List.Perm.append_left done (erase_perm rest hj)
      · have h0 : rest = [] := by
          cases rest with
          | nil => rfl
          | cons a r => exact absurd hem (by simp)
        subst h0
        walk_at "w"
        refine wl_fin hl (x := .lst (done.map shT)) (List.cons_ne_nil _ _) ?_ (by rw [← hl]; exact hs.cl hc) ⟨done, rfl, ?_, hs.mono (by have := hp.length_eq; rw [List.length_append] at this; omega)⟩
        · exact z_loc (by omega) (z_pl (by rw [al_get hl]; rfl) (frzL_old _ (oldL_map fun _ _ => rfl)))
        · rw [List.append_nil] at hp
          exact hp
  obtain ⟨d, Z, e, vs, rfl, h1, h2⟩ := main
  exact ⟨vs, Z, e, h1, h2⟩
/-! ### k44: later, so many times as many, in another order -/
theorem getD_map {sh : List Sh} (f : Sh → Sh) {i : Nat} (hi : i < sh.length) : (sh.map f).getD i shz = f (sh.getD i shz) := by
  rw [List.getD_eq_getElem?_getD, List.getElem?_map, List.getElem?_eq_getElem hi, List.getD_eq_getElem?_getD, List.getElem?_eq_getElem hi]
  rfl
def ltr (y : Int) (s : Sh) : Sh := ⟨s.b, s.p, s.fi + y, s.wd⟩
def oft (o : Int) (s : Sh) : Sh := ⟨o * s.b, o * s.p, s.fi, s.wd⟩
theorem sim_ltr {sh : List Sh} (y : Nat) : Sim sh (sh.map (ltr (y : Int))) y := by
  have a : ∀ i n, i < sh.length → aK (sh.map (ltr (y : Int))) i n = aK sh i n + y := fun i n hi => by
    unfold aK askF
    rw [getD_map _ hi]
    show (sh.getD i shz).fi + (y : Int) + (n : Int) * (sh.getD i shz).b / (sh.getD i shz).p = _
    omega
  refine ⟨List.length_map .., a, fun i n hi => ?_⟩
  have := a i n hi
  unfold lK
  rw [this, getD_map _ hi]
  show _ + (sh.getD i shz).wd = _
  omega
theorem sim_oft {sh : List Sh} {o : Int} (ho : 0 < o) : Sim sh (sh.map (oft o)) 0 := by
  have a : ∀ i n, i < sh.length → aK (sh.map (oft o)) i n = aK sh i n := fun i n hi => by
    unfold aK askF
    rw [getD_map _ hi]
    show (sh.getD i shz).fi + (n : Int) * (o * (sh.getD i shz).b) / (o * (sh.getD i shz).p) = _
    rw [Int.mul_left_comm, Int.mul_ediv_mul_of_pos _ _ ho]
  refine ⟨List.length_map .., fun i n hi => by rw [a i n hi]; simp, fun i n hi => ?_⟩
  have := a i n hi
  unfold lK
  rw [this, getD_map _ hi]
  show _ + (sh.getD i shz).wd = _
  simp
theorem max_ex {xs : List Int} (h0 : xs ≠ []) {lo hi : Int} (h : ∀ x ∈ xs, lo ≤ x ∧ x ≤ hi) : ∃ M, maxI xs = some M ∧ lo ≤ M ∧ M ≤ hi ∧ ∀ x ∈ xs, x ≤ M := by
  cases xs with
  | nil => exact absurd rfl h0
  | cons x r =>
    obtain ⟨k1, k2, k3⟩ := foldmax_le r x
    refine ⟨_, rfl, ?_, ?_, fun z hz => ?_⟩
    · have := (h x (List.mem_cons_self ..)).1
      omega
    · rcases k3 with k3 | k3
      · have := (h x (List.mem_cons_self ..)).2
        omega
      · exact (h _ (List.mem_cons_of_mem _ k3)).2
    · rcases List.mem_cons.mp hz with rfl | hz
      · exact k1
      · exact k2 z hz
theorem kc9 : kitB "tuple" "tuple" = some true := by decide +kernel
theorem isi_tt {S : Sg} (ds : List D) : isiO [.tup ds, .ty "tuple"] S = some (.bl true, S) := by
  unfold isiO
  dsimp only
  rw [tyv_tup, Option.bind_some, kc9]
  rfl
theorem res_tup (r : Nat × Nat ⊕ Int) : ∃ ds, resT r = .tup ds := by
  rcases r with ⟨j, n⟩ | w
  · exact ⟨_, rfl⟩
  · exact ⟨_, rfl⟩
theorem fin_at {S : Sg} {d : D} {Q : D → Sg → Prop} {n : Nat} (hn : S.length = n) (q : Q d S) : W (fin n d S) Q := ⟨d, S, if_pos hn, q⟩
theorem x_slTA {S : Sg} {xs : List D} {lo hi : Option Int} {Q : D → Sg → Prop} (q : Q (.tup (cutD xs lo hi)) S) : W (slTAO (.tup xs) lo hi S) Q := ⟨_, _, rfl, q⟩
def mxS (s : Sh) : Int := if s.p > s.b then s.p else s.b
section
variable {c : Cs} {S : Sg} {sh : List Sh} {m : Nat}
theorem moved_ok (c : Cs) {t : Nat} {b n : Int} (h : Tp S t b n) (hn : n ≤ 600000) (hc : Cl S) (hsh : ∀ s ∈ sh, Sk1 s) (h1 : 1 ≤ sh.length) (h6 : sh.length ≤ 6) (m4 : m ≤ 4) {r : Nat × Nat ⊕ Int} (hr : Res sh m r) :
    ∃ Z, F_Lmoved_right c [.loc t, .lst (sh.map shT), .int (m : Int), resT r] S = some (.bl true, Z) ∧ Sa S t b (n + 1000) Z := by
  have hk := sk_of hsh
  obtain ⟨b0, hmx, hb0, hbg⟩ := begin_ex hsh h1
  have d60 := dv60 hsh
  have hne : sh ≠ [] := fun z => by
    rw [z] at h1
    exact absurd h1 (by decide)
  obtain ⟨M, hM, hM1, hM6, hMx⟩ := max_ex (xs := sh.map mxS) (fun z => hne (List.map_eq_nil_iff.mp z)) (lo := 1) (hi := 6) fun x hx => by
    obtain ⟨s, hs, rfl⟩ := List.mem_map.mp hx
    have k := hsh s hs
    have := k.b0; have := k.b6; have := k.p0; have := k.p6
    unfold mxS
    split <;> omega
  have ho0 : 1 ≤ (6 : Int) / M := (Int.le_ediv_iff_mul_le (by omega)).mpr (by omega)
  have hoM : (6 : Int) / M * M ≤ 6 := Int.ediv_mul_le _ (by omega)
  generalize hoe : (6 : Int) / M = o at ho0 hoM
  have ho6 : o ≤ 6 := by
    have : o * 1 ≤ o * M := Int.mul_le_mul_of_nonneg_left hM1 (by omega)
    omega
  have hoft : ∀ s ∈ sh, Sk1 (oft o s) := fun s hs => by
    have k := hsh s hs
    have hx := hMx _ (List.mem_map_of_mem (f := mxS) hs)
    unfold mxS at hx
    have b0 := k.b0; have p0 := k.p0
    have g1 : o * s.b ≤ o * M := Int.mul_le_mul_of_nonneg_left (by split at hx <;> omega) (by omega)
    have g2 : o * s.p ≤ o * M := Int.mul_le_mul_of_nonneg_left (by split at hx <;> omega) (by omega)
    have g3 : 1 * 1 ≤ o * s.b := Int.mul_le_mul ho0 b0 (by decide) (by omega)
    have g4 : 1 * 1 ≤ o * s.p := Int.mul_le_mul ho0 p0 (by decide) (by omega)
    exact ⟨by show 1 ≤ o * s.b; omega, by show o * s.b ≤ 6; omega, by show 1 ≤ o * s.p; omega, by show o * s.p ≤ 6; omega, k.f0, k.f40, k.w0, k.w20⟩
  obtain ⟨y, hy⟩ : ∃ y : Nat, (40 : Int) - (b0 : Int) = (y : Int) := ⟨40 - b0, by omega⟩
  have hltr : ∀ s ∈ sh, Sk1 (ltr (y : Int) s) := fun s hs => by
    have k := hsh s hs
    have : s.fi ≤ (b0 : Int) := by
      obtain ⟨M2, e, _, _, hle⟩ := max_ex (xs := sh.map (·.fi)) (fun z => hne (List.map_eq_nil_iff.mp z)) (lo := 0) (hi := 40) fun x hx => by
        obtain ⟨s, hs, rfl⟩ := List.mem_map.mp hx
        exact ⟨(hsh s hs).f0, (hsh s hs).f40⟩
      rw [hmx] at e
      cases e
      exact hle _ (List.mem_map_of_mem hs)
    have := k.f0
    exact ⟨k.b0, k.b6, k.p0, k.p6, by show 0 ≤ s.fi + (y : Int); omega, by show s.fi + (y : Int) ≤ 40; omega, k.w0, k.w20⟩
  have all : ∀ {f : Sh → Sh}, (∀ s ∈ sh, Sk1 (f s)) → ∀ s ∈ sh.map f, Sk1 s := fun {f} hf s hs => by
    obtain ⟨s', hs', rfl⟩ := List.mem_map.mp hs
    exact hf s' hs'
  have main : W (F_Lmoved_right c [.loc t, .lst (sh.map shT), .int (m : Int), resT r] S) fun d Z => d = .bl true ∧ Sa S t b (n + 1000) Z := by
    have hs := h.sa
    have hl := hs.len
    unfold F_Lmoved_right B_Lmoved_right
    refine w_body ?_
    walk_at "w"
    refine w_lcA (S1 := S ++ []) (ds := [.lst (sh.map shT)]) sh shT (fun s => .int s.fi) ?_ (k_sql _ _) (by omega) ?_ ?_
    · walk_at "w"
      exact ⟨rfl, rfl⟩
    · intro s _
      walk_at "w"
      refine x_ixt (y := .int s.fi) rfl ?_
      exact ⟨rfl, rfl⟩
    walk_at "w"
    refine x_maxA (ns := sh.map (·.fi)) ?_ hmx ?_
    · rw [sqv_lst, List.map_map]
      rfl
    walk_at "w"
    refine w_lcA (S1 := S ++ []) (ds := [.lst (sh.map shT)]) sh shT (fun s => .int (mxS s)) ?_ (k_sql _ _) (by omega) ?_ ?_
    · walk_at "w"
      exact ⟨rfl, rfl⟩
    · intro s _
      walk_at "w"
      refine x_slTA ?_
      walk_at "w"
      refine x_maxA (ns := [s.b, s.p]) rfl (m := mxS s) rfl ?_
      exact ⟨rfl, rfl⟩
    walk_at "w"
    refine x_maxA (ns := sh.map mxS) ?_ hM ?_
    · rw [sqv_lst, List.map_map]
      rfl
    walk_at "w"
    rw [hoe, hy]
    refine w_lcA (S1 := S ++ []) (ds := [.lst (sh.map shT)]) sh shT (fun s => shT (ltr (y : Int) s)) ?_ (k_sql _ _) (by omega) ?_ ?_
    · walk_at "w"
      exact ⟨rfl, rfl⟩
    · intro s _
      walk_at "w"
      refine x_slTA ?_
      walk_at "w"
      refine x_ixt (y := .int s.fi) rfl ?_
      walk_at "w"
      refine x_ixt (y := .int s.wd) rfl ?_
      walk_at "w"
      refine x_catT (fun z => by cases z) (List.cons_ne_nil _ _) (by show 2 + 2 < 1000000; decide) ?_
      exact ⟨rfl, rfl⟩
    rw [show (fun s => shT (ltr (y : Int) s)) = shT ∘ ltr (y : Int) from rfl, ← List.map_map]
    have hcS : Cl (S ++ []) := by
      rw [List.append_nil]
      exact hc
    obtain ⟨r1, e1, g1⟩ := fire_ok (c := c) (all hltr) (by rw [List.length_map]; exact h1) (by rw [List.length_map]; exact h6) m4 (shs_lst (sh := sh.map (ltr (y : Int))) (by rw [List.length_map]; omega)) hcS
    rw [g1.uni ((sim_ltr y).res hk d60 hbg hb0 (by omega) (by omega) hr)] at e1
    obtain ⟨r2, e2, g2⟩ := fire_ok (c := c) (all hoft) (by rw [List.length_map]; exact h1) (by rw [List.length_map]; exact h6) m4 (shs_lst (sh := sh.map (oft o)) (by rw [List.length_map]; omega)) hcS
    rw [g2.uni ((sim_oft (by omega)).res hk d60 hbg hb0 (by omega) (by omega) hr)] at e2
    walk_at "w"
    refine w_ex e1 ?_
    walk_at "w"
    refine w_ex (same_res c 6 _ _) ?_
    walk_at "w"
    refine w_lcA (S1 := S ++ []) (ds := [.lst (sh.map shT)]) sh shT (fun s => shT (oft o s)) ?_ (k_sql _ _) (by omega) ?_ ?_
    · walk_at "w"
      exact ⟨rfl, rfl⟩
    · intro s hs
      have k := hsh s hs
      have := k.b0; have := k.b6; have := k.p0; have := k.p6
      walk_at "w"
      refine x_ixt (y := .int s.b) rfl ?_
      walk_at "w"
      refine x_ixt (y := .int s.p) rfl ?_
      walk_at "w"
      refine x_slTA ?_
      walk_at "w"
      refine x_catT (List.cons_ne_nil _ _) (fun z => by cases z) (by show 2 + 2 < 1000000; decide) ?_
      exact ⟨rfl, rfl⟩
    rw [show (fun s => shT (oft o s)) = shT ∘ oft o from rfl, ← List.map_map]
    walk_at "w"
    refine w_ex e2 ?_
    walk_at "w"
    refine w_ex (same_res c 6 _ _) ?_
    walk_at "w"
    obtain ⟨vs, Z, em, hp, s2⟩ := mixed_ok c (S := S ++ []) hs.tp.app (by omega) hcS (ws := sh) (by omega)
    have c2 : Cl Z := s2.cl hcS
    rw [List.append_nil] at s2
    have hvs : ∀ s ∈ vs, Sk1 s := fun s hs => hsh s (hp.mem_iff.mp hs)
    obtain ⟨r3, e3, g3⟩ := fire_ok (c := c) hvs (by rw [hp.length_eq]; exact h1) (by rw [hp.length_eq]; exact h6) m4 (shs_lst (sh := vs) (by rw [hp.length_eq]; omega)) c2
    refine w_ex em ?_
    walk_at "w"
    refine w_ex e3 ?_
    obtain ⟨ds, eds⟩ := res_tup r3
    walk_at "w"
    refine w_ex (by rw [eds]; exact isi_tt ds) ?_
    walk_at "w"
    rcases perm_res hk (sk_of hvs) hp hr g3 with ⟨j, n1, j', n2, rfl, rfl, hj, hj', hll⟩ | ⟨w1, w2, rfl, rfl⟩
    · have b6 := (sk_at hsh j); have b7 := (sk_at hvs j')
      unfold resT
      walk_at "w"
      refine x_neS ?_
      rw [decide_eq_true rfl]
      walk_at "w"
      refine x_ixl (atI_sh hj) ?_
      walk_at "w"
      refine x_ixl (atI_sh hj') ?_
      walk_at "w"
      have q1 := b6.b6; have q2 := b6.p6; have q3 := b7.b6; have q4 := b7.p6
      refine w_ex (asked_sh c hk (by omega) (by omega) _) ?_
      walk_at "w"
      refine x_ixt (y := .int (sh.getD j shz).wd) rfl ?_
      walk_at "w"
      refine w_ex (asked_sh c (sk_of hvs) (by omega) (by omega) _) ?_
      walk_at "w"
      refine x_ixt (y := .int (vs.getD j' shz).wd) rfl ?_
      walk_at "w"
      rw [show aK sh j n1 + (sh.getD j shz).wd = aK vs j' n2 + (vs.getD j' shz).wd from hll, decide_eq_true rfl]
      exact fin_at s2.len ⟨rfl, s2.mono (by omega)⟩
    · unfold resT
      walk_at "w"
      refine x_neS ?_
      rw [decide_eq_true rfl]
      walk_at "w"
      exact fin_at s2.len ⟨rfl, s2.mono (by omega)⟩
  obtain ⟨d, Z, e, rfl, h2⟩ := main
  exact ⟨Z, e, h2⟩
end
/-! ### k44: with more room what is kept stays kept -/
theorem kept_burnt {sh : List Sh} {m : Nat} {w : Int} (h : Res sh m (.inr w)) : (∀ T, ¬ Burnt sh m T) ∧ w = WT sh m 100000 := by
  rcases h with ⟨T, j, _, _, e⟩ | ⟨nb, e⟩
  · cases e
  · exact ⟨fun T => nb (T + 1) T (by omega), Sum.inr.inj e⟩
theorem res_kept {sh : List Sh} {m : Nat} {r : Nat × Nat ⊕ Int} (h : Res sh m r) (nb : ∀ T, ¬ Burnt sh m T) : r = .inr (WT sh m 100000) := by
  rcases h with ⟨T, j, _, l, _⟩ | ⟨_, e⟩
  · exact absurd ⟨_, l.lt, l.at_⟩ (nb T)
  · exact e
theorem split_at {sh : List Sh} {a : Nat} (h : a < sh.length) : sh = sh.take a ++ sh[a] :: sh.drop (a + 1) := by
  rw [← List.drop_eq_getElem_cons h, List.take_append_drop]
section
variable {S : Sg} {sh : List Sh} {m : Nat}
theorem kept_ok (c : Cs) {t : Nat} {b n : Int} (h : Tp S t b n) (hn : n ≤ 600000) (hc : Cl S) (hsh : ∀ s ∈ sh, Sk1 s) (h1 : 1 ≤ sh.length) (h6 : sh.length ≤ 6) (m1 : 1 ≤ m) (m4 : m ≤ 4) {r : Nat × Nat ⊕ Int} (hr : Res sh m r) :
    ∃ Z, F_Lkept_right c [.loc t, .lst (sh.map shT), .int (m : Int), resT r] S = some (.bl true, Z) ∧ Sa S t b (n + 1000) Z := by
  have hk := sk_of hsh
  obtain ⟨b0, hmx, hb0, hbg⟩ := begin_ex hsh h1
  have d60 := dv60 hsh
  have main : W (F_Lkept_right c [.loc t, .lst (sh.map shT), .int (m : Int), resT r] S) fun d Z => d = .bl true ∧ Sa S t b (n + 1000) Z := by
    have hs := h.sa
    have hl := hs.len
    unfold F_Lkept_right B_Lkept_right
    refine w_body ?_
    rcases r with ⟨j, k⟩ | w
    · unfold resT
      walk_at "w"
      rw [List.append_nil]
      exact fin_at rfl ⟨rfl, hs.mono (by omega)⟩
    obtain ⟨nb, ew⟩ := kept_burnt hr
    unfold resT
    walk_at "w"
    refine w_draw c hs (by omega) (by rw [List.length_map]; omega) (by rw [List.length_map]; omega) fun a' A a0 a1 hs hl => ?_
    rw [List.length_map] at a1
    obtain ⟨a, rfl⟩ := Int.eq_ofNat_of_zero_le a0
    have ha : a < sh.length := by omega
    have hat : atI (sh.map shT) ((a : Nat) : Int) = some (shT sh[a]) := by
      rw [atI_ofNat, List.getElem?_map, List.getElem?_eq_getElem ha]
      rfl
    have hcA : Cl (A ++ []) := by
      rw [List.append_nil]
      exact hs.cl hc
    walk_at "w"
    refine x_slTA ?_
    walk_at "w"
    refine x_catT (fun z => by cases z) (List.cons_ne_nil _ _) (by show 3 + 1 < 1000000; decide) ?_
    walk_at "w"
    have hsp := split_at ha
    generalize hxs : sh.take a = xs at hsp
    generalize hss : sh[a] = s at hsp
    generalize hys : sh.drop (a + 1) = ys at hsp
    have sm_ : s ∈ sh := by rw [hsp]; simp
    have ks := hsh s sm_
    have hlen : xs.length + 1 + ys.length = sh.length := by
      rw [hsp, List.length_append, List.length_cons]
      omega
    have hwid : ∀ z ∈ xs ++ ⟨s.b, s.p, s.fi, 20⟩ :: ys, Sk1 z := fun z hz => by
      rcases List.mem_append.mp hz with hz | hz
      · exact hsh z (by rw [hsp]; simp [hz])
      rcases List.mem_cons.mp hz with rfl | hz
      · exact ⟨ks.b0, ks.b6, ks.p0, ks.p6, ks.f0, ks.f40, by show (0 : Int) ≤ 20; decide, by show (20 : Int) ≤ 20; decide⟩
      · exact hsh z (by rw [hsp]; simp [hz])
    have hfew : ∀ z ∈ xs ++ ys, Sk1 z := fun z hz => by
      rcases List.mem_append.mp hz with hz | hz
      · exact hsh z (by rw [hsp]; simp [hz])
      · exact hsh z (by rw [hsp]; simp [hz])
    rw [cut_take, ← List.map_take, hxs]
    refine x_addll (by rw [List.length_map]; show xs.length + 1 < 1000000; omega) ?_
    walk_at "w"
    rw [show (a : Int) + 1 = ((a + 1 : Nat) : Int) from rfl, cut_drop, ← List.map_drop, hys]
    refine x_addll (by rw [List.length_append, List.length_map, List.length_map]; show xs.length + 1 + ys.length < 1000000; omega) ?_
    walk_at "w"
    have ewid : xs.map shT ++ [D.tup (cutD [D.int s.b, D.int s.p, D.int s.fi, D.int s.wd] none (some 3) ++ [D.int 20])] ++ ys.map shT = (xs ++ ⟨s.b, s.p, s.fi, 20⟩ :: ys).map shT := by
      rw [List.map_append, List.append_assoc]
      rfl
    rw [ewid]
    have hw20 := ks.w20
    have hb0' := ks.b0
    have hp0' := ks.p0
    obtain ⟨r1, e1, g1⟩ := fire_ok (c := c) hwid (by rw [List.length_append, List.length_cons]; omega) (by rw [List.length_append, List.length_cons]; omega) m4 (shs_lst (sh := xs ++ ⟨s.b, s.p, s.fi, 20⟩ :: ys) (by rw [List.length_append, List.length_cons]; omega)) hcA
    have nb1 : ∀ T, ¬ Burnt (xs ++ ⟨s.b, s.p, s.fi, 20⟩ :: ys) m T := fun T => kept_le hk (sk_of hwid) (Nat.le_refl m) (fun k T => by rw [hsp]; exact wider_le (by omega) (by omega) hw20 k T) (nb T)
    rw [res_kept g1 nb1] at e1
    refine w_ex e1 ?_
    unfold resT
    walk_at "w"
    refine x_neS ?_
    rw [decide_eq_true rfl]
    walk_at "w"
    refine br_d (fun hlt => ?_) (fun hge => ?_)
    · obtain ⟨r3, e3, g3⟩ := fire_ok (c := c) (m := m + 1) hsh h1 h6 (by omega) (shs_lst (sh := sh) (by omega)) hcA
      have nb3 : ∀ T, ¬ Burnt sh (m + 1) T := fun T => kept_le hk hk (by omega) (fun _ _ => Nat.le_refl _) (nb T)
      rw [res_kept g3 nb3] at e3
      have hwl : WT sh (m + 1) 100000 ≤ w := by
        have := wait_le hk (m := m) (m' := m + 1) (t := 100000) (U := 100100) (by omega) (fun T u _ => nb u) (by omega)
        rw [wt_still hk d60 hbg hb0 (by omega) (fun T u _ => nb u) (u := 100100) (v := 100000) (by omega) (by omega)] at this
        rw [ew]
        exact this
      unfold resT at e3
      walk_at "w"
      refine w_ex e3 ?_
      walk_at "w"
      refine x_slTA ?_
      refine w_tupG (ds := [.str "kept", .int (WT sh (m + 1) 100000)]) rfl ?_
      walk_at "w"
      refine x_neS ?_
      rw [decide_eq_true rfl]
      walk_at "w"
      rw [cut_take, ← List.map_take, hxs, show (a : Int) + 1 = ((a + 1 : Nat) : Int) from rfl, cut_drop, ← List.map_drop, hys]
      refine x_addll (by rw [List.length_map, List.length_map]; omega) ?_
      rw [← List.map_append]
      walk_at "w"
      refine w_orV ?_
      walk_at "w"
      rw [shT_rows]
      refine x_eqRows (qs := []) ?_
      walk_at "w"
      refine br_d (fun hf => ?_) (fun hf => ?_)
      · walk_at "w"
        rw [List.append_nil]
        exact fin_at hs.len ⟨rfl, hs.mono (by omega)⟩
      · have hf2 : 1 ≤ (xs ++ ys).length := by
          refine Nat.succ_le_of_lt (List.length_pos_iff.mpr fun z => hf ?_)
          rw [z]
          rfl
        rw [← shT_rows]
        obtain ⟨r2, e2, g2⟩ := fire_ok (c := c) hfew hf2 (by rw [List.length_append]; omega) m4 (shs_lst (sh := xs ++ ys) (by rw [List.length_append]; omega)) hcA
        rw [res_kept g2 fun T => kept_le hk (sk_of hfew) (Nat.le_refl m) (fun k T => by rw [hsp]; exact fewer_le k T) (nb T)] at e2
        walk_at "w"
        refine w_ex e2 ?_
        unfold resT
        walk_at "w"
        rw [List.append_nil]
        exact fin_at hs.len ⟨rfl, hs.mono (by omega)⟩
    · walk_at "w"
      rw [cut_take, ← List.map_take, hxs, show (a : Int) + 1 = ((a + 1 : Nat) : Int) from rfl, cut_drop, ← List.map_drop, hys]
      refine x_addll (by rw [List.length_map, List.length_map]; omega) ?_
      rw [← List.map_append]
      walk_at "w"
      refine w_orV ?_
      walk_at "w"
      rw [shT_rows]
      refine x_eqRows (qs := []) ?_
      walk_at "w"
      refine br_d (fun hf => ?_) (fun hf => ?_)
      · walk_at "w"
        rw [List.append_nil]
        exact fin_at hs.len ⟨rfl, hs.mono (by omega)⟩
      · have hf2 : 1 ≤ (xs ++ ys).length := by
          refine Nat.succ_le_of_lt (List.length_pos_iff.mpr fun z => hf ?_)
          rw [z]
          rfl
        rw [← shT_rows]
        obtain ⟨r2, e2, g2⟩ := fire_ok (c := c) hfew hf2 (by rw [List.length_append]; omega) m4 (shs_lst (sh := xs ++ ys) (by rw [List.length_append]; omega)) hcA
        rw [res_kept g2 fun T => kept_le hk (sk_of hfew) (Nat.le_refl m) (fun k T => by rw [hsp]; exact fewer_le k T) (nb T)] at e2
        walk_at "w"
        refine w_ex e2 ?_
        unfold resT
        walk_at "w"
        rw [List.append_nil]
        exact fin_at hs.len ⟨rfl, hs.mono (by omega)⟩
  obtain ⟨d, Z, e, rfl, h2⟩ := main
  exact ⟨Z, e, h2⟩
end
/-! ### k44: all pieces asked ahead of some beat -/
def rowK (sh : List Sh) (x : Nat × Nat) : Nst := ((x.1 : Int), (x.2 : Int), aK sh x.1 x.2, lK sh x.1 x.2)
def rwK (sh : List Sh) (x : Nat × Nat) : D := nstT (rowK sh x)
theorem leN_row {sh : List Sh} (x y : Nat × Nat) : leN (rowK sh x) (rowK sh y) = decide (x.1 < y.1 ∨ (x.1 = y.1 ∧ x.2 ≤ y.2)) := by
  by_cases h : x = y
  · subst h
    rw [decide_eq_true (by omega)]
    show (!PySem.W.dataLt (encN (rowK sh x)) (encN (rowK sh x))) = true
    rw [PySem.W.dataLt_self]
    rfl
  · have hne : ¬ ((rowK sh x).1 = (rowK sh y).1 ∧ (rowK sh x).2.1 = (rowK sh y).2.1) := fun ⟨h1, h2⟩ => by
      have h1 : (x.1 : Int) = (y.1 : Int) := h1
      have h2 : (x.2 : Int) = (y.2 : Int) := h2
      exact h (Prod.ext (by omega) (by omega))
    rw [leN_ne hne]
    show decide ((x.1 : Int) < (y.1 : Int) ∨ ((x.1 : Int) = (y.1 : Int) ∧ (x.2 : Int) ≤ (y.2 : Int))) = _
    exact decide_eq_decide.mpr (by omega)
theorem rows_sort {sh : List Sh} {B : Nat} {l : List (Nat × Nat)} (hd : l.Nodup) (hm : ∀ i n, (i, n) ∈ l ↔ i < sh.length ∧ aK sh i n < (B : Int)) : ∃ R, ((l.map (rowK sh)).mergeSort leN).map nstT = R.map (rwK sh) ∧ R.length = l.length ∧ Rw sh B R := by
  refine ⟨l.mergeSort fun x y => leN (rowK sh x) (rowK sh y), ?_, (List.mergeSort_perm _ _).length_eq, ?_, fun i n => by rw [List.mem_mergeSort]; exact hm i n⟩
  · rw [← List.map_mergeSort (r := fun x y => leN (rowK sh x) (rowK sh y)) (s := leN) (f := rowK sh) (fun _ _ _ _ => rfl), List.map_map]
    rfl
  · have s := List.pairwise_mergeSort (le := fun x y => leN (rowK sh x) (rowK sh y)) (fun a b c h1 h2 => by
      rw [leN_row, decide_eq_true_iff] at *
      omega) (fun a b => by
      rw [leN_row, leN_row, Bool.or_eq_true, decide_eq_true_iff, decide_eq_true_iff]
      omega) l
    have nd : (l.mergeSort fun x y => leN (rowK sh x) (rowK sh y)).Nodup := (List.mergeSort_perm l _).nodup_iff.mpr hd
    refine (s.and nd).imp fun {x y} ⟨h1, h2⟩ => ?_
    rw [leN_row, decide_eq_true_iff] at h1
    unfold lexP
    rcases h1 with h1 | ⟨h1, h3⟩
    · exact .inl h1
    · exact .inr ⟨h1, Nat.lt_of_le_of_ne h3 fun e => h2 (Prod.ext h1 e)⟩
theorem x_addlc {A : Sg} {L : List Ob} {N k : Nat} {xs ys : List D} {Q : D → Sg → Prop} (hl : A.length = N) (h : L[k]? = some (.lst ys)) (l : xs.length + ys.length < 1000000) (q : Q (.lst (xs ++ ys)) (A ++ L)) : W (addO (.lst xs) (.loc (N + k)) (A ++ L)) Q := by
  refine ⟨_, _, ?_, q⟩
  unfold addO catO
  dsimp only
  rw [show plOf (A ++ L) (.loc (N + k)) = some ys from by rw [plv_loc, al_get hl, h]; rfl]
  show (if Fits _ then _ else _) = _
  rw [if_pos ((fits_iff _).mpr l)]
section
variable {c : Cs} {S : Sg} {sh : List Sh}
theorem wishes_ok (hk : Sk sh) (hK : sh.length ≤ 6) (h6 : ∀ i, (sh.getD i shz).p ≤ 6 ∧ (sh.getD i shz).b ≤ 6) (hc : Cl S) : ∃ R B, F_Lwishes_of c [.lst (sh.map shT), .int 60] S = some (.tup [.lst (R.map (rwK sh)), .int ((B : Nat) : Int)], S) ∧ Rw sh B R ∧ R.length ≤ 200 ∧ B ≤ 60 := by
  have main : W (F_Lwishes_of c [.lst (sh.map shT), .int 60] S) fun d Z => ∃ (R : List (Nat × Nat)) (B : Nat), d = .tup [.lst (R.map (rwK sh)), .int ((B : Nat) : Int)] ∧ Z = S ∧ Rw sh B R ∧ R.length ≤ 200 ∧ B ≤ 60 := by
    have hl : S.length = S.length := rfl
    have old_ : ∀ R : List (Nat × Nat), old S.length (.tup [.lst (R.map (rwK sh)), .int 0]) = true := fun R => by
      show (oldL S.length (R.map (rwK sh)) && true) = true
      rw [oldL_map fun _ _ => rfl]
      rfl
    unfold F_Lwishes_of B_Lwishes_of
    refine w_body ?_
    walk_at "w"
    refine w_forN 60 (fun t δ Z => ∃ (l : List (Nat × Nat)) (M : List Ob) (x4 x5 x6 x7 x8 : Option D), δ = [some (.lst (sh.map shT)), some (.int 60), some (.int (t : Int)), some (.lst ((l.map (rowK sh)).map nstT)), x4, x5, x6, x7, x8] ∧ Z = S ++ M ∧ l.Nodup ∧ (∀ i n, (i, n) ∈ l ↔ i < sh.length ∧ aK sh i n < (t : Int)) ∧ l.length ≤ 200) (by decide) ?_ ?_ ?_
    · walk_at "w"
      refine ⟨rfl, [], [], _, _, _, _, _, rfl, rfl, List.nodup_nil, fun i n => ⟨fun z => (by cases z), fun z => ?_⟩, Nat.zero_le _⟩
      have h1 := aK_fi hk i n
      have h2 := hk.f0 i
      omega
    · rintro t δ Z ht ⟨l, M, x4, x5, x6, x7, x8, rfl, rfl, hd, hm, hll⟩
      walk_at "w"
      refine w_forR sh.length (ds := [.lst (sh.map shT)]) (fun i => .tup [.int (i : Int), shT (sh.getD i shz)]) (fun p δ Z => ∃ (l2 : List (Nat × Nat)) (x6 x7 x8 : Option D), δ = [some (.lst (sh.map shT)), some (.int 60), some (.int (t : Int)), some (.lst ((l.map (rowK sh)).map nstT)), some (.int (t : Int)), some (.loc (S.length + M.length)), x6, x7, x8] ∧ Z = S ++ (M ++ [.lst ((l2.map (rowK sh)).map nstT)]) ∧ l2.Nodup ∧ (∀ i n, (i, n) ∈ l2 ↔ i < p ∧ aK sh i n = (t : Int)) ∧ l2.length ≤ p * (6 * (t + 1))) ?_ ?_ ?_ ?_
      · walk_at "w"
        refine ⟨rfl, [], _, _, _, rfl, rfl, List.nodup_nil, fun i n => ⟨fun z => (by cases z), fun z => (by omega)⟩, Nat.zero_le _⟩
      · intro _ _ Z _
        rw [k_enl]
        congr 1
        refine List.ext_getElem (by simp) fun i h1 h2 => ?_
        have hi : i < sh.length := by simpa using h2
        simp [List.getD_eq_getElem?_getD, List.getElem?_eq_getElem hi]
      · rintro p δ Z hp ⟨l2, x6, x7, x8, rfl, rfl, hd2, hm2, hl2⟩
        refine w_tupG (ds := [.int (p : Int), shT (sh.getD p shz)]) rfl ?_
        walk_at "w"
        have p6 := (h6 p).1; have b6 := (h6 p).2
        refine w_forN (6 * (t + 1)) (fun q δ Z => ∃ (l3 : List (Nat × Nat)) (x8 : Option D), δ = [some (.lst (sh.map shT)), some (.int 60), some (.int (t : Int)), some (.lst ((l.map (rowK sh)).map nstT)), some (.int (t : Int)), some (.loc (S.length + M.length)), some (.int (p : Int)), some (shT (sh.getD p shz)), x8] ∧ Z = S ++ (M ++ [.lst ((l3.map (rowK sh)).map nstT)]) ∧ l3.Nodup ∧ (∀ i n, (i, n) ∈ l3 ↔ (i < p ∧ aK sh i n = (t : Int)) ∨ (i = p ∧ n < q ∧ aK sh i n = (t : Int))) ∧ l3.length ≤ p * (6 * (t + 1)) + q) (by omega) ?_ ?_ ?_
        · walk_at "w"
          refine ⟨congrArg (fun x => [D.int x]) (by omega), l2, _, rfl, rfl, hd2, fun i n => ?_, hl2⟩
          rw [hm2]
          constructor
          · exact .inl
          · rintro (z | ⟨_, z, _⟩)
            · exact z
            · exact absurd z (Nat.not_lt_zero _)
        · rintro q δ Z hq ⟨l3, x8, rfl, rfl, hd3, hm3, hl3⟩
          have hL : (M ++ [Ob.lst ((l3.map (rowK sh)).map nstT)])[M.length]? = some (.lst ((l3.map (rowK sh)).map nstT)) := get_end
          have hbig : l3.length < 1000000 := by
            have : p * (6 * (t + 1)) ≤ 6 * 366 := Nat.mul_le_mul (by omega) (by omega)
            omega
          walk_at "w"
          refine w_ex (asked_sh c hk (by omega) (by omega) _) ?_
          walk_at "w"
          refine br_d (fun he => ?_) (fun hne => ?_)
          · walk_at "w"
            refine x_ixt (y := .int (sh.getD p shz).wd) rfl ?_
            walk_at "w"
            refine ⟨l3 ++ [(p, q)], _, rfl, ?_, List.nodup_append.mpr ⟨hd3, by simp, fun x hx y hy => ?_⟩, fun i n => ?_, by rw [List.length_append]; show l3.length + 1 ≤ _; omega⟩
            · have er : nstT (rowK sh (p, q)) = D.tup [.int (p : Int), .int (q : Int), .tup [.int (t : Int), .int ((t : Int) + (sh.getD p shz).wd)]] := by
                unfold rowK lK
                rw [he]
                rfl
              rw [List.map_append, List.map_append]
              show _ = S ++ (M ++ [Ob.lst (_ ++ [nstT (rowK sh (p, q))])])
              rw [er, List.set_append_right _ _ (Nat.le_refl _), Nat.sub_self]
              rfl
            · obtain rfl := List.mem_singleton.mp hy
              rintro rfl
              rcases (hm3 p q).mp hx with z | z
              · omega
              · omega
            · rw [List.mem_append, List.mem_singleton, hm3]
              constructor
              · rintro ((z | z) | z)
                · exact .inl z
                · exact .inr ⟨z.1, by omega, z.2.2⟩
                · have e1 : i = p := congrArg Prod.fst z
                  have e2 : n = q := congrArg Prod.snd z
                  exact .inr ⟨e1, by omega, by rw [e1, e2]; exact he⟩
              · rintro (z | ⟨z1, z2, z3⟩)
                · exact .inl (.inl z)
                · by_cases hq2 : n = q
                  · exact .inr (Prod.ext z1 hq2)
                  · exact .inl (.inr ⟨z1, by omega, z3⟩)
          · walk_at "w"
            refine ⟨l3, _, rfl, rfl, hd3, fun i n => ?_, by omega⟩
            rw [hm3]
            constructor
            · rintro (z | z)
              · exact .inl z
              · exact .inr ⟨z.1, by omega, z.2.2⟩
            · rintro (z | ⟨z1, z2, z3⟩)
              · exact .inl z
              · refine .inr ⟨z1, ?_, z3⟩
                refine Nat.lt_of_le_of_ne (by omega) fun e => hne ?_
                rw [← e, ← z1]
                exact z3
        · rintro δ Z ⟨l3, x8, rfl, rfl, hd3, hm3, hl3⟩
          walk_at "w"
          refine ⟨l3, _, _, _, rfl, rfl, hd3, fun i n => ?_, by rw [Nat.succ_mul]; exact hl3⟩
          rw [hm3]
          constructor
          · rintro (z | z)
            · exact ⟨by omega, z.2⟩
            · exact ⟨by omega, z.2.2⟩
          · rintro ⟨z1, z2⟩
            rcases Nat.lt_or_ge i p with z3 | z3
            · exact .inl ⟨z3, z2⟩
            · obtain rfl : i = p := by omega
              have h3 := (lt_arr hk (i := i) (n := n) (t := (t : Int))).mpr (by omega)
              have h4 := arr_few hk (i := i) (t := t) p6
              exact .inr ⟨rfl, by omega, z2⟩
      · rintro δ Z ⟨l2, x6, x7, x8, rfl, rfl, hd2, hm2, hl2⟩
        have hL : (M ++ [Ob.lst ((l2.map (rowK sh)).map nstT)])[M.length]? = some (.lst ((l2.map (rowK sh)).map nstT)) := get_end
        obtain ⟨R, hR, hRl, hRw⟩ := rows_sort (B := t) hd hm
        walk_at "w"
        rw [List.length_map, List.length_map, List.length_map, List.length_map]
        refine br_d (fun h200 => ?_) (fun h200 => ?_)
        · walk_at "w"
          refine x_sortN ?_
          rw [hR]
          walk_at "w"
          exact wl_finP hc (old_ R) ⟨R, t, rfl, rfl, hRw, by omega, by omega⟩
        · walk_at "w"
          refine x_addlc hl hL (by simp only [List.length_map]; omega) ?_
          walk_at "w"
          refine ⟨l ++ l2, M ++ [Ob.lst ((l2.map (rowK sh)).map nstT)], some (.int (t : Int)), some (.loc (S.length + M.length)), x6, x7, x8, ?_, rfl, List.nodup_append.mpr ⟨hd, hd2, fun x hx y hy e => ?_⟩, fun i n => ?_, by rw [List.length_append]; omega⟩
          · rw [List.map_append, List.map_append]
            rfl
          · subst e
            have e1 := ((hm x.1 x.2).mp hx).2
            have e2 := ((hm2 x.1 x.2).mp hy).2
            omega
          · rw [List.mem_append, hm, hm2]
            constructor
            · rintro (z | z)
              · exact ⟨z.1, by omega⟩
              · exact ⟨z.1, by omega⟩
            · rintro ⟨z1, z2⟩
              rcases Int.lt_or_le (aK sh i n) (t : Int) with z3 | z3
              · exact .inl ⟨z1, z3⟩
              · exact .inr ⟨z1, by omega⟩
    · rintro δ Z ⟨l, M, x4, x5, x6, x7, x8, rfl, rfl, hd, hm, hll⟩
      obtain ⟨R, hR, hRl, hRw⟩ := rows_sort (B := 60) hd hm
      walk_at "w"
      refine x_sortN ?_
      rw [hR]
      walk_at "w"
      exact wl_finP hc (old_ R) ⟨R, 60, rfl, rfl, hRw, by omega, by decide⟩
  obtain ⟨d, Z, e, R, B, rfl, rfl, h⟩ := main
  exact ⟨R, B, e, h⟩
end
/-! ### k44: turns of all that is asked -/
def wT (w : Int × Int) : D := .tup [.int w.1, .int w.2]
theorem k_zpLst {A : Sg} {N : Nat} {α β : Type} {xs : List α} {ys : List β} {e : α → D} {e' : β → D} {k : Nat} {L : List Ob} (hl : A.length = N) (h : L[k]? = some (.lst (ys.map e'))) (hxy : xs.length = ys.length) : zpK2 [.lst (xs.map e), .loc (N + k)] (A ++ L) = some ((xs.zip ys).map fun p => .tup [e p.1, e' p.2]) := by
  have h1 := k_zpl xs ys e e' hxy (A ++ L)
  unfold zpK2 at h1 ⊢
  dsimp only at h1 ⊢
  rw [wl_ls hl h]
  rw [lsv_lst, lsv_lst] at h1
  exact h1
theorem x_isNLn {S : Sg} {Q : D → Sg → Prop} (o : Option Int) (q : Q (.bl o.isSome) S) : W (isNO true (lifeD o) S) Q := by
  cases o with
  | none => exact x_isN_nn q
  | some i => exact x_isN_ni q
theorem maxI_le {xs : List Int} (h0 : xs ≠ []) {w : Int} (h : ∀ x ∈ xs, x ≤ w) : ∃ M, maxI xs = some M ∧ M ≤ w := by
  cases xs with
  | nil => exact absurd rfl h0
  | cons x r =>
    obtain ⟨_, _, k3⟩ := foldmax_le r x
    refine ⟨_, rfl, ?_⟩
    rcases k3 with k3 | k3
    · have := h x (List.mem_cons_self ..)
      omega
    · exact h _ (List.mem_cons_of_mem _ k3)
theorem pyR3_eq1 (r q : List Int) : PyData.eqv (pyR3 r) (pyR3 q) = decide (r = q) := by
  have h := PySem.W.Datum.eqv (tpI r) (tpI q)
  have e : ∀ r : List Int, PySem.W.Datum.toD (tpI r) = pyR3 r := fun _ => rfl
  rw [e, e] at h
  rw [h]
  refine decide_eq_decide.mpr ⟨fun k => ?_, fun k => by rw [k]⟩
  exact congrArg PySem.W.Tup.items k
theorem row_shaped (r : List Int) : SeqAt.shaped (pyR3 r) = true := by
  have h1 := pyR3_lay r
  have h2 := pyR3_dep r
  unfold SeqAt.shaped
  rw [h1, Bool.true_and]
  exact decide_eq_true (by omega)
theorem x_eqRow {S : Sg} {r q : List Int} {Q : D → Sg → Prop} (k : Q (.bl (decide (r = q))) S) : W (eqDO (rowT r) (rowT q) S) Q := by
  refine ⟨_, _, ?_, k⟩
  have hp : ∀ r : List Int, pyT S (rowT r) = some (pyR3 r) := fun r => by
    have := pyR3_ok r
    unfold rowT at this ⊢
    unfold pyT
    exact this
  unfold eqDO deepO
  rw [hp, hp]
  show (if (SeqAt.shaped _ && SeqAt.shaped _) = true then _ else _) = _
  rw [row_shaped, row_shaped, if_pos (by rfl)]
  show some (D.bl (PyData.eqv _ _), S) = _
  rw [pyR3_eq1]
section
variable {S : Sg} {sh : List Sh} {m : Nat}
theorem turns_right (c : Cs) (hc : Cl S) (hsh : ∀ s ∈ sh, Sk1 s) (h1 : 1 ≤ sh.length) (h6 : sh.length ≤ 6) (m1 : 1 ≤ m) (m4 : m ≤ 4) {r : Nat × Nat ⊕ Int} (hr : Res sh m r) :
    F_Lturns_right c [.lst (sh.map shT), .int (m : Int), resT r] S = some (.bl true, S) := by
  have hk := sk_of hsh
  obtain ⟨R, B, ew, hR, hRl, hB⟩ := wishes_ok (c := c) hk h6 (fun i => ⟨(sk_at hsh i).p6, (sk_at hsh i).b6⟩) hc
  have main : W (F_Lturns_right c [.lst (sh.map shT), .int (m : Int), resT r] S) fun d Z => d = .bl true ∧ Z = S := by
    have hl : S.length = S.length := rfl
    have hwl : (wsR sh R).length = R.length := by
      unfold wsR
      rw [List.length_map]
    have tl : (tellT (wsR sh R) m 1000).length = R.length := by rw [tellT_len, hwl]
    unfold F_Lturns_right B_Lturns_right
    refine w_body1 ?_
    walk_at "w"
    refine w_ex ew ?_
    walk_at "w"
    refine w_lcA (S1 := S) (ds := [.lst (R.map (rwK sh))]) R (rwK sh) (fun x => wT (aK sh x.1 x.2, lK sh x.1 x.2)) ?_ (k_sql _ _) (by omega) ?_ ?_
    · walk_at "w"
      exact ⟨rfl, rfl⟩
    · intro x _
      refine w_tupG (ds := [.int (x.1 : Int), .int (x.2 : Int), .tup [.int (aK sh x.1 x.2), .int (lK sh x.1 x.2)]]) rfl ?_
      walk_at "w"
      exact ⟨rfl, rfl⟩
    walk_at "w"
    have ed : D.lst (R.map fun x => wT (aK sh x.1 x.2, lK sh x.1 x.2)) = .lst ((wsR sh R).map wT) := by
      unfold wsR
      rw [List.map_map]
      rfl
    rw [ed]
    refine turns_ok c (N := 1000) (fun L => rfl) (fun w S' => sqv_tup ..) (by omega) (fun w hw => ?_) (by decide) fun L k p hL => ?_
    · unfold wsR at hw
      obtain ⟨x, hx, rfl⟩ := List.mem_map.mp hw
      have h2 := ((hR.mem x.1 x.2).mp hx).2
      have h3 := aK_fi hk x.1 x.2
      have h4 := hk.f0 x.1
      have h5 := hk.w0 x.1
      have h7 := hk.w20 x.1
      show 0 ≤ aK sh x.1 x.2 ∧ aK sh x.1 x.2 ≤ lK sh x.1 x.2 ∧ lK sh x.1 x.2 < _
      unfold lK
      omega
    generalize htd : tellT (wsR sh R) m 1000 = told at tl hL
    have at_ : ∀ {pre post : List ((Nat × Nat) × Option Int)} {x : Nat × Nat} {o : Option Int}, R.zip told = pre ++ (x, o) :: post → R[pre.length]? = some x ∧ told[pre.length]? = some o := fun {pre post x o} hx => by
      have : (R.zip told)[pre.length]? = some (x, o) := by
        rw [hx, List.getElem?_append_right (Nat.le_refl _), Nat.sub_self]
        rfl
      exact List.getElem?_zip_eq_some.mp this
    rcases r with ⟨j, n⟩ | w
    · obtain ⟨T, nb, lj, en⟩ : ∃ T, NoB sh m T ∧ LateAt sh m T j ∧ n = NT sh m (T + 1) j := by
        rcases hr with ⟨T, j', nb, lj, e⟩ | ⟨_, e⟩
        · have e := Sum.inl.inj e
          have e1 : j = j' := congrArg Prod.fst e
          have e2 : n = NT sh m (T + 1) j' := congrArg Prod.snd e
          subst e1
          exact ⟨T, nb, lj, e2⟩
        · cases e
      have eT : lK sh j n = (T : Int) := by
        rw [en]
        exact late_exact hk nb lj
      have kj := sk_at hsh j
      have kb := kj.b6; have kp := kj.p6
      unfold resT
      walk_at "w"
      refine x_ixl (atI_sh lj.lt) ?_
      walk_at "w"
      refine w_ex (asked_sh c hk (by omega) (by omega) _) ?_
      walk_at "w"
      refine x_ixl (atI_sh lj.lt) ?_
      walk_at "w"
      refine x_ixt (y := .int (sh.getD j shz).wd) rfl ?_
      walk_at "w"
      rw [show aK sh j n + (sh.getD j shz).wd = (T : Int) from eT]
      refine w_forT (ds := [.lst (R.map (rwK sh)), .loc (S.length + k)]) (R.zip told) (fun p => .tup [rwK sh p.1, lifeD p.2]) (fun _ δ Z => ∃ x6 x8 x9 x10 x11 x12, δ = [some (.lst (sh.map shT)), some (.int (m : Int)), some (.tup [.str "burnt", .int (j : Int), .int (n : Int)]), some (.lst (R.map (rwK sh))), some (.int (B : Int)), some (.loc (S.length + k)), x6, some (.int (T : Int)), x8, x9, x10, x11, x12] ∧ Z = S ++ L) ?_ (fun _ _ Z h => by obtain ⟨_, _, _, _, _, _, _, rfl⟩ := h; exact k_zpLst hl hL tl.symm) ?_ ?_
      · walk_at "w"
        exact ⟨rfl, _, _, _, _, _, _, rfl, rfl⟩
      · rintro pre ⟨x, o⟩ post δ Z hx ⟨x6, x8, x9, x10, x11, x12, rfl, rfl⟩
        obtain ⟨g1, g2⟩ := at_ hx
        have gB := ((hR.mem x.1 x.2).mp (List.mem_of_getElem? g1)).2
        have gl : lK sh x.1 x.2 = aK sh x.1 x.2 + (sh.getD x.1 shz).wd := rfl
        have g20 := hk.w20 x.1
        have g0 := lK_pos hk x.1 x.2
        have ahead : lK sh x.1 x.2 < (T : Int) → o ≠ none := fun hlt e => by
          obtain ⟨v, h2⟩ := turns_ahead hk hR (T := (lK sh x.1 x.2 + 1).toNat) (N := 1000) (fun u hu => nb u (by omega)) (by omega) g1 (by omega)
          rw [htd, g2, e] at h2
          cases h2
        have burns : x = (j, n) → T < B → o = none := fun e hlt => by
          rw [e, en] at g1
          have h2 := turns_burnt hk hR nb lj hlt (N := 1000) (by omega) g1
          rw [htd, g2] at h2
          exact Option.some.inj h2
        refine w_tupG (ds := [rwK sh x, lifeD o]) rfl ?_
        refine w_consG ?_
        refine w_tupG (ds := [.int (x.1 : Int), .int (x.2 : Int), .tup [.int (aK sh x.1 x.2), .int (lK sh x.1 x.2)]]) rfl ?_
        walk_at "w"
        cases o with
        | none =>
          have hge : ¬ lK sh x.1 x.2 < (T : Int) := fun z => ahead z rfl
          refine br_f (decide_eq_false hge) ?_
          walk_at "w"
          refine x_slTA ?_
          refine x_eqRow (r := [(x.1 : Int), (x.2 : Int)]) (q := [(j : Int), (n : Int)]) ?_
          walk_at "w"
          refine br_d (fun he => ?_) (fun hne => ?_)
          · walk_at "w"
            refine x_isNLn none ?_
            walk_at "w"
            exact ⟨_, _, _, _, _, _, rfl, rfl⟩
          · walk_at "w"
            exact ⟨_, _, _, _, _, _, rfl, rfl⟩
        | some v =>
          refine br_d (fun hlt => ?_) (fun hge => ?_)
          · walk_at "w"
            refine x_isNL (some v) ?_
            walk_at "w"
            refine x_slTA ?_
            refine x_eqRow (r := [(x.1 : Int), (x.2 : Int)]) (q := [(j : Int), (n : Int)]) ?_
            walk_at "w"
            refine br_d (fun he => ?_) (fun hne => ?_)
            · have hx2 : x = (j, n) := by
                injection he with e1 e2
                injection e2 with e2 _
                exact Prod.ext (by omega) (by omega)
              have hTB : ¬ (T : Int) < (B : Int) := fun z => by
                have := burns hx2 (by omega)
                cases this
              walk_at "w"
              refine x_isNLn (some v) ?_
              walk_at "w"
              exact ⟨_, _, _, _, _, _, rfl, rfl⟩
            · walk_at "w"
              exact ⟨_, _, _, _, _, _, rfl, rfl⟩
          · have hdummy := ahead
            walk_at "w"
            refine x_slTA ?_
            refine x_eqRow (r := [(x.1 : Int), (x.2 : Int)]) (q := [(j : Int), (n : Int)]) ?_
            walk_at "w"
            refine br_d (fun he => ?_) (fun hne => ?_)
            · have hx2 : x = (j, n) := by
                injection he with e1 e2
                injection e2 with e2 _
                exact Prod.ext (by omega) (by omega)
              have hTB : ¬ (T : Int) < (B : Int) := fun z => by
                have := burns hx2 (by omega)
                cases this
              walk_at "w"
              refine x_isNLn (some v) ?_
              walk_at "w"
              exact ⟨_, _, _, _, _, _, rfl, rfl⟩
            · walk_at "w"
              exact ⟨_, _, _, _, _, _, rfl, rfl⟩
      · rintro δ Z ⟨x6, x8, x9, x10, x11, x12, rfl, rfl⟩
        walk_at "w"
        exact wl_finP hc rfl ⟨rfl, rfl⟩
    · obtain ⟨nb, ew2⟩ := kept_burnt hr
      have hsome : ∀ (k : Nat) (x : Nat × Nat), R[k]? = some x → ∃ v, told[k]? = some (some v) ∧ v - aK sh x.1 x.2 ≤ w := fun k x hx => by
        obtain ⟨v, h2, h3⟩ := turns_kept hk hR (fun T u _ => nb u) (N := 1000) (by omega) (U := 100000) (by omega) hx
        rw [htd] at h2
        exact ⟨v, h2, by rw [ew2]; exact h3⟩
      unfold resT
      walk_at "w"
      refine w_lcF (S1 := S ++ L) (ds := [.lst (R.map (rwK sh)), .loc (S.length + k)]) (R.zip told) (fun p => .tup [rwK sh p.1, lifeD p.2]) (fun p => p.2.isSome) (fun p => .int (p.2.getD 0 - aK sh p.1.1 p.1.2)) ?_ (k_zpLst hl hL tl.symm) (by rw [List.length_zip]; omega) ?_ ?_
      · walk_at "w"
        exact ⟨rfl, rfl⟩
      · rintro ⟨x, o⟩ _
        refine w_tupG (ds := [rwK sh x, lifeD o]) rfl ?_
        walk_at "w"
        refine x_isNLn o ?_
        walk_at "w"
        refine ⟨rfl, rfl, fun ho => ?_⟩
        cases o with
        | none => cases ho
        | some v =>
          walk_at "w"
          refine x_ixt (y := .tup [.int (aK sh x.1 x.2), .int (lK sh x.1 x.2)]) rfl ?_
          walk_at "w"
          refine x_sub ?_
          exact ⟨rfl, rfl⟩
      walk_at "w"
      refine w_andV ?_
      walk_at "w"
      refine x_ninseq (wl_sq hl hL) rfl (flat_life _) ?_
      rw [inF_none]
      have hno : none ∉ told := fun hn => by
        obtain ⟨k2, hk2⟩ := List.mem_iff_getElem?.mp hn
        have hlt := (List.getElem?_eq_some_iff.mp hk2).1
        rw [tl] at hlt
        obtain ⟨v, h2, _⟩ := hsome k2 _ (List.getElem?_eq_getElem hlt)
        rw [hk2] at h2
        cases h2
      rw [decide_eq_false hno]
      walk_at "w"
      have hle : ∀ z ∈ ((R.zip told).filter fun p => p.2.isSome).map (fun p => p.2.getD 0 - aK sh p.1.1 p.1.2), z ≤ w := fun z hz => by
        obtain ⟨⟨x, o⟩, hp, rfl⟩ := List.mem_map.mp hz
        obtain ⟨k2, hk2⟩ := List.mem_iff_getElem?.mp (List.mem_filter.mp hp).1
        obtain ⟨g1, g2⟩ := List.getElem?_zip_eq_some.mp hk2
        obtain ⟨v, g3, g4⟩ := hsome k2 x g1
        rw [g2] at g3
        cases g3
        exact g4
      have hw0 : 0 ≤ w := by
        rw [ew2]
        exact WT_pos _
      rw [show (fun p : (Nat × Nat) × Option Int => D.int (p.2.getD 0 - aK sh p.1.1 p.1.2)) = D.int ∘ (fun p => p.2.getD 0 - aK sh p.1.1 p.1.2) from rfl, ← List.map_map]
      obtain ⟨M, eM, hM⟩ := maxI_le (xs := ((R.zip told).filter fun p => p.2.isSome).map (fun p => p.2.getD 0 - aK sh p.1.1 p.1.2) ++ [0]) (by simp) (w := w) fun z hz => by
        rcases List.mem_append.mp hz with hz | hz
        · exact hle z hz
        · obtain rfl := List.mem_singleton.mp hz
          exact hw0
      have few : (((R.zip told).filter fun p => p.2.isSome).map (fun p => p.2.getD 0 - aK sh p.1.1 p.1.2)).length ≤ 200 := by
        rw [List.length_map]
        refine Nat.le_trans (List.length_filter_le _ _) ?_
        rw [List.length_zip]
        omega
      refine x_addll (by rw [List.length_map]; show _ + 1 < 1000000; omega) ?_
      walk_at "w"
      refine x_maxA (ns := ((R.zip told).filter fun p => p.2.isSome).map (fun p => p.2.getD 0 - aK sh p.1.1 p.1.2) ++ [0]) ?_ eM ?_
      · rw [sqv_lst, List.map_append]
        rfl
      walk_at "w"
      rw [decide_eq_true hM]
      exact wl_finP hc rfl ⟨rfl, rfl⟩
  obtain ⟨_, _, e, rfl, rfl⟩ := main
  exact e
end
/-! ### k44: the law -/
theorem law_true (c : Cs) (ns : List Int) (h : ns.length ≤ 63) : ∃ S, F_law c [.rol (ns.map .int)] [] = some (.bl true, S) := by
  obtain ⟨cells, hl, ef⟩ := folded2_ok c (S := []) (ns := ns) (m := 3) (by decide) h rfl
  have hcl : cells.length ≤ 3 := by omega
  have main : W (F_law c [.rol (ns.map .int)] []) fun d _ => d = .bl true := by
    unfold F_law B_law
    refine w_body ?_
    walk_at "w"
    refine w_ex ef ?_
    walk_at "w"
    refine w_forN (max 1 cells.length) (fun _ δ Z => Cl Z ∧ ∃ (x2 x3 x4 x5 x6 : Option D), δ = [some (.rol (ns.map .int)), some (.lst (cells.map .int)), x2, x3, x4, x5, x6]) (by omega) ?_ ?_ ?_
    · walk_at "w"
      refine ⟨?_, rfl, _, _, _, _, _, rfl⟩
      rw [List.length_map]
      congr 2
      split <;> omega
    · rintro i δ Z hi ⟨hc, x2, x3, x4, x5, x6, rfl⟩
      obtain ⟨a, b, et, T⟩ := tape_okL c (S := Z) (ns := cells) (k := (i : Int)) (by omega) (by omega)
      have c0 : Cl (Z ++ [TapeD a b 0]) := hc.push rfl
      have T0 : Tp (Z ++ [TapeD a b 0]) Z.length b 0 := ⟨a, 0, get_end, T⟩
      generalize Z.length = t at T0 et
      generalize Z ++ [TapeD a b 0] = Y at T0 et c0
      obtain ⟨sh, Y2, esh, ⟨h1, h6, hsh⟩, s1⟩ := shares_ok c T0 (by decide) c0
      obtain ⟨d, Y3, ed, d0, d4, s2⟩ := draw_s c s1.tp (by decide) (many := 4) (by decide) (by decide)
      have s3 := s1.trans s2
      have c3 : Cl Y3 := s3.cl c0
      obtain ⟨m, em, m0, m4⟩ : ∃ q : Nat, 1 + d = (q : Int) ∧ 1 ≤ q ∧ q ≤ 4 := ⟨(1 + d).toNat, by omega, by omega, by omega⟩
      obtain ⟨r, er, hr⟩ := fire_ok (c := c) hsh h1 h6 m4 (shs_lst (sh := sh) (by omega)) c3
      obtain ⟨Y4, em1, s4⟩ := moved_ok c s3.tp (by omega) c3 hsh h1 h6 m4 hr
      have s5 := s3.trans s4
      have c5 : Cl Y4 := s5.cl c0
      obtain ⟨Y5, em2, s6⟩ := kept_ok c s5.tp (by omega) c5 hsh h1 h6 m0 m4 hr
      have s7 := s5.trans s6
      have c7 : Cl Y5 := s7.cl c0
      have em3 := turns_right c (S := Y5) c7 hsh h1 h6 m0 m4 hr
      walk_at "w"
      refine w_ex et ?_
      walk_at "w"
      refine w_ex esh ?_
      walk_at "w"
      refine w_ex ed ?_
      walk_at "w"
      rw [em]
      walk_at "w"
      refine w_ex er ?_
      walk_at "w"
      refine w_ex em1 ?_
      walk_at "w"
      refine w_ex em2 ?_
      walk_at "w"
      refine w_ex em3 ?_
      walk_at "w"
      exact ⟨_, _, _, _, _, rfl⟩
    · rintro δ Z ⟨hc, x2, x3, x4, x5, x6, rfl⟩
      walk_at "w"
      exact fin_top2 fun _ => rfl
  obtain ⟨d, S, e, rfl⟩ := main
  exact ⟨S, e⟩
end HP
namespace HP
open PySem L2 DL
def spLaw (K : PySem.W.Frag) : Sp := fun vs H Q _ => ∃ (a : Addr) (ns : List Int), vs = [.ref a] ∧ SqL K H a (ns.map V.int) ∧ ns.length ≤ 63 ∧ ∀ H', Q (.bl true) H'
theorem sp_law {K : PySem.W.Frag} {vs : List V} {H : Hp} {Q : VK} {E : XK} (c : Cs) (h : spLaw K vs H Q E) : spD K 1 (F_law c) vs H Q E := by
  obtain ⟨a, ns, rfl, hS, hl, q⟩ := h
  obtain ⟨S', e⟩ := law_true c ns hl
  refine ⟨⟨[], []⟩, [], _, _, S', rfl, SR.nil, .cons (.rol ?_ (ints_rvs ns)) .nil, e, fun v H' ρ' _ _ r => ?_⟩
  · rcases hS with h | h
    · exact .inl ⟨h, by simp, by simp⟩
    · exact .inr h
  · cases r
    exact q H'
end HP
namespace HP
open PySem L2 DL
theorem all_mk {l : PySem.W.OpenLaw} {w : World} {K : PySem.W.Frag} {h : Heap} {mg : Str → Option Value} {fa : Addr} {C_SharedFire : Addr} {f_Lfolded : Addr} {oc_Lfolded kV_Lfolded dc_Lfolded pm_Lfolded cd_Lfolded ct_Lfolded : Value} {od_Lfolded an_Lfolded : Option Addr} {sl_Lfolded : Array (Option Value)} {f_Ltape : Addr} {oc_Ltape kV_Ltape dc_Ltape pm_Ltape cd_Ltape ct_Ltape : Value} {od_Ltape an_Ltape : Option Addr} {sl_Ltape : Array (Option Value)} {f_common_divisor : Addr} {oc_common_divisor kV_common_divisor dc_common_divisor pm_common_divisor cd_common_divisor ct_common_divisor : Value} {od_common_divisor an_common_divisor : Option Addr} {sl_common_divisor : Array (Option Value)} {f_common_beats : Addr} {oc_common_beats kV_common_beats dc_common_beats pm_common_beats cd_common_beats ct_common_beats : Value} {od_common_beats an_common_beats : Option Addr} {sl_common_beats : Array (Option Value)} {f_Ldraw : Addr} {oc_Ldraw kV_Ldraw dc_Ldraw pm_Ldraw cd_Ldraw ct_Ldraw : Value} {od_Ldraw an_Ldraw : Option Addr} {sl_Ldraw : Array (Option Value)} {f_Lshares : Addr} {oc_Lshares kV_Lshares dc_Lshares pm_Lshares cd_Lshares ct_Lshares : Value} {od_Lshares an_Lshares : Option Addr} {sl_Lshares : Array (Option Value)} {f_Lasked_at : Addr} {oc_Lasked_at kV_Lasked_at dc_Lasked_at pm_Lasked_at cd_Lasked_at ct_Lasked_at : Value} {od_Lasked_at an_Lasked_at : Option Addr} {sl_Lasked_at : Array (Option Value)} {f_Lwishes_of : Addr} {oc_Lwishes_of kV_Lwishes_of dc_Lwishes_of pm_Lwishes_of cd_Lwishes_of ct_Lwishes_of : Value} {od_Lwishes_of an_Lwishes_of : Option Addr} {sl_Lwishes_of : Array (Option Value)} {f_Lturns_right : Addr} {oc_Lturns_right kV_Lturns_right dc_Lturns_right pm_Lturns_right cd_Lturns_right ct_Lturns_right : Value} {od_Lturns_right an_Lturns_right : Option Addr} {sl_Lturns_right : Array (Option Value)} {f_Lmixed : Addr} {oc_Lmixed kV_Lmixed dc_Lmixed pm_Lmixed cd_Lmixed ct_Lmixed : Value} {od_Lmixed an_Lmixed : Option Addr} {sl_Lmixed : Array (Option Value)} {f_Lsame : Addr} {oc_Lsame kV_Lsame dc_Lsame pm_Lsame cd_Lsame ct_Lsame : Value} {od_Lsame an_Lsame : Option Addr} {sl_Lsame : Array (Option Value)} {f_Lmoved_right : Addr} {oc_Lmoved_right kV_Lmoved_right dc_Lmoved_right pm_Lmoved_right cd_Lmoved_right ct_Lmoved_right : Value} {od_Lmoved_right an_Lmoved_right : Option Addr} {sl_Lmoved_right : Array (Option Value)} {f_Lkept_right : Addr} {oc_Lkept_right kV_Lkept_right dc_Lkept_right pm_Lkept_right cd_Lkept_right ct_Lkept_right : Value} {od_Lkept_right an_Lkept_right : Option Addr} {sl_Lkept_right : Array (Option Value)} {f_law : Addr} {oc_law kV_law dc_law pm_law cd_law ct_law : Value} {od_law an_law : Option Addr} {sl_law : Array (Option Value)} {f_SharedFire_init : Addr} {oc_SharedFire_init kV_SharedFire_init dc_SharedFire_init pm_SharedFire_init cd_SharedFire_init ct_SharedFire_init : Value} {od_SharedFire_init an_SharedFire_init : Option Addr} {sl_SharedFire_init : Array (Option Value)} {f_asked_at T_asked_at : Addr} {oc_asked_at kV_asked_at dc_asked_at pm_asked_at cd_asked_at ct_asked_at ot_asked_at : Value} {od_asked_at an_asked_at dt_asked_at : Option Addr} {sl_asked_at st_asked_at : Array (Option Value)} {n_asked_at : Nat} {tk_asked_at0 : Tok} {f_SharedFire_last_of : Addr} {oc_SharedFire_last_of kV_SharedFire_last_of dc_SharedFire_last_of pm_SharedFire_last_of cd_SharedFire_last_of ct_SharedFire_last_of : Value} {od_SharedFire_last_of an_SharedFire_last_of : Option Addr} {sl_SharedFire_last_of : Array (Option Value)} {f_SharedFire_draw_one : Addr} {oc_SharedFire_draw_one kV_SharedFire_draw_one dc_SharedFire_draw_one pm_SharedFire_draw_one cd_SharedFire_draw_one ct_SharedFire_draw_one : Value} {od_SharedFire_draw_one an_SharedFire_draw_one : Option Addr} {sl_SharedFire_draw_one : Array (Option Value)} {f_SharedFire_draw : Addr} {oc_SharedFire_draw kV_SharedFire_draw dc_SharedFire_draw pm_SharedFire_draw cd_SharedFire_draw ct_SharedFire_draw : Value} {od_SharedFire_draw an_SharedFire_draw : Option Addr} {sl_SharedFire_draw : Array (Option Value)} {f_SharedFire_draw_up_to : Addr} {oc_SharedFire_draw_up_to kV_SharedFire_draw_up_to dc_SharedFire_draw_up_to pm_SharedFire_draw_up_to cd_SharedFire_draw_up_to ct_SharedFire_draw_up_to : Value} {od_SharedFire_draw_up_to an_SharedFire_draw_up_to : Option Addr} {sl_SharedFire_draw_up_to : Array (Option Value)} {f_SharedFire_ahead : Addr} {oc_SharedFire_ahead kV_SharedFire_ahead dc_SharedFire_ahead pm_SharedFire_ahead cd_SharedFire_ahead ct_SharedFire_ahead : Value} {od_SharedFire_ahead an_SharedFire_ahead : Option Addr} {sl_SharedFire_ahead : Array (Option Value)} {f_SharedFire_settle : Addr} {oc_SharedFire_settle kV_SharedFire_settle dc_SharedFire_settle pm_SharedFire_settle cd_SharedFire_settle ct_SharedFire_settle : Value} {od_SharedFire_settle an_SharedFire_settle : Option Addr} {sl_SharedFire_settle : Array (Option Value)} {f_for_ever T_for_ever : Addr} {oc_for_ever kV_for_ever dc_for_ever pm_for_ever cd_for_ever ct_for_ever ot_for_ever : Value} {od_for_ever an_for_ever dt_for_ever : Option Addr} {sl_for_ever st_for_ever : Array (Option Value)} {n_for_ever : Nat} {tk_for_ever0 : Tok} {f_turns T_turns : Addr} {oc_turns kV_turns dc_turns pm_turns cd_turns ct_turns ot_turns : Value} {od_turns an_turns dt_turns : Option Addr} {sl_turns st_turns : Array (Option Value)} {n_turns : Nat} {tk_turns0 : Tok} (X : K.In h) (G : h.Ns mainGlobals mg) (hfa : mg "law" = some (.ref fa))
    (g_C_SharedFire : PySem.W.nsIn K mainGlobals "SharedFire" = some (some (.ref C_SharedFire)))
    (pg_C_SharedFire : PySem.W.plainGet K C_SharedFire Str.empty = true)
    (hd_C_SharedFire : PySem.W.hasDictIn K C_SharedFire = true)
    (po_C_SharedFire : PySem.W.plainOver K C_SharedFire = true)
    (sa_C_SharedFire : PySem.W.findIn K (.ref C_SharedFire) "__setattr__" = some (some (.builtin "object.__setattr__")))
    (mk_C_SharedFire : PySem.W.makesIn K C_SharedFire = true)
    (kc_C_SharedFire : PySem.W.keepIn K (.ref C_SharedFire) = true)
    (at_C_SharedFire_shares : PySem.W.findIn K (.ref C_SharedFire) "shares" = some none)
    (at_C_SharedFire_mouth : PySem.W.findIn K (.ref C_SharedFire) "mouth" = some none)
    (at_C_SharedFire_at : PySem.W.findIn K (.ref C_SharedFire) "at" = some none)
    (at_C_SharedFire_numbers : PySem.W.findIn K (.ref C_SharedFire) "numbers" = some none)
    (at_C_SharedFire_asks : PySem.W.findIn K (.ref C_SharedFire) "asks" = some none)
    (at_C_SharedFire_wait : PySem.W.findIn K (.ref C_SharedFire) "wait" = some none)
    (at_C_SharedFire_burning : PySem.W.findIn K (.ref C_SharedFire) "burning" = some none)
    (a_Lfolded : PySem.W.nsIn K mainGlobals "_law_folded" = some (some (.ref f_Lfolded)))
    (l_Lfolded : K.lookup f_Lfolded = some ⟨oc_Lfolded, od_Lfolded, .func (PySem.W.fnOf "_law_folded" "_law_folded" (defArgs s_Lfolded) (defBody s_Lfolded) (defScope s_Lfolded) .none kV_Lfolded dc_Lfolded pm_Lfolded an_Lfolded cd_Lfolded ct_Lfolded), sl_Lfolded⟩)
    (c_Lfolded : PySem.W.codeIn K cd_Lfolded "_law_folded" = true)
    (k_Lfolded : PySem.W.keepIn K (.ref f_Lfolded) = true)
    (a_Ltape : PySem.W.nsIn K mainGlobals "_law_tape" = some (some (.ref f_Ltape)))
    (l_Ltape : K.lookup f_Ltape = some ⟨oc_Ltape, od_Ltape, .func (PySem.W.fnOf "_law_tape" "_law_tape" (defArgs s_Ltape) (defBody s_Ltape) (defScope s_Ltape) .none kV_Ltape dc_Ltape pm_Ltape an_Ltape cd_Ltape ct_Ltape), sl_Ltape⟩)
    (c_Ltape : PySem.W.codeIn K cd_Ltape "_law_tape" = true)
    (k_Ltape : PySem.W.keepIn K (.ref f_Ltape) = true)
    (a_common_divisor : PySem.W.nsIn K mainGlobals "common_divisor" = some (some (.ref f_common_divisor)))
    (l_common_divisor : K.lookup f_common_divisor = some ⟨oc_common_divisor, od_common_divisor, .func (PySem.W.fnOf "common_divisor" "common_divisor" (defArgs s_common_divisor) (defBody s_common_divisor) (defScope s_common_divisor) .none kV_common_divisor dc_common_divisor pm_common_divisor an_common_divisor cd_common_divisor ct_common_divisor), sl_common_divisor⟩)
    (c_common_divisor : PySem.W.codeIn K cd_common_divisor "common_divisor" = true)
    (k_common_divisor : PySem.W.keepIn K (.ref f_common_divisor) = true)
    (a_common_beats : PySem.W.nsIn K mainGlobals "common_beats" = some (some (.ref f_common_beats)))
    (l_common_beats : K.lookup f_common_beats = some ⟨oc_common_beats, od_common_beats, .func (PySem.W.fnOf "common_beats" "common_beats" (defArgs s_common_beats) (defBody s_common_beats) (defScope s_common_beats) .none kV_common_beats dc_common_beats pm_common_beats an_common_beats cd_common_beats ct_common_beats), sl_common_beats⟩)
    (c_common_beats : PySem.W.codeIn K cd_common_beats "common_beats" = true)
    (k_common_beats : PySem.W.keepIn K (.ref f_common_beats) = true)
    (a_Ldraw : PySem.W.nsIn K mainGlobals "_law_draw" = some (some (.ref f_Ldraw)))
    (l_Ldraw : K.lookup f_Ldraw = some ⟨oc_Ldraw, od_Ldraw, .func (PySem.W.fnOf "_law_draw" "_law_draw" (defArgs s_Ldraw) (defBody s_Ldraw) (defScope s_Ldraw) .none kV_Ldraw dc_Ldraw pm_Ldraw an_Ldraw cd_Ldraw ct_Ldraw), sl_Ldraw⟩)
    (c_Ldraw : PySem.W.codeIn K cd_Ldraw "_law_draw" = true)
    (k_Ldraw : PySem.W.keepIn K (.ref f_Ldraw) = true)
    (a_Lshares : PySem.W.nsIn K mainGlobals "_law_shares" = some (some (.ref f_Lshares)))
    (l_Lshares : K.lookup f_Lshares = some ⟨oc_Lshares, od_Lshares, .func (PySem.W.fnOf "_law_shares" "_law_shares" (defArgs s_Lshares) (defBody s_Lshares) (defScope s_Lshares) .none kV_Lshares dc_Lshares pm_Lshares an_Lshares cd_Lshares ct_Lshares), sl_Lshares⟩)
    (c_Lshares : PySem.W.codeIn K cd_Lshares "_law_shares" = true)
    (k_Lshares : PySem.W.keepIn K (.ref f_Lshares) = true)
    (a_Lasked_at : PySem.W.nsIn K mainGlobals "_law_asked_at" = some (some (.ref f_Lasked_at)))
    (l_Lasked_at : K.lookup f_Lasked_at = some ⟨oc_Lasked_at, od_Lasked_at, .func (PySem.W.fnOf "_law_asked_at" "_law_asked_at" (defArgs s_Lasked_at) (defBody s_Lasked_at) (defScope s_Lasked_at) .none kV_Lasked_at dc_Lasked_at pm_Lasked_at an_Lasked_at cd_Lasked_at ct_Lasked_at), sl_Lasked_at⟩)
    (c_Lasked_at : PySem.W.codeIn K cd_Lasked_at "_law_asked_at" = true)
    (k_Lasked_at : PySem.W.keepIn K (.ref f_Lasked_at) = true)
    (a_Lwishes_of : PySem.W.nsIn K mainGlobals "_law_wishes_of" = some (some (.ref f_Lwishes_of)))
    (l_Lwishes_of : K.lookup f_Lwishes_of = some ⟨oc_Lwishes_of, od_Lwishes_of, .func (PySem.W.fnOf "_law_wishes_of" "_law_wishes_of" (defArgs s_Lwishes_of) (defBody s_Lwishes_of) (defScope s_Lwishes_of) .none kV_Lwishes_of dc_Lwishes_of pm_Lwishes_of an_Lwishes_of cd_Lwishes_of ct_Lwishes_of), sl_Lwishes_of⟩)
    (c_Lwishes_of : PySem.W.codeIn K cd_Lwishes_of "_law_wishes_of" = true)
    (k_Lwishes_of : PySem.W.keepIn K (.ref f_Lwishes_of) = true)
    (a_Lturns_right : PySem.W.nsIn K mainGlobals "_law_turns_right" = some (some (.ref f_Lturns_right)))
    (l_Lturns_right : K.lookup f_Lturns_right = some ⟨oc_Lturns_right, od_Lturns_right, .func (PySem.W.fnOf "_law_turns_right" "_law_turns_right" (defArgs s_Lturns_right) (defBody s_Lturns_right) (defScope s_Lturns_right) .none kV_Lturns_right dc_Lturns_right pm_Lturns_right an_Lturns_right cd_Lturns_right ct_Lturns_right), sl_Lturns_right⟩)
    (c_Lturns_right : PySem.W.codeIn K cd_Lturns_right "_law_turns_right" = true)
    (k_Lturns_right : PySem.W.keepIn K (.ref f_Lturns_right) = true)
    (a_Lmixed : PySem.W.nsIn K mainGlobals "_law_mixed" = some (some (.ref f_Lmixed)))
    (l_Lmixed : K.lookup f_Lmixed = some ⟨oc_Lmixed, od_Lmixed, .func (PySem.W.fnOf "_law_mixed" "_law_mixed" (defArgs s_Lmixed) (defBody s_Lmixed) (defScope s_Lmixed) .none kV_Lmixed dc_Lmixed pm_Lmixed an_Lmixed cd_Lmixed ct_Lmixed), sl_Lmixed⟩)
    (c_Lmixed : PySem.W.codeIn K cd_Lmixed "_law_mixed" = true)
    (k_Lmixed : PySem.W.keepIn K (.ref f_Lmixed) = true)
    (a_Lsame : PySem.W.nsIn K mainGlobals "_law_same" = some (some (.ref f_Lsame)))
    (l_Lsame : K.lookup f_Lsame = some ⟨oc_Lsame, od_Lsame, .func (PySem.W.fnOf "_law_same" "_law_same" (defArgs s_Lsame) (defBody s_Lsame) (defScope s_Lsame) .none kV_Lsame dc_Lsame pm_Lsame an_Lsame cd_Lsame ct_Lsame), sl_Lsame⟩)
    (c_Lsame : PySem.W.codeIn K cd_Lsame "_law_same" = true)
    (k_Lsame : PySem.W.keepIn K (.ref f_Lsame) = true)
    (a_Lmoved_right : PySem.W.nsIn K mainGlobals "_law_moved_right" = some (some (.ref f_Lmoved_right)))
    (l_Lmoved_right : K.lookup f_Lmoved_right = some ⟨oc_Lmoved_right, od_Lmoved_right, .func (PySem.W.fnOf "_law_moved_right" "_law_moved_right" (defArgs s_Lmoved_right) (defBody s_Lmoved_right) (defScope s_Lmoved_right) .none kV_Lmoved_right dc_Lmoved_right pm_Lmoved_right an_Lmoved_right cd_Lmoved_right ct_Lmoved_right), sl_Lmoved_right⟩)
    (c_Lmoved_right : PySem.W.codeIn K cd_Lmoved_right "_law_moved_right" = true)
    (k_Lmoved_right : PySem.W.keepIn K (.ref f_Lmoved_right) = true)
    (a_Lkept_right : PySem.W.nsIn K mainGlobals "_law_kept_right" = some (some (.ref f_Lkept_right)))
    (l_Lkept_right : K.lookup f_Lkept_right = some ⟨oc_Lkept_right, od_Lkept_right, .func (PySem.W.fnOf "_law_kept_right" "_law_kept_right" (defArgs s_Lkept_right) (defBody s_Lkept_right) (defScope s_Lkept_right) .none kV_Lkept_right dc_Lkept_right pm_Lkept_right an_Lkept_right cd_Lkept_right ct_Lkept_right), sl_Lkept_right⟩)
    (c_Lkept_right : PySem.W.codeIn K cd_Lkept_right "_law_kept_right" = true)
    (k_Lkept_right : PySem.W.keepIn K (.ref f_Lkept_right) = true)
    (a_law : PySem.W.nsIn K mainGlobals "law" = some (some (.ref f_law)))
    (l_law : K.lookup f_law = some ⟨oc_law, od_law, .func (PySem.W.fnOf "law" "law" (defArgs s_law) (defBody s_law) (defScope s_law) .none kV_law dc_law pm_law an_law cd_law ct_law), sl_law⟩)
    (c_law : PySem.W.codeIn K cd_law "law" = true)
    (k_law : PySem.W.keepIn K (.ref f_law) = true)
    (a_SharedFire_init : PySem.W.findIn K (.ref C_SharedFire) "__init__" = some (some (.ref f_SharedFire_init)))
    (i_SharedFire_init : PySem.W.isFn K (.ref f_SharedFire_init) = true)
    (l_SharedFire_init : K.lookup f_SharedFire_init = some ⟨oc_SharedFire_init, od_SharedFire_init, .func (PySem.W.fnOf "__init__" "SharedFire.__init__" (defArgs s_SharedFire_init) (defBody s_SharedFire_init) (defScope s_SharedFire_init) .none kV_SharedFire_init dc_SharedFire_init pm_SharedFire_init an_SharedFire_init cd_SharedFire_init ct_SharedFire_init), sl_SharedFire_init⟩)
    (c_SharedFire_init : PySem.W.codeIn K cd_SharedFire_init "SharedFire.__init__" = true)
    (k_SharedFire_init : PySem.W.keepIn K (.ref f_SharedFire_init) = true)
    (a_asked_at : PySem.W.nsIn K mainGlobals "asked_at" = some (some (.ref f_asked_at)))
    (l_asked_at : K.lookup f_asked_at = some ⟨oc_asked_at, od_asked_at, .func (PySem.W.fnOf "asked_at" "asked_at" (defArgs s_asked_at) (defBody s_asked_at) (defScope s_asked_at) (.ref T_asked_at) kV_asked_at dc_asked_at pm_asked_at an_asked_at cd_asked_at ct_asked_at), sl_asked_at⟩)
    (c_asked_at : PySem.W.codeIn K cd_asked_at "asked_at" = true)
    (k_asked_at : PySem.W.keepIn K (.ref f_asked_at) = true)
    (d_asked_at : K.lookup T_asked_at = some ⟨ot_asked_at, dt_asked_at, .seq #[.int 0 tk_asked_at0] n_asked_at, st_asked_at⟩)
    (a_SharedFire_last_of : PySem.W.findIn K (.ref C_SharedFire) "last_of" = some (some (.ref f_SharedFire_last_of)))
    (i_SharedFire_last_of : PySem.W.isFn K (.ref f_SharedFire_last_of) = true)
    (l_SharedFire_last_of : K.lookup f_SharedFire_last_of = some ⟨oc_SharedFire_last_of, od_SharedFire_last_of, .func (PySem.W.fnOf "last_of" "SharedFire.last_of" (defArgs s_SharedFire_last_of) (defBody s_SharedFire_last_of) (defScope s_SharedFire_last_of) .none kV_SharedFire_last_of dc_SharedFire_last_of pm_SharedFire_last_of an_SharedFire_last_of cd_SharedFire_last_of ct_SharedFire_last_of), sl_SharedFire_last_of⟩)
    (c_SharedFire_last_of : PySem.W.codeIn K cd_SharedFire_last_of "SharedFire.last_of" = true)
    (k_SharedFire_last_of : PySem.W.keepIn K (.ref f_SharedFire_last_of) = true)
    (a_SharedFire_draw_one : PySem.W.findIn K (.ref C_SharedFire) "draw_one" = some (some (.ref f_SharedFire_draw_one)))
    (i_SharedFire_draw_one : PySem.W.isFn K (.ref f_SharedFire_draw_one) = true)
    (l_SharedFire_draw_one : K.lookup f_SharedFire_draw_one = some ⟨oc_SharedFire_draw_one, od_SharedFire_draw_one, .func (PySem.W.fnOf "draw_one" "SharedFire.draw_one" (defArgs s_SharedFire_draw_one) (defBody s_SharedFire_draw_one) (defScope s_SharedFire_draw_one) .none kV_SharedFire_draw_one dc_SharedFire_draw_one pm_SharedFire_draw_one an_SharedFire_draw_one cd_SharedFire_draw_one ct_SharedFire_draw_one), sl_SharedFire_draw_one⟩)
    (c_SharedFire_draw_one : PySem.W.codeIn K cd_SharedFire_draw_one "SharedFire.draw_one" = true)
    (k_SharedFire_draw_one : PySem.W.keepIn K (.ref f_SharedFire_draw_one) = true)
    (a_SharedFire_draw : PySem.W.findIn K (.ref C_SharedFire) "draw" = some (some (.ref f_SharedFire_draw)))
    (i_SharedFire_draw : PySem.W.isFn K (.ref f_SharedFire_draw) = true)
    (l_SharedFire_draw : K.lookup f_SharedFire_draw = some ⟨oc_SharedFire_draw, od_SharedFire_draw, .func (PySem.W.fnOf "draw" "SharedFire.draw" (defArgs s_SharedFire_draw) (defBody s_SharedFire_draw) (defScope s_SharedFire_draw) .none kV_SharedFire_draw dc_SharedFire_draw pm_SharedFire_draw an_SharedFire_draw cd_SharedFire_draw ct_SharedFire_draw), sl_SharedFire_draw⟩)
    (c_SharedFire_draw : PySem.W.codeIn K cd_SharedFire_draw "SharedFire.draw" = true)
    (k_SharedFire_draw : PySem.W.keepIn K (.ref f_SharedFire_draw) = true)
    (a_SharedFire_draw_up_to : PySem.W.findIn K (.ref C_SharedFire) "draw_up_to" = some (some (.ref f_SharedFire_draw_up_to)))
    (i_SharedFire_draw_up_to : PySem.W.isFn K (.ref f_SharedFire_draw_up_to) = true)
    (l_SharedFire_draw_up_to : K.lookup f_SharedFire_draw_up_to = some ⟨oc_SharedFire_draw_up_to, od_SharedFire_draw_up_to, .func (PySem.W.fnOf "draw_up_to" "SharedFire.draw_up_to" (defArgs s_SharedFire_draw_up_to) (defBody s_SharedFire_draw_up_to) (defScope s_SharedFire_draw_up_to) .none kV_SharedFire_draw_up_to dc_SharedFire_draw_up_to pm_SharedFire_draw_up_to an_SharedFire_draw_up_to cd_SharedFire_draw_up_to ct_SharedFire_draw_up_to), sl_SharedFire_draw_up_to⟩)
    (c_SharedFire_draw_up_to : PySem.W.codeIn K cd_SharedFire_draw_up_to "SharedFire.draw_up_to" = true)
    (k_SharedFire_draw_up_to : PySem.W.keepIn K (.ref f_SharedFire_draw_up_to) = true)
    (a_SharedFire_ahead : PySem.W.findIn K (.ref C_SharedFire) "ahead" = some (some (.ref f_SharedFire_ahead)))
    (i_SharedFire_ahead : PySem.W.isFn K (.ref f_SharedFire_ahead) = true)
    (l_SharedFire_ahead : K.lookup f_SharedFire_ahead = some ⟨oc_SharedFire_ahead, od_SharedFire_ahead, .func (PySem.W.fnOf "ahead" "SharedFire.ahead" (defArgs s_SharedFire_ahead) (defBody s_SharedFire_ahead) (defScope s_SharedFire_ahead) .none kV_SharedFire_ahead dc_SharedFire_ahead pm_SharedFire_ahead an_SharedFire_ahead cd_SharedFire_ahead ct_SharedFire_ahead), sl_SharedFire_ahead⟩)
    (c_SharedFire_ahead : PySem.W.codeIn K cd_SharedFire_ahead "SharedFire.ahead" = true)
    (k_SharedFire_ahead : PySem.W.keepIn K (.ref f_SharedFire_ahead) = true)
    (a_SharedFire_settle : PySem.W.findIn K (.ref C_SharedFire) "settle" = some (some (.ref f_SharedFire_settle)))
    (i_SharedFire_settle : PySem.W.isFn K (.ref f_SharedFire_settle) = true)
    (l_SharedFire_settle : K.lookup f_SharedFire_settle = some ⟨oc_SharedFire_settle, od_SharedFire_settle, .func (PySem.W.fnOf "settle" "SharedFire.settle" (defArgs s_SharedFire_settle) (defBody s_SharedFire_settle) (defScope s_SharedFire_settle) .none kV_SharedFire_settle dc_SharedFire_settle pm_SharedFire_settle an_SharedFire_settle cd_SharedFire_settle ct_SharedFire_settle), sl_SharedFire_settle⟩)
    (c_SharedFire_settle : PySem.W.codeIn K cd_SharedFire_settle "SharedFire.settle" = true)
    (k_SharedFire_settle : PySem.W.keepIn K (.ref f_SharedFire_settle) = true)
    (a_for_ever : PySem.W.nsIn K mainGlobals "for_ever" = some (some (.ref f_for_ever)))
    (l_for_ever : K.lookup f_for_ever = some ⟨oc_for_ever, od_for_ever, .func (PySem.W.fnOf "for_ever" "for_ever" (defArgs s_for_ever) (defBody s_for_ever) (defScope s_for_ever) (.ref T_for_ever) kV_for_ever dc_for_ever pm_for_ever an_for_ever cd_for_ever ct_for_ever), sl_for_ever⟩)
    (c_for_ever : PySem.W.codeIn K cd_for_ever "for_ever" = true)
    (k_for_ever : PySem.W.keepIn K (.ref f_for_ever) = true)
    (d_for_ever : K.lookup T_for_ever = some ⟨ot_for_ever, dt_for_ever, .seq #[.int 1 tk_for_ever0] n_for_ever, st_for_ever⟩)
    (a_turns : PySem.W.nsIn K mainGlobals "turns" = some (some (.ref f_turns)))
    (l_turns : K.lookup f_turns = some ⟨oc_turns, od_turns, .func (PySem.W.fnOf "turns" "turns" (defArgs s_turns) (defBody s_turns) (defScope s_turns) (.ref T_turns) kV_turns dc_turns pm_turns an_turns cd_turns ct_turns), sl_turns⟩)
    (c_turns : PySem.W.codeIn K cd_turns "turns" = true)
    (k_turns : PySem.W.keepIn K (.ref f_turns) = true)
    (d_turns : K.lookup T_turns = some ⟨ot_turns, dt_turns, .seq #[.int 1 tk_turns0] n_turns, st_turns⟩)
    (z_abs : PySem.W.nsIn K mainGlobals "abs" = some none)
    (z_all : PySem.W.nsIn K mainGlobals "all" = some none)
    (z_bool : PySem.W.nsIn K mainGlobals "bool" = some none)
    (z_enumerate : PySem.W.nsIn K mainGlobals "enumerate" = some none)
    (z_int : PySem.W.nsIn K mainGlobals "int" = some none)
    (z_isinstance : PySem.W.nsIn K mainGlobals "isinstance" = some none)
    (z_len : PySem.W.nsIn K mainGlobals "len" = some none)
    (z_list : PySem.W.nsIn K mainGlobals "list" = some none)
    (z_max : PySem.W.nsIn K mainGlobals "max" = some none)
    (z_min : PySem.W.nsIn K mainGlobals "min" = some none)
    (z_range : PySem.W.nsIn K mainGlobals "range" = some none)
    (z_sorted : PySem.W.nsIn K mainGlobals "sorted" = some none)
    (z_str : PySem.W.nsIn K mainGlobals "str" = some none)
    (z_tuple : PySem.W.nsIn K mainGlobals "tuple" = some none)
    (z_zip : PySem.W.nsIn K mainGlobals "zip" = some none) :
    ∃ fd : FuncData, (∀ (s : Shared) (v : Value), BindsTo s fd ⟨[v], []⟩ [("_law_script", v)]) ∧ ∀ base : Heap, K.In base → base.Ns mainGlobals mg → FnOk l.prog w K mg base CX0 11 fa fd ["_law_script"] (spLaw K) := by
  have e := hfa.symm.trans (PySem.W.mg_of X G a_law)
  cases e
  have T : Txt mg := ⟨trivial, PySem.W.mg_none_of X G z_abs, PySem.W.mg_none_of X G z_all, PySem.W.mg_none_of X G z_bool, PySem.W.mg_none_of X G z_enumerate, PySem.W.mg_none_of X G z_int, PySem.W.mg_none_of X G z_isinstance, PySem.W.mg_none_of X G z_len, PySem.W.mg_none_of X G z_list, PySem.W.mg_none_of X G z_max, PySem.W.mg_none_of X G z_min, PySem.W.mg_none_of X G z_range, PySem.W.mg_none_of X G z_sorted, PySem.W.mg_none_of X G z_str, PySem.W.mg_none_of X G z_tuple, PySem.W.mg_none_of X G z_zip⟩
  let c : Cs := ⟨C_SharedFire, ()⟩
  have Z : Cz K c := ⟨trivial, ⟨⟨pg_C_SharedFire, hd_C_SharedFire, po_C_SharedFire, sa_C_SharedFire⟩, at_C_SharedFire_shares, at_C_SharedFire_mouth, at_C_SharedFire_at, at_C_SharedFire_numbers, at_C_SharedFire_asks, at_C_SharedFire_wait, at_C_SharedFire_burning⟩⟩
  have U_Lfolded := fun_mk (st := s_Lfolded) l_Lfolded c_Lfolded k_Lfolded
  have b_Lfolded := U_Lfolded.binds (ps := ["_law_script", "_law_many"]) fun _ _ _ _ _ _ us hl => match us, hl with | [_, _], _ => rfl
  have U_Ltape := fun_mk (st := s_Ltape) l_Ltape c_Ltape k_Ltape
  have b_Ltape := U_Ltape.binds (ps := ["_law_script", "_law_k"]) fun _ _ _ _ _ _ us hl => match us, hl with | [_, _], _ => rfl
  have U_SharedFire_init := fun_mk (st := s_SharedFire_init) l_SharedFire_init c_SharedFire_init k_SharedFire_init
  have b_SharedFire_init := U_SharedFire_init.binds (ps := ["self", "shares", "mouth"]) fun _ _ _ _ _ _ us hl => match us, hl with | [_, _, _], _ => rfl
  have U_asked_at : FunD K "asked_at" "asked_at" (defArgs s_asked_at) (defBody s_asked_at) (defScope s_asked_at) [.int 0] [] f_asked_at _ := ⟨⟨_, _, _, _, _, _, _, _, _, _, rfl, l_asked_at, c_asked_at, .inr ⟨by simp, T_asked_at, _, [.int 0 tk_asked_at0], _, rfl, d_asked_at, rfl, (.cons ⟨_, rfl⟩ .nil)⟩, .inl rfl⟩, k_asked_at⟩
  obtain ⟨ds_asked_at_0, vd_asked_at_0, b_asked_at_0⟩ := U_asked_at.binds1 (ps := ["plan", "number", "first"]) 3 1 (by simp) rfl fun T kV doc pm an cdv ct us its h1 h2 => match us, h1, its, h2 with | [_, _, _], _, [_], _ => ⟨_, rfl, rfl⟩
  cases vd_asked_at_0
  have U_SharedFire_last_of := fun_mk (st := s_SharedFire_last_of) l_SharedFire_last_of c_SharedFire_last_of k_SharedFire_last_of
  have b_SharedFire_last_of := U_SharedFire_last_of.binds (ps := ["self", "share"]) fun _ _ _ _ _ _ us hl => match us, hl with | [_, _], _ => rfl
  have U_SharedFire_draw_one := fun_mk (st := s_SharedFire_draw_one) l_SharedFire_draw_one c_SharedFire_draw_one k_SharedFire_draw_one
  have b_SharedFire_draw_one := U_SharedFire_draw_one.binds (ps := ["self"]) fun _ _ _ _ _ _ us hl => match us, hl with | [_], _ => rfl
  have U_SharedFire_draw := fun_mk (st := s_SharedFire_draw) l_SharedFire_draw c_SharedFire_draw k_SharedFire_draw
  have b_SharedFire_draw := U_SharedFire_draw.binds (ps := ["self"]) fun _ _ _ _ _ _ us hl => match us, hl with | [_], _ => rfl
  have U_SharedFire_draw_up_to := fun_mk (st := s_SharedFire_draw_up_to) l_SharedFire_draw_up_to c_SharedFire_draw_up_to k_SharedFire_draw_up_to
  have b_SharedFire_draw_up_to := U_SharedFire_draw_up_to.binds (ps := ["self", "end"]) fun _ _ _ _ _ _ us hl => match us, hl with | [_, _], _ => rfl
  have U_common_divisor := fun_mk (st := s_common_divisor) l_common_divisor c_common_divisor k_common_divisor
  have b_common_divisor := U_common_divisor.binds (ps := ["one", "other"]) fun _ _ _ _ _ _ us hl => match us, hl with | [_, _], _ => rfl
  have U_common_beats := fun_mk (st := s_common_beats) l_common_beats c_common_beats k_common_beats
  have b_common_beats := U_common_beats.binds (ps := ["shares"]) fun _ _ _ _ _ _ us hl => match us, hl with | [_], _ => rfl
  have U_SharedFire_ahead := fun_mk (st := s_SharedFire_ahead) l_SharedFire_ahead c_SharedFire_ahead k_SharedFire_ahead
  have b_SharedFire_ahead := U_SharedFire_ahead.binds (ps := ["self"]) fun _ _ _ _ _ _ us hl => match us, hl with | [_], _ => rfl
  have U_SharedFire_settle := fun_mk (st := s_SharedFire_settle) l_SharedFire_settle c_SharedFire_settle k_SharedFire_settle
  have b_SharedFire_settle := U_SharedFire_settle.binds (ps := ["self"]) fun _ _ _ _ _ _ us hl => match us, hl with | [_], _ => rfl
  have U_for_ever : FunD K "for_ever" "for_ever" (defArgs s_for_ever) (defBody s_for_ever) (defScope s_for_ever) [.int 1] [] f_for_ever _ := ⟨⟨_, _, _, _, _, _, _, _, _, _, rfl, l_for_ever, c_for_ever, .inr ⟨by simp, T_for_ever, _, [.int 1 tk_for_ever0], _, rfl, d_for_ever, rfl, (.cons ⟨_, rfl⟩ .nil)⟩, .inl rfl⟩, k_for_ever⟩
  obtain ⟨ds_for_ever_0, vd_for_ever_0, b_for_ever_0⟩ := U_for_ever.binds1 (ps := ["shares", "mouth"]) 2 1 (by simp) rfl fun T kV doc pm an cdv ct us its h1 h2 => match us, h1, its, h2 with | [_, _], _, [_], _ => ⟨_, rfl, rfl⟩
  cases vd_for_ever_0
  have U_Ldraw := fun_mk (st := s_Ldraw) l_Ldraw c_Ldraw k_Ldraw
  have b_Ldraw := U_Ldraw.binds (ps := ["_law_tape_here", "_law_many"]) fun _ _ _ _ _ _ us hl => match us, hl with | [_, _], _ => rfl
  have U_Lshares := fun_mk (st := s_Lshares) l_Lshares c_Lshares k_Lshares
  have b_Lshares := U_Lshares.binds (ps := ["_law_tape_here"]) fun _ _ _ _ _ _ us hl => match us, hl with | [_], _ => rfl
  have U_Lasked_at := fun_mk (st := s_Lasked_at) l_Lasked_at c_Lasked_at k_Lasked_at
  have b_Lasked_at := U_Lasked_at.binds (ps := ["_law_share", "_law_number"]) fun _ _ _ _ _ _ us hl => match us, hl with | [_, _], _ => rfl
  have U_Lwishes_of := fun_mk (st := s_Lwishes_of) l_Lwishes_of c_Lwishes_of k_Lwishes_of
  have b_Lwishes_of := U_Lwishes_of.binds (ps := ["_law_shares_here", "_law_most"]) fun _ _ _ _ _ _ us hl => match us, hl with | [_, _], _ => rfl
  have U_turns : FunD K "turns" "turns" (defArgs s_turns) (defBody s_turns) (defScope s_turns) [.int 1] [] f_turns _ := ⟨⟨_, _, _, _, _, _, _, _, _, _, rfl, l_turns, c_turns, .inr ⟨by simp, T_turns, _, [.int 1 tk_turns0], _, rfl, d_turns, rfl, (.cons ⟨_, rfl⟩ .nil)⟩, .inl rfl⟩, k_turns⟩
  obtain ⟨ds_turns_0, vd_turns_0, b_turns_0⟩ := U_turns.binds1 (ps := ["wishes", "mouth"]) 2 1 (by simp) rfl fun T kV doc pm an cdv ct us its h1 h2 => match us, h1, its, h2 with | [_, _], _, [_], _ => ⟨_, rfl, rfl⟩
  cases vd_turns_0
  have U_Lturns_right := fun_mk (st := s_Lturns_right) l_Lturns_right c_Lturns_right k_Lturns_right
  have b_Lturns_right := U_Lturns_right.binds (ps := ["_law_shares_here", "_law_mouth", "_law_told"]) fun _ _ _ _ _ _ us hl => match us, hl with | [_, _, _], _ => rfl
  have U_Lmixed := fun_mk (st := s_Lmixed) l_Lmixed c_Lmixed k_Lmixed
  have b_Lmixed := U_Lmixed.binds (ps := ["_law_tape_here", "_law_some"]) fun _ _ _ _ _ _ us hl => match us, hl with | [_, _], _ => rfl
  have U_Lsame := fun_mk (st := s_Lsame) l_Lsame c_Lsame k_Lsame
  have b_Lsame := U_Lsame.binds (ps := ["_law_found", "_law_due"]) fun _ _ _ _ _ _ us hl => match us, hl with | [_, _], _ => rfl
  have U_Lmoved_right := fun_mk (st := s_Lmoved_right) l_Lmoved_right c_Lmoved_right k_Lmoved_right
  have b_Lmoved_right := U_Lmoved_right.binds (ps := ["_law_tape_here", "_law_shares_here", "_law_mouth", "_law_told"]) fun _ _ _ _ _ _ us hl => match us, hl with | [_, _, _, _], _ => rfl
  have U_Lkept_right := fun_mk (st := s_Lkept_right) l_Lkept_right c_Lkept_right k_Lkept_right
  have b_Lkept_right := U_Lkept_right.binds (ps := ["_law_tape_here", "_law_shares_here", "_law_mouth", "_law_told"]) fun _ _ _ _ _ _ us hl => match us, hl with | [_, _, _, _], _ => rfl
  have U_law := fun_mk (st := s_law) l_law c_law k_law
  have b_law := U_law.binds (ps := ["_law_script"]) fun _ _ _ _ _ _ us hl => match us, hl with | [_], _ => rfl
  refine ⟨PySem.W.fnOf "law" "law" (defArgs s_law) (defBody s_law) (defScope s_law) .none kV_law dc_law pm_law an_law cd_law ct_law, fun s v => .of_eq rfl, fun base _ _ => ?_⟩
  have O_Lfolded := ok_Lfolded (P := l.prog) (w := w) (base := base) (c := c) U_Lfolded T Z
  have D_Lfolded : Df l.prog w K mg base "_law_folded" 1 ["_law_script", "_law_many"] (F_Lfolded c) := ⟨⟨_, _, O_Lfolded, PySem.W.mg_of X G a_Lfolded, k_Lfolded, b_Lfolded⟩⟩
  have O_Ltape := ok_Ltape (P := l.prog) (w := w) (base := base) (c := c) U_Ltape T Z
  have D_Ltape : Df l.prog w K mg base "_law_tape" 1 ["_law_script", "_law_k"] (F_Ltape c) := ⟨⟨_, _, O_Ltape, PySem.W.mg_of X G a_Ltape, k_Ltape, b_Ltape⟩⟩
  have O_SharedFire_init := ok_SharedFire_init (P := l.prog) (w := w) (base := base) (c := c) U_SharedFire_init T Z
  have D_SharedFire_init : Dk l.prog w K mg base "SharedFire" c.SharedFire 1 ["self", "shares", "mouth"] [] (F_SharedFire_init c) := ⟨⟨f_SharedFire_init, _, _, ⟨mk_C_SharedFire, a_SharedFire_init, i_SharedFire_init, kc_C_SharedFire⟩, O_SharedFire_init, PySem.W.mg_of X G g_C_SharedFire, .nil, b_SharedFire_init⟩⟩
  have O_asked_at := ok_asked_at (P := l.prog) (w := w) (base := base) (c := c) U_asked_at T Z
  have D_asked_at : Df l.prog w K mg base "asked_at" 1 ["plan", "number", "first"] (F_asked_at c) := ⟨⟨_, _, O_asked_at, PySem.W.mg_of X G a_asked_at, k_asked_at, b_asked_at_0⟩⟩
  have O_SharedFire_last_of := ok_SharedFire_last_of (P := l.prog) (w := w) (base := base) (c := c) U_SharedFire_last_of T Z
  have D_SharedFire_last_of : Dm l.prog w K mg base c.SharedFire "last_of" 1 ["self", "share"] (F_SharedFire_last_of c) := ⟨⟨f_SharedFire_last_of, _, O_SharedFire_last_of, Z.SharedFire.cl, ⟨a_SharedFire_last_of, i_SharedFire_last_of, k_SharedFire_last_of⟩, b_SharedFire_last_of⟩⟩
  have O_SharedFire_draw_one := ok_SharedFire_draw_one (P := l.prog) (w := w) (base := base) (c := c) U_SharedFire_draw_one T Z D_asked_at D_SharedFire_last_of
  have D_SharedFire_draw_one : Dm l.prog w K mg base c.SharedFire "draw_one" 2 ["self"] (F_SharedFire_draw_one c) := ⟨⟨f_SharedFire_draw_one, _, O_SharedFire_draw_one, Z.SharedFire.cl, ⟨a_SharedFire_draw_one, i_SharedFire_draw_one, k_SharedFire_draw_one⟩, b_SharedFire_draw_one⟩⟩
  have O_SharedFire_draw := ok_SharedFire_draw (P := l.prog) (w := w) (base := base) (c := c) U_SharedFire_draw T Z D_SharedFire_draw_one D_SharedFire_last_of
  have D_SharedFire_draw : Dm l.prog w K mg base c.SharedFire "draw" 3 ["self"] (F_SharedFire_draw c) := ⟨⟨f_SharedFire_draw, _, O_SharedFire_draw, Z.SharedFire.cl, ⟨a_SharedFire_draw, i_SharedFire_draw, k_SharedFire_draw⟩, b_SharedFire_draw⟩⟩
  have O_SharedFire_draw_up_to := ok_SharedFire_draw_up_to (P := l.prog) (w := w) (base := base) (c := c) U_SharedFire_draw_up_to T Z D_SharedFire_draw
  have D_SharedFire_draw_up_to : Dm l.prog w K mg base c.SharedFire "draw_up_to" 4 ["self", "end"] (F_SharedFire_draw_up_to c) := ⟨⟨f_SharedFire_draw_up_to, _, O_SharedFire_draw_up_to, Z.SharedFire.cl, ⟨a_SharedFire_draw_up_to, i_SharedFire_draw_up_to, k_SharedFire_draw_up_to⟩, b_SharedFire_draw_up_to⟩⟩
  have O_common_divisor := ok_common_divisor (P := l.prog) (w := w) (base := base) (c := c) U_common_divisor T Z
  have D_common_divisor : Df l.prog w K mg base "common_divisor" 1 ["one", "other"] (F_common_divisor c) := ⟨⟨_, _, O_common_divisor, PySem.W.mg_of X G a_common_divisor, k_common_divisor, b_common_divisor⟩⟩
  have O_common_beats := ok_common_beats (P := l.prog) (w := w) (base := base) (c := c) U_common_beats T Z D_common_divisor
  have D_common_beats : Df l.prog w K mg base "common_beats" 2 ["shares"] (F_common_beats c) := ⟨⟨_, _, O_common_beats, PySem.W.mg_of X G a_common_beats, k_common_beats, b_common_beats⟩⟩
  have O_SharedFire_ahead := ok_SharedFire_ahead (P := l.prog) (w := w) (base := base) (c := c) U_SharedFire_ahead T Z
  have D_SharedFire_ahead : Dm l.prog w K mg base c.SharedFire "ahead" 1 ["self"] (F_SharedFire_ahead c) := ⟨⟨f_SharedFire_ahead, _, O_SharedFire_ahead, Z.SharedFire.cl, ⟨a_SharedFire_ahead, i_SharedFire_ahead, k_SharedFire_ahead⟩, b_SharedFire_ahead⟩⟩
  have O_SharedFire_settle := ok_SharedFire_settle (P := l.prog) (w := w) (base := base) (c := c) U_SharedFire_settle T Z D_SharedFire_draw_up_to D_common_beats D_SharedFire_ahead
  have D_SharedFire_settle : Dm l.prog w K mg base c.SharedFire "settle" 5 ["self"] (F_SharedFire_settle c) := ⟨⟨f_SharedFire_settle, _, O_SharedFire_settle, Z.SharedFire.cl, ⟨a_SharedFire_settle, i_SharedFire_settle, k_SharedFire_settle⟩, b_SharedFire_settle⟩⟩
  have O_for_ever := ok_for_ever (P := l.prog) (w := w) (base := base) (c := c) U_for_ever T Z D_SharedFire_init D_SharedFire_settle
  have D_for_ever : Df l.prog w K mg base "for_ever" 6 ["shares", "mouth"] (F_for_ever c) := ⟨⟨_, _, O_for_ever, PySem.W.mg_of X G a_for_ever, k_for_ever, b_for_ever_0⟩⟩
  have O_Ldraw := ok_Ldraw (P := l.prog) (w := w) (base := base) (c := c) U_Ldraw T Z
  have D_Ldraw : Df l.prog w K mg base "_law_draw" 1 ["_law_tape_here", "_law_many"] (F_Ldraw c) := ⟨⟨_, _, O_Ldraw, PySem.W.mg_of X G a_Ldraw, k_Ldraw, b_Ldraw⟩⟩
  have O_Lshares := ok_Lshares (P := l.prog) (w := w) (base := base) (c := c) U_Lshares T Z D_Ldraw
  have D_Lshares : Df l.prog w K mg base "_law_shares" 2 ["_law_tape_here"] (F_Lshares c) := ⟨⟨_, _, O_Lshares, PySem.W.mg_of X G a_Lshares, k_Lshares, b_Lshares⟩⟩
  have O_Lasked_at := ok_Lasked_at (P := l.prog) (w := w) (base := base) (c := c) U_Lasked_at T Z
  have D_Lasked_at : Df l.prog w K mg base "_law_asked_at" 1 ["_law_share", "_law_number"] (F_Lasked_at c) := ⟨⟨_, _, O_Lasked_at, PySem.W.mg_of X G a_Lasked_at, k_Lasked_at, b_Lasked_at⟩⟩
  have O_Lwishes_of := ok_Lwishes_of (P := l.prog) (w := w) (base := base) (c := c) U_Lwishes_of T Z D_Lasked_at
  have D_Lwishes_of : Df l.prog w K mg base "_law_wishes_of" 2 ["_law_shares_here", "_law_most"] (F_Lwishes_of c) := ⟨⟨_, _, O_Lwishes_of, PySem.W.mg_of X G a_Lwishes_of, k_Lwishes_of, b_Lwishes_of⟩⟩
  have O_turns := ok_turns (P := l.prog) (w := w) (base := base) (c := c) U_turns T Z
  have D_turns : Df l.prog w K mg base "turns" 1 ["wishes", "mouth"] (F_turns c) := ⟨⟨_, _, O_turns, PySem.W.mg_of X G a_turns, k_turns, b_turns_0⟩⟩
  have O_Lturns_right := ok_Lturns_right (P := l.prog) (w := w) (base := base) (c := c) U_Lturns_right T Z D_Lwishes_of D_turns D_Lasked_at
  have D_Lturns_right : Df l.prog w K mg base "_law_turns_right" 3 ["_law_shares_here", "_law_mouth", "_law_told"] (F_Lturns_right c) := ⟨⟨_, _, O_Lturns_right, PySem.W.mg_of X G a_Lturns_right, k_Lturns_right, b_Lturns_right⟩⟩
  have O_Lmixed := ok_Lmixed (P := l.prog) (w := w) (base := base) (c := c) U_Lmixed T Z D_Ldraw
  have D_Lmixed : Df l.prog w K mg base "_law_mixed" 2 ["_law_tape_here", "_law_some"] (F_Lmixed c) := ⟨⟨_, _, O_Lmixed, PySem.W.mg_of X G a_Lmixed, k_Lmixed, b_Lmixed⟩⟩
  have O_Lsame := ok_Lsame (P := l.prog) (w := w) (base := base) (c := c) U_Lsame T Z (PySem.W.mg_of X G a_Lsame) b_Lsame 8
  have D_Lsame : Df l.prog w K mg base "_law_same" 9 ["_law_found", "_law_due"] (F_Lsame c 8) := ⟨⟨_, _, O_Lsame, PySem.W.mg_of X G a_Lsame, k_Lsame, b_Lsame⟩⟩
  have O_Lmoved_right := ok_Lmoved_right (P := l.prog) (w := w) (base := base) (c := c) U_Lmoved_right T Z D_Lmixed D_for_ever D_Lsame D_Lasked_at
  have D_Lmoved_right : Df l.prog w K mg base "_law_moved_right" 10 ["_law_tape_here", "_law_shares_here", "_law_mouth", "_law_told"] (F_Lmoved_right c) := ⟨⟨_, _, O_Lmoved_right, PySem.W.mg_of X G a_Lmoved_right, k_Lmoved_right, b_Lmoved_right⟩⟩
  have O_Lkept_right := ok_Lkept_right (P := l.prog) (w := w) (base := base) (c := c) U_Lkept_right T Z D_Ldraw D_for_ever
  have D_Lkept_right : Df l.prog w K mg base "_law_kept_right" 7 ["_law_tape_here", "_law_shares_here", "_law_mouth", "_law_told"] (F_Lkept_right c) := ⟨⟨_, _, O_Lkept_right, PySem.W.mg_of X G a_Lkept_right, k_Lkept_right, b_Lkept_right⟩⟩
  have O_law := ok_law (P := l.prog) (w := w) (base := base) (c := c) U_law T Z D_Lfolded D_Ltape D_for_ever D_Lshares D_Lturns_right D_Ldraw D_Lmoved_right D_Lkept_right
  exact O_law.imp fun vs H Q E h => sp_law c h
theorem walk {l : PySem.W.OpenLaw} {q : Program} {loose : List Str} {XP : (Str → Option Value) → Heap → Prop} {YP : World → Heap → Prop} {d : DefRec} {K : Params → PySem.W.Frag} (hn : l.most = some 63) (hdf : d.params.defaults = [])
    (hY : ∀ (w : World) (h : Heap), YP w h → (K w.params).In h)
    (F : ∀ (w : World) (mg : Str → Option Value) (fa : Addr) (h : Heap), (K w.params).In h → h.Ns mainGlobals mg → mg d.name = some (.ref fa) →
      ∃ fd : FuncData, (∀ (s : Shared) (u : Value), BindsTo s fd ⟨[u], []⟩ [("_law_script", u)]) ∧ ∀ base : Heap, (K w.params).In base → base.Ns mainGlobals mg → FnOk l.prog w (K w.params) mg base CX0 11 fa fd ["_law_script"] (spLaw (K w.params))) :
    PySem.W.WalkO q loose XP YP l.row.toRowW d [] (fun f vs => PySem.call f vs) :=
  L2.walk_of (n := 63) (k := 11) (x := "_law_script") (CX := fun _ => CX0) (sp := fun w => spLaw (K w.params)) hn (by decide) hdf ⟨rfl, by decide, by decide⟩ hY F (fun _ _ a ns hl _ hS => ⟨a, ns, rfl, hS, hl, fun _ => rfl⟩) fun _ _ _ _ _ z => z
end HP
open PySem PySem.W PyProof.Rows in
set_option maxRecDepth 100000 in
set_option maxHeartbeats 0 in
theorem PySem.Challenge.cw_hotpass_k44_shares_put_otherwise_holds : PySem.Challenge.rw_hotpass_k44_shares_put_otherwise.Holds := by
  w_on; o_law; k_head; (case hw => w_witness2)
  k_fill
  refine HP.walk (l := PySem.Challenge.rw_hotpass_k44_shares_put_otherwise) rfl rfl (fun w h Y => PySem.W.kIn_of Y) ?F
  case F =>
    intro w mg fa h KX G hmg
    refine' HP.all_mk KX G hmg ?g_C_SharedFire ?pg_C_SharedFire ?hd_C_SharedFire ?po_C_SharedFire ?sa_C_SharedFire ?mk_C_SharedFire ?kc_C_SharedFire ?at_C_SharedFire_shares ?at_C_SharedFire_mouth ?at_C_SharedFire_at ?at_C_SharedFire_numbers ?at_C_SharedFire_asks ?at_C_SharedFire_wait ?at_C_SharedFire_burning ?a_Lfolded ?l_Lfolded ?c_Lfolded ?k_Lfolded ?a_Ltape ?l_Ltape ?c_Ltape ?k_Ltape ?a_common_divisor ?l_common_divisor ?c_common_divisor ?k_common_divisor ?a_common_beats ?l_common_beats ?c_common_beats ?k_common_beats ?a_Ldraw ?l_Ldraw ?c_Ldraw ?k_Ldraw ?a_Lshares ?l_Lshares ?c_Lshares ?k_Lshares ?a_Lasked_at ?l_Lasked_at ?c_Lasked_at ?k_Lasked_at ?a_Lwishes_of ?l_Lwishes_of ?c_Lwishes_of ?k_Lwishes_of ?a_Lturns_right ?l_Lturns_right ?c_Lturns_right ?k_Lturns_right ?a_Lmixed ?l_Lmixed ?c_Lmixed ?k_Lmixed ?a_Lsame ?l_Lsame ?c_Lsame ?k_Lsame ?a_Lmoved_right ?l_Lmoved_right ?c_Lmoved_right ?k_Lmoved_right ?a_Lkept_right ?l_Lkept_right ?c_Lkept_right ?k_Lkept_right ?a_law ?l_law ?c_law ?k_law ?a_SharedFire_init ?i_SharedFire_init ?l_SharedFire_init ?c_SharedFire_init ?k_SharedFire_init ?a_asked_at ?l_asked_at ?c_asked_at ?k_asked_at ?d_asked_at ?a_SharedFire_last_of ?i_SharedFire_last_of ?l_SharedFire_last_of ?c_SharedFire_last_of ?k_SharedFire_last_of ?a_SharedFire_draw_one ?i_SharedFire_draw_one ?l_SharedFire_draw_one ?c_SharedFire_draw_one ?k_SharedFire_draw_one ?a_SharedFire_draw ?i_SharedFire_draw ?l_SharedFire_draw ?c_SharedFire_draw ?k_SharedFire_draw ?a_SharedFire_draw_up_to ?i_SharedFire_draw_up_to ?l_SharedFire_draw_up_to ?c_SharedFire_draw_up_to ?k_SharedFire_draw_up_to ?a_SharedFire_ahead ?i_SharedFire_ahead ?l_SharedFire_ahead ?c_SharedFire_ahead ?k_SharedFire_ahead ?a_SharedFire_settle ?i_SharedFire_settle ?l_SharedFire_settle ?c_SharedFire_settle ?k_SharedFire_settle ?a_for_ever ?l_for_ever ?c_for_ever ?k_for_ever ?d_for_ever ?a_turns ?l_turns ?c_turns ?k_turns ?d_turns ?z_abs ?z_all ?z_bool ?z_enumerate ?z_int ?z_isinstance ?z_len ?z_list ?z_max ?z_min ?z_range ?z_sorted ?z_str ?z_tuple ?z_zip
    (case g_C_SharedFire => k_is)
    (case pg_C_SharedFire => k_is)
    (case hd_C_SharedFire => k_is)
    (case po_C_SharedFire => k_is)
    (case sa_C_SharedFire => k_is)
    (case mk_C_SharedFire => k_is)
    (case kc_C_SharedFire => k_is)
    (case at_C_SharedFire_shares => k_is)
    (case at_C_SharedFire_mouth => k_is)
    (case at_C_SharedFire_at => k_is)
    (case at_C_SharedFire_numbers => k_is)
    (case at_C_SharedFire_asks => k_is)
    (case at_C_SharedFire_wait => k_is)
    (case at_C_SharedFire_burning => k_is)
    (case a_Lfolded => k_is)
    (case l_Lfolded => k_is)
    (case c_Lfolded => k_is)
    (case k_Lfolded => k_is)
    (case a_Ltape => k_is)
    (case l_Ltape => k_is)
    (case c_Ltape => k_is)
    (case k_Ltape => k_is)
    (case a_common_divisor => k_is)
    (case l_common_divisor => k_is)
    (case c_common_divisor => k_is)
    (case k_common_divisor => k_is)
    (case a_common_beats => k_is)
    (case l_common_beats => k_is)
    (case c_common_beats => k_is)
    (case k_common_beats => k_is)
    (case a_Ldraw => k_is)
    (case l_Ldraw => k_is)
    (case c_Ldraw => k_is)
    (case k_Ldraw => k_is)
    (case a_Lshares => k_is)
    (case l_Lshares => k_is)
    (case c_Lshares => k_is)
    (case k_Lshares => k_is)
    (case a_Lasked_at => k_is)
    (case l_Lasked_at => k_is)
    (case c_Lasked_at => k_is)
    (case k_Lasked_at => k_is)
    (case a_Lwishes_of => k_is)
    (case l_Lwishes_of => k_is)
    (case c_Lwishes_of => k_is)
    (case k_Lwishes_of => k_is)
    (case a_Lturns_right => k_is)
    (case l_Lturns_right => k_is)
    (case c_Lturns_right => k_is)
    (case k_Lturns_right => k_is)
    (case a_Lmixed => k_is)
    (case l_Lmixed => k_is)
    (case c_Lmixed => k_is)
    (case k_Lmixed => k_is)
    (case a_Lsame => k_is)
    (case l_Lsame => k_is)
    (case c_Lsame => k_is)
    (case k_Lsame => k_is)
    (case a_Lmoved_right => k_is)
    (case l_Lmoved_right => k_is)
    (case c_Lmoved_right => k_is)
    (case k_Lmoved_right => k_is)
    (case a_Lkept_right => k_is)
    (case l_Lkept_right => k_is)
    (case c_Lkept_right => k_is)
    (case k_Lkept_right => k_is)
    (case a_law => k_is)
    (case l_law => k_is)
    (case c_law => k_is)
    (case k_law => k_is)
    (case a_SharedFire_init => k_is)
    (case i_SharedFire_init => k_is)
    (case l_SharedFire_init => k_is)
    (case c_SharedFire_init => k_is)
    (case k_SharedFire_init => k_is)
    (case a_asked_at => k_is)
    (case l_asked_at => k_is)
    (case c_asked_at => k_is)
    (case k_asked_at => k_is)
    (case d_asked_at => k_is)
    (case a_SharedFire_last_of => k_is)
    (case i_SharedFire_last_of => k_is)
    (case l_SharedFire_last_of => k_is)
    (case c_SharedFire_last_of => k_is)
    (case k_SharedFire_last_of => k_is)
    (case a_SharedFire_draw_one => k_is)
    (case i_SharedFire_draw_one => k_is)
    (case l_SharedFire_draw_one => k_is)
    (case c_SharedFire_draw_one => k_is)
    (case k_SharedFire_draw_one => k_is)
    (case a_SharedFire_draw => k_is)
    (case i_SharedFire_draw => k_is)
    (case l_SharedFire_draw => k_is)
    (case c_SharedFire_draw => k_is)
    (case k_SharedFire_draw => k_is)
    (case a_SharedFire_draw_up_to => k_is)
    (case i_SharedFire_draw_up_to => k_is)
    (case l_SharedFire_draw_up_to => k_is)
    (case c_SharedFire_draw_up_to => k_is)
    (case k_SharedFire_draw_up_to => k_is)
    (case a_SharedFire_ahead => k_is)
    (case i_SharedFire_ahead => k_is)
    (case l_SharedFire_ahead => k_is)
    (case c_SharedFire_ahead => k_is)
    (case k_SharedFire_ahead => k_is)
    (case a_SharedFire_settle => k_is)
    (case i_SharedFire_settle => k_is)
    (case l_SharedFire_settle => k_is)
    (case c_SharedFire_settle => k_is)
    (case k_SharedFire_settle => k_is)
    (case a_for_ever => k_is)
    (case l_for_ever => k_is)
    (case c_for_ever => k_is)
    (case k_for_ever => k_is)
    (case d_for_ever => k_is)
    (case a_turns => k_is)
    (case l_turns => k_is)
    (case c_turns => k_is)
    (case k_turns => k_is)
    (case d_turns => k_is)
    (case z_abs => k_is)
    (case z_all => k_is)
    (case z_bool => k_is)
    (case z_enumerate => k_is)
    (case z_int => k_is)
    (case z_isinstance => k_is)
    (case z_len => k_is)
    (case z_list => k_is)
    (case z_max => k_is)
    (case z_min => k_is)
    (case z_range => k_is)
    (case z_sorted => k_is)
    (case z_str => k_is)
    (case z_tuple => k_is)
    (case z_zip => k_is)
