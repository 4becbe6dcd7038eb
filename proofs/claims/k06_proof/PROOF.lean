import PyProof.Rows.All
import Wide.All
import OpenK.AllK
import Wide.FinOn
import HandS.ForMost
import HandS.Evl
import HandS.Deep
import HandS.ForExc
import HandS.Lambda
import KE.KNestM
import HandS.Iter
import HandS.TupAny
import HandS.IsInst
import HandS.SortInts
import HandS.SortRule
import HandS.More
import HandS.Text
import KE.DataCmp
import KE.SortData
import KE.SortCalls
import HandS.Conv
import HandS.Style
import HandS.RaiseMore
import HandS.SetBool
import HandS.TupSets
import KE.DataMinMax
import HandS.Star
import HandS.NoneIn
import KE.GoesEnumKw
import HandS.FStr
import KE.KExcSuper
import HandS.ExcField
import HandS.TryMany
import KE.KExcIs
import PySem.Challenge.RW_linkless_k06_texts_there_and_back
set_option Elab.async false
set_option autoImplicit false
set_option linter.all false
set_option maxRecDepth 100000
section
set_option maxHeartbeats 4000000
/-! MiA: data by value, an arena of lists that change, and what stands for them in the layer's heap. -/
namespace Mi
open PySem PySem.Spec PyProof.Rows L2
open Evl (Ex)

/-! ### data that stand still -/
mutual
inductive Dq (K : PySem.W.Frag) (S : Hp) : V → PyData → Prop
  | non : Dq K S .non .none
  | bl (b : Bool) : Dq K S (.bl b) (.bool b)
  | int (i : Int) : Dq K S (.int i) (.int i)
  | str (x : Str) : Dq K S (.str x) (.str x)
  | lst {a : Addr} {vs : List V} {ds : List PyData} (h : S a = some (.lst vs)) (q : DqAll K S vs ds) : Dq K S (.ref a) (.list ds)
  | tup {a : Addr} {vs : List V} {ds : List PyData} (h : SqT K S a vs) (q : DqAll K S vs ds) : Dq K S (.ref a) (.tuple ds)
  | dic {a : Addr} (h : S a = some (.dK [])) : Dq K S (.ref a) (.dict [])
inductive DqAll (K : PySem.W.Frag) (S : Hp) : List V → List PyData → Prop
  | nil : DqAll K S [] []
  | cons {v : V} {vs : List V} {d : PyData} {ds : List PyData} (h : Dq K S v d) (q : DqAll K S vs ds) : DqAll K S (v :: vs) (d :: ds)
end
section
variable {K : PySem.W.Frag} {S S' H : Hp}
mutual
theorem Dq.mono (e : Ex S S') : ∀ (d : PyData) (v : V), Dq K S v d → Dq K S' v d
  | .none, _, h => by cases h; exact .non
  | .bool b, _, h => by cases h; exact .bl b
  | .int i, _, h => by cases h; exact .int i
  | .str x, _, h => by cases h; exact .str x
  | .list ds, _, h => by
    cases h with
    | lst h q => exact .lst (e _ _ h) (DqAll.mono e ds _ q)
  | .tuple ds, _, h => by
    cases h with
    | tup h q => exact .tup (Evl.ex_t e h) (DqAll.mono e ds _ q)
  | .dict _, _, h => by
    cases h with
    | dic h => exact .dic (e _ _ h)
theorem DqAll.mono (e : Ex S S') : ∀ (ds : List PyData) (vs : List V), DqAll K S vs ds → DqAll K S' vs ds
  | [], _, h => by cases h; exact .nil
  | d :: ds, _, h => by
    cases h with
    | cons h q => exact .cons (Dq.mono e d _ h) (DqAll.mono e ds _ q)
end
theorem DqAll.length : ∀ {vs : List V} {ds : List PyData}, DqAll K S vs ds → vs.length = ds.length
  | _, _, .nil => rfl
  | _, _, .cons _ q => by rw [List.length_cons, List.length_cons, DqAll.length q]
theorem DqAll.get : ∀ {vs : List V} {ds : List PyData} {i : Nat} {d : PyData}, DqAll K S vs ds → ds[i]? = some d → ∃ v, vs[i]? = some v ∧ Dq K S v d
  | _, _, _, _, .nil, e => by simp at e
  | _, _, 0, _, .cons h _, e => by simp at e; subst e; exact ⟨_, rfl, h⟩
  | _, _, i + 1, _, .cons _ q, e => by
    obtain ⟨v, h1, h2⟩ := DqAll.get (i := i) q (by simpa using e)
    exact ⟨v, by simpa using h1, h2⟩
theorem DqAll.getV : ∀ {vs : List V} {ds : List PyData} {i : Nat} {v : V}, DqAll K S vs ds → vs[i]? = some v → ∃ d, ds[i]? = some d ∧ Dq K S v d
  | _, _, _, _, .nil, e => by simp at e
  | _, _, 0, _, .cons h _, e => by simp at e; subst e; exact ⟨_, rfl, h⟩
  | _, _, i + 1, _, .cons _ q, e => by
    obtain ⟨v, h1, h2⟩ := DqAll.getV (i := i) q (by simpa using e)
    exact ⟨v, by simpa using h1, h2⟩
theorem DqAll.append : ∀ {vs ws : List V} {ds es : List PyData}, DqAll K S vs ds → DqAll K S ws es → DqAll K S (vs ++ ws) (ds ++ es)
  | _, _, _, _, .nil, r => r
  | _, _, _, _, .cons h q, r => .cons h (DqAll.append q r)
theorem DqAll.take : ∀ {vs : List V} {ds : List PyData} (n : Nat), DqAll K S vs ds → DqAll K S (vs.take n) (ds.take n)
  | _, _, 0, _ => .nil
  | _, _, _ + 1, .nil => .nil
  | _, _, n + 1, .cons h q => .cons h (DqAll.take n q)
theorem DqAll.drop : ∀ {vs : List V} {ds : List PyData} (n : Nat), DqAll K S vs ds → DqAll K S (vs.drop n) (ds.drop n)
  | _, _, 0, r => r
  | _, _, _ + 1, .nil => .nil
  | _, _, n + 1, .cons _ q => DqAll.drop n q
theorem DqAll.set {v : V} {d : PyData} (h : Dq K S v d) : ∀ {vs : List V} {ds : List PyData} (i : Nat), DqAll K S vs ds → DqAll K S (vs.set i v) (ds.set i d)
  | _, _, _, .nil => .nil
  | _, _, 0, .cons _ q => .cons h q
  | _, _, i + 1, .cons r q => .cons r (DqAll.set h i q)
theorem DqAll.dropLast : ∀ {vs : List V} {ds : List PyData}, DqAll K S vs ds → DqAll K S vs.dropLast ds.dropLast
  | _, _, .nil => .nil
  | _, _, .cons _ .nil => .nil
  | _, _, .cons h (.cons h2 q) => .cons h (DqAll.dropLast (.cons h2 q))
theorem DqAll.one {v : V} {d : PyData} (h : Dq K S v d) : DqAll K S [v] [d] := .cons h .nil
theorem DqAll.of : ∀ {vs : List V} {ds : List PyData}, vs.length = ds.length → (∀ (i : Nat) (v : V) (d : PyData), vs[i]? = some v → ds[i]? = some d → Dq K S v d) → DqAll K S vs ds
  | [], [], _, _ => .nil
  | v :: vs, d :: ds, hl, h => .cons (h 0 v d rfl rfl) (DqAll.of (by simpa using hl) fun i a b e1 e2 => h (i + 1) a b (by simpa using e1) (by simpa using e2))
  | [], _ :: _, hl, _ => by simp at hl
  | _ :: _, [], hl, _ => by simp at hl
theorem DqAll.reverse : ∀ {vs : List V} {ds : List PyData}, DqAll K S vs ds → DqAll K S vs.reverse ds.reverse
  | _, _, .nil => .nil
  | _, _, .cons h q => by
    rw [List.reverse_cons, List.reverse_cons]
    exact (DqAll.reverse q).append (.one h)
theorem DqAll.ints : ∀ (ns : List Int), DqAll K S (ns.map V.int) (ns.map PyData.int)
  | [] => .nil
  | n :: r => .cons (.int n) (DqAll.ints r)
theorem DqAll.unints : ∀ {vs : List V} {ns : List Int}, DqAll K S vs (ns.map PyData.int) → vs = ns.map V.int
  | _, [], h => by cases h; rfl
  | _, n :: r, h => by
    cases h with
    | cons h q =>
      cases h
      rw [DqAll.unints q]
      rfl
theorem DqAll.unbools : ∀ {vs : List V} {bs : List Bool}, DqAll K S vs (bs.map PyData.bool) → vs = bs.map V.bl
  | _, [], h => by cases h; rfl
  | _, n :: r, h => by
    cases h with
    | cons h q =>
      cases h
      rw [DqAll.unbools q]
      rfl
theorem DqAll.unstrs : ∀ {vs : List V} {bs : List Str}, DqAll K S vs (bs.map PyData.str) → vs = bs.map V.str
  | _, [], h => by cases h; rfl
  | _, n :: r, h => by
    cases h with
    | cons h q =>
      cases h
      rw [DqAll.unstrs q]
      rfl
theorem DqAll.strs : ∀ (ns : List Str), DqAll K S (ns.map V.str) (ns.map PyData.str)
  | [] => .nil
  | n :: r => .cons (.str n) (DqAll.strs r)
end

/-! ### what a datum is, seen by its shape -/
mutual
/-- no list within -/
def noList : PyData → Bool
  | .list _ => false
  | .tuple xs => noListAll xs
  | _ => true
def noListAll : List PyData → Bool
  | [] => true
  | x :: xs => noList x && noListAll xs
end
mutual
/-- no dict within -/
def noDict : PyData → Bool
  | .dict _ => false
  | .list xs | .tuple xs => noDictAll xs
  | _ => true
def noDictAll : List PyData → Bool
  | [] => true
  | x :: xs => noDict x && noDictAll xs
end
mutual
theorem Dq.toDp {K : PySem.W.Frag} {S : Hp} : ∀ (d : PyData) (v : V), Dq K S v d → noDict d = true → Dp K S v d
  | .none, _, h, _ => by cases h; exact .non
  | .bool b, _, h, _ => by cases h; exact .bl b
  | .int i, _, h, _ => by cases h; exact .int i
  | .str x, _, h, _ => by cases h; exact .str x
  | .list ds, _, h, n => by
    cases h with
    | lst h q => exact .lst (.inl (.inl h)) (DqAll.toDp ds _ q (by simpa only [noDict] using n))
  | .tuple ds, _, h, n => by
    cases h with
    | tup h q => exact .tup h (DqAll.toDp ds _ q (by simpa only [noDict] using n))
  | .dict _, _, h, n => by simp only [noDict] at n; cases n
theorem DqAll.toDp {K : PySem.W.Frag} {S : Hp} : ∀ (ds : List PyData) (vs : List V), DqAll K S vs ds → noDictAll ds = true → DpAll K S vs ds
  | [], _, h, _ => by cases h; exact .nil
  | d :: ds, _, h, n => by
    simp only [noDictAll, Bool.and_eq_true] at n
    cases h with
    | cons h q => exact .cons (Dq.toDp d _ h n.1) (DqAll.toDp ds _ q n.2)
end
mutual
theorem noDict_has : ∀ d : PyData, noDict d = true → d.hasDict = false
  | .none, _ => by simp [PyData.hasDict]
  | .bool _, _ => by simp [PyData.hasDict]
  | .int _, _ => by simp [PyData.hasDict]
  | .str _, _ => by simp [PyData.hasDict]
  | .list xs, h => by
    simp only [noDict] at h
    simp only [PyData.hasDict]
    exact noDictAll_has xs h
  | .tuple xs, h => by
    simp only [noDict] at h
    simp only [PyData.hasDict]
    exact noDictAll_has xs h
  | .dict _, h => by simp [noDict] at h
theorem noDictAll_has : ∀ ds : List PyData, noDictAll ds = true → PyData.hasDictAll ds = false
  | [], _ => by simp [PyData.hasDictAll]
  | d :: ds, h => by
    simp only [noDictAll, Bool.and_eq_true] at h
    simp only [PyData.hasDictAll, noDict_has d h.1, noDictAll_has ds h.2, Bool.or_self]
end

/-! ### values, the arena, slots -/
inductive D where
  | p (d : PyData)
  | ref (n : Nat)
  | scr (ns : List Int)
inductive O where
  | lst (xs : List PyData)
  | refs (ns : List Nat)
  | dct (kvs : List (Int × PyData))
  | tab (q : Str)
  | gone
abbrev Arn := List O
abbrev Slt := List (Option D)

def RD (K : PySem.W.Frag) (S : Hp) (ρ : List Addr) : D → V → Prop
  | .p d, v => Dq K S v d
  | .ref n, v => ∃ a, v = .ref a ∧ ρ[n]? = some a
  | .scr ns, v => ∃ a, v = .ref a ∧ SqL K S a (ns.map V.int)
def Pre (ρ ρ' : List Addr) : Prop := ∃ t, ρ' = ρ ++ t
theorem Pre.refl (ρ : List Addr) : Pre ρ ρ := ⟨[], by simp⟩
theorem Pre.trans {a b c : List Addr} (h : Pre a b) (k : Pre b c) : Pre a c := by
  obtain ⟨t, rfl⟩ := h
  obtain ⟨u, rfl⟩ := k
  exact ⟨t ++ u, by simp⟩
theorem Pre.get {ρ ρ' : List Addr} (h : Pre ρ ρ') {n : Nat} {a : Addr} (e : ρ[n]? = some a) : ρ'[n]? = some a := by
  obtain ⟨t, rfl⟩ := h
  rw [List.getElem?_append_left (List.getElem?_eq_some_iff.mp e).1]
  exact e
theorem Pre.snoc (ρ : List Addr) (a : Addr) : Pre ρ (ρ ++ [a]) := ⟨[a], rfl⟩
structure Le (S : Hp) (ρ : List Addr) (S' : Hp) (ρ' : List Addr) : Prop where
  ex : Ex S S'
  pre : Pre ρ ρ'
theorem Le.refl (S : Hp) (ρ : List Addr) : Le S ρ S ρ := ⟨Ex.refl S, Pre.refl ρ⟩
theorem Le.trans {S S1 S2 : Hp} {ρ ρ1 ρ2 : List Addr} (a : Le S ρ S1 ρ1) (b : Le S1 ρ1 S2 ρ2) : Le S ρ S2 ρ2 := ⟨a.ex.trans b.ex, a.pre.trans b.pre⟩
theorem RD.mono {K : PySem.W.Frag} {S S' : Hp} {ρ ρ' : List Addr} (l : Le S ρ S' ρ') : ∀ {d : D} {v : V}, RD K S ρ d v → RD K S' ρ' d v
  | .p _, _, h => Dq.mono l.ex _ _ h
  | .ref _, _, ⟨a, e, h⟩ => ⟨a, e, l.pre.get h⟩
  | .scr _, _, ⟨a, e, h⟩ => ⟨a, e, Evl.ex_l l.ex h⟩
abbrev RDs (K : PySem.W.Frag) (S : Hp) (ρ : List Addr) : List D → List V → Prop := Paired (RD K S ρ)
theorem RDs.mono {K : PySem.W.Frag} {S S' : Hp} {ρ ρ' : List Addr} (l : Le S ρ S' ρ') {ds : List D} {vs : List V} (h : RDs K S ρ ds vs) : RDs K S' ρ' ds vs := Paired.mapP h fun _ _ r => r.mono l

/-- a dict's pairs -/
abbrev Kvs (K : PySem.W.Frag) (S : Hp) : List (L2.Key × V) → List (Int × PyData) → Prop := Paired (fun p q => p.1 = Sum.inl q.1 ∧ Dq K S p.2 q.2)
theorem Kvs.mono {K : PySem.W.Frag} {S S' : Hp} (e : Ex S S') {vs : List (L2.Key × V)} {kvs : List (Int × PyData)} (h : Kvs K S vs kvs) : Kvs K S' vs kvs := Paired.mapP h fun _ _ r => ⟨r.1, Dq.mono e _ _ r.2⟩
/-- a lambda's name within the def q -/
def lamq (q : Str) : Str := q ++ ".<locals>." ++ "<lambda>"
/-- P is the table of code objects of the def q -/
def TabAt (K : PySem.W.Frag) (q : Str) (P : Addr) : Prop := ∃ (f : Addr) (o : Obj) (fd : FuncData) (c : Addr), PySem.W.nsIn K mainGlobals q = some (some (.ref f)) ∧ K.lookup f = some o ∧ o.data = .func fd ∧ fd.code = .ref c ∧ PySem.W.codeHdIn K c P = true
/-- what stands in it: code objects of lambdas -/
def TabIn (S H : Hp) (q : Str) (P : Addr) : Prop := ∃ ps : Array Value, H P = some (.tbl ps) ∧ TriplesOk ps.toList ∧ ∀ (pos : Pos) (cv : Value), codeAmong pos ps.toList = some cv → ∃ c, cv = .ref c ∧ S c = some (LamX.CodeO c (lamq q))
theorem TabIn.map {S S' H H' : Hp} {q : Str} {P : Addr} (t : TabIn S H q P) (hP : ∀ ps, H P = some (.tbl ps) → H' P = some (.tbl ps)) (ex : Ex S S') : TabIn S' H' q P := by
  obtain ⟨ps, h1, h2, h3⟩ := t
  refine ⟨ps, hP ps h1, h2, fun pos cv e => ?_⟩
  obtain ⟨c, e1, e2⟩ := h3 pos cv e
  exact ⟨c, e1, ex _ _ e2⟩
/-- .. where another address is written -/
theorem TabIn.upd {S H : Hp} {q : Str} {P x : Addr} {u : HO} (t : TabIn S H q P) (hx : P ≠ x) : TabIn S (L2.upd H x u) q P :=
  t.map (fun ps e => by rw [upd_ne hx]; exact e) (Ex.refl S)
/-- the arena's part of the heap: what changes stands apart from what stands still; F: what belongs to others and is left as it is -/
structure Wo (K : PySem.W.Frag) (F S : Hp) (ρ : List Addr) (H : Hp) (A : Arn) : Prop where
  sub : Ex S H
  fsub : Ex F H
  fdis : ∀ a, F a ≠ none → S a = none
  flive : ∀ (n : Nat) (o : O) (a : Addr), A[n]? = some o → o ≠ .gone → ρ[n]? = some a → F a = none
  len : ρ.length = A.length
  lst : ∀ (n : Nat) (xs : List PyData), A[n]? = some (O.lst xs) → ∃ a vs, ρ[n]? = some a ∧ S a = none ∧ H a = some (.lst vs) ∧ DqAll K S vs xs
  refs : ∀ (n : Nat) (ns : List Nat), A[n]? = some (O.refs ns) → ∃ a vs, ρ[n]? = some a ∧ S a = none ∧ H a = some (.lst vs) ∧ Paired (fun m v => ∃ b, v = V.ref b ∧ ρ[m]? = some b) ns vs
  dct : ∀ (n : Nat) (kvs : List (Int × PyData)), A[n]? = some (O.dct kvs) → ∃ a vs, ρ[n]? = some a ∧ S a = none ∧ H a = some (.dK vs) ∧ Kvs K S vs kvs
  tab : ∀ (n : Nat) (q : Str), A[n]? = some (O.tab q) → ∃ a, ρ[n]? = some a ∧ S a = none ∧ TabAt K q a ∧ TabIn S H q a
  inj : ∀ (n m : Nat) (o u : O) (a : Addr), A[n]? = some o → A[m]? = some u → o ≠ .gone → u ≠ .gone → ρ[n]? = some a → ρ[m]? = some a → n = m
/-- new things stand; nothing that stood has changed -/
structure Grow (S H S' H' : Hp) : Prop where
  ex : Ex S S'
  exH : Ex H H'
  sub : Ex S' H'
  new : ∀ a, S' a ≠ none → S a ≠ none ∨ H a = none
theorem Grow.refl {S H : Hp} (h : Ex S H) : Grow S H S H := ⟨Ex.refl S, Ex.refl H, h, fun _ z => .inl z⟩
theorem none_sub {S H : Hp} (h : Ex S H) {p : Addr} (n : H p = none) : S p = none := by
  cases e : S p with
  | none => rfl
  | some u => rw [h p u e] at n; cases n
theorem Grow.upd {S H : Hp} (h : Ex S H) {p : Addr} {o : HO} (n : H p = none) : Grow S H (upd S p o) (upd H p o) := by
  have ns : S p = none := none_sub h n
  refine ⟨Ex.new ns, Ex.new n, fun a u e => ?_, fun a z => ?_⟩
  · by_cases q : a = p
    · subst q; rw [upd_same] at e ⊢; exact e
    · rw [upd_ne q] at e ⊢; exact h a u e
  · by_cases q : a = p
    · subst q; exact .inr n
    · rw [upd_ne q] at z; exact .inl z
/-- .. a thing that S does not hold -/
theorem Grow.side {S H : Hp} (h : Ex S H) {p : Addr} {o : HO} (n : H p = none) : Grow S H S (L2.upd H p o) := ⟨Ex.refl S, Ex.new n, h.trans (Ex.new n), fun _ z => .inl z⟩
theorem Grow.trans {S H S1 H1 S2 H2 : Hp} (a : Grow S H S1 H1) (b : Grow S1 H1 S2 H2) : Grow S H S2 H2 :=
  ⟨a.ex.trans b.ex, a.exH.trans b.exH, b.sub, fun x z => by
    rcases b.new x z with h | h
    · exact a.new x h
    · exact .inr (none_sub a.exH h)⟩
structure Fresh (F S : Hp) (ρ : List Addr) (A : Arn) (p : Addr) : Prop where
  s : S p = none
  f : F p = none
  live : ∀ (n : Nat) (o : O), A[n]? = some o → o ≠ .gone → ρ[n]? ≠ some p
section
variable {K : PySem.W.Frag} {F S S' H H' : Hp} {ρ ρ' : List Addr} {A : Arn}
theorem Wo.live (w : Wo K F S ρ H A) {n : Nat} {o : O} (e : A[n]? = some o) (ne : o ≠ .gone) : ∃ a v, ρ[n]? = some a ∧ S a = none ∧ F a = none ∧ H a = some v := by
  cases o with
  | gone => exact absurd rfl ne
  | lst xs => obtain ⟨a, vs, h1, h2, h3, _⟩ := w.lst n xs e; exact ⟨a, _, h1, h2, w.flive n _ a e ne h1, h3⟩
  | refs xs => obtain ⟨a, vs, h1, h2, h3, _⟩ := w.refs n xs e; exact ⟨a, _, h1, h2, w.flive n _ a e ne h1, h3⟩
  | dct xs => obtain ⟨a, vs, h1, h2, h3, _⟩ := w.dct n xs e; exact ⟨a, _, h1, h2, w.flive n _ a e ne h1, h3⟩
  | tab q => obtain ⟨a, h1, h2, _, vs, h3, _⟩ := w.tab n q e; exact ⟨a, _, h1, h2, w.flive n _ a e ne h1, h3⟩
theorem Wo.fresh (w : Wo K F S ρ H A) {p : Addr} (n : H p = none) : Fresh F S ρ A p := ⟨none_sub w.sub n, none_sub w.fsub n, fun i o e ne z => by
  obtain ⟨a, vs, h1, _, _, h3⟩ := w.live e ne
  rw [z] at h1
  cases h1
  rw [n] at h3
  cases h3⟩
theorem Wo.grow (w : Wo K F S ρ H A) (g : Grow S H S' H') : Wo K F S' ρ H' A := by
  have off : ∀ a u, S a = none → H a = some u → S' a = none := fun a u e1 e2 => by
    cases e : S' a with
    | none => rfl
    | some z =>
      rcases g.new a (by rw [e]; simp) with h | h
      · exact absurd e1 h
      · rw [e2] at h; cases h
  refine ⟨g.sub, w.fsub.trans g.exH, fun a z => ?_, w.flive, w.len, fun n xs e => ?_, fun n ns e => ?_, fun n ks e => ?_, fun n q e => ?_, w.inj⟩
  · cases e : F a with
    | none => exact absurd e z
    | some u => exact off a u (w.fdis a z) (w.fsub a u e)
  · obtain ⟨a, vs, h1, h2, h3, h4⟩ := w.lst n xs e
    exact ⟨a, vs, h1, off a _ h2 h3, g.exH a _ h3, DqAll.mono g.ex _ _ h4⟩
  · obtain ⟨a, vs, h1, h2, h3, h4⟩ := w.refs n ns e
    exact ⟨a, vs, h1, off a _ h2 h3, g.exH a _ h3, h4⟩
  · obtain ⟨a, vs, h1, h2, h3, h4⟩ := w.dct n ks e
    exact ⟨a, vs, h1, off a _ h2 h3, g.exH a _ h3, h4.mono g.ex⟩
  · obtain ⟨a, h1, h2, h3, h4⟩ := w.tab n q e
    obtain ⟨ps, g1, _⟩ := id h4
    exact ⟨a, h1, off a _ h2 g1, h3, h4.map (fun ps z => g.exH a _ z) g.ex⟩
theorem Grow.le (g : Grow S H S' H') (ρ : List Addr) : Le S ρ S' ρ := ⟨g.ex, Pre.refl ρ⟩
theorem set_live {A : Arn} {n : Nat} {o o' : O} (e : A[n]? = some o) (ne : o ≠ .gone) {i : Nat} {u : O} (z : (A.set n o')[i]? = some u) (nz : u ≠ .gone) : ∃ u', A[i]? = some u' ∧ u' ≠ .gone := by
  by_cases hi : i = n
  · subst hi; exact ⟨o, e, ne⟩
  · rw [List.getElem?_set_ne (Ne.symm hi)] at z; exact ⟨u, z, nz⟩
/-- a list of the arena is written -/
theorem Wo.set (w : Wo K F S ρ H A) {n : Nat} {xs ys : List PyData} {a : Addr} {vs : List V} (e : A[n]? = some (.lst xs)) (ha : ρ[n]? = some a) (hv : DqAll K S vs ys) : Wo K F S ρ (upd H a (.lst vs)) (A.set n (.lst ys)) := by
  have hlt : n < A.length := (List.getElem?_eq_some_iff.mp e).1
  obtain ⟨a', vs', h1, h2, h3, _⟩ := w.lst n xs e
  rw [ha] at h1
  cases h1
  have fa := w.flive n _ a e (by simp) ha
  have off : ∀ {m : Nat} {o : O} {b : Addr}, m ≠ n → A[m]? = some o → o ≠ .gone → ρ[m]? = some b → b ≠ a := fun {m o b} hm q nq g z => hm (w.inj m n _ _ a q e nq (by simp) (by rw [← z]; exact g) ha)
  refine ⟨fun b u q => ?_, fun b u q => ?_, w.fdis, fun m o b q nq g => ?_, by rw [List.length_set]; exact w.len, fun m zs q => ?_, fun m ns q => ?_, fun m ns q => ?_, fun m ns q => ?_, fun m k o u b q1 q2 n1 n2 r1 r2 => ?_⟩
  · rw [upd_ne (by rintro rfl; rw [h2] at q; cases q)]
    exact w.sub b u q
  · rw [upd_ne (by rintro rfl; rw [fa] at q; cases q)]
    exact w.fsub b u q
  · obtain ⟨o', z1, z2⟩ := set_live e (by simp) q nq
    exact w.flive m o' b z1 z2 g
  · by_cases hm : m = n
    · subst hm
      rw [List.getElem?_set_self hlt] at q
      cases q
      exact ⟨a, vs, ha, h2, upd_same, hv⟩
    · rw [List.getElem?_set_ne (Ne.symm hm)] at q
      obtain ⟨b, ws, g1, g2, g3, g4⟩ := w.lst m zs q
      refine ⟨b, ws, g1, g2, ?_, g4⟩
      rw [upd_ne (off hm q (by simp) g1)]
      exact g3
  · have hm : m ≠ n := by
      rintro rfl
      rw [List.getElem?_set_self hlt] at q
      cases q
    rw [List.getElem?_set_ne (Ne.symm hm)] at q
    obtain ⟨b, ws, g1, g2, g3, g4⟩ := w.refs m ns q
    refine ⟨b, ws, g1, g2, ?_, g4⟩
    rw [upd_ne (off hm q (by simp) g1)]
    exact g3
  · have hm : m ≠ n := by
      rintro rfl
      rw [List.getElem?_set_self hlt] at q
      cases q
    rw [List.getElem?_set_ne (Ne.symm hm)] at q
    obtain ⟨b, ws, g1, g2, g3, g4⟩ := w.dct m ns q
    refine ⟨b, ws, g1, g2, ?_, g4⟩
    rw [upd_ne (off hm q (by simp) g1)]
    exact g3
  · have hm : m ≠ n := by
      rintro rfl
      rw [List.getElem?_set_self hlt] at q
      cases q
    rw [List.getElem?_set_ne (Ne.symm hm)] at q
    obtain ⟨b, g1, g2, g3, g4⟩ := w.tab m ns q
    exact ⟨b, g1, g2, g3, g4.upd (off hm q (by simp) g1)⟩
  · obtain ⟨o', z1, z2⟩ := set_live e (by simp) q1 n1
    obtain ⟨u', z3, z4⟩ := set_live e (by simp) q2 n2
    exact w.inj m k o' u' b z1 z3 z2 z4 r1 r2
/-- a new list of the arena -/
theorem Wo.alloc (w : Wo K F S ρ H A) {p : Addr} {vs : List V} {xs : List PyData} (fr : Fresh F S ρ A p) (hp : H p = some (.lst vs)) (hv : DqAll K S vs xs) : Wo K F S (ρ ++ [p]) H (A ++ [.lst xs]) := by
  have hl := w.len
  have old : ∀ {n : Nat} {o : O}, (A ++ [O.lst xs])[n]? = some o → (n < A.length ∧ A[n]? = some o ∧ (ρ ++ [p])[n]? = ρ[n]?) ∨ (n = A.length ∧ o = .lst xs ∧ (ρ ++ [p])[n]? = some p) := fun {n o} e => by
    by_cases hn : n < A.length
    · rw [List.getElem?_append_left hn] at e
      exact .inl ⟨hn, e, List.getElem?_append_left (by omega)⟩
    · rw [List.getElem?_append_right (by omega)] at e
      have h0 : n - A.length = 0 := by
        cases z : n - A.length with
        | zero => rfl
        | succ k => rw [z] at e; simp at e
      have hn' : n = A.length := by omega
      rw [h0] at e
      have e' : O.lst xs = o := by simpa using e
      refine .inr ⟨hn', e'.symm, ?_⟩
      rw [List.getElem?_append_right (by omega), show n - ρ.length = 0 by omega]
      rfl
  refine ⟨w.sub, w.fsub, w.fdis, fun n o a e ne g => ?_, by simp [hl], fun n ys e => ?_, fun n ns e => ?_, fun n ns e => ?_, fun n ns e => ?_, fun n m o u a q1 q2 n1 n2 r1 r2 => ?_⟩
  · rcases old e with ⟨_, e1, e2⟩ | ⟨_, _, e2⟩
    · exact w.flive n o a e1 ne (by rw [← e2]; exact g)
    · rw [e2] at g
      cases g
      exact fr.f
  · rcases old e with ⟨_, e1, e2⟩ | ⟨_, e1, e2⟩
    · obtain ⟨a, ws, g1, g2, g3, g4⟩ := w.lst n ys e1
      exact ⟨a, ws, by rw [e2]; exact g1, g2, g3, g4⟩
    · cases e1
      exact ⟨p, vs, e2, fr.s, hp, hv⟩
  · rcases old e with ⟨_, e1, e2⟩ | ⟨_, e1, e2⟩
    · obtain ⟨a, ws, g1, g2, g3, g4⟩ := w.refs n ns e1
      refine ⟨a, ws, by rw [e2]; exact g1, g2, g3, Paired.mapP g4 fun m v ⟨b, z1, z2⟩ => ⟨b, z1, (Pre.snoc ρ p).get z2⟩⟩
    · cases e1
  · rcases old e with ⟨_, e1, e2⟩ | ⟨_, e1, e2⟩
    · obtain ⟨a, ws, g1, g2, g3, g4⟩ := w.dct n ns e1
      exact ⟨a, ws, by rw [e2]; exact g1, g2, g3, g4⟩
    · cases e1
  · rcases old e with ⟨_, e1, e2⟩ | ⟨_, e1, e2⟩
    · obtain ⟨a, g1, g2⟩ := w.tab n ns e1
      exact ⟨a, by rw [e2]; exact g1, g2⟩
    · cases e1
  · rcases old q1 with ⟨_, e1, e2⟩ | ⟨e0, e1, e2⟩
    · rcases old q2 with ⟨_, e3, e4⟩ | ⟨_, e3, e4⟩
      · exact w.inj n m o u a e1 e3 n1 n2 (by rw [← e2]; exact r1) (by rw [← e4]; exact r2)
      · rw [r2] at e4
        cases e4
        exact absurd (by rw [← e2]; exact r1) (fr.live n o e1 n1)
    · rcases old q2 with ⟨_, e3, e4⟩ | ⟨f0, e3, e4⟩
      · rw [r1] at e2
        cases e2
        exact absurd (by rw [← e4]; exact r2) (fr.live m u e3 n2)
      · rw [e0, f0]
/-- a list that is nobody else's stands still -/
theorem Wo.still (w : Wo K F S ρ H A) {p : Addr} {vs : List V} (fr : Fresh F S ρ A p) (hp : H p = some (.lst vs)) : Wo K F (L2.upd S p (.lst vs)) ρ H A := by
  have ex : Ex S (L2.upd S p (.lst vs)) := Ex.new fr.s
  have off : ∀ {m : Nat} {o : O} {b : Addr}, A[m]? = some o → o ≠ .gone → ρ[m]? = some b → b ≠ p := fun {m o b} q nq g z => fr.live m o q nq (by rw [← z]; exact g)
  refine ⟨fun b u q => ?_, w.fsub, fun b z => ?_, w.flive, w.len, fun m ys q => ?_, fun m ns q => ?_, fun m ns q => ?_, fun m ns q => ?_, w.inj⟩
  · by_cases hb : b = p
    · subst hb; rw [upd_same] at q; cases q; exact hp
    · rw [upd_ne hb] at q; exact w.sub b u q
  · rw [upd_ne (by rintro rfl; exact z fr.f)]
    exact w.fdis b z
  · obtain ⟨b, ws, g1, g2, g3, g4⟩ := w.lst m ys q
    refine ⟨b, ws, g1, ?_, g3, DqAll.mono ex _ _ g4⟩
    rw [upd_ne (off q (by simp) g1)]
    exact g2
  · obtain ⟨b, ws, g1, g2, g3, g4⟩ := w.refs m ns q
    refine ⟨b, ws, g1, ?_, g3, g4⟩
    rw [upd_ne (off q (by simp) g1)]
    exact g2
  · obtain ⟨b, ws, g1, g2, g3, g4⟩ := w.dct m ns q
    refine ⟨b, ws, g1, ?_, g3, g4.mono ex⟩
    rw [upd_ne (off q (by simp) g1)]
    exact g2
  · obtain ⟨b, g1, g2, g3, g4⟩ := w.tab m ns q
    refine ⟨b, g1, ?_, g3, g4.map (fun ps e => e) ex⟩
    rw [upd_ne (off q (by simp) g1)]
    exact g2
/-- a list of the arena leaves it -/
theorem Wo.leave (w : Wo K F S ρ H A) {n : Nat} {xs : List PyData} {a : Addr} (e : A[n]? = some (.lst xs)) (ha : ρ[n]? = some a) : Wo K F S ρ H (A.set n .gone) ∧ Fresh F S ρ (A.set n .gone) a := by
  have hlt : n < A.length := (List.getElem?_eq_some_iff.mp e).1
  obtain ⟨a', vs', h1, h2, h3, _⟩ := w.lst n xs e
  rw [ha] at h1
  cases h1
  have ne : ∀ {m : Nat} {o : O}, (A.set n .gone)[m]? = some o → o ≠ .gone → m ≠ n ∧ A[m]? = some o := fun {m o} z nz => by
    by_cases hi : m = n
    · subst hi
      rw [List.getElem?_set_self hlt] at z
      cases z
      exact absurd rfl nz
    · rw [List.getElem?_set_ne (Ne.symm hi)] at z; exact ⟨hi, z⟩
  refine ⟨⟨w.sub, w.fsub, w.fdis, fun m o b q nq g => w.flive m o b (ne q nq).2 nq g, by rw [List.length_set]; exact w.len, fun m ys q => w.lst m ys (ne q (by simp)).2, fun m ns q => w.refs m ns (ne q (by simp)).2, fun m ns q => w.dct m ns (ne q (by simp)).2, fun m ns q => w.tab m ns (ne q (by simp)).2,
    fun m k o u b q1 q2 n1 n2 r1 r2 => w.inj m k o u b (ne q1 n1).2 (ne q2 n2).2 n1 n2 r1 r2⟩, h2, w.flive n _ a e (by simp) ha, fun m o q nq z => ?_⟩
  obtain ⟨hm, q'⟩ := ne q nq
  exact hm (w.inj m n o _ a q' e nq (by simp) z ha)
/-- a list of the arena stands still from now on -/
theorem Wo.freeze (w : Wo K F S ρ H A) {n : Nat} {xs : List PyData} (e : A[n]? = some (.lst xs)) :
    ∃ S' a, Le S ρ S' ρ ∧ Wo K F S' ρ H (A.set n .gone) ∧ ρ[n]? = some a ∧ Dq K S' (.ref a) (.list xs) := by
  obtain ⟨a, vs, h1, h2, h3, h4⟩ := w.lst n xs e
  obtain ⟨w', fr⟩ := w.leave e h1
  exact ⟨_, a, ⟨Ex.new h2, Pre.refl ρ⟩, w'.still fr h3, h1, .lst upd_same (DqAll.mono (Ex.new h2) _ _ h4)⟩
end

/-! ### slots -/
structure SR (K : PySem.W.Frag) (S : Hp) (ρ : List Addr) (s : Slt) (σ : L2.St) : Prop where
  len : s.length = σ.length
  at_ : ∀ (i : Nat) (d : D), s[i]? = some (some d) → ∃ v, σ[i]? = some (some v) ∧ RD K S ρ d v
section
variable {K : PySem.W.Frag} {S S' H H' : Hp} {ρ ρ' : List Addr} {A : Arn} {s : Slt} {σ : L2.St}
theorem SR.mono (l : Le S ρ S' ρ') (h : SR K S ρ s σ) : SR K S' ρ' s σ := ⟨h.len, fun i d e => let ⟨v, a, b⟩ := h.at_ i d e; ⟨v, a, b.mono l⟩⟩
theorem SR.set (h : SR K S ρ s σ) {i : Nat} {d : D} {v : V} (r : RD K S ρ d v) : SR K S ρ (s.set i (some d)) (σ.set i (some v)) := by
  refine ⟨by simp [h.len], fun j e q => ?_⟩
  by_cases hj : j = i
  · subst hj
    have hlt : j < s.length := by
      have := (List.getElem?_eq_some_iff.mp q).1
      simpa using this
    rw [List.getElem?_set_self hlt] at q
    cases q
    exact ⟨v, List.getElem?_set_self (by rw [← h.len]; exact hlt), r⟩
  · rw [List.getElem?_set_ne (Ne.symm hj)] at q
    obtain ⟨w, a, b⟩ := h.at_ j e q
    exact ⟨w, by rw [List.getElem?_set_ne (Ne.symm hj)]; exact a, b⟩
theorem SR.start {N : List Str} {ds : List D} {vs : List V} (r : RDs K S ρ ds vs) (hn : vs.length ≤ N.length) : SR K S ρ (ds.map some ++ List.replicate (N.length - ds.length) none) (L2.start N vs) := by
  have hl : ds.length = vs.length := Paired.length r
  refine ⟨by simp [L2.start, hl], fun i d e => ?_⟩
  by_cases hi : i < ds.length
  · rw [List.getElem?_append_left (by simpa using hi)] at e
    rw [List.getElem?_map] at e
    cases q : ds[i]? with
    | none => rw [q] at e; cases e
    | some d' =>
      rw [q] at e
      have e' : d' = d := by simpa using e
      subst e'
      have : ∃ v, vs[i]? = some v ∧ RD K S ρ d' v := by
        clear e hn hi hl
        induction r generalizing i with
        | nil => simp at q
        | cons r0 rs ih =>
          cases i with
          | zero => simp at q; subst q; exact ⟨_, rfl, r0⟩
          | succ i => simpa using ih i (by simpa using q)
      obtain ⟨v, a, b⟩ := this
      refine ⟨v, ?_, b⟩
      unfold L2.start
      rw [List.getElem?_append_left (by rw [List.length_map]; omega), List.getElem?_map, a]
      rfl
  · rw [List.getElem?_append_right (by simpa using Nat.le_of_not_lt hi)] at e
    rw [List.getElem?_replicate] at e
    split at e <;> cases e
end
end Mi
end

section
set_option maxHeartbeats 4000000
/-! MiB: programs as functions of slots and arena, and their readings. -/
namespace Mi
open PySem PySem.Spec PyProof.Rows L2
open Evl (Ex)

/-- an exception of the program's own: its class, its one field -/
structure Exn where
  cls : Str
  fld : Str
  val : PyData
inductive Res (α : Type) where
  | ok (a : α) (A : Arn)
  | exn (e : Exn) (A : Arn)
  | bad
def Res.bind {α β : Type} (r : Res α) (f : α → Arn → Res β) : Res β :=
  match r with
  | .ok a A => f a A
  | .exn e A => .exn e A
  | .bad => .bad
inductive Out where
  | nx (s : Slt) (A : Arn)
  | rt (d : D) (A : Arn)
  | bk (s : Slt) (A : Arn)
  | ct (s : Slt) (A : Arn)
  | exn (e : Exn) (A : Arn)
  | bad
abbrev ME := Slt → Arn → Res D
abbrev MT := Slt → Arn → Res Bool
abbrev MA := Slt → Arn → Res (List D)
abbrev MS := Slt → Arn → Out
abbrev MF := List D → Arn → Res D

def mVar (i : Nat) : ME := fun s A => match s[i]? with
  | some (some d) => .ok d A
  | _ => .bad
def mC (d : PyData) : ME := fun _ A => .ok (.p d) A
def opt1 (r : Option (D × Arn)) : Res D := match r with
  | some (d, A) => .ok d A
  | none => .bad
def mOp1 (f : D → Arn → Option (D × Arn)) (m : ME) : ME := fun s A => (m s A).bind fun a A1 => opt1 (f a A1)
def mOp2 (f : D → D → Arn → Option (D × Arn)) (m k : ME) : ME := fun s A => (m s A).bind fun a A1 => (k s A1).bind fun b A2 => opt1 (f a b A2)
def aNil : MA := fun _ A => .ok [] A
def aCons (m : ME) (k : MA) : MA := fun s A => (m s A).bind fun a A1 => (k s A1).bind fun as A2 => .ok (a :: as) A2
def mOpN (f : List D → Arn → Option (D × Arn)) (m : MA) : ME := fun s A => (m s A).bind fun a A1 => opt1 (f a A1)
def mCall (f : MF) (m : MA) : ME := fun s A => (m s A).bind f
/-- a value of the arena read as data -/
def dataOf (d : D) (A : Arn) : Option PyData :=
  match d with
  | .p d => some d
  | .ref n => match A[n]? with
    | some (.lst xs) => some (.list xs)
    | _ => none
  | .scr ns => some (.list (ns.map PyData.int))
/-- .. but the script -/
def dataOwn (d : D) (A : Arn) : Option PyData :=
  match d with
  | .scr _ => none
  | d => dataOf d A
def lift2o (f : PyData → PyData → Option PyData) : D → D → Arn → Option (D × Arn) := fun a b A => (dataOwn a A).bind fun x => (dataOwn b A).bind fun y => (f x y).map fun z => (.p z, A)
def lift1 (f : PyData → Option PyData) : D → Arn → Option (D × Arn) := fun a A => (dataOf a A).bind fun x => (f x).map fun z => (.p z, A)
def lift2 (f : PyData → PyData → Option PyData) : D → D → Arn → Option (D × Arn) := fun a b A => (dataOf a A).bind fun x => (dataOf b A).bind fun y => (f x y).map fun z => (.p z, A)
def datasOf : List D → Arn → Option (List PyData)
  | [], _ => some []
  | d :: ds, A => (dataOf d A).bind fun x => (datasOf ds A).map fun xs => x :: xs
def liftN (f : List PyData → Option PyData) : List D → Arn → Option (D × Arn) := fun a A => (datasOf a A).bind fun x => (f x).map fun z => (.p z, A)
/-- a test -/
def mB (m : ME) : MT := fun s A => (m s A).bind fun a A1 => match a with
  | .p (.bool b) => .ok b A1
  | _ => .bad
def mV (m : MT) : ME := fun s A => (m s A).bind fun b A1 => .ok (.p (.bool b)) A1
def mNot (m : MT) : MT := fun s A => (m s A).bind fun b A1 => .ok (!b) A1
def mAnd (m k : MT) : MT := fun s A => (m s A).bind fun b A1 => if b = true then k s A1 else .ok false A1
def mOr (m k : MT) : MT := fun s A => (m s A).bind fun b A1 => if b = true then .ok true A1 else k s A1
def mIfE (c : MT) (m k : ME) : ME := fun s A => (c s A).bind fun b A1 => if b = true then m s A1 else k s A1

/-! ### what stands behind -/
def ER (K : PySem.W.Frag) (S : Hp) (e : Exn) (c : Value) (d : Option Addr) (H : Hp) : Prop :=
  (∃ C, c = .ref C ∧ PySem.W.nsIn K mainGlobals e.cls = some (some (.ref C))) ∧ ∃ dd v, d = some dd ∧ H dd = some (.xd [(e.fld, v)]) ∧ Dq K S v e.val
section
variable {α β γ δ : Type}
abbrev Rl (α β : Type) := Hp → List Addr → α → β → Prop
def EndG (K : PySem.W.Frag) (W : WX) (F : Hp) (rel : Rl α β) (S : Hp) (ρ : List Addr) (σ : L2.St) (Q : β → Hp → Prop) : Res α → Prop
  | .ok a A' => ∀ S' ρ' H' x, Le S ρ S' ρ' → Wo K F S' ρ' H' A' → rel S' ρ' a x → Q x H'
  | .exn e A' => ∀ S' ρ' H' c d, Le S ρ S' ρ' → Wo K F S' ρ' H' A' → ER K S' e c d H' → W c d σ H'
  | .bad => False
def tG (K : PySem.W.Frag) (W : WX) (rel : Rl α β) (m : Slt → Arn → Res α) : L2.St → Hp → (β → Hp → Prop) → Prop := fun σ H Q =>
  ∃ F S ρ s A, Wo K F S ρ H A ∧ SR K S ρ s σ ∧ EndG K W F rel S ρ σ Q (m s A)
variable {K : PySem.W.Frag} {W : WX} {rel : Rl α β} {rel2 : Rl γ δ} {F S S' H H' : Hp} {ρ ρ' : List Addr} {σ : L2.St} {A : Arn} {s : Slt}
theorem EndG.le {Q : β → Hp → Prop} {r : Res α} (l : Le S ρ S' ρ') (h : EndG K W F rel S ρ σ Q r) : EndG K W F rel S' ρ' σ Q r := by
  cases r with
  | ok a A => exact fun S2 ρ2 H2 x l2 w r => h S2 ρ2 H2 x (l.trans l2) w r
  | exn e A => exact fun S2 ρ2 H2 c d l2 w r => h S2 ρ2 H2 c d (l.trans l2) w r
  | bad => exact h
theorem EndG.imp {Q Q' : β → Hp → Prop} {r : Res α} (h : EndG K W F rel S ρ σ Q r) (k : ∀ x H, Q x H → Q' x H) : EndG K W F rel S ρ σ Q' r := by
  cases r with
  | ok a A => exact fun S2 ρ2 H2 x l2 w r => k _ _ (h S2 ρ2 H2 x l2 w r)
  | exn e A => exact h
  | bad => exact h
theorem EndG.bind {Q : δ → Hp → Prop} {r : Res α} {f : α → Arn → Res γ} (h : EndG K W F rel2 S ρ σ Q (r.bind f)) :
    EndG K W F rel S ρ σ (fun x H1 => ∃ S1 ρ1 A1 a, Le S ρ S1 ρ1 ∧ Wo K F S1 ρ1 H1 A1 ∧ rel S1 ρ1 a x ∧ EndG K W F rel2 S1 ρ1 σ Q (f a A1)) r := by
  cases r with
  | ok a A => exact fun S2 ρ2 H2 x l2 w r => ⟨S2, ρ2, A, a, l2, w, r, EndG.le l2 h⟩
  | exn e A => exact h
  | bad => exact h
theorem EndG.ok {Q : β → Hp → Prop} {a : α} {x : β} (h : EndG K W F rel S ρ σ Q (.ok a A)) (w : Wo K F S ρ H A) (r : rel S ρ a x) : Q x H := h S ρ H x (Le.refl _ _) w r
end
abbrev tE (K : PySem.W.Frag) (W : WX) (m : ME) : TE := tG K W (RD K) m
abbrev tT (K : PySem.W.Frag) (W : WX) (m : MT) : TT := tG K W (fun _ _ a b => a = b) m
abbrev tA (K : PySem.W.Frag) (W : WX) (m : MA) : TA := tG K W (RDs K) m

section
variable {X : Cx} {W : WX}
theorem pe_imp {e : Expr} {t t' : TE} (h : PE X e t) (k : ∀ σ H Q, t' σ H Q → t σ H Q) : PE X e t' := ⟨fun pins s σ H Q I q => h.run pins s σ H Q I (k _ _ _ q)⟩
theorem pt_imp {e : Expr} {t t' : TT} (h : PT X e t) (k : ∀ σ H Q, t' σ H Q → t σ H Q) : PT X e t' := ⟨fun pins s σ H Q I q => h.run pins s σ H Q I (k _ _ _ q)⟩
theorem pw_imp {e : Expr} {t t' : TT} (h : PW X e t) (k : ∀ σ H Q, t' σ H Q → t σ H Q) : PW X e t' := ⟨fun wh pins s σ H Q I q => h.run wh pins s σ H Q I (k _ _ _ q)⟩
theorem pa_imp {e : List Expr} {t t' : TA} (h : PA X e t) (k : ∀ σ H Q, t' σ H Q → t σ H Q) : PA X e t' := ⟨fun pos pins s σ H Q I q => h.run pos pins s σ H Q I (k _ _ _ q)⟩
theorem ps_imp {e : Stmt} {t t' : TS} (h : PS X e t) (k : ∀ D σ H, t' D σ H → t D σ H) : PS X e t' := ⟨fun pins s σ H D I q => h.run pins s σ H D I (k _ _ _ q)⟩
theorem pss_imp {e : List Stmt} {t t' : TS} (h : PSs X e t) (k : ∀ D σ H, t' D σ H → t D σ H) : PSs X e t' := ⟨fun pins s σ H D I q => h.run pins s σ H D I (k _ _ _ q)⟩

theorem xe_var {i : Nat} {x : Str} {pos : Pos} (hN : X.N[i]? = some x) (hv : Vis X.env.scope x) (hd : (x == ("__debug__" : Str)) = false := by decide) (hcd : (x == ("__classdict__" : Str)) = false := by decide) : PE X (.Name x pos) (tE X.K W (mVar i)) := by
  refine pe_imp (pe_var (i := i) hN hv hd hcd) fun σ H Q ⟨F, S, ρ, s, A, w, sr, h⟩ => ?_
  unfold mVar at h
  cases e : s[i]? with
  | none => rw [e] at h; exact h.elim
  | some o =>
    rw [e] at h
    cases o with
    | none => exact h.elim
    | some d =>
      obtain ⟨v, h1, h2⟩ := sr.at_ i d e
      exact ⟨v, h1, EndG.ok h w h2⟩
theorem xe_c {e : Expr} {v : V} {d : PyData} (h : PE X e (tC v)) (r : ∀ S, Dq X.K S v d) : PE X e (tE X.K W (mC d)) :=
  pe_imp h fun _ _ _ ⟨F, S, _, _, _, w, _, q⟩ => EndG.ok q w (r S)
theorem xe_int {i : Int} {j pos} : PE X (.Constant (.int i) j pos) (tE X.K W (mC (.int i))) := xe_c pe_int fun _ => .int i
theorem xe_bl {b : Bool} {j pos} : PE X (.Constant (.bool b) j pos) (tE X.K W (mC (.bool b))) := xe_c pe_bl fun _ => .bl b
theorem xe_non {j pos} : PE X (.Constant .none j pos) (tE X.K W (mC .none)) := xe_c pe_non fun _ => .non
theorem xe_str {x : Str} {j pos} : PE X (.Constant (.str x) j pos) (tE X.K W (mC (.str x))) := xe_c pe_str fun _ => .str x

/-- operations by values: what is asked of them -/
def rM1 (K : PySem.W.Frag) (f : D → Arn → Option (D × Arn)) : V → Hp → VK → Prop := fun x H Q => ∃ F S ρ A a b A', Wo K F S ρ H A ∧ RD K S ρ a x ∧ f a A = some (b, A') ∧ ∀ S' ρ' H' v, Le S ρ S' ρ' → Wo K F S' ρ' H' A' → RD K S' ρ' b v → Q v H'
def rM2 (K : PySem.W.Frag) (f : D → D → Arn → Option (D × Arn)) : R2 := fun x y H Q => ∃ F S ρ A a b c A', Wo K F S ρ H A ∧ RD K S ρ a x ∧ RD K S ρ b y ∧ f a b A = some (c, A') ∧ ∀ S' ρ' H' v, Le S ρ S' ρ' → Wo K F S' ρ' H' A' → RD K S' ρ' c v → Q v H'
def rMN (K : PySem.W.Frag) (f : List D → Arn → Option (D × Arn)) : List V → Hp → VK → Prop := fun xs H Q => ∃ F S ρ A as b A', Wo K F S ρ H A ∧ RDs K S ρ as xs ∧ f as A = some (b, A') ∧ ∀ S' ρ' H' v, Le S ρ S' ρ' → Wo K F S' ρ' H' A' → RD K S' ρ' b v → Q v H'
theorem EndG.opt {K : PySem.W.Frag} {F S : Hp} {ρ : List Addr} {σ : L2.St} {Q : VK} {r : Option (D × Arn)} (h : EndG K W F (RD K) S ρ σ Q (opt1 r)) : ∃ b A', r = some (b, A') ∧ ∀ S' ρ' H' v, Le S ρ S' ρ' → Wo K F S' ρ' H' A' → RD K S' ρ' b v → Q v H' := by
  cases r with
  | none => exact h.elim
  | some p => exact ⟨p.1, p.2, rfl, h⟩
section
variable {K : PySem.W.Frag}
theorem t_op1 {f : D → Arn → Option (D × Arn)} {m : ME} : ∀ σ H Q, tE K W (mOp1 f m) σ H Q → tUn (rM1 K f) (tE K W m) σ H Q := fun σ H Q ⟨F, S, ρ, s, A, w, sr, h⟩ =>
  ⟨F, S, ρ, s, A, w, sr, (EndG.bind h).imp fun x H1 ⟨S1, ρ1, A1, a, _, w1, r1, h1⟩ => by
    obtain ⟨b, A', e, k⟩ := EndG.opt h1
    exact ⟨F, S1, ρ1, A1, a, b, A', w1, r1, e, k⟩⟩
theorem t_op2 {f : D → D → Arn → Option (D × Arn)} {m k : ME} : ∀ σ H Q, tE K W (mOp2 f m k) σ H Q → tOp (rM2 K f) (tE K W m) (tE K W k) σ H Q := fun σ H Q ⟨F, S, ρ, s, A, w, sr, h⟩ =>
  ⟨F, S, ρ, s, A, w, sr, (EndG.bind h).imp fun x H1 ⟨S1, ρ1, A1, a, l1, w1, r1, h1⟩ =>
    ⟨F, S1, ρ1, s, A1, w1, sr.mono l1, (EndG.bind h1).imp fun y H2 ⟨S2, ρ2, A2, b, l2, w2, r2, h2⟩ => by
      obtain ⟨c, A', e, k⟩ := EndG.opt h2
      exact ⟨F, S2, ρ2, A2, a, b, c, A', w2, r1.mono l2, r2, e, k⟩⟩⟩
theorem t_opN {f : List D → Arn → Option (D × Arn)} {m : MA} : ∀ σ H Q, tE K W (mOpN f m) σ H Q → tCB (rMN K f) (tA K W m) σ H Q := fun σ H Q ⟨F, S, ρ, s, A, w, sr, h⟩ =>
  ⟨F, S, ρ, s, A, w, sr, (EndG.bind h).imp fun x H1 ⟨S1, ρ1, A1, a, _, w1, r1, h1⟩ => by
    obtain ⟨b, A', e, k⟩ := EndG.opt h1
    exact ⟨F, S1, ρ1, A1, a, b, A', w1, r1, e, k⟩⟩
theorem t_nil : ∀ σ H Q, tA K W aNil σ H Q → tNil σ H Q := fun σ H Q ⟨F, S, ρ, s, A, w, sr, h⟩ => EndG.ok h w .nil
theorem t_cons {m : ME} {k : MA} : ∀ σ H Q, tA K W (aCons m k) σ H Q → tCons (tE K W m) (tA K W k) σ H Q := fun σ H Q ⟨F, S, ρ, s, A, w, sr, h⟩ =>
  ⟨F, S, ρ, s, A, w, sr, (EndG.bind h).imp fun x H1 ⟨S1, ρ1, A1, a, l1, w1, r1, h1⟩ =>
    ⟨F, S1, ρ1, s, A1, w1, sr.mono l1, (EndG.bind h1).imp fun y H2 ⟨S2, ρ2, A2, b, l2, w2, r2, h2⟩ => EndG.ok h2 w2 (.cons (r1.mono l2) r2)⟩⟩
theorem t_B {m : ME} : ∀ σ H Q, tT K W (mB m) σ H Q → tTest (tE K W m) σ H Q := fun σ H Q ⟨F, S, ρ, s, A, w, sr, h⟩ =>
  ⟨F, S, ρ, s, A, w, sr, (EndG.bind h).imp fun x H1 ⟨S1, ρ1, A1, a, l1, w1, r1, h1⟩ => by
    cases a with
    | ref n => exact h1.elim
    | scr ns => exact h1.elim
    | p d =>
      cases d with
      | bool b =>
        cases r1
        exact ⟨b, rfl, EndG.ok h1 w1 rfl⟩
      | none => exact h1.elim
      | int i => exact h1.elim
      | str x => exact h1.elim
      | list x => exact h1.elim
      | tuple x => exact h1.elim
      | dict x => exact h1.elim⟩
theorem t_not {m : MT} : ∀ σ H Q, tT K W (mNot m) σ H Q → tNot (tT K W m) σ H Q := fun σ H Q ⟨F, S, ρ, s, A, w, sr, h⟩ =>
  ⟨F, S, ρ, s, A, w, sr, (EndG.bind h).imp fun x H1 ⟨S1, ρ1, A1, a, l1, w1, r1, h1⟩ => by
    subst r1
    exact EndG.ok h1 w1 rfl⟩
theorem t_and {m k : MT} : ∀ σ H Q, tT K W (mAnd m k) σ H Q → tAnd (tT K W m) (tT K W k) σ H Q := fun σ H Q ⟨F, S, ρ, s, A, w, sr, h⟩ =>
  ⟨F, S, ρ, s, A, w, sr, (EndG.bind h).imp fun x H1 ⟨S1, ρ1, A1, a, l1, w1, r1, h1⟩ => by
    subst r1
    cases a with
    | true => exact ⟨F, S1, ρ1, s, A1, w1, sr.mono l1, h1⟩
    | false => exact EndG.ok h1 w1 rfl⟩
theorem t_or {m k : MT} : ∀ σ H Q, tT K W (mOr m k) σ H Q → tOr (tT K W m) (tT K W k) σ H Q := fun σ H Q ⟨F, S, ρ, s, A, w, sr, h⟩ =>
  ⟨F, S, ρ, s, A, w, sr, (EndG.bind h).imp fun x H1 ⟨S1, ρ1, A1, a, l1, w1, r1, h1⟩ => by
    subst r1
    cases a with
    | true => exact EndG.ok h1 w1 rfl
    | false => exact ⟨F, S1, ρ1, s, A1, w1, sr.mono l1, h1⟩⟩
theorem t_if {c : MT} {m k : ME} : ∀ σ H Q, tE K W (mIfE c m k) σ H Q → tIf (tT K W c) (tE K W m) (tE K W k) σ H Q := fun σ H Q ⟨F, S, ρ, s, A, w, sr, h⟩ =>
  ⟨F, S, ρ, s, A, w, sr, (EndG.bind h).imp fun x H1 ⟨S1, ρ1, A1, a, l1, w1, r1, h1⟩ => by
    subst r1
    cases a with
    | true => exact ⟨F, S1, ρ1, s, A1, w1, sr.mono l1, h1⟩
    | false => exact ⟨F, S1, ρ1, s, A1, w1, sr.mono l1, h1⟩⟩
/-- bools as values -/
theorem t_andV {m k : ME} : ∀ σ H Q, tE K W (mV (mAnd (mB m) (mB k))) σ H Q → tAndV (tE K W m) (tE K W k) σ H Q := fun σ H Q ⟨F, S, ρ, s, A, w, sr, h⟩ => by
  refine ⟨F, S, ρ, s, A, w, sr, ?_⟩
  have h : EndG K W F (RD K) S ρ σ Q (((((m s A).bind fun a A1 => match a with
    | .p (.bool b) => Res.ok b A1
    | _ => .bad)).bind fun b A1 => if b = true then mB k s A1 else .ok false A1).bind fun b A1 => .ok (.p (.bool b)) A1) := h
  cases e : m s A with
  | bad => rw [e] at h; exact h.elim
  | exn x A1 => rw [e] at h; exact h
  | ok a A1 =>
    rw [e] at h
    intro S1 ρ1 H1 x l1 w1 r1
    cases a with
    | ref n => exact h.elim
    | scr ns => exact h.elim
    | p d =>
      cases d with
      | bool b =>
        cases r1
        refine ⟨b, rfl, ?_⟩
        cases b with
        | false => exact EndG.ok (EndG.le l1 h) w1 (.bl false)
        | true =>
          refine ⟨F, S1, ρ1, s, A1, w1, sr.mono l1, ?_⟩
          have h : EndG K W F (RD K) S ρ σ Q (((k s A1).bind fun a A1 => match a with
            | .p (.bool b) => Res.ok b A1
            | _ => .bad).bind fun b A1 => .ok (.p (.bool b)) A1) := h
          cases e2 : k s A1 with
          | bad => rw [e2] at h; exact h.elim
          | exn x A1 => rw [e2] at h; exact EndG.le l1 h
          | ok a2 A2 =>
            rw [e2] at h
            intro S2 ρ2 H2 y l2 w2 r2
            cases a2 with
            | ref n => exact h.elim
            | scr ns => exact h.elim
            | p d2 =>
              cases d2 with
              | bool b2 => exact EndG.ok (EndG.le (l1.trans l2) h) w2 r2
              | none => exact h.elim
              | int i => exact h.elim
              | str x => exact h.elim
              | list x => exact h.elim
              | tuple x => exact h.elim
              | dict x => exact h.elim
      | none => exact h.elim
      | int i => exact h.elim
      | str x => exact h.elim
      | list x => exact h.elim
      | tuple x => exact h.elim
      | dict x => exact h.elim
end
end
end Mi
end

section
set_option maxHeartbeats 4000000
/-! MiC: statements, loops, comprehensions, displays. -/
namespace Mi
open PySem PySem.Spec PyProof.Rows L2
open Evl (Ex)

def fromR {α : Type} (r : Res α) (f : α → Arn → Out) : Out := match r with
  | .ok a A => f a A
  | .exn e A => .exn e A
  | .bad => .bad
def sSkip : MS := fun s A => .nx s A
def sSeq (m k : MS) : MS := fun s A => match m s A with
  | .nx s' A' => k s' A'
  | o => o
def sLet (i : Nat) (m : ME) : MS := fun s A => fromR (m s A) fun d A1 => .nx (s.set i (some d)) A1
def sDrop (m : ME) : MS := fun s A => fromR (m s A) fun _ A1 => .nx s A1
def sRet (m : ME) : MS := fun s A => fromR (m s A) fun d A1 => .rt d A1
def sRetN : MS := fun _ A => .rt (.p .none) A
def sIf (c : MT) (m k : MS) : MS := fun s A => fromR (c s A) fun b A1 => if b = true then m s A1 else k s A1
def sBrk : MS := fun s A => .bk s A
def sCnt : MS := fun s A => .ct s A
def sNever : MS := fun _ _ => .bad
def sPar (i j : Nat) (m : MA) : MS := fun s A => fromR (m s A) fun ds A1 => match ds with
  | [d, e] => .nx ((s.set i (some d)).set j (some e)) A1
  | _ => .bad
/-- targets -/
abbrev MG := PyData → Slt → Option Slt
def gN (i : Nat) : MG := fun x s => some (s.set i (some (.p x)))
def gNone : List PyData → Slt → Option Slt := fun xs s => match xs with
  | [] => some s
  | _ => none
def gMore (g : MG) (r : List PyData → Slt → Option Slt) : List PyData → Slt → Option Slt := fun xs s => match xs with
  | x :: xs => (g x s).bind (r xs)
  | [] => none
def gTp (r : List PyData → Slt → Option Slt) : MG := fun x s => match x with
  | .tuple xs => r xs s
  | _ => none
def optS (o : Option Slt) (A : Arn) : Out := match o with
  | some s => .nx s A
  | none => .bad
def sAsg (m : ME) (g : MG) : MS := fun s A => fromR (m s A) fun d A1 => match d with
  | .p x => optS (g x s) A1
  | _ => .bad
abbrev MI := Slt → Arn → Res (List PyData)
/-- behind a turn's body -/
def Out.turn (o : Out) (k : Slt → Arn → Out) : Out := match o with
  | .nx s A => k s A
  | .ct s A => k s A
  | .bk s A => .nx s A
  | .rt d A => .rt d A
  | .exn e A => .exn e A
  | .bad => .bad
def forL (step : PyData → MS) : List PyData → MS
  | [], s, A => .nx s A
  | x :: xs, s, A => (step x s A).turn (forL step xs)
def turnF (g : MG) (b : MS) : PyData → MS := fun x s A => match g x s with
  | some s' => b s' A
  | none => .bad
def sFor (m : MI) (g : MG) (b : MS) : MS := fun s A => fromR (m s A) fun xs A1 => forL (turnF g b) xs s A1
def whileN (c : MT) (b : MS) : Nat → MS
  | 0, _, _ => .bad
  | n + 1, s, A => fromR (c s A) fun k A1 => if k = true then (b s A1).turn (whileN c b n) else .nx s A1
def sWhile (n : Nat) (c : MT) (b : MS) : MS := whileN c b n

/-! ### readings -/
def EndS (K : PySem.W.Frag) (W : WX) (F S : Hp) (ρ : List Addr) (D : Ends) : Out → Prop
  | .nx s' A' => ∀ S' ρ' H' σ', Le S ρ S' ρ' → Wo K F S' ρ' H' A' → SR K S' ρ' s' σ' → D.nx σ' H'
  | .bk s' A' => ∀ S' ρ' H' σ', Le S ρ S' ρ' → Wo K F S' ρ' H' A' → SR K S' ρ' s' σ' → D.bk σ' H'
  | .ct s' A' => ∀ S' ρ' H' σ', Le S ρ S' ρ' → Wo K F S' ρ' H' A' → SR K S' ρ' s' σ' → D.ct σ' H'
  | .rt v A' => ∀ S' ρ' H' x, Le S ρ S' ρ' → Wo K F S' ρ' H' A' → RD K S' ρ' v x → D.rt x H'
  | .exn e A' => ∀ S' ρ' H' σ' c d, Le S ρ S' ρ' → Wo K F S' ρ' H' A' → ER K S' e c d H' → W c d σ' H'
  | .bad => False
def tS (K : PySem.W.Frag) (W : WX) (m : MS) : TS := fun D σ H => ∃ F S ρ s A, Wo K F S ρ H A ∧ SR K S ρ s σ ∧ EndS K W F S ρ D (m s A)
section
variable {α β : Type} {K : PySem.W.Frag} {W : WX} {rel : Rl α β} {F S S' H H' : Hp} {ρ ρ' : List Addr} {σ : L2.St} {A : Arn} {s : Slt} {D D' : Ends}
theorem EndS.le {r : Out} (l : Le S ρ S' ρ') (h : EndS K W F S ρ D r) : EndS K W F S' ρ' D r := by
  cases r with
  | nx a A => exact fun S2 ρ2 H2 x l2 w r => h S2 ρ2 H2 x (l.trans l2) w r
  | bk a A => exact fun S2 ρ2 H2 x l2 w r => h S2 ρ2 H2 x (l.trans l2) w r
  | ct a A => exact fun S2 ρ2 H2 x l2 w r => h S2 ρ2 H2 x (l.trans l2) w r
  | rt a A => exact fun S2 ρ2 H2 x l2 w r => h S2 ρ2 H2 x (l.trans l2) w r
  | exn e A => exact fun S2 ρ2 H2 σ' c d l2 w r => h S2 ρ2 H2 σ' c d (l.trans l2) w r
  | bad => exact h
theorem EndS.from {r : Res α} {f : α → Arn → Out} (h : EndS K W F S ρ D (fromR r f)) :
    EndG K W F rel S ρ σ (fun x H1 => ∃ S1 ρ1 A1 a, Le S ρ S1 ρ1 ∧ Wo K F S1 ρ1 H1 A1 ∧ rel S1 ρ1 a x ∧ EndS K W F S1 ρ1 D (f a A1)) r := by
  cases r with
  | ok a A => exact fun S2 ρ2 H2 x l2 w r => ⟨S2, ρ2, A, a, l2, w, r, EndS.le l2 h⟩
  | exn e A => exact fun S2 ρ2 H2 c d l2 w r => h S2 ρ2 H2 σ c d l2 w r
  | bad => exact h
theorem EndS.nx {s' : Slt} (h : EndS K W F S ρ D (.nx s' A)) (w : Wo K F S ρ H A) (r : SR K S ρ s' σ) : D.nx σ H := h S ρ H σ (Le.refl _ _) w r
theorem t_seq {m k : MS} : ∀ D σ H, tS K W (sSeq m k) D σ H → tSeq (tS K W m) (tS K W k) D σ H := fun D σ H ⟨F, S, ρ, s, A, w, sr, h⟩ => by
  refine ⟨F, S, ρ, s, A, w, sr, ?_⟩
  unfold sSeq at h
  cases e : m s A with
  | nx s1 A1 => rw [e] at h; exact fun S1 ρ1 H1 σ1 l1 w1 r1 => ⟨F, S1, ρ1, s1, A1, w1, r1, EndS.le l1 h⟩
  | bk s1 A1 => rw [e] at h; exact h
  | ct s1 A1 => rw [e] at h; exact h
  | rt s1 A1 => rw [e] at h; exact h
  | exn s1 A1 => rw [e] at h; exact h
  | bad => rw [e] at h; exact h
theorem t_let {m : ME} {i : Nat} : ∀ D σ H, tS K W (sLet i m) D σ H → tAsg (tE K W m) (gName i) D σ H := fun D σ H ⟨F, S, ρ, s, A, w, sr, h⟩ =>
  ⟨F, S, ρ, s, A, w, sr, (EndS.from h).imp fun x H1 ⟨S1, ρ1, A1, a, l1, w1, r1, h1⟩ => EndS.nx h1 w1 ((sr.mono l1).set r1)⟩
theorem t_drop {m : ME} : ∀ D σ H, tS K W (sDrop m) D σ H → tDrop (tE K W m) D σ H := fun D σ H ⟨F, S, ρ, s, A, w, sr, h⟩ =>
  ⟨F, S, ρ, s, A, w, sr, (EndS.from h).imp fun x H1 ⟨S1, ρ1, A1, a, l1, w1, r1, h1⟩ => EndS.nx h1 w1 (sr.mono l1)⟩
theorem t_ret {m : ME} : ∀ D σ H, tS K W (sRet m) D σ H → tRet (tE K W m) D σ H := fun D σ H ⟨F, S, ρ, s, A, w, sr, h⟩ =>
  ⟨F, S, ρ, s, A, w, sr, (EndS.from h).imp fun x H1 ⟨S1, ρ1, A1, a, l1, w1, r1, h1⟩ => h1 S1 ρ1 H1 x (Le.refl _ _) w1 r1⟩
theorem t_retN : ∀ D σ H, tS K W sRetN D σ H → tRetN D σ H := fun D σ H ⟨F, S, ρ, s, A, w, sr, h⟩ => h S ρ H .non (Le.refl _ _) w .non
theorem t_skip : ∀ D σ H, tS K W sSkip D σ H → tNext D σ H := fun D σ H ⟨F, S, ρ, s, A, w, sr, h⟩ => EndS.nx h w sr
theorem t_brk : ∀ D σ H, tS K W sBrk D σ H → tBreak D σ H := fun D σ H ⟨F, S, ρ, s, A, w, sr, h⟩ => h S ρ H σ (Le.refl _ _) w sr
theorem t_cnt : ∀ D σ H, tS K W sCnt D σ H → tCont D σ H := fun D σ H ⟨F, S, ρ, s, A, w, sr, h⟩ => h S ρ H σ (Le.refl _ _) w sr
theorem t_never : ∀ D σ H, tS K W sNever D σ H → tNever D σ H := fun D σ H ⟨F, S, ρ, s, A, w, sr, h⟩ => h
theorem t_ifS {c : MT} {m k : MS} : ∀ D σ H, tS K W (sIf c m k) D σ H → tIfS (tT K W c) (tS K W m) (tS K W k) D σ H := fun D σ H ⟨F, S, ρ, s, A, w, sr, h⟩ =>
  ⟨F, S, ρ, s, A, w, sr, (EndS.from h).imp fun x H1 ⟨S1, ρ1, A1, a, l1, w1, r1, h1⟩ => by
    subst r1
    cases a with
    | true => exact ⟨F, S1, ρ1, s, A1, w1, sr.mono l1, h1⟩
    | false => exact ⟨F, S1, ρ1, s, A1, w1, sr.mono l1, h1⟩⟩
theorem t_par {m : MA} {i j : Nat} : ∀ D σ H, tS K W (sPar i j m) D σ H → tPar i j (tA K W m) D σ H := fun D σ H ⟨F, S, ρ, s, A, w, sr, h⟩ =>
  ⟨F, S, ρ, s, A, w, sr, (EndS.from h).imp fun xs H1 ⟨S1, ρ1, A1, ds, l1, w1, r1, h1⟩ => by
    cases r1 with
    | nil => exact h1.elim
    | cons q1 r2 =>
      cases r2 with
      | nil => exact h1.elim
      | cons q2 r3 =>
        cases r3 with
        | nil => exact ⟨_, _, rfl, EndS.nx h1 w1 (((sr.mono l1).set q1).set q2)⟩
        | cons q3 r4 => exact h1.elim⟩

/-! ### targets -/
theorem wipe_set {σ : L2.St} {i : Nat} {v : Option V} : ∀ {us : List Nat}, i ∈ us → wipe (σ.set i v) us = wipe σ us
  | [], h => nomatch h
  | u :: us, h => by
    have e1 : ∀ us : List Nat, i ∉ us → wipe (σ.set i v) us = (wipe σ us).set i v := by
      intro us
      induction us with
      | nil => intro _; rfl
      | cons u us ih =>
        intro hn
        unfold wipe
        have h1 : i ≠ u := fun e => hn (by rw [e]; exact List.mem_cons_self)
        rw [ih fun m => hn (List.mem_cons_of_mem _ m), List.set_comm _ _ h1]
    by_cases hm : i ∈ us
    · unfold wipe
      rw [wipe_set hm]
    · have hu : i = u := by
        rcases List.mem_cons.mp h with z | z
        · exact z
        · exact absurd z hm
      subst hu
      unfold wipe
      rw [e1 us hm, List.set_set]
def wipeS (s : Slt) : List Nat → Slt
  | [] => s
  | v :: vs => (wipeS s vs).set v none
theorem SR.unset (h : SR K S ρ s σ) (i : Nat) : SR K S ρ (s.set i none) (σ.set i none) := by
  refine ⟨by simp [h.len], fun j e q => ?_⟩
  by_cases hj : j = i
  · subst hj
    by_cases hlt : j < s.length
    · rw [List.getElem?_set_self hlt] at q
      cases q
    · rw [List.getElem?_eq_none (by simpa using hlt)] at q
      cases q
  · rw [List.getElem?_set_ne (Ne.symm hj)] at q
    obtain ⟨w, a, b⟩ := h.at_ j e q
    exact ⟨w, by rw [List.getElem?_set_ne (Ne.symm hj)]; exact a, b⟩
theorem SR.wipe (h : SR K S ρ s σ) : ∀ vs : List Nat, SR K S ρ (wipeS s vs) (L2.wipe σ vs)
  | [] => h
  | v :: vs => (SR.wipe h vs).unset v
theorem wipe_idem (σ : L2.St) (vs : List Nat) : L2.wipe (L2.wipe σ vs) vs = L2.wipe σ vs := by
  have : ∀ us : List Nat, (∀ u ∈ us, u ∈ vs) → L2.wipe (L2.wipe σ us) vs = L2.wipe σ vs := by
    intro us
    induction us with
    | nil => intro _; rfl
    | cons u us ih =>
      intro h
      show L2.wipe ((L2.wipe σ us).set u none) vs = _
      rw [wipe_set (h u List.mem_cons_self), ih fun x hx => h x (List.mem_cons_of_mem _ hx)]
  exact this vs fun _ h => h
/-- a target's reading by its function; its slots are `is` -/
def GOk (K : PySem.W.Frag) (g : TG) (m : MG) (is : List Nat) : Prop := ∀ (S : Hp) (ρ : List Addr) (s s' : Slt) (σ : L2.St) (H : Hp) (v : V) (x : PyData) (Q : L2.St → Hp → Prop), Ex S H → SR K S ρ s σ → Dq K S v x → m x s = some s' →
  (∀ σ', SR K S ρ s' σ' → (∀ us : List Nat, (∀ i ∈ is, i ∈ us) → wipe σ' us = wipe σ us) → Q σ' H) → g v σ H Q
def GsOk (K : PySem.W.Frag) (g : TGs) (m : List PyData → Slt → Option Slt) (is : List Nat) : Prop := ∀ (S : Hp) (ρ : List Addr) (s s' : Slt) (σ : L2.St) (H : Hp) (vs : List V) (xs : List PyData) (Q : L2.St → Hp → Prop), Ex S H → SR K S ρ s σ → DqAll K S vs xs → m xs s = some s' →
  (∀ σ', SR K S ρ s' σ' → (∀ us : List Nat, (∀ i ∈ is, i ∈ us) → wipe σ' us = wipe σ us) → Q σ' H) → g vs σ H Q
theorem gok_name {i : Nat} : GOk K (gName i) (gN i) [i] := fun S ρ s s' σ H v x Q _ sr q e k => by
  cases e
  exact k _ (sr.set q) fun us h => wipe_set (h i (by simp))
theorem gok_nil : GsOk K gNil gNone [] := fun S ρ s s' σ H vs xs Q _ sr q e k => by
  cases q with
  | nil =>
    cases e
    exact ⟨rfl, k _ sr fun us h => rfl⟩
  | cons _ _ => cases e
theorem gok_cons {g : TG} {gs : TGs} {m : MG} {ms : List PyData → Slt → Option Slt} {is js : List Nat} (h1 : GOk K g m is) (h2 : GsOk K gs ms js) : GsOk K (gCons g gs) (gMore m ms) (is ++ js) := fun S ρ s s' σ H vs xs Q ex sr q e k => by
  cases q with
  | nil => cases e
  | cons q1 q2 =>
    rename_i v vs' x xs'
    have e : (m x s).bind (ms xs') = some s' := e
    cases e1 : m x s with
    | none => rw [e1] at e; cases e
    | some s1 =>
      rw [e1] at e
      exact ⟨v, vs', rfl, h1 S ρ s s1 σ H v x _ ex sr q1 e1 fun σ1 r1 w1 => h2 S ρ s1 s' σ1 H vs' xs' _ ex r1 q2 e fun σ2 r2 w2 =>
        k σ2 r2 fun us hu => (w2 us fun i hi => hu i (List.mem_append_right _ hi)).trans (w1 us fun i hi => hu i (List.mem_append_left _ hi))⟩
theorem gok_tup {gs : TGs} {ms : List PyData → Slt → Option Slt} {is : List Nat} {n : Nat} (h : GsOk K gs ms is) (hn : ∀ xs s s', ms xs s = some s' → xs.length = n) : GOk K (gTup K n gs) (gTp ms) is := fun S ρ s s' σ H v x Q ex sr q e k => by
  cases q with
  | tup hq qa =>
    have e : ms _ s = some s' := e
    exact ⟨_, _, rfl, Evl.ex_t ex hq, (DqAll.length qa).trans (hn _ _ _ e), h S ρ s s' σ H _ _ Q ex sr qa e k⟩
  | non => cases e
  | bl _ => cases e
  | int _ => cases e
  | str _ => cases e
  | lst _ _ => cases e
  | dic _ => cases e
theorem len_none {xs : List PyData} {s s' : Slt} (h : gNone xs s = some s') : xs.length = 0 := by
  cases xs with
  | nil => rfl
  | cons _ _ => cases h
theorem len_more {g : MG} {r : List PyData → Slt → Option Slt} {n : Nat} (hr : ∀ xs s s', r xs s = some s' → xs.length = n) : ∀ xs s s', gMore g r xs s = some s' → xs.length = n + 1 := fun xs s s' h => by
  cases xs with
  | nil => cases h
  | cons x xs =>
    have h : (g x s).bind (r xs) = some s' := h
    cases e : g x s with
    | none => rw [e] at h; cases h
    | some s1 =>
      rw [e] at h
      rw [List.length_cons, hr _ _ _ h]
theorem t_asg {m : ME} {g : TG} {gm : MG} {is : List Nat} (hg : GOk K g gm is) : ∀ D σ H, tS K W (sAsg m gm) D σ H → tAsg (tE K W m) g D σ H := fun D σ H ⟨F, S, ρ, s, A, w, sr, h⟩ =>
  ⟨F, S, ρ, s, A, w, sr, (EndS.from h).imp fun x H1 ⟨S1, ρ1, A1, a, l1, w1, r1, h1⟩ => by
    cases a with
    | ref n => exact h1.elim
    | scr n => exact h1.elim
    | p d =>
      have h1 : EndS K W F S1 ρ1 D (optS (gm d s) A1) := h1
      cases e : gm d s with
      | none => rw [e] at h1; exact h1.elim
      | some s' =>
        rw [e] at h1
        exact hg S1 ρ1 s s' σ H1 x d _ w1.sub (sr.mono l1) r1 e fun σ' r' _ => EndS.nx h1 w1 r'⟩

/-! ### what is walked -/
structure ItOk (K : PySem.W.Frag) (J : It) (xs : List PyData) (S0 F0 : Hp) : Prop where
  go : ∀ i H d, Ex S0 H → Ex F0 H → xs[i]? = some d → J.go i H
  yld : ∀ i S H x H' d, Ex S0 S → Ex S H → Ex F0 H → J.yld i H x H' → xs[i]? = some d → ∃ S', Grow S H S' H' ∧ Dq K S' x d
  stop : ∀ i H, Ex S0 H → Ex F0 H → xs.length ≤ i → J.stop i H
def tI (K : PySem.W.Frag) (W : WX) (m : MI) : TI := fun σ H R => ∃ F S ρ s A, Wo K F S ρ H A ∧ SR K S ρ s σ ∧ match m s A with
  | .ok xs A' => ∀ S' ρ' H' J, Le S ρ S' ρ' → Wo K F S' ρ' H' A' → (∀ F0, ItOk K J xs S' F0) → R J H'
  | .exn e A' => ∀ S' ρ' H' c d, Le S ρ S' ρ' → Wo K F S' ρ' H' A' → ER K S' e c d H' → W c d σ H'
  | .bad => False
theorem ItOk.list {S0 F0 : Hp} {a : Addr} {vs : List V} {xs : List PyData} (h : SqL K S0 a vs) (q : DqAll K S0 vs xs) : ItOk K (Itl K a) xs S0 F0 where
  go := fun i H d ex _ e => by
    obtain ⟨v, h1, _⟩ := q.get e
    exact ⟨vs, v, Evl.ex_l ex h, h1⟩
  yld := fun i S H x H' d ex ex2 _ ⟨e1, e2⟩ e => by
    obtain ⟨v, h1, h2⟩ := q.get e
    have := e2 vs (Evl.ex_l (ex.trans ex2) h)
    rw [h1] at this
    cases this
    subst e1
    exact ⟨S, Grow.refl ex2, Dq.mono ex _ _ h2⟩
  stop := fun i H ex _ hl => ⟨vs, Evl.ex_l ex h, by rw [DqAll.length q]; exact hl⟩
theorem ItOk.tup {S0 F0 : Hp} {a : Addr} {vs : List V} {xs : List PyData} (h : SqT K S0 a vs) (q : DqAll K S0 vs xs) : ItOk K (Itt K a) xs S0 F0 where
  go := fun i H d ex _ e => by
    obtain ⟨v, h1, _⟩ := q.get e
    exact ⟨vs, v, Evl.ex_t ex h, h1⟩
  yld := fun i S H x H' d ex ex2 _ ⟨e1, e2⟩ e => by
    obtain ⟨v, h1, h2⟩ := q.get e
    have := e2 vs (Evl.ex_t (ex.trans ex2) h)
    rw [h1] at this
    cases this
    subst e1
    exact ⟨S, Grow.refl ex2, Dq.mono ex _ _ h2⟩
  stop := fun i H ex _ hl => ⟨vs, Evl.ex_t ex h, by rw [DqAll.length q]; exact hl⟩
/-- a list of others', left as it is -/
theorem ItOk.kept {S0 F0 : Hp} {a : Addr} {vs : List V} {xs : List PyData} (h : F0 a = some (.lst vs)) (q : DqAll K S0 vs xs) : ItOk K (Itl K a) xs S0 F0 where
  go := fun i H d _ fx e => by
    obtain ⟨v, h1, _⟩ := q.get e
    exact ⟨vs, v, .inl (.inl (fx _ _ h)), h1⟩
  yld := fun i S H x H' d ex ex2 fx ⟨e1, e2⟩ e => by
    obtain ⟨v, h1, h2⟩ := q.get e
    have := e2 vs (.inl (.inl (fx _ _ h)))
    rw [h1] at this
    cases this
    subst e1
    exact ⟨S, Grow.refl ex2, Dq.mono ex _ _ h2⟩
  stop := fun i H _ fx hl => ⟨vs, .inl (.inl (fx _ _ h)), by rw [DqAll.length q]; exact hl⟩
def rangeD (lo : Int) (n : Nat) : List PyData := (List.range n).map fun i => .int (lo + (i : Nat))
theorem ItOk.range {S0 F0 : Hp} {lo : Int} {n : Nat} : ItOk K (Itr lo n) (rangeD lo n) S0 F0 where
  go := fun i H d _ _ e => by
    have := (List.getElem?_eq_some_iff.mp e).1
    have : i < n := by simpa [rangeD] using this
    exact this
  yld := fun i S H x H' d ex ex2 _ ⟨e1, e2⟩ e => by
    subst e1 e2
    have hl := (List.getElem?_eq_some_iff.mp e).1
    have hl : i < n := by simpa [rangeD] using hl
    have : d = .int (lo + i) := by
      unfold rangeD at e
      rw [List.getElem?_map, List.getElem?_range hl] at e
      exact (Option.some.inj e).symm
    subst this
    exact ⟨S, Grow.refl ex2, .int _⟩
  stop := fun i H ex _ hl => by
    show n ≤ i
    simpa [rangeD] using hl
end
end Mi
end

section
set_option maxHeartbeats 4000000
/-! MiD: loops, comprehensions, fresh lists, displays, calls, promises. -/
namespace Mi
open PySem PySem.Spec PyProof.Rows L2
open Evl (Ex)

section
variable {α β : Type} {K : PySem.W.Frag} {W : WX} {rel : Rl α β} {F S S' H H' : Hp} {ρ ρ' : List Addr} {σ : L2.St} {A : Arn} {s : Slt} {D D' : Ends}
/-! ### for, while -/
/-- a loop over what is walked -/
def ForI (J : It) (g : TG) (tb : TS) : TS := fun D σ H1 => ∃ W : Nat → Nat → L2.St → Hp → Prop, (∃ m, W 0 m σ H1) ∧ ∀ i m σ H, W i m σ H →
  (J.stop i H ∧ D.nx σ H) ∨ (J.go i H ∧ ∃ N : L2.St → Hp → Prop, (∀ σ' H', N σ' H' → ∃ m', m' < m ∧ W (i + 1) m' σ' H') ∧ ∀ x H', J.yld i H x H' → g x σ H' fun σ2 H2 => tb { D with nx := N, ct := N, bk := D.nx } σ2 H2)
theorem for_core {g : TG} {gm : MG} {is : List Nat} {b : MS} {J : It} {xs : List PyData} {S1 H1 : Hp} {ρ1 : List Addr} {A1 : Arn} (hg : GOk K g gm is) (w1 : Wo K F S1 ρ1 H1 A1) (sr : SR K S1 ρ1 s σ) (it : ItOk K J xs S1 F)
    (h : EndS K W F S1 ρ1 D (forL (turnF gm b) xs s A1)) : ForI J g (tS K W b) D σ H1 := by
  refine ⟨fun i k σ' H' => ∃ S' ρ' s' A', Le S1 ρ1 S' ρ' ∧ Wo K F S' ρ' H' A' ∧ SR K S' ρ' s' σ' ∧ EndS K W F S' ρ' D (forL (turnF gm b) (xs.drop i) s' A') ∧ k = xs.length - i ∧ i ≤ xs.length,
    ⟨xs.length, S1, ρ1, s, A1, Le.refl _ _, w1, sr, h, rfl, Nat.zero_le _⟩, ?_⟩
  rintro i k σ2 H2 ⟨S2, ρ2, s2, A2, l2, w2, sr2, h2, rfl, hi⟩
  by_cases hlt : i < xs.length
  · right
    have ex : xs[i]? = some xs[i] := List.getElem?_eq_getElem hlt
    refine ⟨it.go i H2 _ (l2.ex.trans w2.sub) w2.fsub ex, fun σ' H' => ∃ S' ρ' s' A', Le S1 ρ1 S' ρ' ∧ Wo K F S' ρ' H' A' ∧ SR K S' ρ' s' σ' ∧ EndS K W F S' ρ' D (forL (turnF gm b) (xs.drop (i + 1)) s' A'), fun σ' H' ⟨S', ρ', s', A', a1, a2, a3, a4⟩ => ⟨xs.length - (i + 1), by omega, S', ρ', s', A', a1, a2, a3, a4, rfl, hlt⟩, fun x H' y => ?_⟩
    obtain ⟨S3, gr, q3⟩ := it.yld i S2 H2 x H' xs[i] l2.ex w2.sub w2.fsub y ex
    have w3 := w2.grow gr
    have l3 : Le S1 ρ1 S3 ρ2 := l2.trans (gr.le ρ2)
    rw [List.drop_eq_getElem_cons hlt] at h2
    cases eg : gm xs[i] s2 with
    | none =>
      have h3 : EndS K W F S2 ρ2 D ((turnF gm b xs[i] s2 A2).turn (forL (turnF gm b) (xs.drop (i + 1)))) := h2
      unfold turnF at h3
      rw [eg] at h3
      exact h3.elim
    | some s4 =>
      have h3 : EndS K W F S3 ρ2 D ((b s4 A2).turn (forL (turnF gm b) (xs.drop (i + 1)))) := by
        have h4 : EndS K W F S2 ρ2 D ((turnF gm b xs[i] s2 A2).turn (forL (turnF gm b) (xs.drop (i + 1)))) := h2
        have e5 : turnF gm b xs[i] s2 A2 = b s4 A2 := by
          unfold turnF
          rw [eg]
        rw [e5] at h4
        exact EndS.le (gr.le ρ2) h4
      refine hg S3 ρ2 s2 s4 σ2 H' x xs[i] _ w3.sub (sr2.mono (gr.le ρ2)) q3 eg fun σ4 r4 _ => ?_
      refine ⟨F, S3, ρ2, s4, A2, w3, r4, ?_⟩
      cases eb : b s4 A2 with
      | nx s5 A5 => rw [eb] at h3; exact fun S6 ρ6 H6 σ6 l6 w6 r6 => ⟨S6, ρ6, s5, A5, l3.trans l6, w6, r6, EndS.le l6 h3⟩
      | ct s5 A5 => rw [eb] at h3; exact fun S6 ρ6 H6 σ6 l6 w6 r6 => ⟨S6, ρ6, s5, A5, l3.trans l6, w6, r6, EndS.le l6 h3⟩
      | bk s5 A5 => rw [eb] at h3; exact h3
      | rt s5 A5 => rw [eb] at h3; exact h3
      | exn s5 A5 => rw [eb] at h3; exact h3
      | bad => rw [eb] at h3; exact h3
  · left
    have hi' : xs.length ≤ i := Nat.le_of_not_lt hlt
    rw [List.drop_of_length_le hi'] at h2
    exact ⟨it.stop i H2 (l2.ex.trans w2.sub) w2.fsub hi', EndS.nx h2 w2 sr2⟩
theorem t_for {m : MI} {g : TG} {gm : MG} {is : List Nat} {b : MS} (hg : GOk K g gm is) : ∀ D σ H, tS K W (sFor m gm b) D σ H → tFor (tI K W m) g (tS K W b) D σ H := fun D σ H ⟨F, S, ρ, s, A, w, sr, h⟩ => by
  refine ⟨F, S, ρ, s, A, w, sr, ?_⟩
  have h : EndS K W F S ρ D (fromR (m s A) fun xs A1 => forL (turnF gm b) xs s A1) := h
  cases e : m s A with
  | bad => rw [e] at h; exact h
  | exn x A1 => rw [e] at h; exact fun S' ρ' H' c d l w' r => h S' ρ' H' σ c d l w' r
  | ok xs A1 =>
    rw [e] at h
    intro S1 ρ1 H1 J l1 w1 it
    exact for_core hg w1 (sr.mono l1) (it F) (EndS.le l1 h)
theorem t_while {n : Nat} {c : MT} {b : MS} : ∀ D σ H, tS K W (sWhile n c b) D σ H → tWhile (tT K W c) (tS K W b) D σ H := fun D σ H ⟨F, S, ρ, s, A, w, sr, h⟩ => by
  refine ⟨fun k σ' H' => ∃ S' ρ' s' A', Wo K F S' ρ' H' A' ∧ SR K S' ρ' s' σ' ∧ EndS K W F S' ρ' D (whileN c b k s' A'), ⟨n, S, ρ, s, A, w, sr, h⟩, ?_⟩
  rintro k σ2 H2 ⟨S2, ρ2, s2, A2, w2, sr2, h2⟩
  cases k with
  | zero => exact h2.elim
  | succ k =>
    have h2 : EndS K W F S2 ρ2 D (fromR (c s2 A2) fun t A1 => if t = true then (b s2 A1).turn (whileN c b k) else .nx s2 A1) := h2
    refine ⟨F, S2, ρ2, s2, A2, w2, sr2, (EndS.from h2).imp fun t H1 ⟨S1, ρ1, A1, a, l1, w1, r1, h1⟩ => ?_⟩
    subst r1
    cases a with
    | false =>
      show (if false = true then _ else D.nx σ2 H1)
      exact iteF (EndS.nx h1 w1 (sr2.mono l1))
    | true =>
      have h1 : EndS K W F S1 ρ1 D ((b s2 A1).turn (whileN c b k)) := h1
      refine iteT ⟨fun σ' H' => ∃ S' ρ' s' A', Wo K F S' ρ' H' A' ∧ SR K S' ρ' s' σ' ∧ EndS K W F S' ρ' D (whileN c b k s' A'), fun σ' H' q => ⟨k, Nat.lt_succ_self k, q⟩, F, S1, ρ1, s2, A1, w1, sr2.mono l1, ?_⟩
      cases eb : b s2 A1 with
      | nx s5 A5 => rw [eb] at h1; exact fun S6 ρ6 H6 σ6 l6 w6 r6 => ⟨S6, ρ6, s5, A5, w6, r6, EndS.le l6 h1⟩
      | ct s5 A5 => rw [eb] at h1; exact fun S6 ρ6 H6 σ6 l6 w6 r6 => ⟨S6, ρ6, s5, A5, w6, r6, EndS.le l6 h1⟩
      | bk s5 A5 => rw [eb] at h1; exact h1
      | rt s5 A5 => rw [eb] at h1; exact h1
      | exn s5 A5 => rw [eb] at h1; exact h1
      | bad => rw [eb] at h1; exact h1
end

/-! ### iterables -/
section
variable {X : Cx} {W : WX} {tg : Expr}
theorem pi_imp {iter : Expr} {t t' : TI} (h : PI X tg iter t) (k : ∀ σ H R, t' σ H R → t σ H R) : PI X tg iter t' := ⟨fun pins s σ H R I q => h.run pins s σ H R I (k _ _ _ q)⟩
def iSeq (K : PySem.W.Frag) (tl : TE) : TI := fun σ H R => tl σ H fun x H1 => ∃ a, x = .ref a ∧ (((∃ xs, SqL K H1 a xs) ∧ R (Itl K a) H1) ∨ ((∃ xs, SqT K H1 a xs) ∧ R (Itt K a) H1))
theorem pi_seq {l : Expr} {tl : TE} (hl : PE X l tl) : PI X tg l (iSeq X.K tl) := by
  refine ⟨fun pins s σ H R I h => ?_⟩
  refine thn (hl.run pins s σ H _ I h) fun v s1 ⟨x, H1, I1, r1, a, e, q1⟩ => ?_
  subst e
  cases r1
  rcases q1 with ⟨⟨xs, hq⟩, q⟩ | ⟨⟨xs, hq⟩, q⟩
  · obtain ⟨its, rv, p, hz⟩ := I1.list hq
    refine wpAny_pyIter_list p.isList ?_
    refine ⟨s1.heap.objs.size, [s1.heap.objs.size], _, _, H1, rfl, I1.kept (t' := s1.toks) fun b o e => Heap.get?_push_of_some _ e, turn_list a _, ⟨_, Heap.get?_push_size _ rfl, rfl, rfl⟩, fun b hb => ?_, q⟩
    have e : b = s1.heap.objs.size := by simpa using hb
    subst e
    exact I1.fpOk (Nat.le_refl _) (I1.hok.fresh (Nat.le_refl _))
  · obtain ⟨its, rv, p, hz⟩ := I1.tuple hq
    refine wpAny_pyIter_tuple (show s1.heap.IsTuple a its.toArray from p) ?_
    refine ⟨s1.heap.objs.size, [s1.heap.objs.size], _, _, H1, rfl, I1.kept (t' := s1.toks) fun b o e => Heap.get?_push_of_some _ e, turn_tuple a _, ⟨_, Heap.get?_push_size _ rfl, rfl, rfl⟩, fun b hb => ?_, q⟩
    have e : b = s1.heap.objs.size := by simpa using hb
    subst e
    exact I1.fpOk (Nat.le_refl _) (I1.hok.fresh (Nat.le_refl _))
def iSeqS (K : PySem.W.Frag) (tl : TE) : TI := fun σ H R => tl σ H fun x H1 => (∃ a, x = .ref a ∧ (((∃ xs, SqL K H1 a xs) ∧ R (Itl K a) H1) ∨ ((∃ xs, SqT K H1 a xs) ∧ R (Itt K a) H1))) ∨ ∃ z, x = .str z ∧ R (Its z) H1
theorem pi_seqS {l : Expr} {tl : TE} (hl : PE X l tl) : PI X tg l (iSeqS X.K tl) := by
  refine ⟨fun pins s σ H R I h => ?_⟩
  refine thn (hl.run pins s σ H _ I h) fun v s1 ⟨x, H1, I1, r1, q0⟩ => ?_
  rcases q0 with ⟨a, e, q1⟩ | ⟨z, e, q⟩
  · subst e
    cases r1
    rcases q1 with ⟨⟨xs, hq⟩, q⟩ | ⟨⟨xs, hq⟩, q⟩
    · obtain ⟨its, rv, p, hz⟩ := I1.list hq
      refine wpAny_pyIter_list p.isList ?_
      refine ⟨s1.heap.objs.size, [s1.heap.objs.size], _, _, H1, rfl, I1.kept (t' := s1.toks) fun b o e => Heap.get?_push_of_some _ e, turn_list a _, ⟨_, Heap.get?_push_size _ rfl, rfl, rfl⟩, fun b hb => ?_, q⟩
      have e : b = s1.heap.objs.size := by simpa using hb
      subst e
      exact I1.fpOk (Nat.le_refl _) (I1.hok.fresh (Nat.le_refl _))
    · obtain ⟨its, rv, p, hz⟩ := I1.tuple hq
      refine wpAny_pyIter_tuple (show s1.heap.IsTuple a its.toArray from p) ?_
      refine ⟨s1.heap.objs.size, [s1.heap.objs.size], _, _, H1, rfl, I1.kept (t' := s1.toks) fun b o e => Heap.get?_push_of_some _ e, turn_tuple a _, ⟨_, Heap.get?_push_size _ rfl, rfl, rfl⟩, fun b hb => ?_, q⟩
      have e : b = s1.heap.objs.size := by simpa using hb
      subst e
      exact I1.fpOk (Nat.le_refl _) (I1.hok.fresh (Nat.le_refl _))
  · subst e
    obtain ⟨t, rfl⟩ := r1
    cases ha : z.cps.all (· < 128)
    · exact wpAny_pyIter_wide ha (pi_one (tk := s1.toks) I1 _ (turn_str _ z t "str_iterator" (.inr rfl)) ⟨_, Heap.get?_push_size _ rfl, rfl, rfl⟩ q)
    · exact wpAny_pyIter_ascii ha (pi_one (tk := s1.toks) I1 _ (turn_str _ z t "str_ascii_iterator" (.inl rfl)) ⟨_, Heap.get?_push_size _ rfl, rfl, rfl⟩ q)
def signs (z : Str) : List PyData := z.cps.toList.map fun c => .str ⟨#[c]⟩
theorem ItOk.signs {K : PySem.W.Frag} {S0 F0 : Hp} {z : Str} : ItOk K (Its z) (signs z) S0 F0 where
  go := fun i H d _ _ e => by
    have := (List.getElem?_eq_some_iff.mp e).1
    unfold Mi.signs at this
    rw [List.length_map, Array.length_toList] at this
    exact this
  yld := fun i S H x H' d ex ex2 _ ⟨e1, c, e2, e3⟩ e => by
    subst e1 e3
    unfold Mi.signs at e
    rw [List.getElem?_map, Array.getElem?_toList, e2] at e
    cases e
    exact ⟨S, Grow.refl ex2, .str _⟩
  stop := fun i H _ _ e => by
    unfold Mi.signs at e
    rw [List.length_map, Array.length_toList] at e
    exact e
/-- a value of the arena made still -/
def frz (d : D) (A : Arn) : Option (PyData × Arn) := match d with
  | .p d => some (d, A)
  | .ref n => match A[n]? with
    | some (.lst xs) => some (.list xs, A.set n .gone)
    | _ => none
  | .scr _ => none
theorem frz_ok {K : PySem.W.Frag} {F S H : Hp} {ρ : List Addr} {A A' : Arn} {d : D} {x : PyData} {v : V} (w : Wo K F S ρ H A) (r : RD K S ρ d v) (e : frz d A = some (x, A')) : ∃ S', Le S ρ S' ρ ∧ Wo K F S' ρ H A' ∧ Dq K S' v x := by
  cases d with
  | p d => cases e; exact ⟨S, Le.refl _ _, w, r⟩
  | scr n => cases e
  | ref n =>
    unfold frz at e
    dsimp only at e
    split at e
    · rename_i xs ea
      cases e
      obtain ⟨S', a, l, w', ha, q⟩ := w.freeze ea
      obtain ⟨b, rfl, hb⟩ := r
      rw [ha] at hb
      cases hb
      exact ⟨S', l, w', q⟩
    · cases e
def itemsOf (x : PyData) : Option (List PyData) := match x with
  | .list xs => some xs
  | .tuple xs => some xs
  | .str z => some (signs z)
  | _ => none
def opt0 {α : Type} (r : Option (α × Arn)) : Res α := match r with
  | some (a, A) => .ok a A
  | none => .bad
def iS (m : ME) : MI := fun s A => (m s A).bind fun d A1 => opt0 ((frz d A1).bind fun x => (itemsOf x.1).map fun xs => (xs, x.2))
theorem xi_seq {l : Expr} {m : ME} (hl : PE X l (tE X.K W m)) : PI X tg l (tI X.K W (iS m)) := pi_imp (pi_seqS hl) fun σ H R ⟨F, S, ρ, s, A, w, sr, h⟩ => by
  refine ⟨F, S, ρ, s, A, w, sr, ?_⟩
  unfold iS at h
  cases e : m s A with
  | bad => rw [e] at h; exact h
  | exn x A1 => rw [e] at h; exact h
  | ok d A1 =>
    rw [e] at h
    intro S1 ρ1 H1 x l1 w1 r1
    dsimp only [Res.bind] at h
    cases ef : frz d A1 with
    | none => rw [ef] at h; exact h.elim
    | some p =>
      obtain ⟨y, A2⟩ := p
      rw [ef] at h
      obtain ⟨S2, l2, w2, q2⟩ := frz_ok w1 r1 ef
      dsimp only [Option.bind_some] at h
      cases y with
      | list xs =>
        cases q2 with
        | lst hq qa => exact .inl ⟨_, rfl, .inl ⟨⟨_, .inl (.inl (w2.sub _ _ hq))⟩, h S2 ρ1 H1 _ (l1.trans l2) w2 (fun _ => ItOk.list (.inl (.inl hq)) qa)⟩⟩
      | tuple xs =>
        cases q2 with
        | tup hq qa => exact .inl ⟨_, rfl, .inr ⟨⟨_, Evl.ex_t w2.sub hq⟩, h S2 ρ1 H1 _ (l1.trans l2) w2 (fun _ => ItOk.tup hq qa)⟩⟩
      | none => exact h.elim
      | bool b => exact h.elim
      | int i => exact h.elim
      | str z =>
        cases q2
        exact .inr ⟨_, rfl, h S2 ρ1 H1 _ (l1.trans l2) w2 (fun _ => ItOk.signs)⟩
      | dict x => exact h.elim
def intsD : List D → Option (List Int)
  | [] => some []
  | .p (.int i) :: ds => (intsD ds).map fun ns => i :: ns
  | _ :: _ => none
theorem intsD_ok {K : PySem.W.Frag} {S : Hp} {ρ : List Addr} : ∀ {ds : List D} {xs : List V} {ns : List Int}, RDs K S ρ ds xs → intsD ds = some ns → xs = ns.map V.int
  | [], _, _, r, e => by cases r; cases e; rfl
  | .ref _ :: _, _, _, _, e => by cases e
  | .scr _ :: _, _, _, _, e => by cases e
  | .p .none :: _, _, _, _, e => by cases e
  | .p (.bool _) :: _, _, _, _, e => by cases e
  | .p (.str _) :: _, _, _, _, e => by cases e
  | .p (.list _) :: _, _, _, _, e => by cases e
  | .p (.tuple _) :: _, _, _, _, e => by cases e
  | .p (.dict _) :: _, _, _, _, e => by cases e
  | .p (.int i) :: ds, _, ns, r, e => by
    cases r with
    | cons r1 r2 =>
      unfold intsD at e
      cases e1 : intsD ds with
      | none => rw [e1] at e; cases e
      | some ms =>
        rw [e1] at e
        cases e
        rw [intsD_ok r2 e1]
        have r1 : Dq K S _ (.int i) := r1
        cases r1
        rfl
/-- range(a), range(a, b) -/
def rng1 (ns : List Int) : Option (List PyData) := match ns with
  | [j] => if -(2 ^ 62) ≤ j ∧ j < 2 ^ 62 then some (rangeD 0 j.toNat) else none
  | _ => none
def rng2 (ns : List Int) : Option (List PyData) := match ns with
  | [i, j] => if -(2 ^ 62) ≤ i ∧ i < 2 ^ 62 ∧ -(2 ^ 62) ≤ j ∧ j < 2 ^ 62 then some (rangeD i (j - i).toNat) else none
  | _ => none
def iR1 (m : MA) : MI := fun s A => (m s A).bind fun ds A1 => opt0 (((intsD ds).bind rng1).map fun xs => (xs, A1))
def iR2 (m : MA) : MI := fun s A => (m s A).bind fun ds A1 => opt0 (((intsD ds).bind rng2).map fun xs => (xs, A1))
theorem rng1_ok {ns : List Int} {xs : List PyData} (h : rng1 ns = some xs) : ∃ j, ns = [j] ∧ (-(2 ^ 62) ≤ j ∧ j < 2 ^ 62) ∧ xs = rangeD 0 j.toNat := by
  unfold rng1 at h
  split at h
  · split at h
    · rename_i j hj
      cases h
      exact ⟨j, rfl, hj, rfl⟩
    · cases h
  · cases h
theorem rng2_ok {ns : List Int} {xs : List PyData} (h : rng2 ns = some xs) : ∃ i j, ns = [i, j] ∧ (-(2 ^ 62) ≤ i ∧ i < 2 ^ 62 ∧ -(2 ^ 62) ≤ j ∧ j < 2 ^ 62) ∧ xs = rangeD i (j - i).toNat := by
  unfold rng2 at h
  split at h
  · split at h
    · rename_i i j hj
      cases h
      exact ⟨i, j, rfl, hj, rfl⟩
    · cases h
  · cases h
theorem xi_range1 {a : Expr} {m : MA} {p pos : Pos} (hg : Gl X "range") (hm : X.mg "range" = none) (ha : PA X [a] (tA X.K W m)) (hs : starEach [a] X.env = [(false, eval a X.env)] := by rfl) : PI X tg (.Call (.Name "range" p) [a] [] pos) (tI X.K W (iR1 m)) :=
  pi_imp (pi_range1 hg hm ha hs) fun σ H R ⟨F, S, ρ, s, A, w, sr, h⟩ => by
    refine ⟨F, S, ρ, s, A, w, sr, ?_⟩
    unfold iR1 at h
    cases e : m s A with
    | bad => rw [e] at h; exact h
    | exn x A1 => rw [e] at h; exact h
    | ok ds A1 =>
      rw [e] at h
      intro S1 ρ1 H1 xs l1 w1 r1
      dsimp only [Res.bind] at h
      cases ei : intsD ds with
      | none => rw [ei] at h; exact h.elim
      | some ns =>
        rw [ei] at h
        dsimp only [Option.bind_some] at h
        cases er : rng1 ns with
        | none => rw [er] at h; exact h.elim
        | some ys =>
          rw [er] at h
          obtain ⟨j, rfl, hj, rfl⟩ := rng1_ok er
          exact ⟨j, intsD_ok r1 ei, hj.1, hj.2, h S1 ρ1 H1 _ l1 w1 (fun _ => .range)⟩
theorem xi_range2 {a b : Expr} {m : MA} {p pos : Pos} (hg : Gl X "range") (hm : X.mg "range" = none) (ha : PA X [a, b] (tA X.K W m)) (hs : starEach [a, b] X.env = [(false, eval a X.env), (false, eval b X.env)] := by rfl) (hs2 : starEach [b] X.env = [(false, eval b X.env)] := by rfl) :
    PI X tg (.Call (.Name "range" p) [a, b] [] pos) (tI X.K W (iR2 m)) :=
  pi_imp (pi_range2 hg hm ha hs hs2) fun σ H R ⟨F, S, ρ, s, A, w, sr, h⟩ => by
    refine ⟨F, S, ρ, s, A, w, sr, ?_⟩
    unfold iR2 at h
    cases e : m s A with
    | bad => rw [e] at h; exact h
    | exn x A1 => rw [e] at h; exact h
    | ok ds A1 =>
      rw [e] at h
      intro S1 ρ1 H1 xs l1 w1 r1
      dsimp only [Res.bind] at h
      cases ei : intsD ds with
      | none => rw [ei] at h; exact h.elim
      | some ns =>
        rw [ei] at h
        dsimp only [Option.bind_some] at h
        cases er : rng2 ns with
        | none => rw [er] at h; exact h.elim
        | some ys =>
          rw [er] at h
          obtain ⟨i, j, rfl, hj, rfl⟩ := rng2_ok er
          exact ⟨i, j, intsD_ok r1 ei, hj, h S1 ρ1 H1 _ l1 w1 (fun _ => .range)⟩

/-! ### a list of the arena walked, left as it is -/
section
variable {K : PySem.W.Frag} {W : WX} {F S S' H H' : Hp} {ρ ρ' : List Addr} {σ : L2.St} {A : Arn} {s : Slt} {D D' : Ends}
theorem Wo.bury (w : Wo K F S ρ H A) {n : Nat} {xs : List PyData} {a : Addr} {vs : List V} (e : A[n]? = some (.lst xs)) (ha : ρ[n]? = some a) (hv : H a = some (.lst vs)) : F a = none ∧ Wo K (upd F a (.lst vs)) S ρ H (A.set n .gone) := by
  have hlt : n < A.length := (List.getElem?_eq_some_iff.mp e).1
  obtain ⟨a', vs', h1, h2, h3, _⟩ := w.lst n xs e
  rw [ha] at h1
  cases h1
  have hf : F a = none := w.flive n _ a e (by simp) ha
  have old : ∀ {m : Nat} {o : O}, (A.set n O.gone)[m]? = some o → o ≠ .gone → m ≠ n ∧ A[m]? = some o := fun {m o} z nz => by
    by_cases hm : m = n
    · subst hm
      rw [List.getElem?_set_self hlt] at z
      cases z
      exact absurd rfl nz
    · rw [List.getElem?_set_ne (Ne.symm hm)] at z
      exact ⟨hm, z⟩
  refine ⟨hf, w.sub, fun b u z => ?_, fun b z => ?_, fun m o b z nz hb => ?_, by rw [List.length_set]; exact w.len, fun m ys z => w.lst m ys (old z (by simp)).2, fun m ns z => w.refs m ns (old z (by simp)).2, fun m ns z => w.dct m ns (old z (by simp)).2, fun m ns z => w.tab m ns (old z (by simp)).2,
    fun m k o u b e1 e2 n1 n2 g1 g2 => w.inj m k o u b (old e1 n1).2 (old e2 n2).2 n1 n2 g1 g2⟩
  · by_cases q : b = a
    · subst q; rw [upd_same] at z; cases z; exact hv
    · rw [upd_ne q] at z; exact w.fsub b u z
  · by_cases q : b = a
    · subst q; exact h2
    · rw [upd_ne q] at z; exact w.fdis b z
  · obtain ⟨hm, z2⟩ := old z nz
    have hne : b ≠ a := by
      rintro rfl
      exact hm (w.inj m n o _ b z2 e nz (by simp) hb ha)
    rw [upd_ne hne]
    exact w.flive m o b z2 nz hb
theorem Wo.revive {n : Nat} {xs : List PyData} {a : Addr} {vs : List V} (w : Wo K (upd F a (.lst vs)) S ρ H A) (hf : F a = none) (e : A[n]? = some .gone) (ha : ρ[n]? = some a) (q : DqAll K S vs xs) : Wo K F S ρ H (A.set n (.lst xs)) := by
  have hlt : n < A.length := (List.getElem?_eq_some_iff.mp e).1
  have ex : Ex F (upd F a (.lst vs)) := Ex.new hf
  have hp : H a = some (.lst vs) := w.fsub a _ upd_same
  have hs : S a = none := w.fdis a (by rw [upd_same]; simp)
  have at_ : ∀ {m : Nat} {o : O}, (A.set n (O.lst xs))[m]? = some o → (m = n ∧ o = .lst xs) ∨ (m ≠ n ∧ A[m]? = some o) := fun {m o} z => by
    by_cases hm : m = n
    · subst hm
      rw [List.getElem?_set_self hlt] at z
      cases z
      exact .inl ⟨rfl, rfl⟩
    · rw [List.getElem?_set_ne (Ne.symm hm)] at z
      exact .inr ⟨hm, z⟩
  have off : ∀ {m : Nat} {o : O} {b : Addr}, A[m]? = some o → o ≠ .gone → ρ[m]? = some b → b ≠ a := fun {m o b} z nz g y => by
    subst y
    have := w.flive m o b z nz g
    rw [upd_same] at this
    cases this
  refine ⟨w.sub, ex.trans w.fsub, fun b z => w.fdis b ?_, fun m o b z nz g => ?_, by rw [List.length_set]; exact w.len, fun m ys z => ?_, fun m ns z => ?_, fun m ns z => ?_, fun m ns z => ?_, fun m k o u b e1 e2 n1 n2 g1 g2 => ?_⟩
  · cases y : F b with
    | none => exact absurd y z
    | some v => rw [ex b v y]; simp
  · rcases at_ z with ⟨rfl, rfl⟩ | ⟨hm, z2⟩
    · rw [ha] at g
      cases g
      exact hf
    · have := w.flive m o b z2 nz g
      rw [upd_ne (off z2 nz g)] at this
      exact this
  · rcases at_ z with ⟨rfl, y⟩ | ⟨hm, z2⟩
    · cases y
      exact ⟨a, vs, ha, hs, hp, q⟩
    · exact w.lst m ys z2
  · rcases at_ z with ⟨rfl, y⟩ | ⟨hm, z2⟩
    · cases y
    · exact w.refs m ns z2
  · rcases at_ z with ⟨rfl, y⟩ | ⟨hm, z2⟩
    · cases y
    · exact w.dct m ns z2
  · rcases at_ z with ⟨rfl, y⟩ | ⟨hm, z2⟩
    · cases y
    · exact w.tab m ns z2
  · rcases at_ e1 with ⟨rfl, rfl⟩ | ⟨hm, z1⟩
    · rcases at_ e2 with ⟨rfl, rfl⟩ | ⟨hk, z2⟩
      · rfl
      · rw [ha] at g1
        cases g1
        exact absurd rfl (off z2 n2 g2)
    · rcases at_ e2 with ⟨rfl, rfl⟩ | ⟨hk, z2⟩
      · rw [ha] at g2
        cases g2
        exact absurd rfl (off z1 n1 g1)
      · exact w.inj m k o u b z1 z2 n1 n2 g1 g2
def isGone (A : Arn) (n : Nat) : Bool := match A[n]? with
  | some .gone => true
  | _ => false
theorem isGone_ok {A : Arn} {n : Nat} (h : isGone A n = true) : A[n]? = some .gone := by
  unfold isGone at h
  split at h
  · assumption
  · cases h
def reviveO (n : Nat) (xs : List PyData) : Out → Out
  | .nx s A => if isGone A n = true then .nx s (A.set n (.lst xs)) else .bad
  | .rt d A => if isGone A n = true then .rt d (A.set n (.lst xs)) else .bad
  | .bk s A => if isGone A n = true then .bk s (A.set n (.lst xs)) else .bad
  | .ct s A => if isGone A n = true then .ct s (A.set n (.lst xs)) else .bad
  | _ => .bad
theorem EndS.revive {n : Nat} {xs : List PyData} {a : Addr} {vs : List V} (hf : F a = none) (ha : ρ[n]? = some a) (q : DqAll K S vs xs) {r : Out} (h : EndS K W F S ρ D (reviveO n xs r)) : EndS K W (upd F a (.lst vs)) S ρ D r := by
  cases r with
  | bad => exact h
  | exn e A => exact h.elim
  | nx t A =>
    have h : EndS K W F S ρ D (if isGone A n = true then .nx t (A.set n (.lst xs)) else .bad) := h
    by_cases c : isGone A n = true
    · rw [if_pos c] at h
      exact fun S' ρ' H' x l w r => h S' ρ' H' x l (w.revive hf (isGone_ok c) (l.pre.get ha) (DqAll.mono l.ex _ _ q)) r
    · rw [if_neg c] at h; exact h.elim
  | bk t A =>
    have h : EndS K W F S ρ D (if isGone A n = true then .bk t (A.set n (.lst xs)) else .bad) := h
    by_cases c : isGone A n = true
    · rw [if_pos c] at h
      exact fun S' ρ' H' x l w r => h S' ρ' H' x l (w.revive hf (isGone_ok c) (l.pre.get ha) (DqAll.mono l.ex _ _ q)) r
    · rw [if_neg c] at h; exact h.elim
  | ct t A =>
    have h : EndS K W F S ρ D (if isGone A n = true then .ct t (A.set n (.lst xs)) else .bad) := h
    by_cases c : isGone A n = true
    · rw [if_pos c] at h
      exact fun S' ρ' H' x l w r => h S' ρ' H' x l (w.revive hf (isGone_ok c) (l.pre.get ha) (DqAll.mono l.ex _ _ q)) r
    · rw [if_neg c] at h; exact h.elim
  | rt t A =>
    have h : EndS K W F S ρ D (if isGone A n = true then .rt t (A.set n (.lst xs)) else .bad) := h
    by_cases c : isGone A n = true
    · rw [if_pos c] at h
      exact fun S' ρ' H' x l w r => h S' ρ' H' x l (w.revive hf (isGone_ok c) (l.pre.get ha) (DqAll.mono l.ex _ _ q)) r
    · rw [if_neg c] at h; exact h.elim
def sForK (m : ME) (g : MG) (b : MS) : MS := fun s A => fromR (m s A) fun d A1 => match d with
  | .ref n => match A1[n]? with
    | some (.lst xs) => reviveO n xs (forL (turnF g b) xs s (A1.set n .gone))
    | _ => .bad
  | _ => .bad
theorem t_forK {m : ME} {g : TG} {gm : MG} {is : List Nat} {b : MS} (hg : GOk K g gm is) : ∀ D σ H, tS K W (sForK m gm b) D σ H → tFor (iSeq K (tE K W m)) g (tS K W b) D σ H := fun D σ H ⟨F, S, ρ, s, A, w, sr, h⟩ => by
  refine ⟨F, S, ρ, s, A, w, sr, (EndS.from h).imp fun x H1 ⟨S1, ρ1, A1, d, l1, w1, r1, h1⟩ => ?_⟩
  cases d with
  | p d => exact h1.elim
  | scr d => exact h1.elim
  | ref n =>
    have h1 : EndS K W F S1 ρ1 D (match A1[n]? with
      | some (.lst xs) => reviveO n xs (forL (turnF gm b) xs s (A1.set n .gone))
      | _ => .bad) := h1
    cases e : A1[n]? with
    | none => rw [e] at h1; exact h1.elim
    | some o =>
      rw [e] at h1
      cases o with
      | refs ns => exact h1.elim
      | dct ns => exact h1.elim
      | tab ns => exact h1.elim
      | gone => exact h1.elim
      | lst xs =>
        obtain ⟨a, rfl, ha⟩ := r1
        obtain ⟨a', vs, g1, g2, g3, g4⟩ := w1.lst n xs e
        rw [ha] at g1
        cases g1
        obtain ⟨hf, w2⟩ := w1.bury e ha g3
        exact ⟨a, rfl, .inl ⟨⟨vs, .inl (.inl g3)⟩, for_core hg w2 (sr.mono l1) (ItOk.kept upd_same g4) (EndS.revive hf ha g4 h1)⟩⟩
end

/-! ### fresh lists -/
abbrev ML := Slt → Arn → Res (List PyData)
def tL (K : PySem.W.Frag) (W : WX) (m : ML) : TE := fun σ H Q => ∃ F S ρ s A, Wo K F S ρ H A ∧ SR K S ρ s σ ∧ match m s A with
  | .ok xs A' => ∀ S' ρ' H' p vs, Le S ρ S' ρ' → Wo K F S' ρ' H' A' → Fresh F S' ρ' A' p → H' p = some (.lst vs) → DqAll K S' vs xs → Q (.ref p) H'
  | .exn e A' => ∀ S' ρ' H' c d, Le S ρ S' ρ' → Wo K F S' ρ' H' A' → ER K S' e c d H' → W c d σ H'
  | .bad => False
/-- .. by value | as a list of the arena -/
def mFr (m : ML) : ME := fun s A => (m s A).bind fun xs A1 => .ok (.p (.list xs)) A1
def mAl (m : ML) : ME := fun s A => (m s A).bind fun xs A1 => .ok (.ref A1.length) (A1 ++ [.lst xs])
theorem t_fr {K : PySem.W.Frag} {m : ML} : ∀ σ H Q, tE K W (mFr m) σ H Q → tL K W m σ H Q := fun σ H Q ⟨F, S, ρ, s, A, w, sr, h⟩ => by
  refine ⟨F, S, ρ, s, A, w, sr, ?_⟩
  unfold mFr at h
  cases e : m s A with
  | bad => rw [e] at h; exact h
  | exn x A1 => rw [e] at h; exact h
  | ok xs A1 =>
    rw [e] at h
    intro S1 ρ1 H1 p vs l1 w1 fr hp q
    exact h _ ρ1 H1 _ (l1.trans ⟨Ex.new fr.s, Pre.refl ρ1⟩) (w1.still fr hp) (.lst upd_same (DqAll.mono (Ex.new fr.s) _ _ q))
theorem t_al {K : PySem.W.Frag} {m : ML} : ∀ σ H Q, tE K W (mAl m) σ H Q → tL K W m σ H Q := fun σ H Q ⟨F, S, ρ, s, A, w, sr, h⟩ => by
  refine ⟨F, S, ρ, s, A, w, sr, ?_⟩
  unfold mAl at h
  cases e : m s A with
  | bad => rw [e] at h; exact h
  | exn x A1 => rw [e] at h; exact h
  | ok xs A1 =>
    rw [e] at h
    intro S1 ρ1 H1 p vs l1 w1 fr hp q
    refine h S1 (ρ1 ++ [p]) H1 _ (l1.trans ⟨Ex.refl S1, Pre.snoc ρ1 p⟩) (w1.alloc fr hp q) ⟨p, rfl, ?_⟩
    rw [← w1.len, List.getElem?_append_right (Nat.le_refl _), Nat.sub_self]
    rfl
theorem xe_fr {e : Expr} {m : ML} (h : PE X e (tL X.K W m)) : PE X e (tE X.K W (mFr m)) := pe_imp h t_fr
theorem xe_al {e : Expr} {m : ML} (h : PE X e (tL X.K W m)) : PE X e (tE X.K W (mAl m)) := pe_imp h t_al
def frzs : List D → Arn → Option (List PyData × Arn)
  | [], A => some ([], A)
  | d :: ds, A => (frz d A).bind fun x => (frzs ds x.2).map fun xs => (x.1 :: xs.1, xs.2)
theorem frzs_ok {K : PySem.W.Frag} {F H : Hp} {ρ : List Addr} : ∀ {ds : List D} {S : Hp} {A A' : Arn} {xs : List PyData} {vs : List V}, Wo K F S ρ H A → RDs K S ρ ds vs → frzs ds A = some (xs, A') → ∃ S', Le S ρ S' ρ ∧ Wo K F S' ρ H A' ∧ DqAll K S' vs xs
  | [], S, A, A', xs, vs, w, r, e => by
    cases r
    cases e
    exact ⟨S, Le.refl _ _, w, .nil⟩
  | d :: ds, S, A, A', xs, vs, w, r, e => by
    cases r with
    | cons r1 r2 =>
      unfold frzs at e
      cases e1 : frz d A with
      | none => rw [e1] at e; cases e
      | some p =>
        rw [e1] at e
        obtain ⟨x, A1⟩ := p
        obtain ⟨S1, l1, w1, q1⟩ := frz_ok w r1 e1
        dsimp only [Option.bind_some] at e
        cases e2 : frzs ds A1 with
        | none => rw [e2] at e; cases e
        | some p2 =>
          rw [e2] at e
          obtain ⟨ys, A2⟩ := p2
          cases e
          obtain ⟨S2, l2, w2, q2⟩ := frzs_ok w1 (RDs.mono l1 r2) e2
          exact ⟨S2, l1.trans l2, w2, .cons (Dq.mono l2.ex _ _ q1) q2⟩
/-- displays -/
def lDisp (m : MA) : ML := fun s A => (m s A).bind fun ds A1 => opt0 ((frzs ds A1).bind fun x => if x.1.length ≤ 100000 then some x else none)
def mTup (m : MA) : ME := fun s A => (m s A).bind fun ds A1 => opt1 ((frzs ds A1).bind fun x => if x.1.length ≤ 100000 then some (.p (.tuple x.1), x.2) else none)
theorem small_line {n : Nat} (h : n ≤ 100000) : n ≤ sizeLine := Nat.le_trans h (by decide)
theorem xl_disp {es : List Expr} {m : MA} {pos : Pos} (h : PA X es (tA X.K W m)) : PE X (.List es pos) (tL X.K W (lDisp m)) := pe_imp (pe_lst h) fun σ H Q ⟨F, S, ρ, s, A, w, sr, h⟩ => by
  refine ⟨F, S, ρ, s, A, w, sr, ?_⟩
  unfold lDisp at h
  cases e : m s A with
  | bad => rw [e] at h; exact h
  | exn x A1 => rw [e] at h; exact h
  | ok ds A1 =>
    rw [e] at h
    intro S1 ρ1 H1 vs l1 w1 r1
    dsimp only [Res.bind] at h
    cases ef : frzs ds A1 with
    | none => rw [ef] at h; exact h.elim
    | some p =>
      obtain ⟨xs, A2⟩ := p
      rw [ef] at h
      obtain ⟨S2, l2, w2, q2⟩ := frzs_ok w1 r1 ef
      dsimp only [Option.bind_some] at h
      by_cases hz : xs.length ≤ 100000
      · rw [if_pos hz] at h
        refine ⟨by rw [DqAll.length q2]; exact small_line hz, fun p hp => ?_⟩
        have g := Grow.side (o := HO.lst vs) w2.sub hp
        exact h S2 ρ1 _ p vs (l1.trans l2) (w2.grow g) (w2.fresh hp) upd_same q2
      · rw [if_neg hz] at h; exact h.elim
theorem xe_tup {es : List Expr} {m : MA} {x1} {pos : Pos} (h : PA X es (tA X.K W m)) : PE X (.Tuple es x1 pos) (tE X.K W (mTup m)) := pe_imp (pe_tup h) fun σ H Q ⟨F, S, ρ, s, A, w, sr, h⟩ => by
  refine ⟨F, S, ρ, s, A, w, sr, ?_⟩
  unfold mTup at h
  cases e : m s A with
  | bad => rw [e] at h; exact h
  | exn x A1 => rw [e] at h; exact h
  | ok ds A1 =>
    rw [e] at h
    intro S1 ρ1 H1 vs l1 w1 r1
    dsimp only [Res.bind] at h
    cases ef : frzs ds A1 with
    | none => rw [ef] at h; exact h.elim
    | some p =>
      obtain ⟨xs, A2⟩ := p
      rw [ef] at h
      obtain ⟨S2, l2, w2, q2⟩ := frzs_ok w1 r1 ef
      dsimp only [Option.bind_some] at h
      by_cases hz : xs.length ≤ 100000
      · rw [if_pos hz] at h
        refine ⟨by rw [DqAll.length q2]; exact small_line hz, fun p hp => ?_⟩
        have g := Grow.upd (o := HO.tup vs) w2.sub hp
        exact h _ ρ1 _ _ (l1.trans (l2.trans (g.le ρ1))) (w2.grow g) (.tup (.inl (.inl upd_same)) (DqAll.mono g.ex _ _ q2))
      · rw [if_neg hz] at h; exact h.elim
end
end Mi
end

section
set_option maxHeartbeats 4000000
/-! MiE: comprehensions, calls, promises. -/
namespace Mi
open PySem PySem.Spec PyProof.Rows L2
open Evl (Ex)

/-! ### comprehensions -/
def noX {α : Type} (r : Res α) : Res α := match r with
  | .ok a A => .ok a A
  | .exn _ _ => .bad
  | .bad => .bad
def compL (step : PyData → Arn → Res (Option PyData)) : List PyData → List PyData → Arn → Res (List PyData)
  | [], acc, A => .ok acc A
  | x :: xs, acc, A => (step x A).bind fun o A1 => if acc.length < 100000 then compL step xs (match o with
    | some y => acc ++ [y]
    | none => acc) A1 else .bad
def turnB (tt : MT) (te : ME) (s' : Slt) (A : Arn) : Res (Option PyData) := (noX (tt s' A)).bind fun b A1 => if b = true then (noX (te s' A1)).bind fun d A2 => opt0 ((frz d A2).map fun y => (some y.1, y.2)) else .ok none A1
def turnC (gm : MG) (tt : MT) (te : ME) (s0 : Slt) : PyData → Arn → Res (Option PyData) := fun x A => match gm x s0 with
  | some s' => turnB tt te s' A
  | none => .bad
def mYes : MT := fun _ A => .ok true A
def lComp (it : MI) (gm : MG) (tt : MT) (te : ME) (vs : List Nat) : ML := fun s A => (it s A).bind fun xs A1 => compL (turnC gm tt te (wipeS s vs)) xs [] A1
abbrev W0 : WX := fun _ _ _ _ => False
section
variable {K : PySem.W.Frag} {W : WX} {F S S' H H' : Hp} {ρ ρ' : List Addr} {σ : L2.St} {A : Arn} {s : Slt}
theorem Wo.frame0 (w : Wo K F S ρ H A) {p : Addr} {o : HO} (hp : H p = none) : Wo K (upd F p o) S ρ (upd H p o) A := by
  have g := Grow.side (o := o) w.sub hp
  have w' := w.grow g
  refine ⟨w'.sub, fun a u e => ?_, fun a z => ?_, fun n u a e ne h => ?_, w'.len, w'.lst, w'.refs, w'.dct, w'.tab, w'.inj⟩
  · by_cases q : a = p
    · subst q; rw [upd_same] at e ⊢; exact e
    · rw [upd_ne q] at e; exact w'.fsub a u e
  · by_cases q : a = p
    · subst q; exact none_sub w.sub hp
    · rw [upd_ne q] at z; exact w.fdis a z
  · have hne : a ≠ p := by
      rintro rfl
      exact (w.fresh hp).live n u e ne h
    rw [upd_ne hne]
    exact w.flive n u a e ne h
theorem Wo.frame {p : Addr} {o u : HO} (w : Wo K (upd F p o) S ρ H A) : Wo K (upd F p u) S ρ (upd H p u) A := by
  have hs : S p = none := w.fdis p (by rw [upd_same]; simp)
  have hl : ∀ {n : Nat} {o : O} {a : Addr}, A[n]? = some o → o ≠ .gone → ρ[n]? = some a → a ≠ p := fun {n o a} e ne h z => by
    have := w.flive n o a e ne h
    rw [z, upd_same] at this
    cases this
  refine ⟨fun a v e => ?_, fun a v e => ?_, fun a z => ?_, fun n v a e ne h => ?_, w.len, fun n xs e => ?_, fun n ns e => ?_, fun n ns e => ?_, fun n ns e => ?_, w.inj⟩
  · rw [upd_ne (by rintro rfl; rw [hs] at e; cases e)]
    exact w.sub a v e
  · by_cases q : a = p
    · subst q; rw [upd_same] at e ⊢; exact e
    · rw [upd_ne q] at e ⊢
      exact w.fsub a v (by rw [upd_ne q]; exact e)
  · by_cases q : a = p
    · subst q; exact hs
    · rw [upd_ne q] at z; exact w.fdis a (by rw [upd_ne q]; exact z)
  · have q := hl e ne h
    have := w.flive n v a e ne h
    rw [upd_ne q] at this ⊢
    exact this
  · obtain ⟨a, vs, h1, h2, h3, h4⟩ := w.lst n xs e
    exact ⟨a, vs, h1, h2, by rw [upd_ne (hl e (by simp) h1)]; exact h3, h4⟩
  · obtain ⟨a, vs, h1, h2, h3, h4⟩ := w.refs n ns e
    exact ⟨a, vs, h1, h2, by rw [upd_ne (hl e (by simp) h1)]; exact h3, h4⟩
  · obtain ⟨a, vs, h1, h2, h3, h4⟩ := w.dct n ns e
    exact ⟨a, vs, h1, h2, by rw [upd_ne (hl e (by simp) h1)]; exact h3, h4⟩
  · obtain ⟨a, h1, h2, h3, h4⟩ := w.tab n ns e
    exact ⟨a, h1, h2, h3, h4.upd (hl e (by simp) h1)⟩
theorem Wo.unframe {p : Addr} {o : HO} (w : Wo K (upd F p o) S ρ H A) (hf : F p = none) : Wo K F S ρ H A ∧ Fresh F S ρ A p ∧ H p = some o := by
  have ex : Ex F (upd F p o) := Ex.new hf
  have hp : H p = some o := w.fsub p o upd_same
  refine ⟨⟨w.sub, ex.trans w.fsub, fun a z => w.fdis a ?_, fun n u a e ne h => ?_, w.len, w.lst, w.refs, w.dct, w.tab, w.inj⟩, ⟨w.fdis p (by rw [upd_same]; simp), hf, fun n u e ne h => ?_⟩, hp⟩
  · cases e : F a with
    | none => exact absurd e z
    | some v => rw [ex a v e]; simp
  · exact none_sub ex (w.flive n u a e ne h)
  · have := w.flive n u p e ne h
    rw [upd_same] at this
    cases this
theorem noX_ok {α : Type} {r : Res α} {β : Type} {f : α → Arn → Res β} (h : (noX r).bind f ≠ .bad) : ∃ a A, r = .ok a A := by
  cases r with
  | ok a A => exact ⟨a, A, rfl⟩
  | exn e A => exact absurd rfl h
  | bad => exact absurd rfl h
/-- a comprehension over what is walked -/
def LcI (J : It) (g : TG) (tt : TT) (te : TE) (vs : List Nat) : TE := fun σ H1 Q => ∀ D, H1 D = none → ∃ W : Nat → Nat → Hp → Prop, (∃ m, W 0 m (upd H1 D (.lst []))) ∧ ∀ i m H, W i m H →
  (J.stop i H ∧ Q (.ref D) H) ∨ (J.go i H ∧ ∃ Nx : Hp → Prop, (∀ H', Nx H' → ∃ m', m' < m ∧ W (i + 1) m' H') ∧ ∀ x H', J.yld i H x H' → g x (L2.wipe σ vs) H' fun σ2 H2 => L2.wipe σ2 vs = L2.wipe σ vs ∧ tt σ2 H2 fun b H3 =>
    if b = true then te σ2 H3 fun y H4 => ∃ acc, H4 D = some (.lst acc) ∧ acc.length < sizeLine ∧ Nx (upd H4 D (.lst (acc ++ [y]))) else Nx H3)
theorem lc_core {g : TG} {gm : MG} {is : List Nat} {tt : MT} {te : ME} {vs : List Nat} {J : It} {xs : List PyData} {S1 H1 : Hp} {ρ1 : List Addr} {A1 : Arn} {Q : VK} (hg : GOk K g gm is) (hi : ∀ i ∈ is, i ∈ vs) (w1 : Wo K F S1 ρ1 H1 A1) (sr : SR K S1 ρ1 s σ) (itok : ItOk K J xs S1 F)
    (h : match compL (turnC gm tt te (wipeS s vs)) xs [] A1 with
      | .ok ys A' => ∀ S' ρ' H' p vs, Le S1 ρ1 S' ρ' → Wo K F S' ρ' H' A' → Fresh F S' ρ' A' p → H' p = some (.lst vs) → DqAll K S' vs ys → Q (.ref p) H'
      | .exn _ _ => True
      | .bad => False) : LcI J g (tT K W0 tt) (tE K W0 te) vs σ H1 Q := by
  intro Dd hD
  generalize hst : turnC gm tt te (wipeS s vs) = step at h
  generalize hr : compL step xs [] A1 = r at h
  have nbad : r ≠ .bad := by
    rintro rfl
    exact h
  have hfD : F Dd = none := none_sub w1.fsub hD
  refine ⟨fun i k H' => ∃ S' ρ' A' vsa acc, Le S1 ρ1 S' ρ' ∧ Wo K (upd F Dd (.lst vsa)) S' ρ' H' A' ∧ DqAll K S' vsa acc ∧ compL step (xs.drop i) acc A' = r ∧ k = xs.length - i ∧ i ≤ xs.length,
    ⟨xs.length, S1, ρ1, A1, [], [], Le.refl _ _, w1.frame0 hD, .nil, hr, rfl, Nat.zero_le _⟩, ?_⟩
  rintro i k H2 ⟨S2, ρ2, A2, vsa, acc, l2, w2, qa, hc, rfl, hi'⟩
  by_cases hlt : i < xs.length
  · right
    have ex : xs[i]? = some xs[i] := List.getElem?_eq_getElem hlt
    refine ⟨itok.go i H2 _ (l2.ex.trans w2.sub) ((Ex.new hfD).trans w2.fsub) ex, fun H' => ∃ S' ρ' A' vsa acc, Le S1 ρ1 S' ρ' ∧ Wo K (upd F Dd (.lst vsa)) S' ρ' H' A' ∧ DqAll K S' vsa acc ∧ compL step (xs.drop (i + 1)) acc A' = r,
      fun H' ⟨S', ρ', A', b1, b2, a1, a2, a3, a4⟩ => ⟨xs.length - (i + 1), by omega, S', ρ', A', b1, b2, a1, a2, a3, a4, rfl, hlt⟩, fun x H' y => ?_⟩
    obtain ⟨S3, gr, q3⟩ := itok.yld i S2 H2 x H' xs[i] l2.ex w2.sub ((Ex.new hfD).trans w2.fsub) y ex
    have w3 := w2.grow gr
    have l3 : Le S1 ρ1 S3 ρ2 := l2.trans (gr.le ρ2)
    rw [List.drop_eq_getElem_cons hlt] at hc
    have hc : ((step xs[i] A2).bind fun o A1 => if acc.length < 100000 then compL step (xs.drop (i + 1)) (match o with
      | some y => acc ++ [y]
      | none => acc) A1 else .bad) = r := hc
    cases eg : gm xs[i] (wipeS s vs) with
    | none =>
      have e1 : step xs[i] A2 = .bad := by
        rw [← hst]
        unfold turnC
        rw [eg]
      rw [e1] at hc
      exact absurd hc.symm nbad
    | some s' =>
      have e1 : step xs[i] A2 = turnB tt te s' A2 := by
        rw [← hst]
        unfold turnC
        rw [eg]
      rw [e1] at hc
      unfold turnB at hc
      refine hg S3 ρ2 (wipeS s vs) s' (L2.wipe σ vs) H' x xs[i] _ w3.sub ((sr.mono l3).wipe vs) q3 eg fun σ2 r2 wz => ⟨?_, ?_⟩
      · rw [wz vs hi, wipe_idem]
      refine ⟨upd F Dd (.lst vsa), S3, ρ2, s', A2, w3, r2, ?_⟩
      cases et : tt s' A2 with
      | bad => rw [et] at hc; exact absurd hc.symm nbad
      | exn x A3 => rw [et] at hc; exact absurd hc.symm nbad
      | ok b A3 =>
        rw [et] at hc
        intro S4 ρ4 H4 b' l4 w4 eb
        subst eb
        cases b with
        | false =>
          refine iteF ⟨S4, ρ4, A3, vsa, acc, l3.trans l4, w4, DqAll.mono (gr.ex.trans l4.ex) _ _ qa, ?_⟩
          have hc : (if acc.length < 100000 then compL step (xs.drop (i + 1)) acc A3 else .bad) = r := hc
          by_cases ha : acc.length < 100000
          · rw [if_pos ha] at hc; exact hc
          · rw [if_neg ha] at hc; exact absurd hc.symm nbad
        | true =>
          refine iteT ⟨upd F Dd (.lst vsa), S4, ρ4, s', A3, w4, r2.mono l4, ?_⟩
          have hc : ((noX (te s' A3)).bind fun d A2 => opt0 ((frz d A2).map fun y => (some y.1, y.2))).bind (fun o A1 => if acc.length < 100000 then compL step (xs.drop (i + 1)) (match o with
            | some y => acc ++ [y]
            | none => acc) A1 else .bad) = r := hc
          cases ee : te s' A3 with
          | bad => rw [ee] at hc; exact absurd hc.symm nbad
          | exn x A3 => rw [ee] at hc; exact absurd hc.symm nbad
          | ok d A4 =>
            rw [ee] at hc
            intro S5 ρ5 H5 v l5 w5 r5
            have hc : (opt0 ((frz d A4).map fun y => (some y.1, y.2))).bind (fun o A1 => if acc.length < 100000 then compL step (xs.drop (i + 1)) (match o with
              | some y => acc ++ [y]
              | none => acc) A1 else .bad) = r := hc
            cases ef : frz d A4 with
            | none => rw [ef] at hc; exact absurd hc.symm nbad
            | some p =>
              obtain ⟨y, A5⟩ := p
              rw [ef] at hc
              have hc : (if acc.length < 100000 then compL step (xs.drop (i + 1)) (acc ++ [y]) A5 else .bad) = r := hc
              by_cases ha : acc.length < 100000
              · rw [if_pos ha] at hc
                obtain ⟨S6, l6, w6, q6⟩ := frz_ok w5 r5 ef
                have qa6 := DqAll.mono (K := K) (gr.ex.trans (l4.ex.trans (l5.ex.trans l6.ex))) _ _ qa
                refine ⟨vsa, w5.fsub Dd _ upd_same, Nat.lt_of_lt_of_le (by rw [DqAll.length qa]; exact ha) (small_line (Nat.le_refl _)), S6, ρ5, A5, vsa ++ [v], acc ++ [y], l3.trans (l4.trans (l5.trans l6)), ?_, qa6.append (.one q6), hc⟩
                exact w6.frame
              · rw [if_neg ha] at hc; exact absurd hc.symm nbad
  · left
    have hi2 : xs.length ≤ i := Nat.le_of_not_lt hlt
    rw [List.drop_of_length_le hi2] at hc
    have hc : Res.ok acc A2 = r := hc
    subst hc
    obtain ⟨w4, fr, hp⟩ := w2.unframe hfD
    exact ⟨itok.stop i H2 (l2.ex.trans w2.sub) ((Ex.new hfD).trans w2.fsub) hi2, h S2 ρ2 H2 Dd vsa l2 w4 fr hp qa⟩
theorem t_lc {it : MI} {g : TG} {gm : MG} {is : List Nat} {tt : MT} {te : ME} {vs : List Nat} (hg : GOk K g gm is) (hi : ∀ i ∈ is, i ∈ vs) : ∀ σ H Q, tL K W (lComp it gm tt te vs) σ H Q → tLc (tI K W it) g (tT K W0 tt) (tE K W0 te) vs σ H Q := fun σ H Q ⟨F, S, ρ, s, A, w, sr, h⟩ => by
  refine ⟨F, S, ρ, s, A, w, sr, ?_⟩
  unfold lComp at h
  cases e : it s A with
  | bad => rw [e] at h; exact h
  | exn x A1 => rw [e] at h; exact h
  | ok xs A1 =>
    rw [e] at h
    dsimp only [Res.bind] at h
    intro S1 ρ1 H1 J l1 w1 itok
    refine lc_core hg hi w1 (sr.mono l1) (itok F) ?_
    have h0 := h
    cases ec : compL (turnC gm tt te (wipeS s vs)) xs [] A1 with
    | bad => rw [ec] at h; exact h
    | exn x A2 => trivial
    | ok ys A2 => rw [ec] at h; exact fun S2 ρ2 H2 p us l2 w2 fr hp q => h S2 ρ2 H2 p us (l1.trans l2) w2 fr hp q
/-- .. over a list of the arena that is left as it is -/
def lCompK (m : ME) (gm : MG) (tt : MT) (te : ME) (vs : List Nat) : ML := fun s A => (m s A).bind fun d A1 => match d with
  | .ref n => match A1[n]? with
    | some (.lst xs) => (compL (turnC gm tt te (wipeS s vs)) xs [] (A1.set n .gone)).bind fun ys A2 => if isGone A2 n = true then .ok ys (A2.set n (.lst xs)) else .bad
    | _ => .bad
  | _ => .bad
theorem t_lcK {m : ME} {g : TG} {gm : MG} {is : List Nat} {tt : MT} {te : ME} {vs : List Nat} (hg : GOk K g gm is) (hi : ∀ i ∈ is, i ∈ vs) : ∀ σ H Q, tL K W (lCompK m gm tt te vs) σ H Q → tLc (iSeq K (tE K W m)) g (tT K W0 tt) (tE K W0 te) vs σ H Q := fun σ H Q ⟨F, S, ρ, s, A, w, sr, h⟩ => by
  refine ⟨F, S, ρ, s, A, w, sr, ?_⟩
  unfold lCompK at h
  cases e : m s A with
  | bad => rw [e] at h; exact h
  | exn x A1 => rw [e] at h; exact h
  | ok d A1 =>
    rw [e] at h
    intro S1 ρ1 H1 x l1 w1 r1
    dsimp only [Res.bind] at h
    cases d with
    | p d => exact h.elim
    | scr d => exact h.elim
    | ref n =>
      dsimp only at h
      cases e2 : A1[n]? with
      | none => rw [e2] at h; exact h.elim
      | some o =>
        rw [e2] at h
        cases o with
        | refs ns => exact h.elim
        | dct ns => exact h.elim
        | tab ns => exact h.elim
        | gone => exact h.elim
        | lst xs =>
          obtain ⟨a, rfl, ha⟩ := r1
          obtain ⟨a', us, g1, g2, g3, g4⟩ := w1.lst n xs e2
          rw [ha] at g1
          cases g1
          obtain ⟨hf, w2⟩ := w1.bury e2 ha g3
          refine ⟨a, rfl, .inl ⟨⟨us, .inl (.inl g3)⟩, lc_core hg hi w2 (sr.mono l1) (ItOk.kept upd_same g4) ?_⟩⟩
          dsimp only at h
          cases ec : compL (turnC gm tt te (wipeS s vs)) xs [] (A1.set n .gone) with
          | bad => rw [ec] at h; exact h
          | exn y A2 => trivial
          | ok ys A2 =>
            rw [ec] at h
            dsimp only at h
            by_cases c : isGone A2 n = true
            · rw [if_pos c] at h
              intro S2 ρ2 H2 p ps l2 w3 fr hp q
              have w4 := w3.revive hf (isGone_ok c) (l2.pre.get ha) (DqAll.mono l2.ex _ _ g4)
              refine h S2 ρ2 H2 p ps (l1.trans l2) w4 ⟨fr.s, none_sub (Ex.new hf) fr.f, fun m u z nz hb => ?_⟩ hp q
              by_cases hm : m = n
              · subst hm
                rw [l2.pre.get ha] at hb
                cases hb
                have := fr.f
                rw [upd_same] at this
                cases this
              · rw [List.getElem?_set_ne (Ne.symm hm)] at z
                exact fr.live m u z nz hb
            · rw [if_neg c] at h; exact h.elim
end
section
variable {X : Cx} {W : WX}
theorem pts_imp {ifs : List Expr} {t t' : TT} (h : PTs X ifs t) (k : ∀ σ H Q, t' σ H Q → t σ H Q) : PTs X ifs t' := ⟨fun pins s σ H Q I q => h.run pins s σ H Q I (k _ _ _ q)⟩
theorem xts_nil : PTs X [] (tT X.K W mYes) := pts_imp pts_nil fun σ H Q ⟨F, S, ρ, s, A, w, sr, h⟩ => EndG.ok h w rfl
theorem xts_one {c : Expr} {m : MT} (h : PT X c (tT X.K W m)) : PTs X [c] (tT X.K W m) := pts_one h
theorem xl_comp {elt tg iter : Expr} {ifs : List Expr} {scope : Scope} {own : List (Str × Nat)} {pos : Pos} {it : MI} {g : TG} {gm : MG} {is : List Nat} {tt : MT} {te : ME} (hc : X.calm = true) (hN : X.N.Nodup) (hi : PI X tg iter (tI X.K W it)) (ok : BlkOk X.N X.env.scope scope own) (hgo : GOk X.K g gm is) (his : ∀ i ∈ is, i ∈ own.map (·.2))
    (hg : ∀ (s : Shared) (H : Hp) (C : Addr) (cl : List (Str × Addr)) (fp : List Addr), PG (X.blk s H scope (compEnvC scope cl C X.env) fp) tg g) (ht : ∀ (s : Shared) (H : Hp) (C : Addr) (cl : List (Str × Addr)) (fp : List Addr), PTs (X.blk s H scope (compEnvC scope cl C X.env) fp) ifs (tT X.K W0 tt))
    (he : ∀ (s : Shared) (H : Hp) (C : Addr) (cl : List (Str × Addr)) (fp : List Addr), PE (X.blk s H scope (compEnvC scope cl C X.env) fp) elt (tE X.K W0 te)) (hs : ∀ x, foldedSetIterable iter X.env x = pure x := by intro _; rfl) :
    PE X (.ListComp elt [⟨tg, iter, ifs, 0⟩] scope pos) (tL X.K W (lComp it gm tt te (own.map (·.2)))) := pe_imp (pe_lc hc hN hi ok hg ht he hs) (t_lc hgo his)
theorem xl_compK {elt tg a : Expr} {ifs : List Expr} {scope : Scope} {own : List (Str × Nat)} {pos : Pos} {m : ME} {g : TG} {gm : MG} {is : List Nat} {tt : MT} {te : ME} (hc : X.calm = true) (hN : X.N.Nodup) (ha : PE X a (tE X.K W m)) (ok : BlkOk X.N X.env.scope scope own) (hgo : GOk X.K g gm is) (his : ∀ i ∈ is, i ∈ own.map (·.2))
    (hg : ∀ (s : Shared) (H : Hp) (C : Addr) (cl : List (Str × Addr)) (fp : List Addr), PG (X.blk s H scope (compEnvC scope cl C X.env) fp) tg g) (ht : ∀ (s : Shared) (H : Hp) (C : Addr) (cl : List (Str × Addr)) (fp : List Addr), PTs (X.blk s H scope (compEnvC scope cl C X.env) fp) ifs (tT X.K W0 tt))
    (he : ∀ (s : Shared) (H : Hp) (C : Addr) (cl : List (Str × Addr)) (fp : List Addr), PE (X.blk s H scope (compEnvC scope cl C X.env) fp) elt (tE X.K W0 te)) (hs : ∀ x, foldedSetIterable a X.env x = pure x := by intro _; rfl) :
    PE X (.ListComp elt [⟨tg, a, ifs, 0⟩] scope pos) (tL X.K W (lCompK m gm tt te (own.map (·.2)))) := pe_imp (pe_lc hc hN (pi_seq ha) ok hg ht he hs) (t_lcK hgo his)
theorem xs_setCK {i : Nat} {y : Str} {py : Pos} {elt tg a : Expr} {ifs : List Expr} {scope : Scope} {own : List (Str × Nat)} {pos spos : Pos} {ma : ME} {g : TG} {gm : MG} {is : List Nat} {tt : MT} {te : ME} {m : ME} (hm : ∀ σ H Q, tE X.K W m σ H Q → tL X.K W (lCompK ma gm tt te (own.map (·.2))) σ H Q) (hc : X.calm = true) (hN : X.N.Nodup) (hy : X.N[i]? = some y) (hyl : X.env.scope.names.lookup y = some .local)
    (hsw : swapsWith (.ListComp elt [⟨tg, a, ifs, 0⟩] scope pos) (some (.Name y py)) spos.line X.env = pure true) (ha : PE X a (tE X.K W ma)) (ok : BlkOk X.N X.env.scope scope own) (hgo : GOk X.K g gm is) (his : ∀ i ∈ is, i ∈ own.map (·.2))
    (hg : ∀ (s : Shared) (H : Hp) (C : Addr) (cl : List (Str × Addr)) (fp : List Addr), PG (X.blk s H scope (compEnvC scope cl C X.env) fp) tg g) (ht : ∀ (s : Shared) (H : Hp) (C : Addr) (cl : List (Str × Addr)) (fp : List Addr), PTs (X.blk s H scope (compEnvC scope cl C X.env) fp) ifs (tT X.K W0 tt))
    (he : ∀ (s : Shared) (H : Hp) (C : Addr) (cl : List (Str × Addr)) (fp : List Addr), PE (X.blk s H scope (compEnvC scope cl C X.env) fp) elt (tE X.K W0 te)) (hs : ∀ x, foldedSetIterable a X.env x = pure x := by intro _; rfl) :
    PS X (.Assign [.Name y py] (.ListComp elt [⟨tg, a, ifs, 0⟩] scope pos) spos) (tS X.K W (sLet i m)) := by
  refine ps_imp (ps_setLc hc hN hy hyl hsw (pi_seq ha) ok hg ht he hs) fun D σ H q => ?_
  have z := t_let D σ H q
  exact t_lcK hgo his σ H _ (hm σ H _ z)
theorem xs_setC {i : Nat} {y : Str} {py : Pos} {elt tg iter : Expr} {ifs : List Expr} {scope : Scope} {own : List (Str × Nat)} {pos spos : Pos} {it : MI} {g : TG} {gm : MG} {is : List Nat} {tt : MT} {te : ME} {m : ME} (hm : ∀ σ H Q, tE X.K W m σ H Q → tL X.K W (lComp it gm tt te (own.map (·.2))) σ H Q) (hc : X.calm = true) (hN : X.N.Nodup) (hy : X.N[i]? = some y) (hyl : X.env.scope.names.lookup y = some .local)
    (hsw : swapsWith (.ListComp elt [⟨tg, iter, ifs, 0⟩] scope pos) (some (.Name y py)) spos.line X.env = pure true) (hi : PI X tg iter (tI X.K W it)) (ok : BlkOk X.N X.env.scope scope own) (hgo : GOk X.K g gm is) (his : ∀ i ∈ is, i ∈ own.map (·.2))
    (hg : ∀ (s : Shared) (H : Hp) (C : Addr) (cl : List (Str × Addr)) (fp : List Addr), PG (X.blk s H scope (compEnvC scope cl C X.env) fp) tg g) (ht : ∀ (s : Shared) (H : Hp) (C : Addr) (cl : List (Str × Addr)) (fp : List Addr), PTs (X.blk s H scope (compEnvC scope cl C X.env) fp) ifs (tT X.K W0 tt))
    (he : ∀ (s : Shared) (H : Hp) (C : Addr) (cl : List (Str × Addr)) (fp : List Addr), PE (X.blk s H scope (compEnvC scope cl C X.env) fp) elt (tE X.K W0 te)) (hs : ∀ x, foldedSetIterable iter X.env x = pure x := by intro _; rfl) :
    PS X (.Assign [.Name y py] (.ListComp elt [⟨tg, iter, ifs, 0⟩] scope pos) spos) (tS X.K W (sLet i m)) := by
  refine ps_imp (ps_setLc hc hN hy hyl hsw hi ok hg ht he hs) fun D σ H q => ?_
  have z := t_let D σ H q
  exact t_lc hgo his σ H _ (hm σ H _ z)
end

/-! ### calls and promises -/
def spM (K : PySem.W.Frag) (n : Nat) (fm : MF) : Sp := fun vs H Q E => ∃ F S ρ A ds, ds.length = n ∧ RDs K S ρ ds vs ∧ Wo K F S ρ H A ∧ match fm ds A with
  | .ok v A' => ∀ S' ρ' H' x, Le S ρ S' ρ' → Wo K F S' ρ' H' A' → RD K S' ρ' v x → Q x H'
  | .exn e A' => ∀ S' ρ' H' c d, Le S ρ S' ρ' → Wo K F S' ρ' H' A' → ER K S' e c d H' → E c d H'
  | .bad => False
theorem spM_len {K : PySem.W.Frag} {n : Nat} {fm : MF} : ∀ vs H Q E, spM K n fm vs H Q E → vs.length = n := fun vs H Q E ⟨_, _, _, _, ds, hn, r, _⟩ => by
  rw [← Paired.length r, hn]
section
variable {X : Cx} {W : WX} {k : Nat} {f : Addr} {fd : FuncData} {ps : List Str} {n : Nat} {fm : MF} {x : Str} {p pos : Pos} {e : Expr} {es : List Expr} {m : MA}
theorem t_call {K : PySem.W.Frag} (fm : MF) (h0 : ∀ s A ds A', m s A = .ok ds A' → ds.length = n) : ∀ σ H Q, tE K W (mCall fm m) σ H Q → tCallS (spM K n fm) (WE W) (tA K W m) σ H Q := fun σ H Q ⟨F, S, ρ, s, A, w, sr, h⟩ => by
  refine ⟨F, S, ρ, s, A, w, sr, ?_⟩
  unfold mCall at h
  cases e : m s A with
  | bad => rw [e] at h; exact h
  | exn x A1 => rw [e] at h; exact h
  | ok ds A1 =>
    rw [e] at h
    intro S1 ρ1 H1 xs l1 w1 r1
    refine ⟨F, S1, ρ1, A1, ds, h0 s A ds A1 e, r1, w1, ?_⟩
    have h : EndG K W F (RD K) S ρ σ Q (fm ds A1) := h
    cases ef : fm ds A1 with
    | bad => rw [ef] at h; exact h
    | exn x A2 => rw [ef] at h; exact fun S' ρ' H' c d l w' er => h S' ρ' H' c d (l1.trans l) w' er
    | ok v A2 => rw [ef] at h; exact fun S' ρ' H' x l w' er => h S' ρ' H' x (l1.trans l) w' er
/-- how many arguments are written -/
def ALen (m : MA) (n : Nat) : Prop := ∀ s A ds A', m s A = .ok ds A' → ds.length = n
theorem alen_nil : ALen aNil 0 := fun s A ds A' h => by
  cases h
  rfl
theorem alen_cons {a : ME} {m : MA} {n : Nat} (h : ALen m n) : ALen (aCons a m) (n + 1) := fun s A ds A' e => by
  unfold aCons at e
  cases e1 : a s A with
  | bad => rw [e1] at e; cases e
  | exn x A1 => rw [e1] at e; cases e
  | ok d A1 =>
    rw [e1] at e
    dsimp only [Res.bind] at e
    cases e2 : m s A1 with
    | bad => rw [e2] at e; cases e
    | exn x A1 => rw [e2] at e; cases e
    | ok ds2 A2 =>
      rw [e2] at e
      cases e
      rw [List.length_cons, h _ _ _ _ e2]
end
/-- what a def is worth, where no repr is under way -/
structure FnG (P : Program) (w : World) (K : PySem.W.Frag) (mg : Str → Option Value) (base : Heap) (k : Nat) (f : Addr) (fd : FuncData) (ps : List Str) (fm : MF) : Prop where
  run : ∀ (A : Around) (outer : List Env) (s : Shared) (H : Hp) (args : Args) (us : List Value) (vs : List V) (Q : VK) (E : XK), A.guards = some [] → Room k A →
    Env0 P w K mg base A outer s H → BindsTo s fd args (ps.zip us) → Vals vs us → spM K ps.length fm vs H Q E →
    codeAny (model P w) A (.call (.ref f) args) (CR (L2.CX P w) outer P w H s Q E) s
theorem FnG.mono {P : Program} {w : World} {K : PySem.W.Frag} {mg : Str → Option Value} {base : Heap} {j k : Nat} {f : Addr} {fd : FuncData} {ps : List Str} {fm : MF} (F : FnG P w K mg base j f fd ps fm) (h : j ≤ k) : FnG P w K mg base k f fd ps fm :=
  ⟨fun A o s H ar us vs Q E g hr => F.run A o s H ar us vs Q E g (hr.mono h)⟩
section
variable {X : Cx} {W : WX} {k : Nat} {f : Addr} {fd : FuncData} {ps : List Str} {n : Nat} {fm : MF} {x : Str} {p pos : Pos} {e : Expr} {es : List Expr} {m : MA}
def CallEnd (X : Cx) (pins : List (Addr × Obj)) (σ : L2.St) (Q : VK) (r : Result) (s' : Shared) : Prop := match r with
  | .ok (.ret v) => EP X pins σ Q v s'
  | .ok _ => False
  | .error e => X.xe e s'
/-- behind a call of an own def -/
theorem after_call {pins : List (Addr × Obj)} {σ : L2.St} {H : Hp} {s : Shared} {Q : VK} (I : L2.Inv X pins σ H s) (tk : Takes X W) (r : Result) (s' : Shared) (h : CR (L2.CX X.prog X.w) X.stack X.prog X.w H s Q (WE W σ) r s') :
    CallEnd X pins σ Q r s' := by
  cases r with
  | error e => exact passAt tk σ pins H s e s' I h
  | ok fl =>
    cases fl with
    | ret u => exact I.after h
    | next => exact h
    | brk => exact h
    | cont => exact h
theorem run_own {pins : List (Addr × Obj)} {σ : L2.St} {H : Hp} {s : Shared} {Q : VK} {args : Args} {us : List Value} {vs : List V} (F : FnG X.prog X.w X.K X.mg X.base k f fd ps fm) (tk : Takes X W) (hgd : X.A.guards = some []) (hr : Room k X.A)
    (I : L2.Inv X pins σ H s) (hb : BindsTo s fd args (ps.zip us)) (r : Vals vs us) (h : spM X.K ps.length fm vs H Q (WE W σ)) : codeAny (model X.prog X.w) X.A (.call (.ref f) args) (CallEnd X pins σ Q) s :=
  codeAny_mono (F.run X.A X.stack s H args us vs Q (WE W σ) hgd hr I.env0 hb r h) fun r s' hq => after_call I tk r s' hq
theorem xe_call (F : FnG X.prog X.w X.K X.mg X.base k f fd ps fm) (tk : Takes X W) (hgd : X.A.guards = some []) (hr : Room k X.A) (hg : Gl X x) (hm : X.mg x = some (.ref f)) (hk : PySem.W.keepIn X.K (.ref f) = true) (hb : Binds X.K fd ps []) (hn : ALen m ps.length)
    (ha : PA X (e :: es) (tA X.K W m)) (hdb : (x == ("__debug__" : Str)) = false := by decide) (he : starEach (e :: es) X.env = (false, eval e X.env) :: starEach es X.env := by rfl) (hpl : (backTo pos (starEach es X.env)).any (·.1) = false := by rfl) :
    PE X (.Call (.Name x p) (e :: es) [] pos) (tE X.K W (mCall fm m)) := by
  refine ⟨fun pins s σ H Q I h => ?_⟩
  have h' := t_call fm hn σ H Q h
  refine wpAny_Call_Name_kw (ld_glob I hg hm ?_ hdb)
  refine PySem.W.callWith_K (h₀ := X.base) I.ok.mod.kin hk (thn (ha.run pos pins s σ H _ I h') fun us s1 ⟨vs, H1, I1, r, q⟩ => ⟨I1.kIn, wpAny_call ?_⟩) he hpl
  have hl : us.length = ps.length := by rw [← r.length]; exact spM_len _ _ _ _ q
  have b := hb s1 us I1.kIn (by rw [List.append_nil]; exact hl)
  rw [List.append_nil] at b
  exact run_own F tk hgd hr I1 b r q
/-- f(k = v, ..), all by name, in the parameters' order -/
theorem pk_imp {kws : List Keyword} {t t' : TA} (h : PK X kws t) (k : ∀ σ H Q, t' σ H Q → t σ H Q) : PK X kws t' := ⟨fun pos pins s σ H Q I q => h.run pos pins s σ H Q I (k _ _ _ q)⟩
theorem xk_nil : PK X [] (tA X.K W aNil) := pk_imp pk_nil t_nil
theorem xk_cons {nm : Option Str} {kws : List Keyword} {kpos : Pos} {a : ME} {m : MA} (h : PE X e (tE X.K W a)) (hr : PK X kws (tA X.K W m)) : PK X (⟨nm, e, kpos⟩ :: kws) (tA X.K W (aCons a m)) := pk_imp (pk_cons h hr) t_cons
def NBinds (K : PySem.W.Frag) (fd : FuncData) (ps : List Str) : Prop := ∀ (s : Shared) (us : List Value), K.In s.heap → us.length = ps.length → BindsTo s fd ⟨[], ps.zip us⟩ (ps.zip us)
theorem xe_callN {kws : List Keyword} (F : FnG X.prog X.w X.K X.mg X.base k f fd ps fm) (tk : Takes X W) (hgd : X.A.guards = some []) (hr : Room k X.A) (hg : Gl X x) (hm : X.mg x = some (.ref f)) (hk : PySem.W.keepIn X.K (.ref f) = true) (hb : NBinds X.K fd ps) (hn : ALen m ps.length)
    (ha : PK X kws (tA X.K W m)) (hall : (backToKw pos (keywordEach kws X.env)).all (·.1.isSome) = true := by rfl) (hks : (backToKw pos (keywordEach kws X.env)).filterMap (·.1) = ps := by rfl) (hdb : (x == ("__debug__" : Str)) = false := by decide)
    (hpl : ((backTo pos (starEach [] X.env)).any (·.1) || (backToKw pos (keywordEach kws X.env)).any (·.1.isNone)) = false := by rfl) :
    PE X (.Call (.Name x p) [] kws pos) (tE X.K W (mCall fm m)) := by
  refine ⟨fun pins s σ H Q I h => ?_⟩
  have h' := t_call fm hn σ H Q h
  refine wpAny_Call_Name_kw (ld_glob I hg hm ?_ hdb)
  refine PySem.W.callWith_KW0 (h₀ := X.base) I.ok.mod.kin hk hall (thn (ha.run pos pins s σ H _ I h') fun us s1 ⟨vs, H1, I1, r, q⟩ => ⟨I1.kIn, wpAny_call ?_⟩) hpl
  rw [hks]
  have hl : us.length = ps.length := by rw [← r.length]; exact spM_len _ _ _ _ q
  exact run_own F tk hgd hr I1 (hb s1 us I1.kIn hl) r q
end

/-! ### a def's end: its own lists are dropped -/
def below (n : Nat) (A : Arn) : Bool := A.all fun o => match o with
  | .refs ns => ns.all fun m => decide (m < n)
  | _ => true
/-- by value; an argument's list stays what it is -/
def closeV (n : Nat) (d : D) (A : Arn) : Res D := if below n (A.take n) = true then (match d with
  | .p x => .ok (.p x) (A.take n)
  | .ref m => if m < n then .ok (.ref m) (A.take n) else (match A[m]? with
    | some (.lst xs) => .ok (.p (.list xs)) (A.take n)
    | _ => .bad)
  | .scr ns => .ok (.scr ns) (A.take n)) else .bad
def finish (n : Nat) (o : Out) : Res D := match o with
  | .rt d A => closeV n d A
  | .nx _ A => closeV n (.p .none) A
  | .exn e A => if below n (A.take n) = true then .exn e (A.take n) else .bad
  | _ => .bad
/-- a def by its body: many names, many parameters -/
def defM (names : Nat) (body : MS) : MF := fun ds A => finish A.length (body (ds.map some ++ List.replicate (names - ds.length) none) A)
section
variable {K : PySem.W.Frag} {F S S' H H' : Hp} {ρ ρ' : List Addr} {A A' : Arn}
theorem Wo.drop (w : Wo K F S ρ' H A) (hp : Pre ρ ρ') (hb : below ρ.length (A.take ρ.length) = true) : Wo K F S ρ H (A.take ρ.length) := by
  obtain ⟨t, rfl⟩ := hp
  have hl := w.len
  rw [List.length_append] at hl
  have get : ∀ {n : Nat} {o : O}, (A.take ρ.length)[n]? = some o → n < ρ.length ∧ A[n]? = some o := fun {n o} e => by
    have h1 := (List.getElem?_eq_some_iff.mp e).1
    rw [List.length_take] at h1
    have h2 : n < ρ.length := by omega
    rw [List.getElem?_take_of_lt h2] at e
    exact ⟨h2, e⟩
  have at_ : ∀ {n : Nat}, n < ρ.length → (ρ ++ t)[n]? = ρ[n]? := fun {n} h => List.getElem?_append_left h
  refine ⟨w.sub, w.fsub, w.fdis, fun n o a e ne h => ?_, by rw [List.length_take]; omega, fun n xs e => ?_, fun n ns e => ?_, fun n ns e => ?_, fun n ns e => ?_, fun n m o u a q1 q2 n1 n2 r1 r2 => ?_⟩
  · obtain ⟨h1, h2⟩ := get e
    exact w.flive n o a h2 ne (by rw [at_ h1]; exact h)
  · obtain ⟨h1, h2⟩ := get e
    obtain ⟨a, vs, g1, g2⟩ := w.lst n xs h2
    exact ⟨a, vs, by rw [← at_ h1]; exact g1, g2⟩
  · obtain ⟨h1, h2⟩ := get e
    obtain ⟨a, vs, g1, g2, g3, g4⟩ := w.refs n ns h2
    refine ⟨a, vs, by rw [← at_ h1]; exact g1, g2, g3, ?_⟩
    have hall : ∀ m ∈ ns, m < ρ.length := by
      have := List.all_eq_true.mp hb (O.refs ns) (List.mem_of_getElem? e)
      dsimp only at this
      intro m hm
      exact of_decide_eq_true (List.all_eq_true.mp this m hm)
    clear e h2 g3
    induction g4 with
    | nil => exact .nil
    | cons r0 rs ih =>
      rename_i m v ns' vs'
      refine .cons ?_ (ih fun k hk => hall k (List.mem_cons_of_mem _ hk))
      obtain ⟨b, z1, z2⟩ := r0
      exact ⟨b, z1, by rw [← at_ (hall m List.mem_cons_self)]; exact z2⟩
  · obtain ⟨h1, h2⟩ := get e
    obtain ⟨a, vs, g1, g2⟩ := w.dct n ns h2
    exact ⟨a, vs, by rw [← at_ h1]; exact g1, g2⟩
  · obtain ⟨h1, h2⟩ := get e
    obtain ⟨a, g1, g2⟩ := w.tab n ns h2
    exact ⟨a, by rw [← at_ h1]; exact g1, g2⟩
  · obtain ⟨h1, h2⟩ := get q1
    obtain ⟨h3, h4⟩ := get q2
    exact w.inj n m o u a h2 h4 n1 n2 (by rw [at_ h1]; exact r1) (by rw [at_ h3]; exact r2)
theorem close_ok {d v : D} {x : V} (l : Le S ρ S' ρ') (w : Wo K F S' ρ' H A) (r : RD K S' ρ' d x) (e : closeV ρ.length d A = .ok v A') : ∃ S2, Le S ρ S2 ρ ∧ Wo K F S2 ρ H A' ∧ RD K S2 ρ v x := by
  unfold closeV at e
  split at e
  · rename_i hb
    have w1 := w.drop l.pre hb
    cases d with
    | p y =>
      cases e
      exact ⟨S', ⟨l.ex, Pre.refl ρ⟩, w1, r⟩
    | scr ns =>
      cases e
      exact ⟨S', ⟨l.ex, Pre.refl ρ⟩, w1, r⟩
    | ref m =>
      dsimp only at e
      by_cases hm : m < ρ.length
      · rw [if_pos hm] at e
        cases e
        obtain ⟨a, ha, q⟩ := r
        obtain ⟨t, rfl⟩ := l.pre
        rw [List.getElem?_append_left hm] at q
        exact ⟨S', ⟨l.ex, Pre.refl ρ⟩, w1, ⟨a, ha, q⟩⟩
      · rw [if_neg hm] at e
        split at e
        · rename_i xs hx
          cases e
          obtain ⟨S2, a, l2, w2, ha, q⟩ := w.freeze hx
          obtain ⟨b, rfl, hb2⟩ := r
          rw [ha] at hb2
          cases hb2
          have et : (A.set m O.gone).take ρ.length = A.take ρ.length := by
            rw [List.take_set, List.set_eq_of_length_le]
            rw [List.length_take]
            omega
          have w3 := w2.drop l.pre (by rw [et]; exact hb)
          rw [et] at w3
          exact ⟨S2, ⟨l.ex.trans l2.ex, Pre.refl ρ⟩, w3, q⟩
        · cases e
  · cases e
end
section
variable {P : Program} {w : World} {K : PySem.W.Frag} {mg : Str → Option Value} {base : Heap}
/-- the body's run is what the promise wants -/
theorem def_body {N ps : List Str} {body : MS} {sc : Scope} {vs : List V} {H : Hp} {Q : VK} {E : XK} (Sc : FnScope N ps sc) (h : spM K ps.length (defM N.length body) vs H Q E) : tS K (fun c d _ H => E c d H) body { nx := fun _ H' => Q .non H', rt := Q } (start N vs) H := by
  generalize hn : ps.length = n at h
  obtain ⟨F, S, ρ, Ar, ds, hd, r, wo, h⟩ := h
  have hl : ps.length ≤ N.length := by
    have := congrArg List.length Sc.pre
    rw [List.length_take] at this
    omega
  have hvs : vs.length = n := by rw [← Paired.length r, hd]
  refine ⟨F, S, ρ, ds.map some ++ List.replicate (N.length - ds.length) none, Ar, wo, SR.start r (by omega), ?_⟩
  unfold defM at h
  rw [← wo.len] at h
  cases e : body (ds.map some ++ List.replicate (N.length - ds.length) none) Ar with
  | nx s' A' =>
    rw [e] at h
    intro S' ρ' H' σ' l w' _
    have h : match closeV ρ.length (.p .none) A' with
      | .ok v A' => ∀ S' ρ' H' x, Le S ρ S' ρ' → Wo K F S' ρ' H' A' → RD K S' ρ' v x → Q x H'
      | .exn e A' => ∀ S' ρ' H' c d, Le S ρ S' ρ' → Wo K F S' ρ' H' A' → ER K S' e c d H' → E c d H'
      | .bad => False := h
    cases ec : closeV ρ.length (.p .none) A' with
    | bad => rw [ec] at h; exact h.elim
    | exn x A2 =>
      unfold closeV at ec
      split at ec <;> cases ec
    | ok v A2 =>
      rw [ec] at h
      obtain ⟨S2, l2, w2, r2⟩ := close_ok (v := v) (x := .non) l w' (show RD K S' ρ' (.p .none) .non from .non) ec
      exact h S2 ρ H' .non l2 w2 r2
  | rt d A' =>
    rw [e] at h
    intro S' ρ' H' x l w' rr
    have h : match closeV ρ.length d A' with
      | .ok v A' => ∀ S' ρ' H' x, Le S ρ S' ρ' → Wo K F S' ρ' H' A' → RD K S' ρ' v x → Q x H'
      | .exn e A' => ∀ S' ρ' H' c d, Le S ρ S' ρ' → Wo K F S' ρ' H' A' → ER K S' e c d H' → E c d H'
      | .bad => False := h
    cases ec : closeV ρ.length d A' with
    | bad => rw [ec] at h; exact h.elim
    | exn x A2 =>
      unfold closeV at ec
      split at ec
      · split at ec
        · cases ec
        · split at ec
          · cases ec
          · split at ec <;> cases ec
        · cases ec
      · cases ec
    | ok v A2 =>
      rw [ec] at h
      obtain ⟨S2, l2, w2, r2⟩ := close_ok l w' rr ec
      exact h S2 ρ H' x l2 w2 r2
  | exn x A' =>
    rw [e] at h
    intro S' ρ' H' σ' c d l w' er
    have h : match (if below ρ.length (A'.take ρ.length) = true then Res.exn x (A'.take ρ.length) else .bad : Res D) with
      | .ok v A' => ∀ S' ρ' H' x, Le S ρ S' ρ' → Wo K F S' ρ' H' A' → RD K S' ρ' v x → Q x H'
      | .exn e A' => ∀ S' ρ' H' c d, Le S ρ S' ρ' → Wo K F S' ρ' H' A' → ER K S' e c d H' → E c d H'
      | .bad => False := h
    by_cases hb : below ρ.length (A'.take ρ.length) = true
    · rw [if_pos hb] at h
      exact h S' ρ H' c d ⟨l.ex, Pre.refl ρ⟩ (w'.drop l.pre hb) er
    · rw [if_neg hb] at h
      exact h.elim
  | bk s' A' => rw [e] at h; exact h.elim
  | ct s' A' => rw [e] at h; exact h.elim
  | bad => rw [e] at h; exact h.elim
/-- THE RULE for a def -/
theorem def_ok {x qual : Str} {st : Stmt} {f : Addr} {fd : FuncData} {N ps : List Str} {k : Nat} {body : MS} (Fu : Fun K x qual st f fd) (Sc : FnScope N ps (defScope st))
    (hbody : ∀ (cdv : Value) (A : Around) (outer : List Env) (s : Shared) (H : Hp) (E : XK), A.guards = some [] → Room k (A.deeper (envOfC qual (defScope st) s.heap.objs.size f cdv)) →
      PSs (cxOf (L2.CX P w) P w K mg base N qual (defScope st) f cdv A outer s H E) (defBody st) (tS K (fun c d _ H => E c d H) body)) :
    FnG P w K mg base (k + 1) f fd ps (defM N.length body) := by
  obtain ⟨oc, od, kV, doc, pm, an, cdv, ct, osl, rfl, lk, hcd⟩ := Fu.ex
  refine ⟨fun A outer s H args us vs Q E gd hr e0 hb r hsp => ?_⟩
  have room := hr.deeper (envOfC qual (defScope st) s.heap.objs.size f cdv)
  have bs : ∀ b o, base.get? b = some o → s.heap.get? b = some o := fun b o e => (e0.bs b o e).1
  have hin : K.In s.heap := e0.mod.kin.keeps bs
  have nolim : s.heap.NoLimit := e0.mod.nolimit.keeps bs
  refine codeAny_call_function hr.depth (hin _ _ lk) rfl Sc.co Sc.gen rfl (PySem.W.codeRec_of hin hcd) (hb _ _ _ _ (wpAny_newFunctionEnv_cells Sc.kind ?_ ?_))
  · rintro ⟨y, v⟩ hy
    have hy' := (List.of_mem_zip hy).1
    exact (Sc.par y hy').imp id fun q => ⟨q, PySem.W.cellsFrom_some _ _ _ (.inl q)⟩
  · rintro env he s1 x
    subst he
    refine ⟨nolim.keeps x.toInCall.keep, codeAny_func ?_⟩
    have I := inv_start (CX := L2.CX P w) (E := E) Sc hr.hd e0 (spM_len vs H Q E hsp) r x
    refine wpAny_mono ((hbody cdv A outer s H E gd room).run [] s1 (start N vs) H _ I (def_body Sc hsp)) (fun fl s' hs => ?_) fun _ _ q => q
    cases fl with
    | ret u =>
      obtain ⟨v, _, H', J, rv, q⟩ := hs
      exact ⟨v, H', J.os, J.bare, J.base, J.hok, rv, q⟩
    | next =>
      obtain ⟨_, H', J, q⟩ := hs
      exact ⟨.non, H', J.os, J.bare, J.base, J.hok, rfl, q⟩
    | brk =>
      obtain ⟨_, _, _, q⟩ := hs
      exact q.elim
    | cont =>
      obtain ⟨_, _, _, q⟩ := hs
      exact q.elim
end
end Mi
end

section
set_option maxHeartbeats 4000000
/-! MiF: operations on data. -/
namespace Mi
open PySem PySem.Spec PyProof.Rows L2
open Evl (Ex)

/-! ### a datum in view: still, or a list of the arena -/
def VwO (K : PySem.W.Frag) (S H : Hp) (v : V) (d : PyData) : Prop := Dq K S v d ∨ ∃ a vs ds, v = .ref a ∧ d = .list ds ∧ H a = some (.lst vs) ∧ DqAll K S vs ds
def Vw (K : PySem.W.Frag) (S H : Hp) (v : V) (d : PyData) : Prop := VwO K S H v d ∨ ∃ (a : Addr) (ns : List Int), v = .ref a ∧ d = .list (ns.map PyData.int) ∧ SqL K S a (ns.map V.int)
section
variable {K : PySem.W.Frag} {S S' H H' F : Hp} {ρ : List Addr} {A : Arn} {v : V}
theorem Vw.ofD {d : PyData} (hd : ∀ ds, d ≠ .list ds) (h : Vw K S H v d) : Dq K S v d := by
  rcases h with (h | ⟨a, vs, ds, _, h2, _⟩) | ⟨a, ns, _, h2, _⟩
  · exact h
  · exact absurd h2 (hd _)
  · exact absurd h2 (hd _)
theorem Vw.non (h : Vw K S H v .none) : v = .non := by
  cases h.ofD (fun _ => by simp); rfl
theorem Vw.bool {b : Bool} (h : Vw K S H v (.bool b)) : v = .bl b := by
  cases h.ofD (fun _ => by simp); rfl
theorem Vw.int {i : Int} (h : Vw K S H v (.int i)) : v = .int i := by
  cases h.ofD (fun _ => by simp); rfl
theorem Vw.str {x : Str} (h : Vw K S H v (.str x)) : v = .str x := by
  cases h.ofD (fun _ => by simp); rfl
theorem Vw.list (e : Ex S H) {ds : List PyData} (h : Vw K S H v (.list ds)) : ∃ a vs, v = .ref a ∧ SqL K H a vs ∧ DqAll K S vs ds := by
  rcases h with (h | ⟨a, vs, ds', h1, h2, h3, h4⟩) | ⟨a, ns, h1, h2, h3⟩
  · cases h with
    | lst h q => exact ⟨_, _, rfl, .inl (.inl (e _ _ h)), q⟩
  · cases h2
    exact ⟨a, vs, h1, .inl (.inl h3), h4⟩
  · cases h2
    exact ⟨a, _, h1, Evl.ex_l e h3, DqAll.ints ns⟩
theorem VwO.list (e : Ex S H) {ds : List PyData} (h : VwO K S H v (.list ds)) : ∃ a vs, v = .ref a ∧ H a = some (.lst vs) ∧ DqAll K S vs ds := by
  rcases h with h | ⟨a, vs, ds', h1, h2, h3, h4⟩
  · cases h with
    | lst h q => exact ⟨_, _, rfl, e _ _ h, q⟩
  · cases h2
    exact ⟨a, vs, h1, h3, h4⟩
theorem Vw.tup (e : Ex S H) {ds : List PyData} (h : Vw K S H v (.tuple ds)) : ∃ a vs, v = .ref a ∧ SqT K S a vs ∧ SqT K H a vs ∧ DqAll K S vs ds := by
  cases h.ofD (fun _ => by simp) with
  | tup hq q => exact ⟨_, _, rfl, hq, Evl.ex_t e hq, q⟩
theorem DpAll.ints : ∀ (ns : List Int), DpAll K S (ns.map V.int) (ns.map PyData.int)
  | [] => .nil
  | n :: r => .cons (.int n) (DpAll.ints r)
theorem Vw.toDp (e : Ex S H) {d : PyData} (h : Vw K S H v d) (n : noDict d = true) : Dp K H v d := by
  rcases h with (h | ⟨a, vs, ds', h1, h2, h3, h4⟩) | ⟨a, ns, h1, h2, h3⟩
  · exact (Dq.mono e _ _ h).toDp _ _ n
  · subst h1 h2
    exact .lst (.inl (.inl h3)) ((DqAll.mono e _ _ h4).toDp _ _ (by simpa only [noDict] using n))
  · subst h1 h2
    exact .lst (Evl.ex_l e h3) (DpAll.ints ns)
theorem vwo_of (w : Wo K F S ρ H A) {d : D} {x : PyData} (r : RD K S ρ d v) (e : dataOwn d A = some x) : VwO K S H v x := by
  cases d with
  | p d => cases e; exact .inl r
  | scr n => cases e
  | ref n =>
    unfold dataOwn dataOf at e
    dsimp only at e
    split at e
    · rename_i xs ea
      cases e
      obtain ⟨a, vs, h1, _, h3, h4⟩ := w.lst n xs ea
      obtain ⟨b, rfl, hb⟩ := r
      rw [h1] at hb
      cases hb
      exact .inr ⟨a, vs, xs, rfl, rfl, h3, h4⟩
    · cases e
theorem vw_of (w : Wo K F S ρ H A) {d : D} {x : PyData} (r : RD K S ρ d v) (e : dataOf d A = some x) : Vw K S H v x := by
  cases d with
  | p d => exact .inl (vwo_of w r e)
  | scr n =>
    cases e
    obtain ⟨a, h1, h2⟩ := r
    exact .inr ⟨a, n, h1, rfl, h2⟩
  | ref n => exact .inl (vwo_of w r e)
/-- what is asked of an operation on data -/
def Gives (K : PySem.W.Frag) (S H : Hp) (z : PyData) (Q : VK) : Prop := ∀ S' H' v, Grow S H S' H' → Dq K S' v z → Q v H'
def rP1 (K : PySem.W.Frag) (f : PyData → Option PyData) : V → Hp → VK → Prop := fun x H Q => ∃ S d z, Ex S H ∧ Vw K S H x d ∧ f d = some z ∧ Gives K S H z Q
def rP2 (K : PySem.W.Frag) (f : PyData → PyData → Option PyData) : R2 := fun x y H Q => ∃ S d e z, Ex S H ∧ Vw K S H x d ∧ Vw K S H y e ∧ f d e = some z ∧ Gives K S H z Q
def rO2 (K : PySem.W.Frag) (f : PyData → PyData → Option PyData) : R2 := fun x y H Q => ∃ S d e z, Ex S H ∧ VwO K S H x d ∧ VwO K S H y e ∧ f d e = some z ∧ Gives K S H z Q
inductive VwAll (K : PySem.W.Frag) (S H : Hp) : List V → List PyData → Prop
  | nil : VwAll K S H [] []
  | cons {v : V} {vs : List V} {d : PyData} {ds : List PyData} (h : Vw K S H v d) (q : VwAll K S H vs ds) : VwAll K S H (v :: vs) (d :: ds)
def rPN (K : PySem.W.Frag) (f : List PyData → Option PyData) : List V → Hp → VK → Prop := fun xs H Q => ∃ S ds z, Ex S H ∧ VwAll K S H xs ds ∧ f ds = some z ∧ Gives K S H z Q
theorem Gives.of (w : Wo K F S ρ H A) {z : PyData} {Q : VK} (h : ∀ S' ρ' H' v, Le S ρ S' ρ' → Wo K F S' ρ' H' A → RD K S' ρ' (.p z) v → Q v H') : Gives K S H z Q := fun S' H' v g q => h S' ρ H' v (g.le ρ) (w.grow g) q
theorem Gives.now (e : Ex S H) {z : PyData} {Q : VK} (h : Gives K S H z Q) {v : V} (q : Dq K S v z) : Q v H := h S H v (Grow.refl e) q
theorem Gives.tup (e : Ex S H) {zs : List PyData} {Q : VK} (h : Gives K S H (.tuple zs) Q) {p : Addr} (n : H p = none) {vs : List V} (q : DqAll K S vs zs) : Q (.ref p) (upd H p (.tup vs)) :=
  have g := Grow.upd (o := HO.tup vs) e n
  h _ _ _ g (.tup (.inl (.inl upd_same)) (DqAll.mono g.ex _ _ q))
theorem Gives.lst (e : Ex S H) {zs : List PyData} {Q : VK} (h : Gives K S H (.list zs) Q) {p : Addr} (n : H p = none) {vs : List V} (q : DqAll K S vs zs) : Q (.ref p) (upd H p (.lst vs)) :=
  have g := Grow.upd (o := HO.lst vs) e n
  h _ _ _ g (.lst upd_same (DqAll.mono g.ex _ _ q))
theorem m1_of {f : PyData → Option PyData} {x : V} {Q : VK} : rM1 K (lift1 f) x H Q → rP1 K f x H Q := fun ⟨F, S, ρ, A, a, b, A', w, r, e, h⟩ => by
  unfold lift1 at e
  cases e1 : dataOf a A with
  | none => rw [e1] at e; cases e
  | some d =>
    rw [e1] at e
    dsimp only [Option.bind_some] at e
    cases e2 : f d with
    | none => rw [e2] at e; cases e
    | some z =>
      rw [e2] at e
      cases e
      exact ⟨S, d, z, w.sub, vw_of w r e1, e2, .of w h⟩
theorem m2_of {f : PyData → PyData → Option PyData} {x y : V} {Q : VK} : rM2 K (lift2 f) x y H Q → rP2 K f x y H Q := fun ⟨F, S, ρ, A, a, b, c, A', w, r, r2, e, h⟩ => by
  unfold lift2 at e
  cases e1 : dataOf a A with
  | none => rw [e1] at e; cases e
  | some d =>
    rw [e1] at e
    dsimp only [Option.bind_some] at e
    cases e3 : dataOf b A with
    | none => rw [e3] at e; cases e
    | some d2 =>
      rw [e3] at e
      dsimp only [Option.bind_some] at e
      cases e2 : f d d2 with
      | none => rw [e2] at e; cases e
      | some z =>
        rw [e2] at e
        cases e
        exact ⟨S, d, d2, z, w.sub, vw_of w r e1, vw_of w r2 e3, e2, .of w h⟩
theorem m2o_of {f : PyData → PyData → Option PyData} {x y : V} {Q : VK} : rM2 K (lift2o f) x y H Q → rO2 K f x y H Q := fun ⟨F, S, ρ, A, a, b, c, A', w, r, r2, e, h⟩ => by
  unfold lift2o at e
  cases e1 : dataOwn a A with
  | none => rw [e1] at e; cases e
  | some d =>
    rw [e1] at e
    dsimp only [Option.bind_some] at e
    cases e3 : dataOwn b A with
    | none => rw [e3] at e; cases e
    | some d2 =>
      rw [e3] at e
      dsimp only [Option.bind_some] at e
      cases e2 : f d d2 with
      | none => rw [e2] at e; cases e
      | some z =>
        rw [e2] at e
        cases e
        exact ⟨S, d, d2, z, w.sub, vwo_of w r e1, vwo_of w r2 e3, e2, .of w h⟩
theorem vws_of (w : Wo K F S ρ H A) : ∀ {as : List D} {ds : List PyData} {vs : List V}, RDs K S ρ as vs → datasOf as A = some ds → VwAll K S H vs ds
  | [], ds, vs, r, e => by cases r; cases e; exact .nil
  | a :: as, ds, vs, r, e => by
    cases r with
    | cons r1 r2 =>
      unfold datasOf at e
      cases e1 : dataOf a A with
      | none => rw [e1] at e; cases e
      | some d =>
        rw [e1] at e
        dsimp only [Option.bind_some] at e
        cases e2 : datasOf as A with
        | none => rw [e2] at e; cases e
        | some es =>
          rw [e2] at e
          cases e
          exact .cons (vw_of w r1 e1) (vws_of w r2 e2)
theorem mN_of {f : List PyData → Option PyData} {xs : List V} {Q : VK} : rMN K (liftN f) xs H Q → rPN K f xs H Q := fun ⟨F, S, ρ, A, as, b, A', w, r, e, h⟩ => by
  unfold liftN at e
  cases e1 : datasOf as A with
  | none => rw [e1] at e; cases e
  | some ds =>
    rw [e1] at e
    dsimp only [Option.bind_some] at e
    cases e2 : f ds with
    | none => rw [e2] at e; cases e
    | some z =>
      rw [e2] at e
      cases e
      exact ⟨S, ds, z, w.sub, vws_of w r e1, e2, .of w h⟩
end

/-! ### the rules' forms -/
section
variable {X : Cx} {W : WX} {a b c : Expr} {ma mb mc : ME} {pos : Pos}
theorem xe_op {op : Operator} {f : PyData → PyData → Option PyData} (ho : OpR X (binaryOp op) (rP2 X.K f)) (ha : PE X a (tE X.K W ma)) (hb : PE X b (tE X.K W mb)) : PE X (.BinOp a op b pos) (tE X.K W (mOp2 (lift2 f) ma mb)) :=
  pe_imp (pe_op (r := rM2 X.K (lift2 f)) (fun pins s σ H x y v u Q I rx ry h => ho pins s σ H x y v u Q I rx ry (m2_of h)) ha hb) t_op2
theorem xe_opo {op : Operator} {f : PyData → PyData → Option PyData} (ho : OpR X (binaryOp op) (rO2 X.K f)) (ha : PE X a (tE X.K W ma)) (hb : PE X b (tE X.K W mb)) : PE X (.BinOp a op b pos) (tE X.K W (mOp2 (lift2o f) ma mb)) :=
  pe_imp (pe_op (r := rM2 X.K (lift2o f)) (fun pins s σ H x y v u Q I rx ry h => ho pins s σ H x y v u Q I rx ry (m2o_of h)) ha hb) t_op2
theorem xe_cmp {op : CmpOp} {f : PyData → PyData → Option PyData} (ho : OpR X (compareOp op) (rP2 X.K f)) (ha : PE X a (tE X.K W ma)) (hb : PE X b (tE X.K W mb)) (hm : behindInMarks op b = false) : PE X (.Compare a [op] [b] pos) (tE X.K W (mOp2 (lift2 f) ma mb)) :=
  pe_imp (pe_cmpR (r := rM2 X.K (lift2 f)) (fun pins s σ H x y v u Q I rx ry h => ho pins s σ H x y v u Q I rx ry (m2_of h)) ha hb hm) t_op2
theorem xt_cmp {op : CmpOp} {f : PyData → PyData → Option PyData} (ho : OpR X (compareOp op) (rP2 X.K f)) (ha : PE X a (tE X.K W ma)) (hb : PE X b (tE X.K W mb)) (hm : behindInMarks op b = false) : PT X (.Compare a [op] [b] pos) (tT X.K W (mB (mOp2 (lift2 f) ma mb))) :=
  pt_imp (pt_cmpR (r := rM2 X.K (lift2 f)) (fun pins s σ H x y v u Q I rx ry h => ho pins s σ H x y v u Q I rx ry (m2_of h)) ha hb hm) fun σ H Q h => by
    obtain ⟨F, S, ρ, s, A, w, sr, h1⟩ := t_B σ H Q h
    exact t_op2 σ H _ ⟨F, S, ρ, s, A, w, sr, h1⟩
theorem xe_un {op : UnaryOp} {f : PyData → Option PyData} (ho : UnR X (unaryOp op) (rP1 X.K f)) (ha : PE X a (tE X.K W ma)) : PE X (.UnaryOp op a pos) (tE X.K W (mOp1 (lift1 f) ma)) :=
  pe_imp (pe_un (r := rM1 X.K (lift1 f)) (fun pins s σ H x v Q I rx h => ho pins s σ H x v Q I rx (m1_of h)) ha) t_op1
theorem xt_val (h : PE X a (tE X.K W ma)) (he : ∀ whole, isTrue a X.env whole = (do let v ← whole; standAt a.pos; holding [v] (truthy v)) := by intro _; rfl) : PT X a (tT X.K W (mB ma)) := pt_imp (pt_val h he) t_B
theorem xt_not {m : MT} (h : PT X a (tT X.K W m)) : PT X (.UnaryOp .Not a pos) (tT X.K W (mNot m)) := pt_imp (pt_not h) t_not
variable {rest : List Expr}
theorem xw_and1 {m : MT} (h : PT X a (tT X.K W m)) : PW X (.BoolOp .And [a] pos) (tT X.K W m) := pw_and1 h
theorem xw_or1 {m : MT} (h : PT X a (tT X.K W m)) : PW X (.BoolOp .Or [a] pos) (tT X.K W m) := pw_or1 h
theorem xw_and {m k : MT} (h : PT X a (tT X.K W m)) (hr : PW X (.BoolOp .And (b :: rest) pos) (tT X.K W k)) : PW X (.BoolOp .And (a :: b :: rest) pos) (tT X.K W (mAnd m k)) := pw_imp (pw_and h hr) t_and
theorem xw_or {m k : MT} (h : PT X a (tT X.K W m)) (hr : PW X (.BoolOp .Or (b :: rest) pos) (tT X.K W k)) : PW X (.BoolOp .Or (a :: b :: rest) pos) (tT X.K W (mOr m k)) := pw_imp (pw_or h hr) t_or
theorem xe_ifE {m : MT} (h : PT X c (tT X.K W m)) (ha : PE X a (tE X.K W ma)) (hb : PE X b (tE X.K W mb)) : PE X (.IfExp c a b pos) (tE X.K W (mIfE m ma mb)) := pe_imp (pe_ifExp h ha hb) t_if
theorem xa_nil : PA X [] (tA X.K W aNil) := pa_imp pa_nil t_nil
theorem xa_cons {e : Expr} {es : List Expr} {m : ME} {k : MA} (ha : PE X e (tE X.K W m)) (hr : PA X es (tA X.K W k)) (hs : starEach (e :: es) X.env = (false, eval e X.env) :: starEach es X.env := by rfl) : PA X (e :: es) (tA X.K W (aCons m k)) := pa_imp (pa_cons ha hr hs) t_cons
theorem xe_bi {id : String} {x : Str} {p : Pos} {e : Expr} {es : List Expr} {m : MA} {f : List PyData → Option PyData} (hc : CallR X (.builtin id) (rPN X.K f)) (hg : Gl X x) (hm : X.mg x = none) (hv : bootBuiltins x = some (.builtin id)) (ha : PA X (e :: es) (tA X.K W m)) (hn : x ≠ "__name__" := by decide) (hdb : (x == ("__debug__" : Str)) = false := by decide)
    (he : starEach (e :: es) X.env = (false, eval e X.env) :: starEach es X.env := by rfl) (hpl : (backTo pos (starEach es X.env)).any (·.1) = false := by rfl) : PE X (.Call (.Name x p) (e :: es) [] pos) (tE X.K W (mOpN (liftN f) m)) :=
  pe_imp (pe_callB (r := rMN X.K (liftN f)) (fun pins s σ H xs us Q I r h => hc pins s σ H xs us Q I r (mN_of h)) hg hm hv ha hn hdb he hpl) t_opN
theorem xe_ty {T : String} {x : Str} {p : Pos} {e : Expr} {es : List Expr} {m : MA} {f : List PyData → Option PyData} (hc : CallR X (.type T) (rPN X.K f)) (hg : Gl X x) (hm : X.mg x = none) (hv : bootBuiltins x = some (.type T)) (ha : PA X (e :: es) (tA X.K W m)) (hn : x ≠ "__name__" := by decide) (hdb : (x == ("__debug__" : Str)) = false := by decide)
    (he : starEach (e :: es) X.env = (false, eval e X.env) :: starEach es X.env := by rfl) (hpl : (backTo pos (starEach es X.env)).any (·.1) = false := by rfl) : PE X (.Call (.Name x p) (e :: es) [] pos) (tE X.K W (mOpN (liftN f) m)) :=
  pe_imp (pe_callTy (r := rMN X.K (liftN f)) (fun pins s σ H xs us Q I r h => hc pins s σ H xs us Q I r (mN_of h)) hg hm hv ha hn hdb he hpl) t_opN
/-! statements -/
theorem xs_let {i : Nat} {x : Str} {p' : Pos} (hN : X.N.Nodup) (hi : X.N[i]? = some x) (hx : Loc X.env.scope x) (he : PE X a (tE X.K W ma)) (hs : swapsWith a (some (.Name x p')) pos.line X.env = pure false := by rfl) (hf : X.fn x = true ∨ X.env.scope.names.lookup x = some .local := by first | exact .inl rfl | exact .inr rfl | assumption) :
    PS X (.Assign [.Name x p'] a pos) (tS X.K W (sLet i ma)) := ps_imp (ps_set hN hi hx he hs hf) t_let
theorem xs_asg {tg : Expr} {g : TG} {gm : MG} {is : List Nat} (hgo : GOk X.K g gm is) (he : PE X a (tE X.K W ma)) (hg : PG X tg g) (hs : swapsWithSole [tg] a pos.line X.env = pure false := by rfl) (hw : swappedStores [tg] a X.env = pure none := by rfl)
    (h1 : (assignEach [tg] X.env).map (·.2) = [assign tg X.env] := by rfl) : PS X (.Assign [tg] a pos) (tS X.K W (sAsg ma gm)) := ps_imp (ps_asg he hg hs hw h1) (t_asg hgo)
theorem xs_par {i j : Nat} {x y : Str} {m : MA} {px py pt : Pos} {kt k2 pt2} (hc : X.calm = true) (hN : X.N.Nodup) (hi : X.N[i]? = some x) (hj : X.N[j]? = some y) (hij : i ≠ j)
    (hx : X.env.scope.names.lookup x = some .local) (hy : X.env.scope.names.lookup y = some .local) (ha : PA X [a, b] (tA X.K W m))
    (hw : swappedStores [.Tuple [.Name x px, .Name y py] kt pt] (.Tuple [a, b] k2 pt2) X.env = pure (some [x, y]))
    (hs : swapsWithSole [.Tuple [.Name x px, .Name y py] kt pt] (.Tuple [a, b] k2 pt2) pos.line X.env = pure false := by rfl) :
    PS X (.Assign [.Tuple [.Name x px, .Name y py] kt pt] (.Tuple [a, b] k2 pt2) pos) (tS X.K W (sPar i j m)) := ps_imp (ps_par hc hN hi hj hij hx hy ha hw hs) t_par
theorem xs_expr (he : PE X a (tE X.K W ma)) (hs : swapsWith a none pos.line X.env = pure false := by rfl) : PS X (.Expr a pos) (tS X.K W (sDrop ma)) := ps_imp (ps_expr he hs) t_drop
theorem xs_ret (he : PE X a (tE X.K W ma)) : PS X (.Return (some a) pos) (tS X.K W (sRet ma)) := ps_imp (ps_ret he) t_ret
theorem xs_retN : PS X (.Return none pos) (tS X.K W sRetN) := ps_imp ps_retN t_retN
theorem xs_if {m : MT} {st st2 : List Stmt} {ms ks : MS} (hc : PT X c (tT X.K W m)) (ha : PSs X st (tS X.K W ms)) (hb : PSs X st2 (tS X.K W ks)) : PS X (.If c st st2 pos) (tS X.K W (sIf m ms ks)) := ps_imp (ps_if hc ha hb) t_ifS
theorem xs_never {st : Stmt} : PS X st (tS X.K W sNever) := ps_imp ps_never t_never
theorem xs_brk : PS X (.Break pos) (tS X.K W sBrk) := ps_imp ps_break t_brk
theorem xs_cnt : PS X (.Continue pos) (tS X.K W sCnt) := ps_imp ps_continue t_cnt
theorem xss_nil : PSs X [] (tS X.K W sSkip) := pss_imp pss_nil t_skip
theorem xss_cons {st : Stmt} {sts : List Stmt} {m k : MS} (h : PS X st (tS X.K W m)) (hr : PSs X sts (tS X.K W k)) : PSs X (st :: sts) (tS X.K W (sSeq m k)) := pss_imp (pss_cons h hr) t_seq
theorem xss_one {st : Stmt} {m : MS} (h : PS X st (tS X.K W m)) : PSs X [st] (tS X.K W m) := pss_one h
theorem xs_for {tg iter : Expr} {body : List Stmt} {m : MI} {g : TG} {gm : MG} {is : List Nat} {mb : MS} (hgo : GOk X.K g gm is) (hp : PassesOwn (model X.prog X.w) X.A X.env X.xe) (hc : X.calm = true) (hi : PI X tg iter (tI X.K W m)) (hg : PG X tg g) (hb : PSs X body (tS X.K W mb))
    (hs : ∀ x, foldedSetIterable iter X.env x = pure x := by intro _; rfl) : PS X (.For tg iter body [] pos) (tS X.K W (sFor m gm mb)) := ps_imp (ps_for hp hc hi hg hb hs) (t_for hgo)
theorem xs_forK {tg : Expr} {body : List Stmt} {g : TG} {gm : MG} {is : List Nat} {mb : MS} (hgo : GOk X.K g gm is) (hp : PassesOwn (model X.prog X.w) X.A X.env X.xe) (hc : X.calm = true) (ha : PE X a (tE X.K W ma)) (hg : PG X tg g) (hb : PSs X body (tS X.K W mb))
    (hs : ∀ x, foldedSetIterable a X.env x = pure x := by intro _; rfl) : PS X (.For tg a body [] pos) (tS X.K W (sForK ma gm mb)) := ps_imp (ps_for hp hc (pi_seq ha) hg hb hs) (t_forK hgo)
theorem xs_while {body : List Stmt} {n : Nat} {m : MT} {mb : MS} (hp : PassesOwn (model X.prog X.w) X.A X.env X.xe) (hc : PT X c (tT X.K W m)) (hb : PSs X body (tS X.K W mb)) : PS X (.While c body [] pos) (tS X.K W (sWhile n m mb)) := ps_imp (ps_while hp hc hb) t_while
end
end Mi
end

section
set_option maxHeartbeats 4000000
/-! MiG: which operations there are. -/
namespace Mi
open PySem PySem.Spec PyProof.Rows L2
open Evl (Ex)

/-! ### reads of data, the empty dict among them -/
section
variable {X : Cx} {pins : List (Addr × Obj)} {σ : L2.St} {H : Hp} {s : Shared}
mutual
/-- the addresses of lists and dicts within are as the flag says: no dict, or no list -/
theorem Dq.reads (I : Inv X pins σ H s) : ∀ (d : PyData) (v : V) (u : Value), Dq X.K H v d → RelV v u → ∃ as, Reads s.heap u d as ∧ (noList d = true → sysModules ∉ as)
  | .none, _, _, h, r => by
    cases h
    cases r
    exact ⟨_, Reads.none, fun _ => by simp⟩
  | .bool b, _, _, h, r => by
    cases h
    cases r
    exact ⟨_, Reads.bool b, fun _ => by simp⟩
  | .int i, _, _, h, r => by
    cases h
    obtain ⟨t, rfl⟩ := r
    exact ⟨_, Reads.int i t, fun _ => by simp⟩
  | .str x, _, _, h, r => by
    cases h
    obtain ⟨t, rfl⟩ := r
    exact ⟨_, Reads.str x t, fun _ => by simp⟩
  | .list ds, _, _, h, r => by
    cases h with
    | lst hs ha =>
      cases r
      obtain ⟨its, rv, ⟨o, n, ho, hc, _, hd⟩, _⟩ := I.list (.inl (.inl hs))
      obtain ⟨as, hr, _⟩ := DqAll.reads I ds _ its ha rv
      exact ⟨_, Reads.list ho hc hd hr, fun z => by simp [noList] at z⟩
  | .tuple ds, _, _, h, r => by
    cases h with
    | tup hs ha =>
      cases r
      obtain ⟨its, rv, ⟨o, ho, hc, n, hd⟩, _⟩ := I.tuple hs
      obtain ⟨as, hr, hn⟩ := DqAll.reads I ds _ its ha rv
      exact ⟨_, Reads.tuple ho hc hd hr, fun z => hn (by simpa only [noList] using z)⟩
  | .dict kvs, _, _, h, r => by
    cases h with
    | dic h =>
      rename_i a
      cases r
      obtain ⟨_, hne, vs, hkv, o, es, ep, h1, h2, h3, h4, h5⟩ := I.hok a _ h
      cases hkv
      have e0 : es = #[] := by
        have h6 := h5.1
        have : es.toList = [] := by
          generalize es.toList = l at h6
          cases h6
          rfl
        simpa using this
      subst e0
      refine ⟨[a] ++ [] ++ [], Reads.dict (kvs := []) h1 h2.1 h3 .nil .nil, fun _ => ?_⟩
      simp only [List.append_nil, List.mem_singleton]
      intro z
      rw [z] at hne
      simp at hne
theorem DqAll.reads (I : Inv X pins σ H s) : ∀ (ds : List PyData) (vs : List V) (us : List Value), DqAll X.K H vs ds → Vals vs us → ∃ as, ReadsAll s.heap us ds as ∧ (noListAll ds = true → sysModules ∉ as)
  | [], _, _, h, r => by
    cases h
    cases r
    exact ⟨_, ReadsAll.nil, fun _ => by simp⟩
  | d :: ds, _, _, h, r => by
    cases h with
    | cons h1 h2 =>
      cases r with
      | cons r1 r2 =>
        obtain ⟨as, q1, n1⟩ := Dq.reads I d _ _ h1 r1
        obtain ⟨bs, q2, n2⟩ := DqAll.reads I ds _ _ h2 r2
        refine ⟨_, ReadsAll.cons q1 q2, fun z => ?_⟩
        simp only [noListAll, Bool.and_eq_true] at z
        simp only [List.mem_append, not_or]
        exact ⟨n1 z.1, n2 z.2⟩
end
/-- a datum's type -/
def tyName : PyData → String
  | .none => "NoneType"
  | .bool _ => "bool"
  | .int _ => "int"
  | .str _ => "str"
  | .list _ => "list"
  | .tuple _ => "tuple"
  | .dict _ => "dict"
theorem Dq.tyX {K : PySem.W.Frag} {d : PyData} {v : V} (h : Dq K H v d) : TyX K H v (.type (tyName d)) := by
  cases h with
  | non => exact .base .non
  | bl b => exact .base (.bl b)
  | int i => exact .base (.int i)
  | str x => exact .base (.str x)
  | lst h q =>
    exact .base (.lst h)
  | tup h q =>
    rcases h with (h | ⟨o, h⟩) | ⟨o, its, n, h1, h2, _⟩
    · exact .base (.tup h)
    · exact .fTuple h
    · exact .kTuple h1 h2
  | dic h => exact .base (.dK h)
theorem Dq.typeIs (I : Inv X pins σ H s) {d : PyData} {v : V} {u : Value} (h : Dq X.K H v d) (r : RelV v u) : s.TypeIs u (tyName d) := by
  obtain ⟨as, q, _⟩ := Dq.reads I d v u h r
  cases q with
  | none => rfl
  | bool b => rfl
  | int i t => rfl
  | str x t => rfl
  | list h1 h2 h3 h4 => exact ⟨_, h1, h2⟩
  | tuple h1 h2 h3 h4 => exact ⟨_, h1, h2⟩
  | dict h1 h2 h3 h4 h5 => exact ⟨_, h1, h2⟩
end

/-! ### arithmetic -/
def fAdd (a b : PyData) : Option PyData := match a, b with
  | .int i, .int j => some (.int (i + j))
  | .str x, .str y => if x.length + y.length ≤ 100000 then some (.str (x ++ y)) else none
  | .tuple xs, .tuple ys => if xs.length + ys.length ≤ 100000 then some (.tuple (xs ++ ys)) else none
  | .list xs, .list ys => if xs.length + ys.length ≤ 100000 then some (.list (xs ++ ys)) else none
  | _, _ => none
def fSub (a b : PyData) : Option PyData := match a, b with
  | .int i, .int j => some (.int (i - j))
  | _, _ => none
def fMul (a b : PyData) : Option PyData := match a, b with
  | .int i, .int j => if (-(2 ^ 64) < i ∧ i < 2 ^ 64) ∨ (-(2 ^ 64) < j ∧ j < 2 ^ 64) then some (.int (i * j)) else none
  | _, _ => none
def fDiv (a b : PyData) : Option PyData := match a, b with
  | .int i, .int j => if j ≠ 0 ∧ j.natAbs < 1073741824 then some (.int (i.fdiv j)) else none
  | _, _ => none
def fMod (a b : PyData) : Option PyData := match a, b with
  | .int i, .int j => if j ≠ 0 then some (.int (i.fmod j)) else none
  | _, _ => none
def fPow (a b : PyData) : Option PyData := match a, b with
  | .int i, .int j => if 0 ≤ j ∧ j ≤ 1000000 ∧ i.natAbs < 2 ^ 64 then some (.int (i ^ j.toNat)) else none
  | _, _ => none
def fShl (a b : PyData) : Option PyData := match a, b with
  | .int i, .int j => if 0 ≤ j ∧ j ≤ 1000000 ∧ i.natAbs < 2 ^ 64 then some (.int (i * 2 ^ j.toNat)) else none
  | _, _ => none
def fAnd (a b : PyData) : Option PyData := match a, b with
  | .int i, .int j => some (.int (Builtin.bitAnd i j))
  | _, _ => none
def fNeg (a : PyData) : Option PyData := match a with
  | .int i => some (.int (-i))
  | _ => none
section
variable {X : Cx}
theorem o_int2 {f : Value → Value → Sem Value} {C : Int → Int → Prop} {g : Int → Int → V} {F : PyData → PyData → Option PyData} (h : OpR X f (rI C g)) (hF : ∀ d e z, F d e = some z → ∃ i j, d = .int i ∧ e = .int j ∧ C i j ∧ ∀ S, Dq X.K S (g i j) z) : OpR X f (rP2 X.K F) := by
  intro pins s σ H x y v u Q I rx ry ⟨S, d, e, z, ex, v1, v2, hf, q⟩
  obtain ⟨i, j, rfl, rfl, hc, hz⟩ := hF d e z hf
  exact h pins s σ H x y v u Q I rx ry ⟨i, j, v1.int, v2.int, hc, q.now ex (hz S)⟩
theorem rI_of {f : Value → Value → Sem Value} {g : Int → Int → V} (h : OpR X f (rI0 g)) : OpR X f (rI (fun _ _ => True) g) := fun pins s σ H x y v u Q I rx ry ⟨i, j, e1, e2, _, q⟩ => h pins s σ H x y v u Q I rx ry ⟨i, j, e1, e2, q⟩
theorem o_sub : OpR X (binaryOp .Sub) (rP2 X.K fSub) := o_int2 (rI_of op_sub) fun d e z h => by
  unfold fSub at h
  split at h
  · cases h; exact ⟨_, _, rfl, rfl, trivial, fun S => .int _⟩
  · cases h
theorem o_mul : OpR X (binaryOp .Mult) (rP2 X.K fMul) := o_int2 op_mul fun d e z h => by
  unfold fMul at h
  split at h
  · split at h
    · rename_i c; cases h; exact ⟨_, _, rfl, rfl, c, fun S => .int _⟩
    · cases h
  · cases h
theorem o_div : OpR X (binaryOp .FloorDiv) (rP2 X.K fDiv) := o_int2 op_fdivN fun d e z h => by
  unfold fDiv at h
  split at h
  · split at h
    · rename_i c; cases h; exact ⟨_, _, rfl, rfl, c, fun S => .int _⟩
    · cases h
  · cases h
theorem o_mod : OpR X (binaryOp .Mod) (rP2 X.K fMod) := o_int2 op_modN fun d e z h => by
  unfold fMod at h
  split at h
  · split at h
    · rename_i c; cases h; exact ⟨_, _, rfl, rfl, c, fun S => .int _⟩
    · cases h
  · cases h
theorem o_pow : OpR X (binaryOp .Pow) (rP2 X.K fPow) := o_int2 op_pow fun d e z h => by
  unfold fPow at h
  split at h
  · split at h
    · rename_i c; cases h; exact ⟨_, _, rfl, rfl, c, fun S => .int _⟩
    · cases h
  · cases h
theorem o_shl : OpR X (binaryOp .LShift) (rP2 X.K fShl) := o_int2 op_shl fun d e z h => by
  unfold fShl at h
  split at h
  · split at h
    · rename_i c; cases h; exact ⟨_, _, rfl, rfl, c, fun S => .int _⟩
    · cases h
  · cases h
theorem o_and : OpR X (binaryOp .BitAnd) (rP2 X.K fAnd) := o_int2 (rI_of op_and) fun d e z h => by
  unfold fAnd at h
  split at h
  · cases h; exact ⟨_, _, rfl, rfl, trivial, fun S => .int _⟩
  · cases h
theorem o_neg : UnR X (unaryOp .USub) (rP1 X.K fNeg) := by
  intro pins s σ H x v Q I rx ⟨S, d, z, ex, v1, hf, q⟩
  unfold fNeg at hf
  split at hf
  · cases hf
    exact un_neg pins s σ H x v Q I rx ⟨_, v1.int, q.now ex (.int _)⟩
  · cases hf
theorem o_add : OpR X (binaryOp .Add) (rO2 X.K fAdd) := by
  intro pins s σ H x y v u Q I rx ry ⟨S, d, e, z, ex, v1, v2, hf, q⟩
  unfold fAdd at hf
  split at hf
  · cases hf
    exact op_add pins s σ H x y v u Q I rx ry ⟨_, _, Vw.int (.inl v1), Vw.int (.inl v2), q.now ex (.int _)⟩
  · split at hf
    · rename_i c
      cases hf
      exact op_add_str pins s σ H x y v u Q I rx ry ⟨_, _, Vw.str (.inl v1), Vw.str (.inl v2), small_line c, q.now ex (.str _)⟩
    · cases hf
  · split at hf
    · rename_i xs ys c
      cases hf
      obtain ⟨a, vs, rfl, h1, h2, h3⟩ := Vw.tup ex (.inl v1)
      obtain ⟨b, ws, rfl, k1, k2, k3⟩ := Vw.tup ex (.inl v2)
      refine op_catA pins s σ H _ _ v u Q I rx ry ⟨a, b, vs, ws, rfl, rfl, h2, k2, small_line (by rw [DqAll.length h3, DqAll.length k3]; exact c), fun e1 => ?_, fun n1 e2 => ?_, fun n1 n2 p hp => ?_⟩
      · subst e1
        cases h3
        exact q.now ex (.tup k1 k3)
      · subst e2
        cases k3
        rw [List.append_nil] at q
        exact q.now ex (.tup h1 h3)
      · exact q.tup ex hp (h3.append k3)
    · cases hf
  · split at hf
    · rename_i xs ys c
      cases hf
      obtain ⟨a, vs, rfl, h2, h3⟩ := v1.list ex
      obtain ⟨b, ws, rfl, k2, k3⟩ := v2.list ex
      refine op_cat pins s σ H _ _ v u Q I rx ry ⟨a, b, vs, ws, rfl, rfl, h2, k2, small_line (by rw [DqAll.length h3, DqAll.length k3]; exact c), fun p hp => q.lst ex hp (h3.append k3)⟩
    · cases hf
  · cases hf

/-! ### comparisons -/
def fEq (a b : PyData) : Option PyData := if SeqAt.shaped a = true ∧ SeqAt.shaped b = true then some (.bool (PyData.eqv a b)) else none
def fNe (a b : PyData) : Option PyData := match a, b with
  | .str x, .str y => some (.bool (!decide (x = y)))
  | a, b => if SeqAt.shaped a = true ∧ SeqAt.shaped b = true then some (.bool (!PyData.eqv a b)) else none
def fIn (a b : PyData) : Option PyData := match b with
  | .list ds => if SeqAt.shaped a = true ∧ SeqAt.shaped (.list ds) = true then some (.bool (ds.any fun z => PyData.eqv z a)) else none
  | .tuple ds => if SeqAt.shaped a = true ∧ SeqAt.shaped (.tuple ds) = true then some (.bool (ds.any fun z => PyData.eqv z a)) else none
  | .str z => match a with
    | .str x => match x.cps.toList with
      | [c] => some (.bool (decide (c ∈ z.cps.toList)))
      | _ => none
    | _ => none
  | _ => none
def fNotIn (a b : PyData) : Option PyData := match b with
  | .list ds => if SeqAt.shaped a = true ∧ SeqAt.shaped (.list ds) = true then some (.bool (!ds.any fun z => PyData.eqv z a)) else none
  | .tuple ds => if SeqAt.shaped a = true ∧ SeqAt.shaped (.tuple ds) = true then some (.bool (!ds.any fun z => PyData.eqv z a)) else none
  | .str z => match a with
    | .str x => match x.cps.toList with
      | [c] => some (.bool (!decide (c ∈ z.cps.toList)))
      | _ => none
    | _ => none
  | _ => none
mutual
theorem noDict_lay : ∀ d : PyData, d.canLay0 = true → noDict d = true
  | .none, _ => by simp [noDict]
  | .bool _, _ => by simp [noDict]
  | .int _, _ => by simp [noDict]
  | .str _, _ => by simp [noDict]
  | .list xs, h => by
    simp only [PyData.canLay0] at h
    simp only [noDict]
    exact noDictAll_lay xs h
  | .tuple xs, h => by
    simp only [PyData.canLay0] at h
    simp only [noDict]
    exact noDictAll_lay xs h
  | .dict _, h => by simp [PyData.canLay0] at h
theorem noDictAll_lay : ∀ ds : List PyData, PyData.canLayAll0 ds = true → noDictAll ds = true
  | [], _ => by simp [noDictAll]
  | d :: ds, h => by
    simp only [PyData.canLayAll0, Bool.and_eq_true] at h
    simp only [noDictAll, Bool.and_eq_true]
    exact ⟨noDict_lay d h.1, noDictAll_lay ds h.2⟩
end
theorem Vw.dp {K : PySem.W.Frag} {S H : Hp} {v : V} {d : PyData} (h : Vw K S H v d) (e : Ex S H) (hs : SeqAt.shaped d = true) : Dp K H v d := h.toDp e (noDict_lay d (SeqAt.canLay_of_shaped hs))
theorem o_eq (hu : X.A.units + 64 < cLine) : OpR X (compareOp .Eq) (rP2 X.K fEq) := by
  intro pins s σ H x y v u Q I rx ry ⟨S, d, e, z, ex, v1, v2, hf, q⟩
  unfold fEq at hf
  split at hf
  · rename_i c
    cases hf
    exact op_eqD hu pins s σ H x y v u Q I rx ry ⟨d, e, v1.dp ex c.1, v2.dp ex c.2, c.1, c.2, q.now ex (.bl _)⟩
  · cases hf
theorem o_ne (hu : X.A.units + 64 < cLine) : OpR X (compareOp .NotEq) (rP2 X.K fNe) := by
  intro pins s σ H x y v u Q I rx ry ⟨S, d, e, z, ex, v1, v2, hf, q⟩
  unfold fNe at hf
  split at hf
  · cases hf
    refine op_ne pins s σ H x y v u Q I rx ry ?_
    rw [v1.str, v2.str]
    refine ⟨rfl, ?_⟩
    have := q.now ex (.bl _)
    rename_i a b
    rw [show decide (V.str a = V.str b) = decide (a = b) by rw [Bool.eq_iff_iff]; simp]
    exact this
  · split at hf
    · rename_i c
      cases hf
      exact op_neD hu pins s σ H x y v u Q I rx ry ⟨d, e, v1.dp ex c.1, v2.dp ex c.2, c.1, c.2, q.now ex (.bl _)⟩
    · cases hf
theorem o_in (hu : X.A.units + 65 < cLine) : OpR X (compareOp .In) (rP2 X.K fIn) := by
  intro pins s σ H x y v u Q I rx ry ⟨S, d, e, z, ex, v1, v2, hf, q⟩
  unfold fIn at hf
  split at hf
  · split at hf
    · rename_i ds c
      cases hf
      exact op_inD hu pins s σ H x y v u Q I rx ry ⟨d, ds, v1.dp ex c.1, v2.dp ex c.2, c.1, c.2, q.now ex (.bl _)⟩
    · cases hf
  · split at hf
    · rename_i ds c
      cases hf
      obtain ⟨as, r1⟩ := Dp.reads I d x v (v1.dp ex c.1) rx
      obtain ⟨bs, r2⟩ := Dp.reads I (.tuple ds) y u (v2.dp ex c.2) ry
      exact SeqAt.in_tuple_reads r2 r1 (SeqAt.canLay_of_shaped c.2) (SeqAt.canLay_of_shaped c.1) (room_in_shaped c.1 hu) ⟨.bl _, H, I, rfl, q.now ex (.bl _)⟩
    · cases hf
  · rename_i z
    split at hf
    · rename_i x'
      split at hf
      · rename_i c hc
        cases hf
        have e : x' = ⟨#[c]⟩ := by
          have : x'.cps = #[c] := Array.toList_inj.mp hc
          cases x'
          cases this
          rfl
        subst e
        exact op_in_sign pins s σ H _ _ v u Q I rx ry ⟨c, z, v1.str, v2.str, q.now ex (.bl _)⟩
      · cases hf
    · cases hf
  · cases hf
theorem o_notIn (hu : X.A.units + 65 < cLine) : OpR X (compareOp .NotIn) (rP2 X.K fNotIn) := by
  intro pins s σ H x y v u Q I rx ry ⟨S, d, e, z, ex, v1, v2, hf, q⟩
  unfold fNotIn at hf
  split at hf
  · split at hf
    · rename_i ds c
      cases hf
      exact op_notInD hu pins s σ H x y v u Q I rx ry ⟨d, ds, v1.dp ex c.1, v2.dp ex c.2, c.1, c.2, q.now ex (.bl _)⟩
    · cases hf
  · split at hf
    · rename_i ds c
      cases hf
      obtain ⟨as, r1⟩ := Dp.reads I d x v (v1.dp ex c.1) rx
      obtain ⟨bs, r2⟩ := Dp.reads I (.tuple ds) y u (v2.dp ex c.2) ry
      exact SeqAt.notIn_tuple_reads r2 r1 (SeqAt.canLay_of_shaped c.2) (SeqAt.canLay_of_shaped c.1) (room_in_shaped c.1 hu) ⟨.bl _, H, I, rfl, q.now ex (.bl _)⟩
    · cases hf
  · rename_i z
    split at hf
    · rename_i x'
      split at hf
      · rename_i c hc
        cases hf
        have e : x' = ⟨#[c]⟩ := by
          have : x'.cps = #[c] := Array.toList_inj.mp hc
          cases x'
          cases this
          rfl
        subst e
        exact op_notIn_sign pins s σ H _ _ v u Q I rx ry ⟨c, z, v1.str, v2.str, q.now ex (.bl _)⟩
      · cases hf
    · cases hf
  · cases hf
end
end Mi
end

section
set_option maxHeartbeats 4000000
/-! MiH: order, builtins, places, slices, methods. -/
namespace Mi
open PySem PySem.Spec PyProof.Rows L2
open Evl (Ex)

section
variable {X : Cx}
/-! ### order -/
def comparable (a b : PyData) : Bool := PySem.W.alike a b && (match a with
  | .none => false
  | _ => true) && decide (min a.depth b.depth ≤ 60)
theorem comp_of {a b : PyData} (h : comparable a b = true) : PySem.W.alike a b = true ∧ a ≠ .none ∧ min a.depth b.depth ≤ 60 := by
  unfold comparable at h
  simp only [Bool.and_eq_true, decide_eq_true_eq] at h
  refine ⟨h.1.1, ?_, h.2⟩
  rintro rfl
  exact absurd h.1.2 (by simp)
theorem vw_reads {pins : List (Addr × Obj)} {σ : L2.St} {s : Shared} {S H : Hp} {v : V} {u : Value} {d : PyData} (I : L2.Inv X pins σ H s) (e : Ex S H) (h : Vw X.K S H v d) (hd : noDict d = true ∨ noList d = true) (r : RelV v u) : ∃ as, Reads s.heap u d as ∧ (d.hasDict = true → sysModules ∉ as) := by
  rcases hd with hd | hd
  · obtain ⟨as, q⟩ := Dp.reads I d v u (h.toDp e hd) r
    exact ⟨as, q, fun z => by rw [noDict_has d hd] at z; cases z⟩
  · have hl : ∀ ds, d ≠ .list ds := by
      rintro ds rfl
      simp [noList] at hd
    obtain ⟨as, q, n⟩ := Dq.reads I d v u (Dq.mono e _ _ (h.ofD hl)) r
    exact ⟨as, q, fun _ => n hd⟩
theorem o_cmpG {op : CmpOp} {f : PyData → PyData → Option PyData} {g : PyData → PyData → Bool} (hf : ∀ d e z, f d e = some z → comparable d e = true ∧ noDict d = true ∧ noDict e = true ∧ z = .bool (g d e))
    (rule : ∀ {pins : List (Addr × Obj)} {σ : L2.St} {H : Hp} {Q : VK} {s : Shared} {a b : Value} {da db : PyData} {as bs : List Addr}, Reads s.heap a da as → Reads s.heap b db bs → PySem.W.alike da db = true → da ≠ .none → X.A.units + min da.depth db.depth < cLine → EP X pins σ Q (.bool (g da db)) s → wpAny (model X.prog X.w) X.A (compareOp op a b) (EP X pins σ Q) X.xe s)
    (hu : X.A.units + 64 < cLine) : OpR X (compareOp op) (rP2 X.K f) := by
  intro pins s σ H x y v u Q I rx ry ⟨S, d, e, z, ex, v1, v2, hfz, q⟩
  obtain ⟨hc, n1, n2, rfl⟩ := hf d e z hfz
  obtain ⟨h1, h2, h3⟩ := comp_of hc
  obtain ⟨as, r1, _⟩ := vw_reads I ex v1 (.inl n1) rx
  obtain ⟨bs, r2, _⟩ := vw_reads I ex v2 (.inl n2) ry
  exact rule (H := H) r1 r2 h1 h2 (by omega) ⟨.bl _, H, I, rfl, q.now ex (.bl _)⟩
def ordD (g : PyData → PyData → Bool) (a b : PyData) : Option PyData := if comparable a b = true ∧ noDict a = true ∧ noDict b = true then some (.bool (g a b)) else none
def gLt (a b : PyData) : Bool := PySem.W.dataLt a b
def gGt (a b : PyData) : Bool := PySem.W.dataLt b a
def gLe (a b : PyData) : Bool := !PySem.W.dataLt b a
def gGe (a b : PyData) : Bool := !PySem.W.dataLt a b
theorem ord_of {g : PyData → PyData → Bool} : ∀ d e z, ordD g d e = some z → comparable d e = true ∧ noDict d = true ∧ noDict e = true ∧ z = .bool (g d e) := fun d e z h => by
  unfold ordD at h
  split at h
  · rename_i c
    cases h
    exact ⟨c.1, c.2.1, c.2.2, rfl⟩
  · cases h
theorem o_lt (hu : X.A.units + 64 < cLine) : OpR X (compareOp .Lt) (rP2 X.K (ordD gLt)) := o_cmpG ord_of (fun r1 r2 h1 h2 h3 q => PySem.W.lt_data r1 r2 h1 h2 h3 q) hu
theorem o_gt (hu : X.A.units + 64 < cLine) : OpR X (compareOp .Gt) (rP2 X.K (ordD gGt)) := o_cmpG ord_of (fun r1 r2 h1 h2 h3 q => PySem.W.gt_data r1 r2 h1 h2 h3 q) hu
theorem o_le (hu : X.A.units + 64 < cLine) : OpR X (compareOp .LtE) (rP2 X.K (ordD gLe)) := o_cmpG ord_of (fun r1 r2 h1 h2 h3 q => PySem.W.le_data r1 r2 h1 h2 h3 q) hu
theorem o_ge (hu : X.A.units + 64 < cLine) : OpR X (compareOp .GtE) (rP2 X.K (ordD gGe)) := o_cmpG ord_of (fun r1 r2 h1 h2 h3 q => PySem.W.ge_data r1 r2 h1 h2 h3 q) hu
end

/-! ### chains of comparisons -/
abbrev MD := D → Slt → Arn → Res D
def mLast (f : D → D → Arn → Option (D × Arn)) (k : ME) : MD := fun a s A => (k s A).bind fun b A1 => opt1 (f a b A1)
def cutD (c : D) (r : Arn → Res D) (A : Arn) : Res D := match c with
  | .p (.bool true) => r A
  | .p (.bool false) => .ok (.p (.bool false)) A
  | _ => .bad
def mLink (f : D → D → Arn → Option (D × Arn)) (k : ME) (r : MD) : MD := fun a s A => (k s A).bind fun b A1 => (opt1 (f a b A1)).bind fun c A2 => cutD c (r b s) A2
def mCh (m : ME) (r : MD) : ME := fun s A => (m s A).bind fun a A1 => r a s A1
section
variable {X : Cx} {W : WX}
def Left (X : Cx) (W : WX) (m : MD) (x : V) (σ : L2.St) (H : Hp) (Q : VK) : Prop := ∃ F S ρ s A a, Wo X.K F S ρ H A ∧ SR X.K S ρ s σ ∧ RD X.K S ρ a x ∧ EndG X.K W F (RD X.K) S ρ σ Q (m a s A)
structure CH (X : Cx) (W : WX) (ops : List CmpOp) (es : List Expr) (m : MD) : Prop where
  val : ∀ (pos : Pos) (pins : List (Addr × Obj)) (s : Shared) (σ : L2.St) (H : Hp) (Q : VK) (x : V) (u : Value), L2.Inv X pins σ H s → RelV x u → Left X W m x σ H Q →
    wpAny (model X.prog X.w) X.A (compareChain pos u ops (evalEach es X.env)) (EP X pins σ Q) X.xe s
  tst : ∀ (pos : Pos) (pins : List (Addr × Obj)) (s : Shared) (σ : L2.St) (H : Hp) (Q : Bool → Hp → Prop) (x : V) (u : Value), L2.Inv X pins σ H s → RelV x u → Left X W m x σ H (fun v H' => ∃ b, v = .bl b ∧ Q b H') →
    wpAny (model X.prog X.w) X.A (testChain pos u ops (evalEach es X.env)) (TP X pins σ Q) X.xe s
theorem left_step {f : D → D → Arn → Option (D × Arn)} {k : ME} {g : D → D → Arn → Res D} {x : V} {σ : L2.St} {H : Hp} {Q : VK}
    (h : Left X W (fun a s A => (k s A).bind fun b A1 => (opt1 (f a b A1)).bind fun c A2 => g b c A2) x σ H Q) :
    tE X.K W k σ H fun y H1 => rM2 X.K f x y H1 fun z H2 => ∃ F S ρ A b c, Wo X.K F S ρ H2 A ∧ RD X.K S ρ b y ∧ RD X.K S ρ c z ∧ EndG X.K W F (RD X.K) S ρ σ Q (g b c A) := by
  obtain ⟨F, S, ρ, s, A, a, w, sr, ra, h⟩ := h
  refine ⟨F, S, ρ, s, A, w, sr, (EndG.bind h).imp fun y H1 ⟨S1, ρ1, A1, b, l1, w1, r1, h1⟩ => ?_⟩
  cases e : f a b A1 with
  | none => rw [e] at h1; exact h1.elim
  | some p =>
    obtain ⟨c, A2⟩ := p
    rw [e] at h1
    exact ⟨F, S1, ρ1, A1, a, b, c, A2, w1, ra.mono l1, r1, e, fun S2 ρ2 H2 z l2 w2 r2 => ⟨F, S2, ρ2, A2, b, c, w2, r1.mono l2, r2, EndG.le l2 h1⟩⟩
theorem cutD_ok {K : PySem.W.Frag} {F S : Hp} {ρ : List Addr} {σ : L2.St} {Q : VK} {c : D} {z : V} {r : Arn → Res D} {A : Arn} (rc : RD K S ρ c z) (h : EndG K W F (RD K) S ρ σ Q (cutD c r A)) : ∃ t, z = .bl t ∧ c = .p (.bool t) := by
  unfold cutD at h
  split at h
  · cases (show Dq K S z (.bool true) from rc)
    exact ⟨true, rfl, rfl⟩
  · cases (show Dq K S z (.bool false) from rc)
    exact ⟨false, rfl, rfl⟩
  · exact h.elim
theorem xc_last {op : CmpOp} {f : PyData → PyData → Option PyData} {b : Expr} {k : ME} (ho : OpR X (compareOp op) (rP2 X.K f)) (hb : PE X b (tE X.K W k)) : CH X W [op] [b] (mLast (lift2 f) k) := by
  have key : ∀ {x : V} {σ : L2.St} {H : Hp} {Q : VK}, Left X W (mLast (lift2 f) k) x σ H Q → tE X.K W k σ H fun y H1 => rP2 X.K f x y H1 Q := fun {x σ H Q} ⟨F, S, ρ, s, A, a, w, sr, ra, h⟩ =>
    ⟨F, S, ρ, s, A, w, sr, (EndG.bind h).imp fun y H1 ⟨S1, ρ1, A1, b, l1, w1, r1, h1⟩ => by
      obtain ⟨c, A', e, q⟩ := EndG.opt h1
      exact m2_of ⟨F, S1, ρ1, A1, a, b, c, A', w1, ra.mono l1, r1, e, q⟩⟩
  refine ⟨fun pos pins s σ H Q x u I rx h => ?_, fun pos pins s σ H Q x u I rx h => ?_⟩
  · exact chain_last (thn (hb.run pins s σ H _ I (key h)) fun v s1 ⟨y, H1, I1, r1, q1⟩ => ho pins s1 σ H1 x y u v Q I1 rx r1 q1)
  · refine test_last (thn (hb.run pins s σ H _ I (key h)) fun v s1 ⟨y, H1, I1, r1, q1⟩ => thn (ho pins s1 σ H1 x y u v _ I1 rx r1 q1) fun c s2 ⟨z, H2, I2, r2, t, e, q2⟩ => ?_)
    subst e
    cases r2
    exact wpAny_truthy_bool ⟨H2, I2, q2⟩
theorem xc_link {op op' : CmpOp} {ops : List CmpOp} {f : PyData → PyData → Option PyData} {b b' : Expr} {es : List Expr} {k : ME} {r : MD} (ho : OpR X (compareOp op) (rP2 X.K f)) (hb : PE X b (tE X.K W k)) (hr : CH X W (op' :: ops) (b' :: es) r) : CH X W (op :: op' :: ops) (b :: b' :: es) (mLink (lift2 f) k r) := by
  have key : ∀ {x : V} {σ : L2.St} {H : Hp} {Q : VK}, Left X W (mLink (lift2 f) k r) x σ H Q → tE X.K W k σ H fun y H1 => rP2 X.K f x y H1 fun z H2 => ∃ t, z = .bl t ∧ if t = true then Left X W r y σ H2 Q else Q (.bl false) H2 := fun {x σ H Q} ⟨F, S, ρ, s, A, a, w, sr, ra, h⟩ => by
    refine ⟨F, S, ρ, s, A, w, sr, (EndG.bind h).imp fun y H1 ⟨S1, ρ1, A1, b, l1, w1, r1, h1⟩ => ?_⟩
    cases e : lift2 f a b A1 with
    | none => rw [e] at h1; exact h1.elim
    | some p =>
      obtain ⟨c, A2⟩ := p
      rw [e] at h1
      refine m2_of ⟨F, S1, ρ1, A1, a, b, c, A2, w1, ra.mono l1, r1, e, fun S2 ρ2 H2 z l2 w2 r2 => ?_⟩
      have h2 := EndG.le l2 h1
      obtain ⟨t, rfl, rfl⟩ := cutD_ok r2 h2
      refine ⟨t, rfl, ?_⟩
      cases t with
      | true => exact iteT ⟨F, S2, ρ2, s, A2, b, w2, sr.mono (l1.trans l2), r1.mono l2, h2⟩
      | false => exact iteF (EndG.ok h2 w2 r2)
  refine ⟨fun pos pins s σ H Q x u I rx h => ?_, fun pos pins s σ H Q x u I rx h => ?_⟩
  · refine chain_link (thn (hb.run pins s σ H _ I (key h)) fun v s1 ⟨y, H1, I1, r1, q1⟩ => thn (ho pins s1 σ H1 x y u v _ I1 rx r1 q1) fun c s2 ⟨z, H2, I2, r2, t, e, q2⟩ => ?_)
    subst e
    cases r2
    refine wpAny_truthy_bool ?_
    cases t with
    | true => exact ite_tt (hr.val pos pins s2 σ H2 Q y v I2 r1 q2)
    | false => exact ite_ff ⟨.bl false, H2, I2, rfl, q2⟩
  · refine test_link (thn (hb.run pins s σ H _ I (key h)) fun v s1 ⟨y, H1, I1, r1, q1⟩ => thn (ho pins s1 σ H1 x y u v _ I1 rx r1 q1) fun c s2 ⟨z, H2, I2, r2, t, e, q2⟩ => ?_)
    subst e
    cases r2
    refine wpAny_truthy_bool ?_
    cases t with
    | true => exact ite_tt (hr.tst pos pins s2 σ H2 Q y v I2 r1 q2)
    | false =>
      obtain ⟨b2, e2, q3⟩ := q2
      cases e2
      exact ite_ff ⟨H2, I2, q3⟩
theorem xe_chain {a b c : Expr} {op op' : CmpOp} {ops : List CmpOp} {es : List Expr} {m : ME} {r : MD} {pos : Pos} (ha : PE X a (tE X.K W m)) (hr : CH X W (op :: op' :: ops) (b :: c :: es) r) (hm : lastMarks (op :: op' :: ops) (b :: c :: es) = false := by with_unfolding_all rfl) :
    PE X (.Compare a (op :: op' :: ops) (b :: c :: es) pos) (tE X.K W (mCh m r)) := by
  refine ⟨fun pins s σ H Q I ⟨F, S, ρ, st, A, w, sr, h⟩ => ?_⟩
  refine Compare_chain (thn (ha.run pins s σ H _ I ⟨F, S, ρ, st, A, w, sr, EndG.bind h⟩) fun v s1 ⟨x, H1, I1, r1, S1, ρ1, A1, a1, l1, w1, ra, h1⟩ => ?_) hm
  exact hr.val pos pins s1 σ H1 Q x v I1 r1 ⟨F, S1, ρ1, st, A1, a1, w1, sr.mono l1, ra, h1⟩
theorem xt_chain {a b c : Expr} {op op' : CmpOp} {ops : List CmpOp} {es : List Expr} {m : ME} {r : MD} {pos : Pos} (ha : PE X a (tE X.K W m)) (hr : CH X W (op :: op' :: ops) (b :: c :: es) r) (hm : lastMarks (op :: op' :: ops) (b :: c :: es) = false := by with_unfolding_all rfl) :
    PT X (.Compare a (op :: op' :: ops) (b :: c :: es) pos) (tT X.K W (mB (mCh m r))) := by
  refine ⟨fun pins s σ H Q I h => ?_⟩
  obtain ⟨F, S, ρ, st, A, w, sr, h⟩ := t_B σ H Q h
  refine isTrue_chain (thn (ha.run pins s σ H _ I ⟨F, S, ρ, st, A, w, sr, EndG.bind h⟩) fun v s1 ⟨x, H1, I1, r1, S1, ρ1, A1, a1, l1, w1, ra, h1⟩ => ?_) hm
  exact hr.tst pos pins s1 σ H1 Q x v I1 r1 ⟨F, S1, ρ1, st, A1, a1, w1, sr.mono l1, ra, h1⟩
end
end Mi
end

section
set_option maxHeartbeats 4000000
/-! MiI: builtins, places, slices, methods of lists. -/
namespace Mi
open PySem PySem.Spec PyProof.Rows L2
open Evl (Ex)

/-! ### builtins -/
def fLen (ds : List PyData) : Option PyData := match ds with
  | [.list xs] => if xs.length ≤ 100000 then some (.int xs.length) else none
  | [.tuple xs] => if xs.length ≤ 100000 then some (.int xs.length) else none
  | [.str x] => if x.length ≤ 100000 then some (.int x.length) else none
  | _ => none
def fAbs (ds : List PyData) : Option PyData := match ds with
  | [.int i] => some (.int (if i < 0 then -i else i))
  | _ => none
def fInt (ds : List PyData) : Option PyData := match ds with
  | [.int i] => some (.int i)
  | [.bool b] => some (.int (if b then 1 else 0))
  | _ => none
def fTuple (ds : List PyData) : Option PyData := match ds with
  | [.list xs] => some (.tuple xs)
  | [.tuple xs] => some (.tuple xs)
  | _ => none
def boolsOf : List PyData → Option (List Bool)
  | [] => some []
  | .bool b :: r => (boolsOf r).map fun bs => b :: bs
  | _ :: _ => none
def intsOf : List PyData → Option (List Int)
  | [] => some []
  | .int b :: r => (intsOf r).map fun bs => b :: bs
  | _ :: _ => none
theorem boolsOf_eq : ∀ {ds : List PyData} {bs : List Bool}, boolsOf ds = some bs → ds = bs.map PyData.bool
  | [], _, h => by cases h; rfl
  | .bool b :: r, _, h => by
    unfold boolsOf at h
    cases e : boolsOf r with
    | none => rw [e] at h; cases h
    | some bs =>
      rw [e] at h
      cases h
      rw [boolsOf_eq e]
      rfl
  | .none :: _, _, h => by cases h
  | .int _ :: _, _, h => by cases h
  | .str _ :: _, _, h => by cases h
  | .list _ :: _, _, h => by cases h
  | .tuple _ :: _, _, h => by cases h
  | .dict _ :: _, _, h => by cases h
theorem intsOf_eq : ∀ {ds : List PyData} {bs : List Int}, intsOf ds = some bs → ds = bs.map PyData.int
  | [], _, h => by cases h; rfl
  | .int b :: r, _, h => by
    unfold intsOf at h
    cases e : intsOf r with
    | none => rw [e] at h; cases h
    | some bs =>
      rw [e] at h
      cases h
      rw [intsOf_eq e]
      rfl
  | .none :: _, _, h => by cases h
  | .bool _ :: _, _, h => by cases h
  | .str _ :: _, _, h => by cases h
  | .list _ :: _, _, h => by cases h
  | .tuple _ :: _, _, h => by cases h
  | .dict _ :: _, _, h => by cases h
def fAll (ds : List PyData) : Option PyData := match ds with
  | [.list xs] => (boolsOf xs).map fun bs => .bool (bs.all id)
  | _ => none
def fAny (ds : List PyData) : Option PyData := match ds with
  | [.list xs] => (boolsOf xs).map fun bs => .bool (bs.any id)
  | _ => none
def fSum (ds : List PyData) : Option PyData := match ds with
  | [.list xs] => (intsOf xs).map fun ns => .int ns.sum
  | _ => none
def fMax2 (ds : List PyData) : Option PyData := match ds with
  | [.int i, .int j] => some (.int (if j > i then j else i))
  | _ => none
def fMin2 (ds : List PyData) : Option PyData := match ds with
  | [.int i, .int j] => some (.int (if j < i then j else i))
  | _ => none
def fRepr (ds : List PyData) : Option PyData := match ds with
  | [d] => if d.showable = true ∧ (noDict d = true ∨ noList d = true) ∧ d.depth ≤ 60 ∧ d.shown.length ≤ sizeLine then some (.str d.shown) else none
  | _ => none
section
variable {X : Cx}
theorem VwAll.one {K : PySem.W.Frag} {S H : Hp} {xs : List V} {d : PyData} (h : VwAll K S H xs [d]) : ∃ v, xs = [v] ∧ Vw K S H v d := by
  cases h with
  | cons h q => cases q; exact ⟨_, rfl, h⟩
theorem VwAll.two {K : PySem.W.Frag} {S H : Hp} {xs : List V} {d e : PyData} (h : VwAll K S H xs [d, e]) : ∃ v u, xs = [v, u] ∧ Vw K S H v d ∧ Vw K S H u e := by
  cases h with
  | cons h q => cases q with
    | cons h2 q => cases q; exact ⟨_, _, rfl, h, h2⟩
theorem c_len : CallR X (.builtin "len") (rPN X.K fLen) := by
  intro pins s σ H xs us Q I r ⟨S, ds, z, ex, va, hf, q⟩
  unfold fLen at hf
  split at hf
  · split at hf
    · rename_i c
      cases hf
      obtain ⟨v, rfl, v1⟩ := va.one
      obtain ⟨a, vs, rfl, h1, h2⟩ := v1.list ex
      exact call_len pins s σ H _ us Q I r ⟨_, _, rfl, .inl ⟨vs, h1, rfl⟩, q.now ex (by rw [DqAll.length h2]; exact .int _)⟩
    · cases hf
  · split at hf
    · rename_i c
      cases hf
      obtain ⟨v, rfl, v1⟩ := va.one
      obtain ⟨a, vs, rfl, _, h1, h2⟩ := v1.tup ex
      exact call_len pins s σ H _ us Q I r ⟨_, _, rfl, .inr ⟨vs, h1, rfl⟩, q.now ex (by rw [DqAll.length h2]; exact .int _)⟩
    · cases hf
  · split at hf
    · rename_i c
      cases hf
      obtain ⟨v, rfl, v1⟩ := va.one
      obtain rfl := v1.str
      exact call_len pins s σ H _ us Q I r ⟨_, _, rfl, ⟨small_line c, rfl⟩, q.now ex (.int _)⟩
    · cases hf
  · cases hf
theorem c_abs : CallR X (.builtin "abs") (rPN X.K fAbs) := by
  intro pins s σ H xs us Q I r ⟨S, ds, z, ex, va, hf, q⟩
  unfold fAbs at hf
  split at hf
  · cases hf
    obtain ⟨v, rfl, v1⟩ := va.one
    exact call_abs pins s σ H _ us Q I r ⟨_, by rw [v1.int], q.now ex (.int _)⟩
  · cases hf
theorem c_int : CallR X (.type "int") (rPN X.K fInt) := by
  intro pins s σ H xs us Q I r ⟨S, ds, z, ex, va, hf, q⟩
  unfold fInt at hf
  split at hf
  · cases hf
    obtain ⟨v, rfl, v1⟩ := va.one
    exact call_int1 pins s σ H _ us Q I r (.inl ⟨_, by rw [v1.int], q.now ex (.int _)⟩)
  · cases hf
    obtain ⟨v, rfl, v1⟩ := va.one
    exact call_int1 pins s σ H _ us Q I r (.inr ⟨_, by rw [v1.bool], q.now ex (.int _)⟩)
  · cases hf
theorem c_tuple : CallR X (.type "tuple") (rPN X.K fTuple) := by
  intro pins s σ H xs us Q I r ⟨S, ds, z, ex, va, hf, q⟩
  unfold fTuple at hf
  split at hf
  · cases hf
    obtain ⟨v, rfl, v1⟩ := va.one
    obtain ⟨a, vs, rfl, h1, h2⟩ := v1.list ex
    exact call_tuple_of pins s σ H _ us Q I r ⟨a, vs, rfl, .inl ⟨h1, fun l hl => q.tup ex hl h2⟩⟩
  · cases hf
    obtain ⟨v, rfl, v1⟩ := va.one
    obtain ⟨a, vs, rfl, h0, h1, h2⟩ := v1.tup ex
    exact call_tuple_of pins s σ H _ us Q I r ⟨a, vs, rfl, .inr ⟨h1, q.now ex (.tup h0 h2)⟩⟩
  · cases hf
theorem c_all (hc : X.calm = true) : CallR X (.builtin "all") (rPN X.K fAll) := by
  intro pins s σ H xs us Q I r ⟨S, ds, z, ex, va, hf, q⟩
  unfold fAll at hf
  split at hf
  · rename_i ys
    cases e : boolsOf ys with
    | none => rw [e] at hf; cases hf
    | some bs =>
      rw [e] at hf
      cases hf
      obtain ⟨v, rfl, v1⟩ := va.one
      obtain ⟨a, vs, rfl, h1, h2⟩ := v1.list ex
      rw [boolsOf_eq e] at h2
      obtain rfl := DqAll.unbools h2
      exact cr_all hc pins s σ H _ us Q I r ⟨a, bs, rfl, h1, q.now ex (.bl _)⟩
  · cases hf
theorem c_any (hc : X.calm = true) : CallR X (.builtin "any") (rPN X.K fAny) := by
  intro pins s σ H xs us Q I r ⟨S, ds, z, ex, va, hf, q⟩
  unfold fAny at hf
  split at hf
  · rename_i ys
    cases e : boolsOf ys with
    | none => rw [e] at hf; cases hf
    | some bs =>
      rw [e] at hf
      cases hf
      obtain ⟨v, rfl, v1⟩ := va.one
      obtain ⟨a, vs, rfl, h1, h2⟩ := v1.list ex
      rw [boolsOf_eq e] at h2
      obtain rfl := DqAll.unbools h2
      exact cr_any hc pins s σ H _ us Q I r ⟨a, bs, rfl, h1, q.now ex (.bl _)⟩
  · cases hf
theorem c_sum (hc : X.calm = true) : CallR X (.builtin "sum") (rPN X.K fSum) := by
  intro pins s σ H xs us Q I r ⟨S, ds, z, ex, va, hf, q⟩
  unfold fSum at hf
  split at hf
  · rename_i ys
    cases e : intsOf ys with
    | none => rw [e] at hf; cases hf
    | some bs =>
      rw [e] at hf
      cases hf
      obtain ⟨v, rfl, v1⟩ := va.one
      obtain ⟨a, vs, rfl, h1, h2⟩ := v1.list ex
      rw [intsOf_eq e] at h2
      obtain rfl := DqAll.unints h2
      exact cr_sum hc pins s σ H _ us Q I r ⟨a, bs, rfl, h1, q.now ex (.int _)⟩
  · cases hf
theorem c_max2 (hc : X.calm = true) : CallR X (.builtin "max") (rPN X.K fMax2) := by
  intro pins s σ H xs us Q I r ⟨S, ds, z, ex, va, hf, q⟩
  unfold fMax2 at hf
  split at hf
  · cases hf
    obtain ⟨v, u, rfl, v1, v2⟩ := va.two
    exact call_max2 hc pins s σ H _ us Q I r ⟨_, _, by rw [v1.int, v2.int], q.now ex (.int _)⟩
  · cases hf
theorem c_min2 (hc : X.calm = true) : CallR X (.builtin "min") (rPN X.K fMin2) := by
  intro pins s σ H xs us Q I r ⟨S, ds, z, ex, va, hf, q⟩
  unfold fMin2 at hf
  split at hf
  · cases hf
    obtain ⟨v, u, rfl, v1, v2⟩ := va.two
    exact call_min2 hc pins s σ H _ us Q I r ⟨_, _, by rw [v1.int, v2.int], q.now ex (.int _)⟩
  · cases hf
theorem shown_not {d : PyData} {x : Str} (h : d.shown = x) : d.shown = x := h
theorem c_repr (hgd : X.A.guards = some []) (hu : X.A.units + 64 < cLine) : CallR X (.builtin "repr") (rPN X.K fRepr) := by
  intro pins s σ H xs us Q I r ⟨S, ds, z, ex, va, hf, q⟩
  unfold fRepr at hf
  split at hf
  · rename_i d
    split at hf
    · rename_i c
      cases hf
      obtain ⟨hsh, hd, hdep, hz⟩ := c
      obtain ⟨v, rfl, v1⟩ := va.one
      cases r with
      | cons rv rr =>
        cases rr
        obtain ⟨as, rd, hno⟩ := vw_reads I ex v1 hd rv
        have fin : ∀ h' (u : Tok) tk, (∀ b o, s.heap.get? b = some o → h'.get? b = some o) → EP X pins σ Q (.str d.shown u) { s with heap := h', toks := tk } := fun h' u tk hk => ⟨.str d.shown, H, I.kept hk, ⟨u, rfl⟩, q.now ex (.str _)⟩
        cases d with
        | none =>
          cases rd
          have e : PyData.shown .none = "None" := by rw [PyData.shown]
          exact PySem.P.repr_of_none (by rw [← e]; exact fin s.heap _ _ fun _ _ z => z)
        | bool b =>
          cases rd
          have e : PyData.shown (.bool b) = if b = true then Str.ofString "True" else Str.ofString "False" := by rw [PyData.shown]
          exact PySem.P.repr_of_bool (by rw [← e]; exact fin s.heap _ _ fun _ _ z => z)
        | int i =>
          cases rd
          have e : PyData.shown (.int i) = toString i := by rw [PyData.shown]
          exact PySem.P.repr_of_int (by simpa [PyData.showable] using hsh) (by rw [← e]; exact fin s.heap _ _ fun _ _ z => z)
        | str x =>
          cases rd
          have e : PyData.shown (.str x) = reprText x := by rw [PyData.shown]
          exact PySem.P.repr_of_str (by rw [← e]; exact fin s.heap _ _ fun _ _ z => z) (by rw [← e]; exact hz)
        | list ys =>
          cases rd with
          | list h1 h2 h3 h4 => exact repr_of_reads' (.list h1 h2 h3 h4) hsh hno hgd (by omega) (fun _ _ z => z) (fun h' u tk hk => fin h' u tk hk) hz
        | tuple ys =>
          cases rd with
          | tuple h1 h2 h3 h4 => exact repr_of_reads' (.tuple h1 h2 h3 h4) hsh hno hgd (by omega) (fun _ _ z => z) (fun h' u tk hk => fin h' u tk hk) hz
        | dict ys =>
          cases rd with
          | dict h1 h2 h3 h4 h5 => exact repr_of_reads' (.dict h1 h2 h3 h4 h5) hsh hno hgd (by omega) (fun _ _ z => z) (fun h' u tk hk => fin h' u tk hk) hz
    · cases hf
  · cases hf

/-! ### types -/
def isInst (d : PyData) (T : String) : Option Bool := match T with
  | "int" => some (match d with
    | .int _ => true
    | .bool _ => true
    | _ => false)
  | "bool" => some (match d with
    | .bool _ => true
    | _ => false)
  | "tuple" => some (match d with
    | .tuple _ => true
    | _ => false)
  | "list" => some (match d with
    | .list _ => true
    | _ => false)
  | "str" => some (match d with
    | .str _ => true
    | _ => false)
  | _ => none
theorem isInst_kit {d : PyData} {T : String} {b : Bool} (h : isInst d T = some b) : kitB (tyName d) T = some b := by
  unfold isInst at h
  split at h <;> cases h <;> cases d <;> first | (simp only [tyName]; decide +kernel)
def mIsi (T : String) (m : ME) : ME := mOpN (liftN fun ds => match ds with
  | [d] => (isInst d T).map PyData.bool
  | _ => none) (aCons m aNil)
theorem Vw.tyX {K : PySem.W.Frag} {S H : Hp} {v : V} {d : PyData} (e : Ex S H) (h : Vw K S H v d) : TyX K H v (.type (tyName d)) := by
  by_cases hl : ∃ ds, d = .list ds
  · obtain ⟨ds, rfl⟩ := hl
    obtain ⟨a, vs, rfl, h1, _⟩ := h.list e
    rcases h1 with (h1 | ⟨o, h1⟩) | ⟨o, its, n, h1, h2, _⟩
    · exact .base (.lst h1)
    · exact .base (.frz h1)
    · exact .kList h1 h2
  · exact (Dq.mono e _ _ (h.ofD fun ds q => hl ⟨ds, q⟩)).tyX
theorem Vw.typeIs {pins : List (Addr × Obj)} {σ : L2.St} {s : Shared} {S H : Hp} {v : V} {u : Value} {d : PyData} (I : L2.Inv X pins σ H s) (e : Ex S H) (h : Vw X.K S H v d) (r : RelV v u) : s.TypeIs u (tyName d) := by
  by_cases hl : ∃ ds, d = .list ds
  · obtain ⟨ds, rfl⟩ := hl
    obtain ⟨a, vs, rfl, h1, _⟩ := h.list e
    cases r
    obtain ⟨its, rv, ⟨o, n, ho, hc, _⟩, _⟩ := I.list h1
    exact ⟨o, ho, hc⟩
  · exact Dq.typeIs I (Dq.mono e _ _ (h.ofD fun ds q => hl ⟨ds, q⟩)) r
variable {W : WX}
theorem xe_isi {T : String} {x : Str} {e : Expr} {m : ME} {p p2 pos : Pos} (hm : X.mg "isinstance" = none) (hg : Gl X "isinstance") (hgT : Gl X x) (hmT : X.mg x = none) (hvT : bootBuiltins x = some (.type T)) (ha : PE X e (tE X.K W m))
    (hn : x ≠ "__name__" := by decide) (hdb : (x == ("__debug__" : Str)) = false := by decide) (hs : starEach [e, .Name x p2] X.env = (false, eval e X.env) :: starEach [.Name x p2] X.env := by rfl) (hs2 : starEach [Expr.Name x p2] X.env = (false, eval (.Name x p2) X.env) :: starEach [] X.env := by rfl) (hpl : (backTo pos (starEach [Expr.Name x p2] X.env)).any (·.1) = false := by rfl) :
    PE X (.Call (.Name "isinstance" p) [e, .Name x p2] [] pos) (tE X.K W (mIsi T m)) := by
  refine pe_imp (pe_callB call_isi hg hm boot_isinstance (pa_cons ha (pa_cons (pe_bltn (v := .ty T) hgT hmT hvT rfl hn hdb) pa_nil hs2) hs) (by decide) (by decide) hs hpl) fun σ H Q h => ?_
  obtain ⟨F, S, ρ, s, A, w, sr, h1⟩ := t_opN σ H Q h
  obtain ⟨F, S, ρ, s, A, w, sr, h2⟩ := t_cons σ H _ ⟨F, S, ρ, s, A, w, sr, h1⟩
  refine ⟨F, S, ρ, s, A, w, sr, h2.imp fun v H1 h3 => ?_⟩
  have h4 := t_nil σ H1 _ h3
  obtain ⟨S1, ds, z, ex, v1, hf, q⟩ := mN_of h4
  cases v1 with
  | cons v1 vr =>
    cases vr
    rename_i d
    have hf : (isInst d T).map PyData.bool = some z := hf
    cases ei : isInst d T with
    | none => rw [ei] at hf; cases hf
    | some b =>
      rw [ei] at hf
      cases hf
      exact ⟨v, .ty T, .type (tyName d), .type T, b, rfl, .ty T, v1.tyX ex, kit_ty (isInst_kit ei), q.now ex (.bl b)⟩
/-- type(e) is T -/
def mTyIs (T : String) (neg : Bool) (m : ME) : ME := mOpN (liftN fun ds => match ds with
  | [d] => some (.bool (if neg then !decide (tyName d = T) else decide (tyName d = T)))
  | _ => none) (aCons m aNil)
theorem c_type : CallR X (.type "type") (fun xs H Q => ∃ S x d, xs = [x] ∧ Ex S H ∧ Vw X.K S H x d ∧ Q (.ty (tyName d)) H) := by
  intro pins s σ H xs us Q I r ⟨S, x, d, e, ex, v1, q⟩
  subst e
  cases r with
  | cons rv rr =>
    cases rr
    exact call_type_of (v1.typeIs I ex rv) (by cases d <;> (simp only [tyName]; decide +kernel)) ⟨.ty _, H, I, rfl, q⟩
theorem t_ty {T : String} {neg : Bool} {m : ME} {K : PySem.W.Frag} {r : R2} (hr : ∀ (a b : String) H Q, Q (.bl (if neg then !decide (a = b) else decide (a = b))) H → r (.ty a) (.ty b) H Q) : ∀ σ H Q, tE K W (mTyIs T neg m) σ H Q →
    tOp r (tCB (fun xs H Q => ∃ S x d, xs = [x] ∧ Ex S H ∧ Vw K S H x d ∧ Q (.ty (tyName d)) H) (tCons (tE K W m) tNil)) (tC (.ty T)) σ H Q := fun σ H Q h => by
  obtain ⟨F, S, ρ, s, A, w, sr, h1⟩ := t_opN σ H Q h
  obtain ⟨F, S, ρ, s, A, w, sr, h2⟩ := t_cons σ H _ ⟨F, S, ρ, s, A, w, sr, h1⟩
  refine ⟨F, S, ρ, s, A, w, sr, h2.imp fun v H1 h3 => ?_⟩
  have h4 := t_nil σ H1 _ h3
  obtain ⟨S1, ds, z, ex, v1, hf, q⟩ := mN_of h4
  cases v1 with
  | cons v1 vr =>
    cases vr
    cases hf
    exact ⟨S1, v, _, rfl, ex, v1, hr _ _ _ _ (q.now ex (.bl _))⟩
theorem xe_tyIs {T : String} {x : Str} {e : Expr} {m : ME} {p p2 pos pos2 : Pos} (hm : X.mg "type" = none) (hg : Gl X "type") (hgT : Gl X x) (hmT : X.mg x = none) (hvT : bootBuiltins x = some (.type T)) (ha : PE X e (tE X.K W m))
    (hn : x ≠ "__name__" := by decide) (hdb : (x == ("__debug__" : Str)) = false := by decide) (hs : starEach [e] X.env = (false, eval e X.env) :: starEach [] X.env := by rfl) :
    PE X (.Compare (.Call (.Name "type" p) [e] [] pos) [.Is] [.Name x p2] pos2) (tE X.K W (mTyIs T false m)) :=
  pe_imp (pe_cmpR op_isTyB (pe_callTy c_type hg hm boot_type (pa_cons ha pa_nil hs) (by decide) (by decide) hs rfl) (pe_bltn (v := .ty T) hgT hmT hvT rfl hn hdb) rfl) (t_ty fun a b H Q q => ⟨a, b, rfl, rfl, q⟩)
theorem xe_tyNot {T : String} {x : Str} {e : Expr} {m : ME} {p p2 pos pos2 : Pos} (hm : X.mg "type" = none) (hg : Gl X "type") (hgT : Gl X x) (hmT : X.mg x = none) (hvT : bootBuiltins x = some (.type T)) (ha : PE X e (tE X.K W m))
    (hn : x ≠ "__name__" := by decide) (hdb : (x == ("__debug__" : Str)) = false := by decide) (hs : starEach [e] X.env = (false, eval e X.env) :: starEach [] X.env := by rfl) :
    PE X (.Compare (.Call (.Name "type" p) [e] [] pos) [.IsNot] [.Name x p2] pos2) (tE X.K W (mTyIs T true m)) :=
  pe_imp (pe_cmpR op_notTyB (pe_callTy c_type hg hm boot_type (pa_cons ha pa_nil hs) (by decide) (by decide) hs rfl) (pe_bltn (v := .ty T) hgT hmT hvT rfl hn hdb) rfl) (t_ty fun a b H Q q => ⟨a, b, rfl, rfl, q⟩)
theorem xt_of {e : Expr} {t : TE} {m : ME} (h : PT X e (tTest t)) (k : ∀ σ H Q, tE X.K W m σ H Q → t σ H Q) : PT X e (tT X.K W (mB m)) := pt_imp h fun σ H Q q => k σ H _ (t_B σ H Q q)
theorem xt_tyIs {T : String} {x : Str} {e : Expr} {m : ME} {p p2 pos pos2 : Pos} (hm : X.mg "type" = none) (hg : Gl X "type") (hgT : Gl X x) (hmT : X.mg x = none) (hvT : bootBuiltins x = some (.type T)) (ha : PE X e (tE X.K W m))
    (hn : x ≠ "__name__" := by decide) (hdb : (x == ("__debug__" : Str)) = false := by decide) (hs : starEach [e] X.env = (false, eval e X.env) :: starEach [] X.env := by rfl) :
    PT X (.Compare (.Call (.Name "type" p) [e] [] pos) [.Is] [.Name x p2] pos2) (tT X.K W (mB (mTyIs T false m))) :=
  xt_of (pt_cmpR op_isTyB (pe_callTy c_type hg hm boot_type (pa_cons ha pa_nil hs) (by decide) (by decide) hs rfl) (pe_bltn (v := .ty T) hgT hmT hvT rfl hn hdb) rfl) (t_ty fun a b H Q q => ⟨a, b, rfl, rfl, q⟩)
theorem xt_tyNot {T : String} {x : Str} {e : Expr} {m : ME} {p p2 pos pos2 : Pos} (hm : X.mg "type" = none) (hg : Gl X "type") (hgT : Gl X x) (hmT : X.mg x = none) (hvT : bootBuiltins x = some (.type T)) (ha : PE X e (tE X.K W m))
    (hn : x ≠ "__name__" := by decide) (hdb : (x == ("__debug__" : Str)) = false := by decide) (hs : starEach [e] X.env = (false, eval e X.env) :: starEach [] X.env := by rfl) :
    PT X (.Compare (.Call (.Name "type" p) [e] [] pos) [.IsNot] [.Name x p2] pos2) (tT X.K W (mB (mTyIs T true m))) :=
  xt_of (pt_cmpR op_notTyB (pe_callTy c_type hg hm boot_type (pa_cons ha pa_nil hs) (by decide) (by decide) hs rfl) (pe_bltn (v := .ty T) hgT hmT hvT rfl hn hdb) rfl) (t_ty fun a b H Q q => ⟨a, b, rfl, rfl, q⟩)
end
end Mi
end

section
set_option maxHeartbeats 4000000
/-! SoT: sorted of a tuple. -/
namespace So
open PySem PySem.W PySem.Calls PyProof.Rows PySem.Builtin
section
variable {prog : Program} {w : World} {A : Around} {E : Value → Shared → Prop} {s : Shared}
theorem gather {l : Addr} {vs : List Value} {Q : List Value → Shared → Prop} (hl : s.heap.IsTuple l vs.toArray) (fits : vs.length ≤ sizeLine)
    (h : Q vs { s with heap := (s.heap.push (seqObj "list" #[] 0)).update s.heap.objs.size (Obj.mapSeq (· ++ vs.toArray)) }) : wpAny (model prog w) A (collect (.ref l)) Q E s := by
  obtain ⟨o, ho, hc, n, hd⟩ := id hl
  unfold collect
  refine wpAny_bind (wpAny_runValue (codeAny_builtin entry_proto_collect' ?_))
  show wpAny _ _ (do again (.builtin "list.__iadd__" ⟨[← newList [], .ref l], []⟩)) _ _ s
  refine wpAny_bind (wpAny_newList (wpAny_pure ⟨Code.quiet_builtin _ (by decide +kernel), codeAny_builtin entry_list_iadd' ?_⟩))
  show wpAny _ _ (Builtin.List.listExtendWith (.ref s.heap.objs.size) (.ref l) (.ref s.heap.objs.size)) _ _ { s with heap := s.heap.push (seqObj "list" #[] 0) }
  unfold Builtin.List.listExtendWith
  have ho2 : (s.heap.push (seqObj "list" #[] 0)).get? l = some o := Heap.get?_push_of_some _ ho
  refine wpAny_bind (wpAny_typeOf (T := "tuple") ⟨o, ho2, hc⟩ ?_)
  have ht : (Value.type "tuple" == Value.type "tuple") = true := by rfl
  rw [if_pos (by rw [ht]; simp)]
  refine wpAny_bind (listItems_at ho2 hd ?_)
  refine wpAny_bind (listItems_at (xs := #[]) (n := 0) (Heap.get?_push_size _ rfl) rfl ?_)
  rw [if_neg (by simp)]
  refine wpAny_bind (listUpdate_at (xs := #[]) (n := 0) (Heap.get?_push_size _ rfl) rfl ?_ (Nat.zero_le _) (by show (#[] ++ vs.toArray).size ≤ sizeLine + 1; simp only [Array.size_append, List.size_toArray, List.length_nil]; omega))
  refine wpAny_pure ?_
  refine wpAny_bind (wpAny_load (get?_update_seq (Heap.get?_push_size _ rfl) _) ?_)
  show wpAny _ _ (pure ((#[] : Array Value) ++ vs.toArray).toList) Q E _
  rw [show ((#[] : Array Value) ++ vs.toArray).toList = vs by simp]
  exact wpAny_pure h
/-- the built-in sorted, of a tuple's object -/
theorem tup_sort {l : Addr} {vs : List Value} {kw : List (Str × Value)} {Q : Value → Shared → Prop} (tu : s.heap.IsTuple l vs.toArray) (few : vs.length ≤ sizeLine) (k1 : argsOk "sorted" ⟨[.ref l], kw⟩) (k2 : ∀ x, argsOk "list.sort" ⟨[.ref x], kw⟩)
    (inner : ∀ G : Value → Shared → Prop, wpAny (model prog w) A.in1.in1 (Builtin.«list.sort» ⟨[.ref (s.heap.objs.size + 1)], kw⟩) (fun f u => f = .done (.ret .none) ∧ Q (.ref (s.heap.objs.size + 1)) u) G { s with heap := copyHeap s.heap vs }) :
    wpAny (model prog w) A (call (.builtin "sorted") [.ref l] kw) Q E s := by
  refine call_function_entry_kw kind_sorted plain_sorted entry_sorted k1 ?_
  unfold Builtin.«sorted»
  refine wpAny_bind (m := checkCount "sorted" 1 1 _) (wpAny_pure ?_)
  refine wpAny_bind (gather tu few ?_)
  refine wpAny_bind (wpAny_newList ?_ few)
  have two : ((s.heap.push (seqObj "list" #[] 0)).update s.heap.objs.size (Obj.mapSeq (· ++ vs.toArray))).objs.size = s.heap.objs.size + 1 := by
    rw [Heap.size_update, size_push']
  change wpAny _ _ _ _ _ { s with heap := copyHeap s.heap vs }
  rw [two]
  refine wpAny_bind (wpAny_holding (wpAny_call_entry_kw slot_list_sort ⟨_, copyHeap_at s.heap vs, rfl⟩ entry_list_sort ?go (k2 _)))
  case go =>
    change wpAny (model prog w) A.in1.in1 (Builtin.«list.sort» ⟨[.ref (s.heap.objs.size + 1)], kw⟩) _ _ _
    refine wpAny_mono (inner _) (fun f u ⟨e1, q⟩ => ?_) fun _ _ e => e
    subst e1
    exact ⟨_, rfl, wpAny_pure ⟨_, rfl, q⟩⟩

theorem tup_sorted_data {β : Type} {R : Value → β → Prop} {enc : β → PyData} {bs : List β} {l : Addr} {vs : List Value} {Q : Value → Shared → Prop} (tu : s.heap.IsTuple l vs.toArray) (e : EachIs R vs bs) (er : EachIs (fun v b => ∃ as, Reads s.heap v (enc b) as) vs bs) (hal : AllAlike (bs.map enc)) (hk : Sortable (bs.map enc)) (few : bs.length ≤ sizeLine)
    (hu : ∀ b, b ∈ bs → A.units + 2 + (enc b).depth < cLine) (h : ∀ out, out.length = bs.length → EachIs R out (bs.mergeSort (dataLe false enc)) → Q (.ref (s.heap.objs.size + 1)) { s with heap := sortedAll s.heap vs (List.toArray out) }) :
    wpAny (model prog w) A (call (.builtin "sorted") [.ref l]) Q E s := by
  have few' : vs.length ≤ sizeLine := by rw [e.length]; exact few
  have er2 : EachIs (fun v b => ∃ as, Reads (sortingHeap (copyHeap s.heap vs) (s.heap.objs.size + 1) vs) v (enc b) as) vs bs := er.mono fun _ _ ⟨as, r⟩ => ⟨as, PyProof.Rows.Reads.keeps (fun _ _ => sorting_copy_old) r⟩
  refine tup_sort tu few' (args_sorted1 _) (fun _ => args_list_sort _) fun _ => list_sort_vals (s := { s with heap := copyHeap s.heap vs }) (copyHeap_at s.heap vs) (SortsAt.data (s := { s with heap := sortingHeap (copyHeap s.heap vs) (s.heap.objs.size + 1) vs }) (each_map (R := fun v d => ∃ as, Reads (sortingHeap (copyHeap s.heap vs) (s.heap.objs.size + 1) vs) v d as) enc er2) hal hk (bound_map hu)) few' ⟨rfl, ?_⟩
  exact h _ (by rw [sortVals_length false rfl]; exact e.length) (sortVals_data false e er2 hal)
end
end So
end

section
set_option maxHeartbeats 4000000
/-! MiJ: places, slices, fresh lists by builtins, methods of lists, stores. -/
namespace Mi
open PySem PySem.Spec PyProof.Rows L2
open Evl (Ex)

/-! ### fresh lists by values -/
def lOpN (f : List PyData → Option (List PyData)) (m : MA) : ML := fun s A => (m s A).bind fun ds A1 => opt0 ((datasOf ds A1).bind fun xs => (f xs).map fun zs => (zs, A1))
def GivesL (K : PySem.W.Frag) (S H : Hp) (zs : List PyData) (Q : VK) : Prop := ∀ S' H' p vs, Grow S H S' H' → H p = none → S' p = none → H' p = some (.lst vs) → DqAll K S' vs zs → Q (.ref p) H'
def rLN (K : PySem.W.Frag) (f : List PyData → Option (List PyData)) : List V → Hp → VK → Prop := fun xs H Q => ∃ S ds zs, Ex S H ∧ VwAll K S H xs ds ∧ f ds = some zs ∧ GivesL K S H zs Q
section
variable {K : PySem.W.Frag} {W : WX} {S H : Hp}
theorem GivesL.new (e : Ex S H) {zs : List PyData} {Q : VK} (h : GivesL K S H zs Q) {p : Addr} (n : H p = none) {vs : List V} (q : DqAll K S vs zs) : Q (.ref p) (upd H p (.lst vs)) :=
  h S _ p vs (Grow.side e n) n (none_sub e n) upd_same q
theorem t_lopN {f : List PyData → Option (List PyData)} {m : MA} : ∀ σ H Q, tL K W (lOpN f m) σ H Q → tCB (rLN K f) (tA K W m) σ H Q := fun σ H Q ⟨F, S, ρ, s, A, w, sr, h⟩ => by
  refine ⟨F, S, ρ, s, A, w, sr, ?_⟩
  unfold lOpN at h
  cases e : m s A with
  | bad => rw [e] at h; exact h
  | exn x A1 => rw [e] at h; exact h
  | ok ds A1 =>
    rw [e] at h
    intro S1 ρ1 H1 xs l1 w1 r1
    dsimp only [Res.bind] at h
    cases e1 : datasOf ds A1 with
    | none => rw [e1] at h; exact h.elim
    | some ys =>
      rw [e1] at h
      dsimp only [Option.bind_some] at h
      cases e2 : f ys with
      | none => rw [e2] at h; exact h.elim
      | some zs =>
        rw [e2] at h
        refine ⟨S1, ys, zs, w1.sub, vws_of w1 r1 e1, e2, fun S' H' p vs g hn hs hp q => ?_⟩
        have fr := w1.fresh hn
        exact h S' ρ1 H' p vs (l1.trans (g.le ρ1)) (w1.grow g) ⟨hs, fr.f, fr.live⟩ hp q
end
section
variable {X : Cx} {W : WX} {p pos : Pos} {e : Expr} {es : List Expr} {m : MA}
theorem xl_bi {id : String} {x : Str} {f : List PyData → Option (List PyData)} (hc : CallR X (.builtin id) (rLN X.K f)) (hg : Gl X x) (hm : X.mg x = none) (hv : bootBuiltins x = some (.builtin id)) (ha : PA X (e :: es) (tA X.K W m)) (hn : x ≠ "__name__" := by decide) (hdb : (x == ("__debug__" : Str)) = false := by decide)
    (he : starEach (e :: es) X.env = (false, eval e X.env) :: starEach es X.env := by rfl) (hpl : (backTo pos (starEach es X.env)).any (·.1) = false := by rfl) : PE X (.Call (.Name x p) (e :: es) [] pos) (tL X.K W (lOpN f m)) := pe_imp (pe_callB hc hg hm hv ha hn hdb he hpl) t_lopN
theorem xl_ty {T : String} {x : Str} {f : List PyData → Option (List PyData)} (hc : CallR X (.type T) (rLN X.K f)) (hg : Gl X x) (hm : X.mg x = none) (hv : bootBuiltins x = some (.type T)) (ha : PA X (e :: es) (tA X.K W m)) (hn : x ≠ "__name__" := by decide) (hdb : (x == ("__debug__" : Str)) = false := by decide)
    (he : starEach (e :: es) X.env = (false, eval e X.env) :: starEach es X.env := by rfl) (hpl : (backTo pos (starEach es X.env)).any (·.1) = false := by rfl) : PE X (.Call (.Name x p) (e :: es) [] pos) (tL X.K W (lOpN f m)) := pe_imp (pe_callTy hc hg hm hv ha hn hdb he hpl) t_lopN
def lfList (ds : List PyData) : Option (List PyData) := match ds with
  | [.list xs] => some xs
  | [.tuple xs] => some xs
  | _ => none
theorem c_list : CallR X (.type "list") (rLN X.K lfList) := by
  intro pins s σ H xs us Q I r ⟨S, ds, z, ex, va, hf, q⟩
  unfold lfList at hf
  split at hf
  · cases hf
    obtain ⟨v, rfl, v1⟩ := va.one
    obtain ⟨a, vs, rfl, h1, h2⟩ := v1.list ex
    exact call_list_of pins s σ H _ us Q I r ⟨a, vs, rfl, .inl h1, fun l hl => q.new ex hl h2⟩
  · cases hf
    obtain ⟨v, rfl, v1⟩ := va.one
    obtain ⟨a, vs, rfl, h0, h1, h2⟩ := v1.tup ex
    exact call_list_of pins s σ H _ us Q I r ⟨a, vs, rfl, .inr h1, fun l hl => q.new ex hl h2⟩
  · cases hf
/-! sorted -/
def allAlike (xs : List PyData) : Bool := xs.all fun d => xs.all fun e => PySem.W.alike d e
def sortable (xs : List PyData) : Bool := (xs.all fun d => match d with
  | .tuple (_ :: _) => true
  | _ => false) || (xs.all fun d => match d with
  | .none => false
  | .tuple _ => false
  | _ => true)
def srt (xs : List PyData) : List PyData := xs.mergeSort (PySem.W.dataLe false id)
def lfSorted (ds : List PyData) : Option (List PyData) := match ds with
  | [.list xs] => if allAlike xs = true ∧ sortable xs = true ∧ xs.length ≤ 100000 ∧ PyData.depthAll xs ≤ 40 then some (srt xs) else none
  | [.tuple xs] => if allAlike xs = true ∧ sortable xs = true ∧ xs.length ≤ 100000 ∧ PyData.depthAll xs ≤ 40 then some (srt xs) else none
  | _ => none
theorem allAlike_of {xs : List PyData} (h : allAlike xs = true) : PySem.W.AllAlike xs := fun d hd d' hd' => List.all_eq_true.mp (List.all_eq_true.mp h d hd) d' hd'
theorem sortable_of {xs : List PyData} (h : sortable xs = true) : PySem.W.Sortable xs := by
  unfold sortable at h
  rw [Bool.or_eq_true] at h
  rcases h with h | h
  · refine .inl fun d hd => ?_
    have := List.all_eq_true.mp h d hd
    split at this
    · exact ⟨_, _, rfl⟩
    · cases this
  · refine .inr fun d hd => ?_
    have := List.all_eq_true.mp h d hd
    split at this
    · cases this
    · cases this
    · rename_i h1 h2
      exact ⟨h1, fun xs e => h2 xs e⟩
theorem depth_le : ∀ {xs : List PyData} {d : PyData}, d ∈ xs → d.depth ≤ PyData.depthAll xs
  | x :: xs, d, h => by
    rw [PyData.depthAll]
    rcases List.mem_cons.mp h with e | h
    · subst e; exact Nat.le_max_left _ _
    · exact Nat.le_trans (depth_le h) (Nat.le_max_right _ _)
theorem each_both {α β : Type} {R : α → β → Prop} : ∀ {vs : List α} {ws : List β}, PySem.W.EachIs R vs ws → vs.length = ws.length ∧ ∀ (i : Nat) (a : α) (b : β), vs[i]? = some a → ws[i]? = some b → R a b
  | _, _, .nil => ⟨rfl, fun i a b h => by simp at h⟩
  | _, _, .cons r t => by
    obtain ⟨h1, h2⟩ := each_both t
    refine ⟨by rw [List.length_cons, List.length_cons, h1], fun i a b e1 e2 => ?_⟩
    cases i with
    | zero =>
      simp at e1 e2
      subst e1 e2
      exact r
    | succ i => exact h2 i a b (by simpa using e1) (by simpa using e2)
theorem each_of {α β : Type} {R : α → β → Prop} : ∀ {vs : List α} {ws : List β}, vs.length = ws.length → (∀ (i : Nat) (a : α) (b : β), vs[i]? = some a → ws[i]? = some b → R a b) → PySem.W.EachIs R vs ws
  | [], [], _, _ => .nil
  | a :: vs, b :: ws, hl, h => .cons (h 0 a b rfl rfl) (each_of (by simpa using hl) fun i x y e1 e2 => h (i + 1) x y (by simpa using e1) (by simpa using e2))
  | [], _ :: _, hl, _ => by simp at hl
  | _ :: _, [], hl, _ => by simp at hl
theorem vals_ex {K : PySem.W.Frag} {S : Hp} : ∀ {out : List Value} {zs : List PyData}, (out.length = zs.length) → (∀ (i : Nat) (u : Value) (d : PyData), out[i]? = some u → zs[i]? = some d → ∃ v, RelV v u ∧ Dq K S v d) → ∃ vs, Vals vs out ∧ DqAll K S vs zs
  | [], [], _, _ => ⟨[], .nil, .nil⟩
  | u :: out, d :: zs, hl, h => by
    obtain ⟨v, h1, h2⟩ := h 0 u d rfl rfl
    obtain ⟨vs, h3, h4⟩ := vals_ex (by simpa using hl) fun i x y e1 e2 => h (i + 1) x y (by simpa using e1) (by simpa using e2)
    exact ⟨v :: vs, .cons h1 h3, .cons h2 h4⟩
  | [], _ :: _, hl, _ => by simp at hl
  | _ :: _, [], hl, _ => by simp at hl
theorem c_sorted (hu : X.A.units + 64 < cLine) : CallR X (.builtin "sorted") (rLN X.K lfSorted) := by
  intro pins s σ H xs us Q I r ⟨S, ds, z, ex, va, hf, q⟩
  unfold lfSorted at hf
  have key : ∀ (ys : List PyData) (a : Addr) (vs : List V) (its : List Value), allAlike ys = true → sortable ys = true → ys.length ≤ 100000 → PyData.depthAll ys ≤ 40 → srt ys = z → DqAll X.K S vs ys → Vals vs its →
      PySem.W.EachIs (fun u d => ∃ v, RelV v u ∧ Dq X.K S v d) its ys ∧ PySem.W.EachIs (fun u d => ∃ as, Reads s.heap u d as) its ys ∧ ys.length ≤ sizeLine ∧ (∀ d, d ∈ ys → X.A.units + 2 + d.depth < cLine) := by
    intro ys a vs its h1 h2 h3 h4 h5 h6 h7
    have hl : its.length = ys.length := by rw [← h7.length, DqAll.length h6]
    have at_ : ∀ (i : Nat) (u : Value) (d : PyData), its[i]? = some u → ys[i]? = some d → ∃ v, RelV v u ∧ Dq X.K S v d := fun i u d e1 e2 => by
      obtain ⟨v, g1, g2⟩ := h6.get e2
      obtain ⟨u', g3, g4⟩ := h7.get g1
      rw [e1] at g3
      cases g3
      exact ⟨v, g4, g2⟩
    refine ⟨each_of hl at_, each_of hl fun i u d e1 e2 => ?_, small_line h3, fun d hd => by have := depth_le hd; omega⟩
    obtain ⟨v, g1, g2⟩ := at_ i u d e1 e2
    obtain ⟨as, g3, _⟩ := Dq.reads I d v u (Dq.mono ex _ _ g2) g1
    exact ⟨as, g3⟩
  have fin : ∀ (ys : List PyData) (vs : List V) (its out : List Value), srt ys = z → ys.length ≤ 100000 → out.length = ys.length → PySem.W.EachIs (fun u d => ∃ v, RelV v u ∧ Dq X.K S v d) out (ys.mergeSort (PySem.W.dataLe false id)) →
      EP X pins σ Q (.ref (s.heap.objs.size + 1)) { s with heap := PyProof.Rows.sortedAll s.heap its out.toArray } := by
    intro ys vs its out h5 h3 hol he
    have hml : (ys.mergeSort (PySem.W.dataLe false id)).length = ys.length := List.length_mergeSort ys
    obtain ⟨ws, g1, g2⟩ := vals_ex (K := X.K) (S := S) (hol.trans hml.symm) fun i u d e1 e2 => (each_both he).2 i u d e1 e2
    obtain ⟨ep, he'⟩ := PyProof.Rows.sortedAll_at s.heap its out.toArray
    have hlen : ws.length ≤ sizeLine := by
      rw [g1.length, hol]
      exact small_line h3
    subst h5
    exact ⟨.ref _, upd H (s.heap.objs.size + 1) (.lst ws), I.laid (t' := s.toks) (fun _ _ => PyProof.Rows.sortedAll_old) (Nat.le_succ _) ⟨hlen, out, ep, g1, he'⟩, rfl, q.new ex (I.hok.fresh (Nat.le_succ _)) g2⟩
  split at hf
  · split at hf
    · rename_i ys c
      cases hf
      obtain ⟨v, rfl, v1⟩ := va.one
      obtain ⟨a, vs, rfl, h1, h2⟩ := v1.list ex
      cases r with
      | cons rv rr =>
        cases rr
        cases rv
        obtain ⟨its, rvs, pl, hz⟩ := I.list h1
        obtain ⟨k1, k2, k3, k4⟩ := key ys a vs its c.1 c.2.1 c.2.2.1 c.2.2.2 rfl h2 rvs
        exact PySem.W.sorted_data (enc := id) pl.isList k1 (by simpa using k2) (by simpa using allAlike_of c.1) (by simpa using sortable_of c.2.1) k3 (fun d hd => k4 d hd) fun out ho he => fin ys vs its out rfl c.2.2.1 ho he
    · cases hf
  · split at hf
    · rename_i ys c
      cases hf
      obtain ⟨v, rfl, v1⟩ := va.one
      obtain ⟨a, vs, rfl, h0, h1, h2⟩ := v1.tup ex
      cases r with
      | cons rv rr =>
        cases rr
        cases rv
        obtain ⟨its, rvs, ⟨o, ho, hc, n, hd⟩, hz⟩ := I.tuple h1
        obtain ⟨k1, k2, k3, k4⟩ := key ys a vs its c.1 c.2.1 c.2.2.1 c.2.2.2 rfl h2 rvs
        exact So.tup_sorted_data (enc := id) ⟨o, ho, hc, n, hd⟩ k1 (by simpa using k2) (by simpa using allAlike_of c.1) (by simpa using sortable_of c.2.1) k3 (fun d hd => k4 d hd) fun out ho he => fin ys vs its out rfl c.2.2.1 ho he
    · cases hf
  · cases hf
/-! list(range(..)) -/
def lRg1 (m : ME) : ML := fun s A => (m s A).bind fun d A1 => match d with
  | .p (.int n) => if -(2 ^ 62) ≤ n ∧ n ≤ 16777216 then .ok (rangeD 0 n.toNat) A1 else .bad
  | _ => .bad
theorem rgV_eq {K : PySem.W.Frag} {S : Hp} (a b : Int) : DqAll K S (rgV a b) (rangeD a (b - a).toNat) := by
  unfold rgV rangeD
  have e1 : ((List.range (b - a).toNat).map fun (i : Nat) => V.int (a + (i : Nat))) = ((List.range (b - a).toNat).map fun (i : Nat) => a + (i : Int)).map V.int := by rw [List.map_map]; rfl
  have e2 : ((List.range (b - a).toNat).map fun (i : Nat) => PyData.int (a + (i : Nat))) = ((List.range (b - a).toNat).map fun (i : Nat) => a + (i : Int)).map PyData.int := by rw [List.map_map]; rfl
  rw [e1, e2]
  exact DqAll.ints _
theorem xl_listRg1 {a : Expr} {k : ME} {p2 pos2 : Pos} (hc : X.calm = true) (hg : Gl X "list") (hm : X.mg "list" = none) (hg2 : Gl X "range") (hm2 : X.mg "range" = none) (ha : PE X a (tE X.K W k)) (na : starEach [a] X.env = (false, eval a X.env) :: starEach [] X.env := by rfl)
    (nb : starEach [Expr.Call (.Name "range" p2) [a] [] pos2] X.env = (false, eval (.Call (.Name "range" p2) [a] [] pos2) X.env) :: starEach [] X.env := by rfl) :
    PE X (.Call (.Name "list" p) [.Call (.Name "range" p2) [a] [] pos2] [] pos) (tL X.K W (lRg1 k)) := pe_imp (pe_listRg hc hg hm (prg_1 hg2 hm2 ha na) nb) fun σ H Q ⟨F, S, ρ, s, A, w, sr, h⟩ => by
  refine ⟨F, S, ρ, s, A, w, sr, ?_⟩
  unfold lRg1 at h
  cases e : k s A with
  | bad => rw [e] at h; exact h
  | exn x A1 => rw [e] at h; exact h
  | ok d A1 =>
    rw [e] at h
    intro S1 ρ1 H1 x l1 w1 r1
    dsimp only [Res.bind] at h
    cases d with
    | ref n => exact h.elim
    | scr n => exact h.elim
    | p d =>
      cases d with
      | int n =>
        dsimp only at h
        by_cases hn : -(2 ^ 62) ≤ n ∧ n ≤ 16777216
        · rw [if_pos hn] at h
          cases r1
          refine ⟨n, rfl, ⟨by decide, by decide, hn.1, by omega, by omega⟩, fun q hq => ?_⟩
          have fr := w1.fresh hq
          have g := Grow.side (o := HO.lst (rgV 0 n)) w1.sub hq
          have e0 := rgV_eq (K := X.K) (S := S1) 0 n
          rw [Int.sub_zero] at e0
          exact h S1 ρ1 _ q (rgV 0 n) l1 (w1.grow g) fr upd_same e0
        · rw [if_neg hn] at h
          exact h.elim
      | none => exact h.elim
      | bool i => exact h.elim
      | str x => exact h.elim
      | list x => exact h.elim
      | tuple x => exact h.elim
      | dict x => exact h.elim

/-! ### places -/
def fIx (a b : PyData) : Option PyData := match a, b with
  | .list xs, .int i => atI xs i
  | .tuple xs, .int i => atI xs i
  | .str z, .int i => if z.length ≤ 100000 then (atI z.cps.toList i).map fun c => .str ⟨#[c]⟩ else none
  | _, _ => none
theorem atI_vals {K : PySem.W.Frag} {S : Hp} {vs : List V} {ds : List PyData} {i : Int} {d : PyData} (q : DqAll K S vs ds) (h : atI ds i = some d) : ∃ v, atI vs i = some v ∧ Dq K S v d := by
  unfold atI at h ⊢
  rw [DqAll.length q]
  cases e : ixN ds.length i with
  | none => rw [e] at h; cases h
  | some j =>
    rw [e] at h
    exact q.get h
theorem xe_ix {a b : Expr} {ma mb : ME} (ha : PE X a (tE X.K W ma)) (hb : PE X b (tE X.K W mb)) (hs : PlainIx b) : PE X (.Subscript a b pos) (tE X.K W (mOp2 (lift2 fIx) ma mb)) := by
  refine pe_imp (pe_ix (r := rM2 X.K (lift2 fIx)) ?_ ha hb hs) t_op2
  intro value slice pins s σ H x y v u Q I rx ry h hs
  obtain ⟨S, d, e, z, ex, v1, v2, hf, q⟩ := m2_of h
  unfold fIx at hf
  split at hf
  · obtain ⟨a, vs, rfl, h1, h2⟩ := v1.list ex
    obtain ⟨w, h3, h4⟩ := atI_vals h2 hf
    exact ix_list value slice pins s σ H _ y v u Q I rx ry ⟨a, vs, _, w, rfl, v2.int, h1, h3, q.now ex h4⟩ hs
  · obtain ⟨a, vs, rfl, _, h1, h2⟩ := v1.tup ex
    obtain ⟨w, h3, h4⟩ := atI_vals h2 hf
    exact ix_tup value slice pins s σ H _ y v u Q I rx ry ⟨a, vs, _, w, rfl, v2.int, h1, h3, q.now ex h4⟩ hs
  · split at hf
    · rename_i c
      rename_i z' i'
      cases ec : atI z'.cps.toList i' with
      | none => rw [ec] at hf; cases hf
      | some k =>
        rw [ec] at hf
        cases hf
        exact ix_str value slice pins s σ H x y v u Q I rx ry ⟨_, _, k, v1.str, v2.int, small_line c, ec, q.now ex (.str _)⟩ hs
    · cases hf
  · cases hf
/-! slices -/
abbrev MP := Slt → Arn → Res (Option Int)
def pNo : MP := fun _ A => .ok none A
def pSome (m : ME) : MP := fun s A => (m s A).bind fun d A1 => match d with
  | .p (.int i) => .ok (some i) A1
  | _ => .bad
abbrev tP (K : PySem.W.Frag) (W : WX) (m : MP) : TO := tG K W (fun _ _ a b => a = b) m
theorem xp_no : PO X none (tP X.K W pNo) := ⟨fun pins s σ H Q I ⟨F, S, ρ, st, A, w, sr, h⟩ => po_none.run pins s σ H Q I (EndG.ok h w rfl)⟩
theorem xp_some {a : Expr} {k : ME} (ha : PE X a (tE X.K W k)) : PO X (some a) (tP X.K W (pSome k)) := ⟨fun pins s σ H Q I ⟨F, S, ρ, st, A, w, sr, h⟩ => (po_some ha).run pins s σ H Q I ⟨F, S, ρ, st, A, w, sr, (EndG.bind h).imp fun x H1 ⟨S1, ρ1, A1, d, l1, w1, r1, h1⟩ => by
    cases d with
    | ref n => exact h1.elim
    | scr n => exact h1.elim
    | p d =>
      cases d with
      | int i =>
        cases r1
        exact ⟨i, rfl, EndG.ok h1 w1 rfl⟩
      | none => exact h1.elim
      | bool i => exact h1.elim
      | str x => exact h1.elim
      | list x => exact h1.elim
      | tuple x => exact h1.elim
      | dict x => exact h1.elim⟩⟩
def cutD' {α : Type} (xs : List α) (lo hi : Option Int) : List α := (xs.drop (HT.sIx xs.length 0 lo)).take (HT.sIx xs.length xs.length hi - HT.sIx xs.length 0 lo)
def fSl (d : PyData) (lo hi : Option Int) : Option PyData := match d with
  | .tuple xs => some (.tuple (cutD' xs lo hi))
  | .str z => if z.length ≤ 100000 then some (.str (cutS z lo hi)) else none
  | _ => none
def lfSl (d : PyData) (lo hi : Option Int) : Option (List PyData) := match d with
  | .list xs => some (cutD' xs lo hi)
  | _ => none
def mSl (m : ME) (k l : MP) : ME := fun s A => (m s A).bind fun d A1 => (k s A1).bind fun lo A2 => (l s A2).bind fun hi A3 => opt1 ((dataOf d A3).bind fun x => (fSl x lo hi).map fun z => (.p z, A3))
def lSl (m : ME) (k l : MP) : ML := fun s A => (m s A).bind fun d A1 => (k s A1).bind fun lo A2 => (l s A2).bind fun hi A3 => opt0 ((dataOf d A3).bind fun x => (lfSl x lo hi).map fun z => (z, A3))
theorem cut_vals {K : PySem.W.Frag} {S : Hp} {vs : List V} {ds : List PyData} (lo hi : Option Int) (q : DqAll K S vs ds) : DqAll K S (cutV vs lo hi) (cutD' ds lo hi) := by
  unfold cutV cutD'
  rw [DqAll.length q]
  exact (q.drop _).take _
def rSlD (K : PySem.W.Frag) : V → Option Int → Option Int → Hp → VK → Prop := fun x lo hi H Q => ∃ S d z, Ex S H ∧ Vw K S H x d ∧ fSl d lo hi = some z ∧ Gives K S H z Q
def rSlF (K : PySem.W.Frag) : V → Option Int → Option Int → Hp → VK → Prop := fun x lo hi H Q => ∃ S d z, Ex S H ∧ Vw K S H x d ∧ lfSl d lo hi = some z ∧ GivesL K S H z Q
theorem whole_cut {ds : List PyData} {lo hi : Option Int} (h : HT.sIx ds.length 0 lo = 0 ∧ HT.sIx ds.length ds.length hi = ds.length) : cutD' ds lo hi = ds := by
  unfold cutD'
  rw [h.1, h.2, List.drop_zero, Nat.sub_zero, List.take_length]
theorem s_val : SlR X (rSlD X.K) := by
  intro pins s σ H x v vl vu lo hi sl Q I rx hs pl pu ⟨S, d, z, ex, v1, hf, q⟩
  unfold fSl at hf
  split at hf
  · cases hf
    obtain ⟨a, vs, rfl, h0, h1, h2⟩ := v1.tup ex
    refine sl_tupA pins s σ H _ v vl vu lo hi sl Q I rx hs pl pu ⟨a, vs, rfl, h1, fun hw => ?_, fun hw p hp => q.tup ex hp (cut_vals lo hi h2)⟩
    rw [DqAll.length h2] at hw
    rw [whole_cut hw] at q
    exact q.now ex (.tup h0 h2)
  · split at hf
    · rename_i c
      cases hf
      exact sl_str pins s σ H x v vl vu lo hi sl Q I rx hs pl pu ⟨_, v1.str, small_line c, q.now ex (.str _)⟩
    · cases hf
  · cases hf
theorem s_lst : SlR X (rSlF X.K) := by
  intro pins s σ H x v vl vu lo hi sl Q I rx hs pl pu ⟨S, d, z, ex, v1, hf, q⟩
  unfold lfSl at hf
  split at hf
  · cases hf
    obtain ⟨a, vs, rfl, h1, h2⟩ := v1.list ex
    exact sl_list pins s σ H _ v vl vu lo hi sl Q I rx hs pl pu ⟨a, vs, rfl, h1, fun p hp => q.new ex hp (cut_vals lo hi h2)⟩
  · cases hf
theorem xe_sl {a : Expr} {lo hi : Option Expr} {ma : ME} {k l : MP} {p2 : Pos} (ha : PE X a (tE X.K W ma)) (hl : PO X lo (tP X.K W k)) (hu : PO X hi (tP X.K W l)) : PE X (.Subscript a (.Slice lo hi none p2) pos) (tE X.K W (mSl ma k l)) :=
  pe_imp (pe_slice s_val ha hl hu) fun σ H Q ⟨F, S, ρ, s, A, w, sr, h⟩ => ⟨F, S, ρ, s, A, w, sr, (EndG.bind h).imp fun x H1 ⟨S1, ρ1, A1, d, l1, w1, r1, h1⟩ => ⟨F, S1, ρ1, s, A1, w1, sr.mono l1, (EndG.bind h1).imp fun lo' H2 ⟨S2, ρ2, A2, lo2, l2, w2, r2, h2⟩ =>
    ⟨F, S2, ρ2, s, A2, w2, sr.mono (l1.trans l2), (EndG.bind h2).imp fun hi' H3 ⟨S3, ρ3, A3, hi2, l3, w3, r3, h3⟩ => by
      subst r2 r3
      cases e1 : dataOf d A3 with
      | none => rw [e1] at h3; exact h3.elim
      | some y =>
        rw [e1] at h3
        dsimp only [Option.bind_some] at h3
        cases e2 : fSl y lo2 hi2 with
        | none => rw [e2] at h3; exact h3.elim
        | some z =>
          rw [e2] at h3
          exact ⟨S3, y, z, w3.sub, vw_of w3 (r1.mono (l2.trans l3)) e1, e2, .of w3 h3⟩⟩⟩⟩
theorem xl_sl {a : Expr} {lo hi : Option Expr} {ma : ME} {k l : MP} {p2 : Pos} (ha : PE X a (tE X.K W ma)) (hl : PO X lo (tP X.K W k)) (hu : PO X hi (tP X.K W l)) : PE X (.Subscript a (.Slice lo hi none p2) pos) (tL X.K W (lSl ma k l)) :=
  pe_imp (pe_slice s_lst ha hl hu) fun σ H Q ⟨F, S, ρ, s, A, w, sr, h⟩ => by
    refine ⟨F, S, ρ, s, A, w, sr, ?_⟩
    unfold lSl at h
    cases e : ma s A with
    | bad => rw [e] at h; exact h
    | exn x A1 => rw [e] at h; exact h
    | ok d A1 =>
      rw [e] at h
      intro S1 ρ1 H1 x l1 w1 r1
      refine ⟨F, S1, ρ1, s, A1, w1, sr.mono l1, ?_⟩
      dsimp only [Res.bind] at h
      cases ek : k s A1 with
      | bad => rw [ek] at h; exact h
      | exn x A2 => rw [ek] at h; exact fun S' ρ' H' c d l w' er => h S' ρ' H' c d (l1.trans l) w' er
      | ok lo2 A2 =>
        rw [ek] at h
        intro S2 ρ2 H2 lo' l2 w2 r2
        refine ⟨F, S2, ρ2, s, A2, w2, sr.mono (l1.trans l2), ?_⟩
        dsimp only at h
        cases eh : l s A2 with
        | bad => rw [eh] at h; exact h
        | exn x A3 => rw [eh] at h; exact fun S' ρ' H' c d lx w' er => h S' ρ' H' c d ((l1.trans l2).trans lx) w' er
        | ok hi2 A3 =>
          rw [eh] at h
          intro S3 ρ3 H3 hi' l3 w3 r3
          subst r2 r3
          dsimp only at h
          cases e1 : dataOf d A3 with
          | none => rw [e1] at h; exact h.elim
          | some y =>
            rw [e1] at h
            dsimp only [Option.bind_some] at h
            cases e2 : lfSl y lo2 hi2 with
            | none => rw [e2] at h; exact h.elim
            | some z =>
              rw [e2] at h
              refine ⟨S3, y, z, w3.sub, vw_of w3 (r1.mono (l2.trans l3)) e1, e2, fun S' H' p vs g hn hs hp q => ?_⟩
              have fr := w3.fresh hn
              exact h S' ρ3 H' p vs (((l1.trans l2).trans l3).trans (g.le ρ3)) (w3.grow g) ⟨hs, fr.f, fr.live⟩ hp q
end
end Mi
end

section
set_option maxHeartbeats 4000000
/-! MiK: methods of lists of the arena, stores, truth, None. -/
namespace Mi
open PySem PySem.Spec PyProof.Rows L2
open Evl (Ex)

/-! ### methods -/
def isL (d : D) (A : Arn) : Bool := match dataOf d A with
  | some (.list _) => true
  | _ => false
def isS (d : D) (A : Arn) : Bool := match dataOf d A with
  | some (.str _) => true
  | _ => false
def mMt (chk : D → Arn → Bool) (f : D → List D → Arn → Option (D × Arn)) (o : ME) (m : MA) : ME := fun s A => (o s A).bind fun a A1 => if chk a A1 = true then (m s A1).bind fun ds A2 => opt1 (f a ds A2) else .bad
def fAppend (a : D) (ds : List D) (A : Arn) : Option (D × Arn) := match a, ds with
  | .ref n, [.p y] => match A[n]? with
    | some (.lst xs) => if xs.length < 100000 then some (.p .none, A.set n (.lst (xs ++ [y]))) else none
    | _ => none
  | _, _ => none
def fExtend (a : D) (ds : List D) (A : Arn) : Option (D × Arn) := match a, ds with
  | .ref n, [.p (.list ys)] => match A[n]? with
    | some (.lst xs) => if xs.length + ys.length < 100000 then some (.p .none, A.set n (.lst (xs ++ ys))) else none
    | _ => none
  | _, _ => none
def fPop (a : D) (ds : List D) (A : Arn) : Option (D × Arn) := match a, ds with
  | .ref n, [] => match A[n]? with
    | some (.lst xs) => (xs[xs.length - 1]?).map fun y => (.p y, A.set n (.lst xs.dropLast))
    | _ => none
  | _, _ => none
def rMM (K : PySem.W.Frag) (f : D → List D → Arn → Option (D × Arn)) : V → List V → Hp → VK → Prop := fun x xs H Q => ∃ F S ρ A a ds b A', Wo K F S ρ H A ∧ RD K S ρ a x ∧ RDs K S ρ ds xs ∧ f a ds A = some (b, A') ∧ ∀ S' ρ' H' v, Le S ρ S' ρ' → Wo K F S' ρ' H' A' → RD K S' ρ' b v → Q v H'
section
variable {K : PySem.W.Frag} {W : WX}
theorem isL_ok {F S H : Hp} {ρ : List Addr} {A : Arn} {d : D} {v : V} (w : Wo K F S ρ H A) (r : RD K S ρ d v) (h : isL d A = true) : tyV K "list" v H := by
  unfold isL at h
  cases e : dataOf d A with
  | none => rw [e] at h; cases h
  | some x =>
    rw [e] at h
    cases x with
    | list ds =>
      obtain ⟨a, vs, rfl, h1, _⟩ := (vw_of w r e).list w.sub
      exact .inl ⟨rfl, vs, h1⟩
    | none => cases h
    | bool x => cases h
    | int x => cases h
    | str x => cases h
    | tuple x => cases h
    | dict x => cases h
theorem isS_ok {F S H : Hp} {ρ : List Addr} {A : Arn} {d : D} {v : V} (w : Wo K F S ρ H A) (r : RD K S ρ d v) (h : isS d A = true) : tyV K "str" v H := by
  unfold isS at h
  cases e : dataOf d A with
  | none => rw [e] at h; cases h
  | some x =>
    rw [e] at h
    cases x with
    | str ds =>
      obtain rfl := (vw_of w r e).str
      rfl
    | none => cases h
    | bool x => cases h
    | int x => cases h
    | list x => cases h
    | tuple x => cases h
    | dict x => cases h
theorem t_bm {T : String} {chk : D → Arn → Bool} {f : D → List D → Arn → Option (D × Arn)} {o : ME} {m : MA} (hc : ∀ {F S H : Hp} {ρ : List Addr} {A : Arn} {d : D} {v : V}, Wo K F S ρ H A → RD K S ρ d v → chk d A = true → tyV K T v H) :
    ∀ σ H Q, tE K W (mMt chk f o m) σ H Q → tBM K T (rMM K f) (tE K W o) (tA K W m) σ H Q := fun σ H Q ⟨F, S, ρ, s, A, w, sr, h⟩ =>
  ⟨F, S, ρ, s, A, w, sr, (EndG.bind h).imp fun x H1 ⟨S1, ρ1, A1, a, l1, w1, r1, h1⟩ => by
    by_cases c : chk a A1 = true
    · have h1 : EndG K W F (RD K) S1 ρ1 σ Q (if chk a A1 = true then (m s A1).bind fun ds A2 => opt1 (f a ds A2) else .bad) := h1
      rw [if_pos c] at h1
      refine ⟨hc w1 r1 c, F, S1, ρ1, s, A1, w1, sr.mono l1, (EndG.bind h1).imp fun xs H2 ⟨S2, ρ2, A2, ds, l2, w2, r2, h2⟩ => ?_⟩
      obtain ⟨b, A', e, q⟩ := EndG.opt h2
      exact ⟨F, S2, ρ2, A2, a, ds, b, A', w2, r1.mono l2, r2, e, q⟩
    · have h1 : EndG K W F (RD K) S1 ρ1 σ Q (if chk a A1 = true then (m s A1).bind fun ds A2 => opt1 (f a ds A2) else .bad) := h1
      rw [if_neg c] at h1
      exact h1.elim⟩
theorem t_bm0 {T : String} {chk : D → Arn → Bool} {f : D → List D → Arn → Option (D × Arn)} {o : ME} (hc : ∀ {F S H : Hp} {ρ : List Addr} {A : Arn} {d : D} {v : V}, Wo K F S ρ H A → RD K S ρ d v → chk d A = true → tyV K T v H) :
    ∀ σ H Q, tE K W (mMt chk f o aNil) σ H Q → tBM0 K T (rMM K f) (tE K W o) σ H Q := fun σ H Q ⟨F, S, ρ, s, A, w, sr, h⟩ =>
  ⟨F, S, ρ, s, A, w, sr, (EndG.bind h).imp fun x H1 ⟨S1, ρ1, A1, a, l1, w1, r1, h1⟩ => by
    by_cases c : chk a A1 = true
    · have h1 : EndG K W F (RD K) S1 ρ1 σ Q (if chk a A1 = true then (aNil s A1).bind fun ds A2 => opt1 (f a ds A2) else .bad) := h1
      rw [if_pos c] at h1
      obtain ⟨b, A', e, q⟩ := EndG.opt h1
      exact ⟨hc w1 r1 c, F, S1, ρ1, A1, a, [], b, A', w1, r1, .nil, e, q⟩
    · have h1 : EndG K W F (RD K) S1 ρ1 σ Q (if chk a A1 = true then (aNil s A1).bind fun ds A2 => opt1 (f a ds A2) else .bad) := h1
      rw [if_neg c] at h1
      exact h1.elim⟩
end
section
variable {X : Cx} {W : WX} {pos : Pos}
theorem k_append : MtR X "list.append" (rMM X.K fAppend) := by
  intro pins s σ H x xs v us Q I rx rxs ⟨F, S, ρ, A, a, ds, b, A', w, r1, r2, e, q⟩
  unfold fAppend at e
  split at e
  · split at e
    · split at e
      · rename_i hA hz
        cases e
        obtain ⟨p, rfl, hp⟩ := r1
        obtain ⟨p', vs, h1, h2, h3, h4⟩ := w.lst _ _ hA
        rw [hp] at h1
        cases h1
        cases r2 with
        | cons q1 q2 =>
          cases q2
          refine mt_append pins s σ H _ _ v us Q I rx rxs ⟨p, vs, _, rfl, rfl, h3, ?_, ?_⟩
          · rw [DqAll.length h4]
            exact Nat.lt_of_lt_of_le hz (small_line (Nat.le_refl _))
          · exact q S ρ _ .non (Le.refl _ _) (w.set hA hp (h4.append (.one q1))) .non
      · cases e
    · cases e
  · cases e
theorem k_extend : MtR X "list.extend" (rMM X.K fExtend) := by
  intro pins s σ H x xs v us Q I rx rxs ⟨F, S, ρ, A, a, ds, b, A', w, r1, r2, e, q⟩
  unfold fExtend at e
  split at e
  · split at e
    · split at e
      · rename_i hA hz
        cases e
        obtain ⟨p, rfl, hp⟩ := r1
        obtain ⟨p', vs, h1, h2, h3, h4⟩ := w.lst _ _ hA
        rw [hp] at h1
        cases h1
        cases r2 with
        | cons q1 q2 =>
          cases q2
          obtain ⟨b, ws, rfl, k1, k2⟩ := VwO.list (K := X.K) (S := S) (H := H) w.sub (.inl q1)
          refine mt_extend pins s σ H _ _ v us Q I rx rxs ⟨p, b, vs, ws, rfl, rfl, h3, k1, ?_, ?_⟩
          · rw [DqAll.length h4, DqAll.length k2]
            exact small_line (Nat.le_of_lt hz)
          · exact q S ρ _ .non (Le.refl _ _) (w.set hA hp (h4.append k2)) .non
      · cases e
    · cases e
  · cases e
theorem k_pop : MtR X "list.pop" (rMM X.K fPop) := by
  intro pins s σ H x xs v us Q I rx rxs ⟨F, S, ρ, A, a, ds, b, A', w, r1, r2, e, q⟩
  unfold fPop at e
  split at e
  · split at e
    · rename_i ys hA
      cases ey : ys[ys.length - 1]? with
      | none => rw [ey] at e; cases e
      | some y =>
        rw [ey] at e
        cases e
        obtain ⟨p, rfl, hp⟩ := r1
        obtain ⟨p', vs, h1, h2, h3, h4⟩ := w.lst _ _ hA
        rw [hp] at h1
        cases h1
        cases r2
        obtain ⟨u, g1, g2⟩ := h4.get ey
        refine mt_pop pins s σ H _ _ v us Q I rx rxs ⟨p, vs, u, rfl, rfl, h3, ?_, ?_⟩
        · rw [DqAll.length h4]; exact g1
        · exact q S ρ _ u (Le.refl _ _) (w.set hA hp h4.dropLast) g2
    · cases e
  · cases e
/-- the rules' forms -/
theorem xe_lm {name : Str} {id : String} {f : D → List D → Arn → Option (D × Arn)} {o e : Expr} {es : List Expr} {mo : ME} {m : MA} {apos cpos : Pos} (slot : Slot "list" name id) (hty : typeOf (.builtin id) = pure (.type "method_descriptor")) (hm : MtR X id (rMM X.K f)) (ho : PE X o (tE X.K W mo)) (ha : PA X (e :: es) (tA X.K W m))
    (hbase : attributeBase o name X.env (eval o X.env) = eval o X.env := by rfl)
    (hfew : ((backTo cpos (starEach (e :: es) X.env)).all (fun x => !x.1) && (backToKw cpos (keywordEach [] X.env)).all (fun x => x.1.isSome) && decide ((e :: es).length + ([] : List Keyword).length + (if ([] : List Keyword).isEmpty then 0 else 1) < 30)) = true := by rfl)
    (hline : (apos.endLine == cpos.line) = true := by rfl) (hs : starEach (e :: es) X.env = (false, eval e X.env) :: starEach es X.env := by rfl) (hplain : (backTo cpos (starEach es X.env)).any (·.1) = false := by rfl) :
    PE X (.Call (.Attribute o name apos) (e :: es) [] cpos) (tE X.K W (mMt isL f mo m)) := pe_imp (pe_bm PySem.F.plainAttrs_list slot hty hm ho ha hbase hfew hline hs hplain) (t_bm isL_ok)
theorem xe_lm0 {name : Str} {id : String} {f : D → List D → Arn → Option (D × Arn)} {o : Expr} {mo : ME} {apos cpos : Pos} (slot : Slot "list" name id) (hty : typeOf (.builtin id) = pure (.type "method_descriptor")) (hm : MtR X id (rMM X.K f)) (ho : PE X o (tE X.K W mo))
    (hbase : attributeBase o name X.env (eval o X.env) = eval o X.env := by rfl) (hline : (apos.endLine == cpos.line) = true := by rfl) : PE X (.Call (.Attribute o name apos) [] [] cpos) (tE X.K W (mMt isL f mo aNil)) := pe_imp (pe_bm0 PySem.F.plainAttrs_list slot hty hm ho hbase hline) (t_bm0 isL_ok)

/-! ### o[i] = e -/
def putIx (o i v : D) (A : Arn) : Option Arn := match o, i, v with
  | .ref n, .p (.int k), .p y => match A[n]? with
    | some (.lst xs) => (ixN xs.length k).map fun j => A.set n (.lst (xs.set j y))
    | _ => none
  | _, _, _ => none
theorem putIx_ok {o i v : D} {A A' : Arn} (h : putIx o i v A = some A') : ∃ (n : Nat) (k : Int) (y : PyData) (xs : List PyData) (j : Nat), o = .ref n ∧ i = .p (.int k) ∧ v = .p y ∧ A[n]? = some (.lst xs) ∧ ixN xs.length k = some j ∧ A' = A.set n (.lst (xs.set j y)) := by
  unfold putIx at h
  split at h
  · split at h
    · rename_i xs hA
      rename_i n k y _
      cases ej : ixN xs.length k with
      | none => rw [ej] at h; cases h
      | some j =>
        rw [ej] at h
        cases h
        exact ⟨_, _, _, _, _, rfl, rfl, rfl, hA, ej, rfl⟩
    · cases h
  · cases h
def sPut (mv mo mi : ME) : MS := fun s A => fromR (mv s A) fun v A1 => fromR (mo s A1) fun o A2 => fromR (mi s A2) fun i A3 => match putIx o i v A3 with
  | some A4 => .nx s A4
  | none => .bad
theorem xs_put {o i e : Expr} {mv mo mi : ME} {p2 : Pos} (he : PE X e (tE X.K W mv)) (ho : PE X o (tE X.K W mo)) (hi : PE X i (tE X.K W mi))
    (ha : ∀ v, assign (.Subscript o i p2) X.env v = (do
      let ov ← holding [v] (eval o X.env)
      let iv ← holding [v, ov] (eval i X.env)
      standAt p2
      holding [v, ov, iv] (setItem ov iv v)
      release [v, ov, iv] []) := by intro _; rfl)
    (hs : swapsWithSole [.Subscript o i p2] e pos.line X.env = pure false := by rfl) (hw : swappedStores [.Subscript o i p2] e X.env = pure none := by rfl)
    (h1 : (assignEach [Expr.Subscript o i p2] X.env).map (·.2) = [assign (.Subscript o i p2) X.env] := by rfl) : PS X (.Assign [.Subscript o i p2] e pos) (tS X.K W (sPut mv mo mi)) := by
  refine ps_imp (ps_asg he (pg_sub ho hi set_list ha) hs hw h1) fun D σ H ⟨F, S, ρ, s, A, w, sr, h⟩ => ?_
  refine ⟨F, S, ρ, s, A, w, sr, (EndS.from h).imp fun x H1 ⟨S1, ρ1, A1, v, l1, w1, r1, h1⟩ => ?_⟩
  refine ⟨F, S1, ρ1, s, A1, w1, sr.mono l1, (EndS.from h1).imp fun y H2 ⟨S2, ρ2, A2, o', l2, w2, r2, h2⟩ => ?_⟩
  refine ⟨F, S2, ρ2, s, A2, w2, sr.mono (l1.trans l2), (EndS.from h2).imp fun z H3 ⟨S3, ρ3, A3, i', l3, w3, r3, h3⟩ => ?_⟩
  have r1' := r1.mono (l2.trans l3)
  have r2' := r2.mono l3
  cases e4 : putIx o' i' v A3 with
  | none => rw [e4] at h3; exact h3.elim
  | some A4 =>
    rw [e4] at h3
    obtain ⟨n, k, yv, xs, j, rfl, rfl, rfl, hA, ej, rfl⟩ := putIx_ok e4
    obtain ⟨p, rfl, hp⟩ := r2'
    obtain ⟨p', vs, g1, g2, g3, g4⟩ := w3.lst n xs hA
    rw [hp] at g1
    cases g1
    cases (show Dq X.K S3 z (.int k) from r3)
    refine ⟨p, vs, k, j, rfl, rfl, g3, by rw [DqAll.length g4]; exact ej, ?_⟩
    exact EndS.nx h3 (w3.set hA hp (g4.set r1' j)) (sr.mono ((l1.trans l2).trans l3))

/-! ### truth, None -/
def truthD (d : D) (A : Arn) : Option Bool := match dataOf d A with
  | some .none => some false
  | some (.bool b) => some b
  | some (.int i) => some (i != 0)
  | some (.str x) => if x.length ≤ 100000 then some (x.length != 0) else none
  | some (.list xs) => some (!xs.isEmpty)
  | some (.tuple xs) => some (!xs.isEmpty)
  | _ => none
def mTru (m : ME) : MT := fun s A => (m s A).bind fun d A1 => match truthD d A1 with
  | some b => .ok b A1
  | none => .bad
theorem empty_iff {K : PySem.W.Frag} {S : Hp} {vs : List V} {ds : List PyData} (q : DqAll K S vs ds) : vs.isEmpty = ds.isEmpty := by
  cases q <;> rfl
theorem xt_tru {a : Expr} {m : ME} (h : PE X a (tE X.K W m)) (he : ∀ whole, isTrue a X.env whole = (do let v ← whole; standAt a.pos; holding [v] (truthy v)) := by intro _; rfl) : PT X a (tT X.K W (mTru m)) := by
  refine pt_imp (pt_truth h he) fun σ H Q ⟨F, S, ρ, s, A, w, sr, h⟩ => ⟨F, S, ρ, s, A, w, sr, (EndG.bind h).imp fun x H1 ⟨S1, ρ1, A1, d, l1, w1, r1, h1⟩ => ?_⟩
  cases e : truthD d A1 with
  | none => rw [e] at h1; exact h1.elim
  | some b =>
    rw [e] at h1
    refine ⟨b, ?_, EndG.ok h1 w1 rfl⟩
    unfold truthD at e
    cases ed : dataOf d A1 with
    | none => rw [ed] at e; cases e
    | some y =>
      rw [ed] at e
      have v := vw_of w1 r1 ed
      cases y with
      | none => cases e; rw [v.non]; rfl
      | bool c => cases e; rw [v.bool]; rfl
      | int c => cases e; rw [v.int]; rfl
      | str z =>
        dsimp only at e
        split at e
        · rename_i hz
          cases e
          rw [v.str]
          exact ⟨small_line hz, by rw [Bool.eq_iff_iff]; simp⟩
        · cases e
      | list zs =>
        cases e
        obtain ⟨p, vs, rfl, h1, h2⟩ := v.list w1.sub
        exact .inl ⟨vs, h1, by rw [empty_iff h2]⟩
      | tuple zs =>
        cases e
        obtain ⟨p, vs, rfl, _, h1, h2⟩ := v.tup w1.sub
        exact .inr (.inl ⟨vs, h1, by rw [empty_iff h2]⟩)
      | dict zs => cases e
def mIsN (neg : Bool) (m : ME) : ME := fun s A => (m s A).bind fun d A1 => match d with
  | .p .none => .ok (.p (.bool (!neg))) A1
  | _ => .ok (.p (.bool neg)) A1
theorem non_iff {K : PySem.W.Frag} {S : Hp} {ρ : List Addr} {d : D} {v : V} (r : RD K S ρ d v) : decide (v = .non) = (match d with
  | .p .none => true
  | _ => false) := by
  cases d with
  | ref n => obtain ⟨a, rfl, _⟩ := r; rfl
  | scr n => obtain ⟨a, rfl, _⟩ := r; rfl
  | p d => cases r <;> rfl
theorem t_isN {K : PySem.W.Frag} {m : ME} : ∀ σ H Q, tE K W (mIsN false m) σ H Q → tIsN (tE K W m) σ H Q := fun σ H Q ⟨F, S, ρ, s, A, w, sr, h⟩ => ⟨F, S, ρ, s, A, w, sr, (EndG.bind h).imp fun x H1 ⟨S1, ρ1, A1, d, l1, w1, r1, h1⟩ => by
    rw [non_iff r1]
    split at h1
    · exact EndG.ok h1 w1 (.bl _)
    · rename_i hne
      split
      · exact absurd rfl (hne ·)
      · exact EndG.ok h1 w1 (.bl _)⟩
theorem t_notN {K : PySem.W.Frag} {m : ME} : ∀ σ H Q, tE K W (mIsN true m) σ H Q → tNotN (tE K W m) σ H Q := fun σ H Q ⟨F, S, ρ, s, A, w, sr, h⟩ => ⟨F, S, ρ, s, A, w, sr, (EndG.bind h).imp fun x H1 ⟨S1, ρ1, A1, d, l1, w1, r1, h1⟩ => by
    rw [non_iff r1]
    split at h1
    · exact EndG.ok h1 w1 (.bl _)
    · rename_i hne
      split
      · exact absurd rfl (hne ·)
      · exact EndG.ok h1 w1 (.bl _)⟩
theorem xe_isN {a : Expr} {m : ME} {j p2} (h : PE X a (tE X.K W m)) : PE X (.Compare a [.Is] [.Constant .none j p2] pos) (tE X.K W (mIsN false m)) := pe_imp (pe_cmp (pc_isN h) rfl) t_isN
theorem xe_notN {a : Expr} {m : ME} {j p2} (h : PE X a (tE X.K W m)) : PE X (.Compare a [.IsNot] [.Constant .none j p2] pos) (tE X.K W (mIsN true m)) := pe_imp (pe_cmp (pc_notN h) rfl) t_notN
theorem xt_isN {a : Expr} {m : ME} {j p2} (h : PE X a (tE X.K W m)) : PT X (.Compare a [.Is] [.Constant .none j p2] pos) (tT X.K W (mB (mIsN false m))) := xt_of (pt_cmp (pc_isN h) rfl) t_isN
theorem xt_notN {a : Expr} {m : ME} {j p2} (h : PE X a (tE X.K W m)) : PT X (.Compare a [.IsNot] [.Constant .none j p2] pos) (tT X.K W (mB (mIsN true m))) := xt_of (pt_cmp (pc_notN h) rfl) t_notN
end
end Mi
end

section
set_option maxHeartbeats 4000000
/-! MiL: a list of lists that change. -/
namespace Mi
open PySem PySem.Spec PyProof.Rows L2
open Evl (Ex)

/-- [[] for _ in range(n)] : n new lists, and the list of them -/
def mRows (it : MI) : ME := fun s A => (it s A).bind fun xs A1 => if xs.length ≤ 1000 then .ok (.ref (A1.length + xs.length)) (A1 ++ List.replicate xs.length (.lst []) ++ [.refs ((List.range xs.length).map fun i => A1.length + i)]) else .bad
section
variable {K : PySem.W.Frag} {W : WX} {F S S' H H' : Hp} {ρ ρ' : List Addr} {σ : L2.St} {A : Arn} {s : Slt}
theorem Wo.allocR (w : Wo K F S ρ H A) {p : Addr} {vs : List V} {ns : List Nat} (fr : Fresh F S ρ A p) (hp : H p = some (.lst vs)) (hv : Paired (fun m v => ∃ b, v = V.ref b ∧ ρ[m]? = some b) ns vs) : Wo K F S (ρ ++ [p]) H (A ++ [.refs ns]) := by
  have hl := w.len
  have old : ∀ {n : Nat} {o : O}, (A ++ [O.refs ns])[n]? = some o → (n < A.length ∧ A[n]? = some o ∧ (ρ ++ [p])[n]? = ρ[n]?) ∨ (n = A.length ∧ o = .refs ns ∧ (ρ ++ [p])[n]? = some p) := fun {n o} e => by
    by_cases hn : n < A.length
    · rw [List.getElem?_append_left hn] at e
      exact .inl ⟨hn, e, List.getElem?_append_left (by omega)⟩
    · rw [List.getElem?_append_right (by omega)] at e
      have h0 : n - A.length = 0 := by
        cases z : n - A.length with
        | zero => rfl
        | succ k => rw [z] at e; simp at e
      have hn' : n = A.length := by omega
      rw [h0] at e
      have e' : O.refs ns = o := by simpa using e
      refine .inr ⟨hn', e'.symm, ?_⟩
      rw [List.getElem?_append_right (by omega), show n - ρ.length = 0 by omega]
      rfl
  refine ⟨w.sub, w.fsub, w.fdis, fun n o a e ne g => ?_, by simp [hl], fun n ys e => ?_, fun n ms e => ?_, fun n ms e => ?_, fun n ms e => ?_, fun n m o u a q1 q2 n1 n2 r1 r2 => ?_⟩
  · rcases old e with ⟨_, e1, e2⟩ | ⟨_, _, e2⟩
    · exact w.flive n o a e1 ne (by rw [← e2]; exact g)
    · rw [e2] at g
      cases g
      exact fr.f
  · rcases old e with ⟨_, e1, e2⟩ | ⟨_, e1, e2⟩
    · obtain ⟨a, ws, g1, g2, g3, g4⟩ := w.lst n ys e1
      exact ⟨a, ws, by rw [e2]; exact g1, g2, g3, g4⟩
    · cases e1
  · rcases old e with ⟨_, e1, e2⟩ | ⟨_, e1, e2⟩
    · obtain ⟨a, ws, g1, g2, g3, g4⟩ := w.refs n ms e1
      exact ⟨a, ws, by rw [e2]; exact g1, g2, g3, Paired.mapP g4 fun m v ⟨b, z1, z2⟩ => ⟨b, z1, (Pre.snoc ρ p).get z2⟩⟩
    · cases e1
      exact ⟨p, vs, e2, fr.s, hp, Paired.mapP hv fun m v ⟨b, z1, z2⟩ => ⟨b, z1, (Pre.snoc ρ p).get z2⟩⟩
  · rcases old e with ⟨_, e1, e2⟩ | ⟨_, e1, e2⟩
    · obtain ⟨a, ws, g1, g2, g3, g4⟩ := w.dct n ms e1
      exact ⟨a, ws, by rw [e2]; exact g1, g2, g3, g4⟩
    · cases e1
  · rcases old e with ⟨_, e1, e2⟩ | ⟨_, e1, e2⟩
    · obtain ⟨a, g1, g2⟩ := w.tab n ms e1
      exact ⟨a, by rw [e2]; exact g1, g2⟩
    · cases e1
  · rcases old q1 with ⟨_, e1, e2⟩ | ⟨e0, e1, e2⟩
    · rcases old q2 with ⟨_, e3, e4⟩ | ⟨_, e3, e4⟩
      · exact w.inj n m o u a e1 e3 n1 n2 (by rw [← e2]; exact r1) (by rw [← e4]; exact r2)
      · rw [r2] at e4
        cases e4
        exact absurd (by rw [← e2]; exact r1) (fr.live n o e1 n1)
    · rcases old q2 with ⟨_, e3, e4⟩ | ⟨f0, e3, e4⟩
      · rw [r1] at e2
        cases e2
        exact absurd (by rw [← e4]; exact r2) (fr.live m u e3 n2)
      · rw [e0, f0]
theorem paired_snoc {α β : Type} {R : α → β → Prop} : ∀ {xs : List α} {ys : List β} {a : α} {b : β}, Paired R xs ys → R a b → Paired R (xs ++ [a]) (ys ++ [b])
  | _, _, _, _, .nil, r => .cons r .nil
  | _, _, _, _, .cons q t, r => .cons q (paired_snoc t r)
theorem replicate_snoc {α : Type} (n : Nat) (a : α) : List.replicate (n + 1) a = List.replicate n a ++ [a] := by
  rw [List.replicate_succ']
/-- the reading of an empty display as it stands -/
def tEmp : TE := fun _ H Q => ∀ p, H p = none → Q (.ref p) (upd H p (.lst []))
theorem t_rows {it : MI} {i : Nat} : ∀ σ H Q, tE K W (mRows it) σ H Q → tLc (tI K W it) (gName i) tYes tEmp [i] σ H Q := fun σ H Q ⟨F, S, ρ, s, A, w, sr, h⟩ => by
  refine ⟨F, S, ρ, s, A, w, sr, ?_⟩
  unfold mRows at h
  cases e : it s A with
  | bad => rw [e] at h; exact h
  | exn x A1 => rw [e] at h; exact h
  | ok xs A1 =>
    rw [e] at h
    dsimp only [Res.bind] at h
    intro S1 ρ1 H1 J l1 w1 itok Dd hD
    by_cases hx : xs.length ≤ 1000
    · rw [if_pos hx] at h
      have hfD : F Dd = none := none_sub w1.fsub hD
      refine ⟨fun k m H' => ∃ S' ρ' vsa, Le S1 ρ1 S' ρ' ∧ Wo K (upd F Dd (.lst vsa)) S' ρ' H' (A1 ++ List.replicate k (.lst [])) ∧ Paired (fun j v => ∃ b, v = V.ref b ∧ ρ'[j]? = some b) ((List.range k).map fun i => A1.length + i) vsa ∧ m = xs.length - k ∧ k ≤ xs.length,
        ⟨xs.length, S1, ρ1, [], Le.refl _ _, by rw [List.replicate_zero, List.append_nil]; exact w1.frame0 hD, .nil, rfl, Nat.zero_le _⟩, ?_⟩
      rintro k m H2 ⟨S2, ρ2, vsa, l2, w2, qa, rfl, hk⟩
      have hlen2 : ρ2.length = A1.length + k := by
        rw [w2.len, List.length_append, List.length_replicate]
      by_cases hlt : k < xs.length
      · right
        have ex : xs[k]? = some xs[k] := List.getElem?_eq_getElem hlt
        refine ⟨(itok F).go k H2 _ (l2.ex.trans w2.sub) ((Ex.new hfD).trans w2.fsub) ex, fun H' => ∃ S' ρ' vsa, Le S1 ρ1 S' ρ' ∧ Wo K (upd F Dd (.lst vsa)) S' ρ' H' (A1 ++ List.replicate (k + 1) (.lst [])) ∧ Paired (fun j v => ∃ b, v = V.ref b ∧ ρ'[j]? = some b) ((List.range (k + 1)).map fun i => A1.length + i) vsa,
          fun H' ⟨S', ρ', v', a1, a2, a3⟩ => ⟨xs.length - (k + 1), by omega, S', ρ', v', a1, a2, a3, rfl, hlt⟩, fun x H' y => ?_⟩
        obtain ⟨S3, gr, q3⟩ := (itok F).yld k S2 H2 x H' xs[k] l2.ex w2.sub ((Ex.new hfD).trans w2.fsub) y ex
        have w3 := w2.grow gr
        refine ⟨?_, ?_⟩
        · exact (wipe_set (us := [i]) (by simp)).trans (wipe_idem σ [i])
        unfold tYes
        dsimp only
        rw [if_pos rfl]
        intro p hp
        have hpD : Dd ≠ p := by
          rintro rfl
          rw [w3.fsub Dd _ upd_same] at hp
          cases hp
        have g := Grow.side (o := HO.lst []) w3.sub hp
        have fr := w3.fresh hp
        have w5 := (w3.grow g).alloc fr upd_same (.nil : DqAll K S3 [] [])
        refine ⟨vsa, ?_, ?_, S3, ρ2 ++ [p], vsa ++ [.ref p], (l2.trans (gr.le ρ2)).trans ⟨Ex.refl _, Pre.snoc ρ2 p⟩, ?_, ?_⟩
        · rw [upd_ne hpD]
          exact w3.fsub Dd _ upd_same
        · have hl := Paired.length qa
          rw [List.length_map, List.length_range] at hl
          rw [← hl]
          exact Nat.lt_of_lt_of_le (by omega : k < 100000) (small_line (Nat.le_refl _))
        · rw [replicate_snoc, ← List.append_assoc]
          exact w5.frame
        · rw [List.range_succ, List.map_append]
          refine paired_snoc (Paired.mapP qa fun j v ⟨b, z1, z2⟩ => ⟨b, z1, (Pre.snoc ρ2 p).get z2⟩) ⟨p, rfl, ?_⟩
          show (ρ2 ++ [p])[A1.length + k]? = some p
          rw [List.getElem?_append_right (by omega), hlen2, Nat.sub_self]
          rfl
      · left
        have hi2 : xs.length ≤ k := Nat.le_of_not_lt hlt
        have hk' : k = xs.length := by omega
        subst hk'
        obtain ⟨w4, fr, hp⟩ := w2.unframe hfD
        refine ⟨(itok F).stop _ H2 (l2.ex.trans w2.sub) ((Ex.new hfD).trans w2.fsub) hi2, ?_⟩
        have w5 := w4.allocR fr hp qa
        refine h S2 (ρ2 ++ [Dd]) H2 (.ref Dd) ((l1.trans l2).trans ⟨Ex.refl _, Pre.snoc ρ2 Dd⟩) w5 ⟨Dd, rfl, ?_⟩
        rw [← hlen2, List.getElem?_append_right (Nat.le_refl _), Nat.sub_self]
        rfl
    · rw [if_neg hx] at h
      exact h.elim
end
section
variable {X : Cx} {W : WX}
theorem xe_rows {iter : Expr} {scope : Scope} {nm : Str} {i : Nat} {pos p1 p2 : Pos} {it : MI} (hc : X.calm = true) (hN : X.N.Nodup) (hi : PI X (.Name nm p1) iter (tI X.K W it)) (ok : BlkOk X.N X.env.scope scope [(nm, i)])
    (hg : ∀ (s : Shared) (H : Hp) (C : Addr) (cl : List (Str × Addr)) (fp : List Addr), PG (X.blk s H scope (compEnvC scope cl C X.env) fp) (.Name nm p1) (gName i)) (hs : ∀ x, foldedSetIterable iter X.env x = pure x := by intro _; rfl) :
    PE X (.ListComp (.List [] p2) [⟨.Name nm p1, iter, [], 0⟩] scope pos) (tE X.K W (mRows it)) :=
  pe_imp (pe_lc (own := [(nm, i)]) hc hN hi ok hg (fun _ _ _ _ _ => pts_nil) (te := tEmp) (fun s H C cl fp => pe_imp (pe_lst pa_nil) fun σ H Q h => ⟨Nat.zero_le _, h⟩) hs) t_rows
theorem xs_setRows {k : Nat} {y : Str} {py spos : Pos} {iter : Expr} {scope : Scope} {nm : Str} {i : Nat} {pos p1 p2 : Pos} {it : MI} (hc : X.calm = true) (hN : X.N.Nodup) (hy : X.N[k]? = some y) (hyl : X.env.scope.names.lookup y = some .local)
    (hsw : swapsWith (.ListComp (.List [] p2) [⟨.Name nm p1, iter, [], 0⟩] scope pos) (some (.Name y py)) spos.line X.env = pure true) (hi : PI X (.Name nm p1) iter (tI X.K W it)) (ok : BlkOk X.N X.env.scope scope [(nm, i)])
    (hg : ∀ (s : Shared) (H : Hp) (C : Addr) (cl : List (Str × Addr)) (fp : List Addr), PG (X.blk s H scope (compEnvC scope cl C X.env) fp) (.Name nm p1) (gName i)) (hs : ∀ x, foldedSetIterable iter X.env x = pure x := by intro _; rfl) :
    PS X (.Assign [.Name y py] (.ListComp (.List [] p2) [⟨.Name nm p1, iter, [], 0⟩] scope pos) spos) (tS X.K W (sLet k (mRows it))) :=
  ps_imp (ps_setLc (own := [(nm, i)]) hc hN hy hyl hsw hi ok hg (fun _ _ _ _ _ => pts_nil) (te := tEmp) (fun s H C cl fp => pe_imp (pe_lst pa_nil) fun σ H Q h => ⟨Nat.zero_le _, h⟩) hs) fun D σ H q => t_rows σ H _ (t_let D σ H q)
/-- rows[i] -/
def ixR (a b : D) (A : Arn) : Option (D × Arn) := match a, b with
  | .ref n, .p (.int i) => match A[n]? with
    | some (.refs ns) => (atI ns i).map fun m => (.ref m, A)
    | _ => none
  | _, _ => none
theorem pairedGet {α β : Type} {R : α → β → Prop} : ∀ {xs : List α} {ys : List β} {i : Nat} {a : α}, Paired R xs ys → xs[i]? = some a → ∃ b, ys[i]? = some b ∧ R a b
  | _, _, _, _, .nil, e => by simp at e
  | _, _, 0, _, .cons r _, e => by simp at e; subst e; exact ⟨_, rfl, r⟩
  | _, _, i + 1, _, .cons _ t, e => by
    obtain ⟨b, h1, h2⟩ := pairedGet (i := i) t (by simpa using e)
    exact ⟨b, by simpa using h1, h2⟩
theorem xe_ixR {a b : Expr} {ma mb : ME} {pos : Pos} (ha : PE X a (tE X.K W ma)) (hb : PE X b (tE X.K W mb)) (hs : PlainIx b) : PE X (.Subscript a b pos) (tE X.K W (mOp2 ixR ma mb)) := by
  refine pe_imp (pe_ix (r := rM2 X.K ixR) ?_ ha hb hs) t_op2
  intro value slice pins s σ H x y v u Q I rx ry ⟨F, S, ρ, A, a, b, c, A', w, r, r2, e, q⟩ hs
  unfold ixR at e
  split at e
  · split at e
    · rename_i ns hA
      rename_i n i _
      cases ea : atI ns i with
      | none => rw [ea] at e; cases e
      | some m =>
        rw [ea] at e
        cases e
        obtain ⟨p, rfl, hp⟩ := r
        obtain ⟨p', vs, h1, h2, h3, h4⟩ := w.refs _ ns hA
        rw [hp] at h1
        cases h1
        cases (show Dq X.K S y (.int i) from r2)
        have hl := Paired.length h4
        unfold atI at ea
        cases ej : ixN ns.length i with
        | none => rw [ej] at ea; cases ea
        | some j =>
          rw [ej] at ea
          obtain ⟨bv, g1, bb, g2, g3⟩ := pairedGet h4 ea
          refine ix_list value slice pins s σ H _ _ v u Q I rx ry ⟨p, vs, i, bv, rfl, rfl, .inl (.inl h3), ?_, q S ρ H bv (Le.refl _ _) w ⟨bb, g2, g3⟩⟩ hs
          unfold atI
          rw [← hl, ej]
          exact g1
    · cases e
  · cases e

/-! ### the rows made still -/
def frzN (m : Nat) (A : Arn) : Option (PyData × Arn) := match A[m]? with
  | some (.lst xs) => some (.list xs, A.set m .gone)
  | _ => none
def frzNs : List Nat → Arn → Option (List PyData × Arn)
  | [], A => some ([], A)
  | m :: ms, A => (frzN m A).bind fun x => (frzNs ms x.2).map fun xs => (x.1 :: xs.1, xs.2)
def mStill (m : ME) : ME := fun s A => (m s A).bind fun d A1 => match d with
  | .ref n => (match A1[n]? with
    | some (.refs ns) => opt1 ((frzNs ns A1).bind fun x => match x.2[n]? with
      | some (.refs ms) => if ms = ns then some (.p (.list x.1), x.2.set n .gone) else none
      | _ => none)
    | _ => .bad)
  | d => .ok d A1
theorem Wo.leaveR {K : PySem.W.Frag} {F S H : Hp} {ρ : List Addr} {A : Arn} (w : Wo K F S ρ H A) {n : Nat} {o : O} {a : Addr} (e : A[n]? = some o) (ne : o ≠ .gone) (ha : ρ[n]? = some a) : Wo K F S ρ H (A.set n .gone) ∧ Fresh F S ρ (A.set n .gone) a := by
  have hlt : n < A.length := (List.getElem?_eq_some_iff.mp e).1
  obtain ⟨a', vs', h1, h2, h3, h4⟩ := w.live e ne
  rw [ha] at h1
  cases h1
  have nx : ∀ {m : Nat} {u : O}, (A.set n .gone)[m]? = some u → u ≠ .gone → m ≠ n ∧ A[m]? = some u := fun {m u} z nz => by
    by_cases hi : m = n
    · subst hi
      rw [List.getElem?_set_self hlt] at z
      cases z
      exact absurd rfl nz
    · rw [List.getElem?_set_ne (Ne.symm hi)] at z; exact ⟨hi, z⟩
  refine ⟨⟨w.sub, w.fsub, w.fdis, fun m o b q nq g => w.flive m o b (nx q nq).2 nq g, by rw [List.length_set]; exact w.len, fun m ys q => w.lst m ys (nx q (by simp)).2, fun m ns q => w.refs m ns (nx q (by simp)).2, fun m ns q => w.dct m ns (nx q (by simp)).2, fun m ns q => w.tab m ns (nx q (by simp)).2,
    fun m k o u b q1 q2 n1 n2 r1 r2 => w.inj m k o u b (nx q1 n1).2 (nx q2 n2).2 n1 n2 r1 r2⟩, h2, h3, fun m u q nq z => ?_⟩
  obtain ⟨hm, q'⟩ := nx q nq
  exact hm (w.inj m n u _ a q' e nq ne z ha)
theorem frzNs_ok {K : PySem.W.Frag} {F H : Hp} {ρ : List Addr} : ∀ {ns : List Nat} {vs : List V} {S : Hp} {A A' : Arn} {xs : List PyData}, Wo K F S ρ H A → Paired (fun m v => ∃ b, v = V.ref b ∧ ρ[m]? = some b) ns vs → frzNs ns A = some (xs, A') →
    ∃ S', Le S ρ S' ρ ∧ Wo K F S' ρ H A' ∧ DqAll K S' vs xs
  | [], vs, S, A, A', xs, w, r, e => by
    cases r
    cases e
    exact ⟨S, Le.refl _ _, w, .nil⟩
  | m :: ms, vs, S, A, A', xs, w, r, e => by
    cases r with
    | cons r1 r2 =>
      unfold frzNs at e
      cases e1 : frzN m A with
      | none => rw [e1] at e; cases e
      | some p =>
        rw [e1] at e
        obtain ⟨x, A1⟩ := p
        dsimp only [Option.bind_some] at e
        unfold frzN at e1
        split at e1
        · rename_i ys hA
          cases e1
          obtain ⟨S1, a, l1, w1, ha, q1⟩ := w.freeze hA
          obtain ⟨b, rfl, hb⟩ := r1
          rw [ha] at hb
          cases hb
          cases e2 : frzNs ms (A.set m .gone) with
          | none => rw [e2] at e; cases e
          | some p2 =>
            rw [e2] at e
            obtain ⟨zs, A2⟩ := p2
            cases e
            obtain ⟨S2, l2, w2, q2⟩ := frzNs_ok w1 r2 e2
            exact ⟨S2, l1.trans l2, w2, .cons (Dq.mono l2.ex _ _ q1) q2⟩
        · cases e1
theorem xe_still {e : Expr} {m : ME} (h : PE X e (tE X.K W m)) : PE X e (tE X.K W (mStill m)) := pe_imp h fun σ H Q ⟨F, S, ρ, s, A, w, sr, h⟩ => ⟨F, S, ρ, s, A, w, sr, (EndG.bind h).imp fun x H1 ⟨S1, ρ1, A1, d, l1, w1, r1, h1⟩ => by
    cases d with
    | p d => exact EndG.ok h1 w1 r1
    | scr d => exact EndG.ok h1 w1 r1
    | ref n =>
      dsimp only at h1
      split at h1
      · rename_i ns hA
        obtain ⟨p, rfl, hp⟩ := r1
        obtain ⟨p', vs, g1, g2, g3, g4⟩ := w1.refs n ns hA
        rw [hp] at g1
        cases g1
        cases ef : frzNs ns A1 with
        | none => rw [ef] at h1; exact h1.elim
        | some q =>
          obtain ⟨xs, A2⟩ := q
          rw [ef] at h1
          dsimp only [Option.bind_some] at h1
          obtain ⟨S2, l2, w2, q2⟩ := frzNs_ok w1 g4 ef
          split at h1
          · rename_i ms hA2
            split at h1
            · obtain ⟨w3, fr⟩ := w2.leaveR hA2 (by simp) hp
              have w4 := w3.still fr g3
              have ex := Ex.new (o := HO.lst vs) fr.s
              exact h1 _ ρ1 H1 _ (l2.trans ⟨ex, Pre.refl ρ1⟩) w4 (.lst upd_same (DqAll.mono ex _ _ q2))
            · exact h1.elim
          · exact h1.elim
      · exact h1.elim⟩
end
end Mi
end

section
set_option maxHeartbeats 4000000
/-! MiM: truths as values, the empty dict, lists handed back to be changed, the law's end. -/
namespace Mi
open PySem PySem.Spec PyProof.Rows L2
open Evl (Ex)

section
variable {K : PySem.W.Frag} {W : WX}
def asB (d : D) : Option Bool := match d with
  | .p (.bool b) => some b
  | _ => none
theorem asB_ok {S : Hp} {ρ : List Addr} {d : D} {v : V} {b : Bool} (h : asB d = some b) (r : RD K S ρ d v) : v = .bl b ∧ d = .p (.bool b) := by
  unfold asB at h
  split at h
  · cases h
    cases (show Dq K S v (.bool b) from r)
    exact ⟨rfl, rfl⟩
  · cases h
def withB {α : Type} (d : D) (A : Arn) (f : Bool → Arn → Res α) : Res α := match asB d with
  | some b => f b A
  | none => .bad
def mOrV (m k : ME) : ME := fun s A => (m s A).bind fun a A1 => withB a A1 fun b A2 => if b = true then .ok (.p (.bool true)) A2 else k s A2
def mAndV (m k : ME) : ME := fun s A => (m s A).bind fun a A1 => withB a A1 fun b A2 => if b = true then k s A2 else .ok (.p (.bool false)) A2
def mNotV (m : ME) : ME := fun s A => (m s A).bind fun a A1 => withB a A1 fun b A2 => .ok (.p (.bool (!b))) A2
theorem t_orV {m k : ME} : ∀ σ H Q, tE K W (mOrV m k) σ H Q → tOrV (tE K W m) (tE K W k) σ H Q := fun σ H Q ⟨F, S, ρ, s, A, w, sr, h⟩ => ⟨F, S, ρ, s, A, w, sr, (EndG.bind h).imp fun x H1 ⟨S1, ρ1, A1, a, l1, w1, r1, h1⟩ => by
    unfold withB at h1
    cases e : asB a with
    | none => rw [e] at h1; exact h1.elim
    | some b =>
      rw [e] at h1
      obtain ⟨rfl, _⟩ := asB_ok e r1
      refine ⟨b, rfl, ?_⟩
      cases b with
      | true => exact EndG.ok h1 w1 (.bl true)
      | false => exact ⟨F, S1, ρ1, s, A1, w1, sr.mono l1, h1⟩⟩
theorem t_andV2 {m k : ME} : ∀ σ H Q, tE K W (mAndV m k) σ H Q → tAndV (tE K W m) (tE K W k) σ H Q := fun σ H Q ⟨F, S, ρ, s, A, w, sr, h⟩ => ⟨F, S, ρ, s, A, w, sr, (EndG.bind h).imp fun x H1 ⟨S1, ρ1, A1, a, l1, w1, r1, h1⟩ => by
    unfold withB at h1
    cases e : asB a with
    | none => rw [e] at h1; exact h1.elim
    | some b =>
      rw [e] at h1
      obtain ⟨rfl, _⟩ := asB_ok e r1
      refine ⟨b, rfl, ?_⟩
      cases b with
      | false => exact EndG.ok h1 w1 (.bl false)
      | true => exact ⟨F, S1, ρ1, s, A1, w1, sr.mono l1, h1⟩⟩
theorem t_notV {m : ME} : ∀ σ H Q, tE K W (mNotV m) σ H Q → tNotV (tE K W m) σ H Q := fun σ H Q ⟨F, S, ρ, s, A, w, sr, h⟩ => ⟨F, S, ρ, s, A, w, sr, (EndG.bind h).imp fun x H1 ⟨S1, ρ1, A1, a, l1, w1, r1, h1⟩ => by
    unfold withB at h1
    cases e : asB a with
    | none => rw [e] at h1; exact h1.elim
    | some b =>
      rw [e] at h1
      obtain ⟨rfl, _⟩ := asB_ok e r1
      exact ⟨b, rfl, EndG.ok h1 w1 (.bl _)⟩⟩
end
section
variable {X : Cx} {W : WX} {a b : Expr} {m k : ME} {pos : Pos} {rest : List Expr}
theorem xe_one {op} (h : PE X a (tE X.K W m)) : PE X (.BoolOp op [a] pos) (tE X.K W m) := pe_one h
theorem xe_and (ha : PE X a (tE X.K W m)) (hb : PE X (.BoolOp .And (b :: rest) pos) (tE X.K W k)) : PE X (.BoolOp .And (a :: b :: rest) pos) (tE X.K W (mAndV m k)) := pe_imp (pe_and ha hb) t_andV2
theorem xe_or (ha : PE X a (tE X.K W m)) (hb : PE X (.BoolOp .Or (b :: rest) pos) (tE X.K W k)) : PE X (.BoolOp .Or (a :: b :: rest) pos) (tE X.K W (mOrV m k)) := pe_imp (pe_or ha hb) t_orV
theorem xe_not (ha : PE X a (tE X.K W m)) : PE X (.UnaryOp .Not a pos) (tE X.K W (mNotV m)) := pe_imp (pe_not ha) t_notV
theorem xe_dict : PE X (.Dict [] [] pos) (tE X.K W (mC (.dict []))) := pe_imp pe_dnewK fun σ H Q ⟨F, S, ρ, s, A, w, sr, h⟩ p hp => by
  have g := Grow.upd (o := HO.dK []) w.sub hp
  exact h _ ρ _ _ (g.le ρ) (w.grow g) (.dic upd_same)
theorem xe_glob {x : Str} {v : V} {u : Value} {d : PyData} (hg : Gl X x) (hm : X.mg x = some u) (r : RelV v u) (q : ∀ S, Dq X.K S v d) (hd : (x == ("__debug__" : Str)) = false := by decide) : PE X (.Name x pos) (tE X.K W (mC d)) := xe_c (pe_glob hg hm r hd) q
/-! slices of any kind by value -/
def fSlA (d : PyData) (lo hi : Option Int) : Option PyData := match d with
  | .list xs => some (.list (cutD' xs lo hi))
  | d => fSl d lo hi
def mSlA (m : ME) (k l : MP) : ME := fun s A => (m s A).bind fun d A1 => (k s A1).bind fun lo A2 => (l s A2).bind fun hi A3 => opt1 ((dataOf d A3).bind fun x => (fSlA x lo hi).map fun z => (.p z, A3))
def rSlX (K : PySem.W.Frag) : V → Option Int → Option Int → Hp → VK → Prop := fun x lo hi H Q => ∃ S d z, Ex S H ∧ Vw K S H x d ∧ fSlA d lo hi = some z ∧ Gives K S H z Q
theorem s_any : SlR X (rSlX X.K) := by
  intro pins s σ H x v vl vu lo hi sl Q I rx hs pl pu ⟨S, d, z, ex, v1, hf, q⟩
  unfold fSlA at hf
  split at hf
  · cases hf
    exact s_lst pins s σ H x v vl vu lo hi sl Q I rx hs pl pu ⟨S, _, _, ex, v1, rfl, fun S' H' p vs g hn hsn hp qa => by
      have w : Ex S' (L2.upd S' p (.lst vs)) := Ex.new hsn
      refine q (L2.upd S' p (.lst vs)) H' (.ref p) ⟨g.ex.trans w, g.exH, fun a u e => ?_, fun a z => ?_⟩ (.lst upd_same (DqAll.mono w _ _ qa))
      · by_cases h : a = p
        · subst h; rw [upd_same] at e; cases e; exact hp
        · rw [upd_ne h] at e; exact g.sub a u e
      · by_cases h : a = p
        · subst h; exact .inr hn
        · rw [upd_ne h] at z; exact g.new a z⟩
  · exact s_val pins s σ H x v vl vu lo hi sl Q I rx hs pl pu ⟨S, _, _, ex, v1, hf, q⟩
theorem xe_slA {e : Expr} {lo hi : Option Expr} {ma : ME} {k l : MP} {p2 : Pos} (ha : PE X e (tE X.K W ma)) (hl : PO X lo (tP X.K W k)) (hu : PO X hi (tP X.K W l)) : PE X (.Subscript e (.Slice lo hi none p2) pos) (tE X.K W (mSlA ma k l)) :=
  pe_imp (pe_slice s_any ha hl hu) fun σ H Q ⟨F, S, ρ, s, A, w, sr, h⟩ => ⟨F, S, ρ, s, A, w, sr, (EndG.bind h).imp fun x H1 ⟨S1, ρ1, A1, d, l1, w1, r1, h1⟩ => ⟨F, S1, ρ1, s, A1, w1, sr.mono l1, (EndG.bind h1).imp fun lo' H2 ⟨S2, ρ2, A2, lo2, l2, w2, r2, h2⟩ =>
    ⟨F, S2, ρ2, s, A2, w2, sr.mono (l1.trans l2), (EndG.bind h2).imp fun hi' H3 ⟨S3, ρ3, A3, hi2, l3, w3, r3, h3⟩ => by
      subst r2 r3
      cases e1 : dataOf d A3 with
      | none => rw [e1] at h3; exact h3.elim
      | some y =>
        rw [e1] at h3
        dsimp only [Option.bind_some] at h3
        cases e2 : fSlA y lo2 hi2 with
        | none => rw [e2] at h3; exact h3.elim
        | some z =>
          rw [e2] at h3
          exact ⟨S3, y, z, w3.sub, vw_of w3 (r1.mono (l2.trans l3)) e1, e2, .of w3 h3⟩⟩⟩⟩
end

/-! ### a def that hands back a list to be changed -/
def closeK (n : Nat) (d : D) (A : Arn) : Res D := if below n (A.take n) = true then (match d with
  | .ref m => if m < n then .bad else (match A[m]? with
    | some (.lst xs) => .ok (.ref n) (A.take n ++ [.lst xs])
    | _ => .bad)
  | _ => .bad) else .bad
def finishK (n : Nat) (o : Out) : Res D := match o with
  | .rt d A => closeK n d A
  | _ => .bad
def defK (names : Nat) (body : MS) : MF := fun ds A => finishK A.length (body (ds.map some ++ List.replicate (names - ds.length) none) A)
section
variable {K : PySem.W.Frag} {F S S' H H' : Hp} {ρ ρ' : List Addr} {A A' : Arn}
theorem closeK_ok {d v : D} {x : V} (l : Le S ρ S' ρ') (w : Wo K F S' ρ' H A) (r : RD K S' ρ' d x) (e : closeK ρ.length d A = .ok v A') : ∃ S2 ρ2, Le S ρ S2 ρ2 ∧ Wo K F S2 ρ2 H A' ∧ RD K S2 ρ2 v x := by
  unfold closeK at e
  split at e
  · rename_i hb
    have w1 := w.drop l.pre hb
    split at e
    · rename_i m
      by_cases hm : m < ρ.length
      · rw [if_pos hm] at e
        cases e
      · rw [if_neg hm] at e
        split at e
        · rename_i xs hx
          cases e
          obtain ⟨a, vs, h1, h2, h3, h4⟩ := w.lst m xs hx
          obtain ⟨b, rfl, hb2⟩ := r
          rw [h1] at hb2
          cases hb2
          have fr : Fresh F S' ρ (A.take ρ.length) a := by
            refine ⟨h2, w.flive m _ a hx (by simp) h1, fun n o en no z => ?_⟩
            have hn : n < ρ.length := (List.getElem?_eq_some_iff.mp z).1
            rw [List.getElem?_take_of_lt hn] at en
            have := w.inj n m o _ a en hx no (by simp) (l.pre.get z) h1
            omega
          refine ⟨S', ρ ++ [a], ⟨l.ex, Pre.snoc ρ a⟩, w1.alloc fr h3 h4, a, rfl, ?_⟩
          rw [List.getElem?_append_right (Nat.le_refl _), Nat.sub_self]
          rfl
        · cases e
    · cases e
  · cases e
theorem defK_body {N ps : List Str} {body : MS} {sc : Scope} {vs : List V} {Q : VK} {E : XK} (Sc : FnScope N ps sc) (h : spM K ps.length (defK N.length body) vs H Q E) : tS K (fun c d _ H => E c d H) body { nx := fun _ H' => Q .non H', rt := Q } (start N vs) H := by
  obtain ⟨F, S, ρ, Ar, ds, hd, r, wo, h⟩ := h
  have hl : ps.length ≤ N.length := by
    have := congrArg List.length Sc.pre
    rw [List.length_take] at this
    omega
  have hvs : vs.length = ps.length := by rw [← Paired.length r, hd]
  refine ⟨F, S, ρ, ds.map some ++ List.replicate (N.length - ds.length) none, Ar, wo, SR.start r (by omega), ?_⟩
  unfold defK at h
  rw [← wo.len] at h
  cases e : body (ds.map some ++ List.replicate (N.length - ds.length) none) Ar with
  | rt d A' =>
    rw [e] at h
    intro S' ρ' H' x l w' rr
    unfold finishK at h
    dsimp only at h
    cases ec : closeK ρ.length d A' with
    | bad => rw [ec] at h; exact h.elim
    | exn x A2 =>
      unfold closeK at ec
      split at ec
      · split at ec
        · split at ec
          · cases ec
          · split at ec <;> cases ec
        · cases ec
      · cases ec
    | ok v A2 =>
      rw [ec] at h
      obtain ⟨S2, ρ2, l2, w2, r2⟩ := closeK_ok l w' rr ec
      exact h S2 ρ2 H' x l2 w2 r2
  | nx s' A' => rw [e] at h; exact h.elim
  | exn x A' => rw [e] at h; exact h.elim
  | bk s' A' => rw [e] at h; exact h.elim
  | ct s' A' => rw [e] at h; exact h.elim
  | bad => rw [e] at h; exact h.elim
end
section
variable {P : Program} {w : World} {K : PySem.W.Frag} {mg : Str → Option Value} {base : Heap}
theorem defK_ok {x qual : Str} {st : Stmt} {f : Addr} {fd : FuncData} {N ps : List Str} {k : Nat} {body : MS} (Fu : Fun K x qual st f fd) (Sc : FnScope N ps (defScope st))
    (hbody : ∀ (cdv : Value) (A : Around) (outer : List Env) (s : Shared) (H : Hp) (E : XK), A.guards = some [] → Room k (A.deeper (envOfC qual (defScope st) s.heap.objs.size f cdv)) →
      PSs (cxOf (L2.CX P w) P w K mg base N qual (defScope st) f cdv A outer s H E) (defBody st) (tS K (fun c d _ H => E c d H) body)) :
    FnG P w K mg base (k + 1) f fd ps (defK N.length body) := by
  obtain ⟨oc, od, kV, doc, pm, an, cdv, ct, osl, rfl, lk, hcd⟩ := Fu.ex
  refine ⟨fun A outer s H args us vs Q E gd hr e0 hb r hsp => ?_⟩
  have room := hr.deeper (envOfC qual (defScope st) s.heap.objs.size f cdv)
  have bs : ∀ b o, base.get? b = some o → s.heap.get? b = some o := fun b o e => (e0.bs b o e).1
  have hin : K.In s.heap := e0.mod.kin.keeps bs
  have nolim : s.heap.NoLimit := e0.mod.nolimit.keeps bs
  refine codeAny_call_function hr.depth (hin _ _ lk) rfl Sc.co Sc.gen rfl (PySem.W.codeRec_of hin hcd) (hb _ _ _ _ (wpAny_newFunctionEnv_cells Sc.kind ?_ ?_))
  · rintro ⟨y, v⟩ hy
    have hy' := (List.of_mem_zip hy).1
    exact (Sc.par y hy').imp id fun q => ⟨q, PySem.W.cellsFrom_some _ _ _ (.inl q)⟩
  · rintro env he s1 x
    subst he
    refine ⟨nolim.keeps x.toInCall.keep, codeAny_func ?_⟩
    have I := inv_start (CX := L2.CX P w) (E := E) Sc hr.hd e0 (spM_len vs H Q E hsp) r x
    refine wpAny_mono ((hbody cdv A outer s H E gd room).run [] s1 (start N vs) H _ I (defK_body Sc hsp)) (fun fl s' hs => ?_) fun _ _ q => q
    cases fl with
    | ret u =>
      obtain ⟨v, _, H', J, rv, q⟩ := hs
      exact ⟨v, H', J.os, J.bare, J.base, J.hok, rv, q⟩
    | next =>
      obtain ⟨_, H', J, q⟩ := hs
      exact ⟨.non, H', J.os, J.bare, J.base, J.hok, rfl, q⟩
    | brk =>
      obtain ⟨_, _, _, q⟩ := hs
      exact q.elim
    | cont =>
      obtain ⟨_, _, _, q⟩ := hs
      exact q.elim
end

/-! ### the law's end -/
theorem law_end {P : Program} {w : World} {K : PySem.W.Frag} {mg mb : Str → Option Value} {k : Nat} {fa a : Addr} {fd : FuncData} {x : Str} {fm : MF} {s₁ : Shared} {vs : List Value} {ns : List Int}
    (KX : K.In s₁.heap) (hns : s₁.heap.Ns mainGlobals mg) (hb : s₁.heap.Ns builtinsNs mb) (hbb : ∀ x : Str, x ≠ "__name__" → mb x = bootBuiltins x) (hlim : s₁.heap.NoLimit) (hg : s₁.gens = #[])
    (ha : s₁.heap.get? a = some { cls := .type "list", data := .seq vs.toArray }) (hi : IntsAre vs ns) (hl : ns.length ≤ sizeLine) (hr : Room k callerA)
    (F : ∀ base : Heap, K.In base → base.Ns mainGlobals mg → FnG P w K mg base k fa fd [x] fm) (hbind : ∀ (s : Shared) (u : Value), BindsTo s fd ⟨[u], []⟩ [(x, u)])
    (hm : ∃ A', fm [.scr ns] [] = .ok (.p (.bool true)) A') :
    codeAny (model P w) callerA (.call (.ref fa) ⟨[.ref a], []⟩) (fun r s' => r = .ok (.ret (.bool true)) ∧ PySem.OldK s₁.heap s'.heap ∧ s'.os = s₁.os ∧ AllBare s'.gens) s₁ := by
  have rv : Vals (ns.map V.int) vs := vals_ints hi
  have go : ∀ H : Hp, (∀ b o, H b = some o → b = a ∧ o = .frz { cls := .type "list", data := .seq vs.toArray } (.lst (ns.map V.int))) → SqL K H a (ns.map V.int) → (H a ≠ none → K.lookup a = none) →
      codeAny (model P w) callerA (.call (.ref fa) ⟨[.ref a], []⟩) (fun r s' => r = .ok (.ret (.bool true)) ∧ PySem.OldK s₁.heap s'.heap ∧ s'.os = s₁.os ∧ AllBare s'.gens) s₁ := by
    intro H only hS hK
    have out : ∀ {b : Addr}, b ≠ a → H b = none := fun {b} hne => by
      cases q : H b with
      | none => rfl
      | some o => exact absurd (only b o q).1 hne
    have kept : ∀ {b : Addr} {o : Obj}, s₁.heap.get? b = some o → H b = none → (hidT s₁.heap H).get? b = some o := fun e n => hidT_get e n
    have ndict : ∀ {b : Addr} {m : Str → Option Value}, s₁.heap.Ns b m → b ≠ a := fun {b m} ⟨o, es, ep, e, d, _⟩ z => by
      rw [z, ha] at e
      cases e
      cases d
    have nsK : ∀ {b : Addr} {m : Str → Option Value}, s₁.heap.Ns b m → (hidT s₁.heap H).Ns b m := fun {b m} h => by
      obtain ⟨o, es, ep, e, d, r⟩ := id h
      exact ⟨o, es, ep, kept e (out (ndict h)), d, r⟩
    have inB : K.In (hidT s₁.heap H) := fun b o e => kept (KX b o e) (by
      cases q : H b with
      | none => rfl
      | some u =>
        obtain ⟨rfl, _⟩ := only b u q
        rw [hK (by rw [q]; simp)] at e
        cases e)
    have hok : HOk P w H s₁.heap := fun b o e => by
      obtain ⟨rfl, rfl⟩ := only b o e
      exact ⟨ha, by rw [List.length_map]; exact hl, vs, _, rv, ha⟩
    have nl : (hidT s₁.heap H).NoLimit := by
      obtain ⟨mc, h1, h2⟩ := hlim
      exact ⟨mc, nsK h1, h2⟩
    have e0 : Env0 P w K mg (hidT s₁.heap H) callerA [] s₁ H := ⟨rfl, ⟨inB, nsK hns, ⟨mb, nsK hb, hbb⟩, nl⟩, fun b o e => of_hidT e, Nat.le_of_eq (hidT_size _ _), trivial, fun b hb => (by cases hb), hok, AllBare.of_eq hg⟩
    obtain ⟨A', hfm⟩ := hm
    have hsp : spM K 1 fm [.ref a] H (fun v _ => v = .bl true) (fun _ _ _ => False) := by
      refine ⟨fun _ => none, H, [], [], [.scr ns], rfl, .cons ⟨a, rfl, hS⟩ .nil, ⟨Ex.refl H, fun b o e => (by cases e), fun b e => absurd rfl e, fun n o b e => (by simp at e), rfl, fun n xs e => (by simp at e), fun n xs e => (by simp at e), fun n xs e => (by simp at e), fun n xs e => (by simp at e), fun n m o u b e => (by simp at e)⟩, ?_⟩
      rw [hfm]
      intro S' ρ' H' x l w' r
      cases (show Dq K S' x (.bool true) from r)
      rfl
    refine codeAny_mono ((F _ inB (nsK hns)).run callerA [] s₁ H ⟨[.ref a], []⟩ [.ref a] [.ref a] _ _ rfl hr e0 (hbind s₁ (.ref a)) (.cons rfl .nil) hsp) fun r s' h => ?_
    cases r with
    | error e =>
      exfalso
      obtain ⟨_, _, _, _, _, _, _, _, _, _, _, _, z⟩ := h
      exact z.elim
    | ok fl =>
      cases fl with
      | next => exact False.elim h
      | brk => exact False.elim h
      | cont => exact False.elim h
      | ret u =>
        obtain ⟨v, H', os, bare, un, hok', r', q⟩ := h
        obtain rfl : v = .bl true := q
        obtain rfl : u = Value.bool true := r'
        refine ⟨rfl, PySem.OldK.of_keep fun b o e => ?_, os, bare⟩
        cases q : H b with
        | none => exact un.keep b o e q (fun z => by cases z) (fun z => by cases z)
        | some u =>
          obtain ⟨rfl, rfl⟩ := only b u q
          obtain ⟨e1, _⟩ := hok b _ q
          obtain ⟨e2, _⟩ := hok' b _ (un.frzs b _ _ q)
          rw [e] at e1
          rw [e1]
          exact e2
  cases hk : K.lookup a with
  | some o =>
    have e := KX a o hk
    rw [ha] at e
    cases e
    exact go (fun _ => none) (fun b o e => by cases e) (.inr ⟨_, vs.toArray, _, hk, rfl, rfl, rfl, by rw [List.size_toArray, hi.length]; exact hl, by simpa using rv⟩) fun z => absurd rfl z
  | none =>
    refine go (fun b => if b = a then some (.frz { cls := .type "list", data := .seq vs.toArray } (.lst (ns.map V.int))) else none) (fun b o e => ?_) (.inl (.inr ⟨{ cls := .type "list", data := .seq vs.toArray }, if_pos rfl⟩)) fun _ => hk
    by_cases hb : b = a
    · rw [if_pos hb] at e
      cases e
      exact ⟨hb, rfl⟩
    · rw [if_neg hb] at e
      cases e
theorem law_of {l : PySem.W.OpenLaw} {n k : Nat} {q : Program} {loose : List Str} {XP : (Str → Option Value) → Heap → Prop} {YP : World → Heap → Prop} {d : PySem.DefRec} {K : PySem.Params → PySem.W.Frag} {x : Str} {fm : MF}
    (hn : l.most = some n) (hn2 : n ≤ sizeLine) (hdf : d.params.defaults = []) (hr : Room k callerA) (hY : ∀ (w : World) (h : Heap), YP w h → (K w.params).In h)
    (F : ∀ (w : World) (mg : Str → Option Value) (fa : Addr) (h : Heap), (K w.params).In h → h.Ns mainGlobals mg → mg d.name = some (.ref fa) →
      ∃ fd : FuncData, (∀ (s : Shared) (u : Value), BindsTo s fd ⟨[u], []⟩ [(x, u)]) ∧ ∀ base : Heap, (K w.params).In base → base.Ns mainGlobals mg → FnG l.prog w (K w.params) mg base k fa fd [x] fm)
    (hm : ∀ ns : List Int, ns.length ≤ n → ∃ A', fm [.scr ns] [] = .ok (.p (.bool true)) A') : PySem.W.WalkO q loose XP YP l.row.toRowW d [] (fun f vs => PySem.call f vs) := by
  refine Att.attach_call hn hdf fun w s₀ s₁ mg mb fa o pm cd doc a vs ns G Y ho hd hcd hmg hobj hints hlen hg => ?_
  have KX := hY w _ Y
  obtain ⟨fd, hb, hF⟩ := F w mg fa _ KX G.T.g hmg
  exact law_end KX G.T.g G.T.b G.T.builtins G.T.nolimit hg hobj hints (Nat.le_trans hlen hn2) hr hF hb (hm ns hlen)
end Mi
end

section
set_option maxHeartbeats 4000000
/-! MiN: tuples turned about, texts cut at a text, numbers out of texts, texts of numbers. -/
namespace Mi
open PySem PySem.Spec PyProof.Rows L2
open Evl (Ex)

section
open HT
variable {prog : Program} {w : World} {A : Around} {E : Value → Shared → Prop} {s : Shared}
theorem adjust_rev (n : Nat) : Builtin.Slice.sliceAdjust none none (-1) (n : Int) = ((n : Int) - 1, -1) := by
  unfold Builtin.Slice.sliceAdjust
  have h1 : ((-1 : Int) < 0) := by omega
  simp only [h1, if_true]
theorem places_rev (n : Nat) : Builtin.Slice.slicePlaces ((n : Int) - 1) (-1) (-1) = n := by
  unfold Builtin.Slice.slicePlaces
  have h1 : ¬ ((-1 : Int) > 0) := by omega
  simp only [h1, if_false, Int.neg_neg, Int.ediv_one]
  split <;> omega
theorem pick_rev (xs : Array Value) : ((List.range xs.size).filterMap fun (m : Nat) => xs[(((xs.size : Int) - 1) + (m : Int) * (-1)).toNat]?).toArray = xs.toList.reverse.toArray := by
  have e : (List.range xs.size).filterMap (fun (m : Nat) => xs[(((xs.size : Int) - 1) + (m : Int) * (-1)).toNat]?) = ((List.range xs.size).map (fun k => xs.size - 1 - k)).filterMap (xs[·]?) := by
    rw [List.filterMap_map]
    have e2 : (fun (m : Nat) => xs[(((xs.size : Int) - 1) + (m : Int) * (-1)).toNat]?) = (xs[·]?) ∘ fun k => xs.size - 1 - k := by
      funext m
      have : (((xs.size : Int) - 1) + (m : Int) * (-1)).toNat = xs.size - 1 - m := by omega
      rw [this]
      rfl
    rw [e2]
  rw [e, PySem.W.krv_range, List.filterMap_reverse, PySem.W.krv_all]
theorem applied_rev {sl : Addr} {vl vu vs : Value} {n : Nat} {Q : Int × Int × Nat → Shared → Prop} (hs : s.heap.IsSliceOf sl vl vu vs) (pl : IsPart vl none) (pu : IsPart vu none) (pk : IsPart vs (some (-1)))
    (h : Q ((n : Int) - 1, -1, n) s) : wpAny (model prog w) A (Builtin.Slice.sliceApplied (.ref sl) (pure (n : Int))) Q E s := by
  obtain ⟨os, hos, hcs, hds⟩ := id hs
  unfold Builtin.Slice.sliceApplied Builtin.Slice.sliceFields
  refine wpAny_bind (wpAny_bind (wpAny_field hos hds (x := vl) rfl (wpAny_bind (wpAny_field hos hds (x := vu) rfl
    (wpAny_bind (wpAny_field hos hds (x := vs) rfl (wpAny_pure ?_)))))))
  refine wpAny_bind (slicePart_ pk ?_)
  show wpAny _ _ (if ((-1 : Int) == 0) = true then _ else _) _ _ s
  rw [if_neg (by decide)]
  refine wpAny_bind (slicePart_ pl (wpAny_bind (slicePart_ pu (wpAny_bind (wpAny_pure ?_)))))
  show wpAny _ _ (match Builtin.Slice.sliceAdjust none none (-1) (n : Int) with | (a, b) => pure (a, (-1 : Int), Builtin.Slice.slicePlaces a b (-1))) _ _ s
  rw [adjust_rev n]
  show wpAny _ _ (pure ((n : Int) - 1, (-1 : Int), Builtin.Slice.slicePlaces ((n : Int) - 1) (-1) (-1))) _ _ s
  rw [places_rev]
  exact wpAny_pure h
theorem tuple_rev {t sl : Addr} {items : Array Value} {vl vu vs : Value} {Q : Value → Shared → Prop} (ht : IsTup s.heap t items) (hs : s.heap.IsSliceOf sl vl vu vs) (pl : IsPart vl none) (pu : IsPart vu none) (pk : IsPart vs (some (-1)))
    (h : Q (.ref s.heap.objs.size) { s with heap := s.heap.push { cls := .type "tuple", data := .seq items.toList.reverse.toArray } }) (hsz : items.size ≤ sizeLine) : wpAny (model prog w) A (getItem (.ref t) (.ref sl)) Q E s := by
  have htake : sizeOk (.seq items.toList.reverse.toArray) := by
    show items.toList.reverse.toArray.size ≤ sizeLine
    rw [List.size_toArray, List.length_reverse, Array.length_toList]
    exact hsz
  obtain ⟨os, hos, hcs, hds⟩ := id hs
  have hT : s.TypeIs (.ref sl) "slice" := ⟨os, hos, hcs⟩
  unfold getItem
  (try with_reducible refine wpAny_holding ?_)
  (first | refine wpAny_bind (wpAny_pure ?_) | skip)
  refine wpAny_bind (wpAny_sequenceKey ht.typeIs (by decide) ?_)
  refine wpAny_bind (wpAny_callSpecial?_slot (name := Str.ofString "__getitem__") ht.typeIs PyProof.Rows.slot_tuple_getitem (wpAny_call_entry
    PyProof.Rows.slot_tuple_getitem ht.typeIs entry_tuple_getitem ?_ (args_tuple_getitem _ _)))
  show wpAny _ _ (Builtin.Tuple.tupleItemsOf (.ref t) >>= _) _ _ s
  refine wpAny_bind (tupleItemsOf_ ht ?_)
  refine wpAny_bind (wpAny_typeOf hT ?_)
  rw [if_pos (by decide)]
  refine wpAny_bind (applied_rev hs pl pu pk ?_)
  have hno : ¬ ((((items.size : Int) - 1) == 0 && (-1 : Int) == 1 && items.size == items.size) = true) := by
    intro q
    rw [Bool.and_eq_true, Bool.and_eq_true] at q
    exact absurd q.1.2 (by decide)
  show wpAny _ _ (if (((items.size : Int) - 1) == 0 && (-1 : Int) == 1 && items.size == items.size) = true then _ else _) _ _ s
  rw [if_neg hno, pick_rev]
  first
    | exact wpAny_bind (m := Builtin.Tuple.tupleExact _) (wpAny_newObj_type (wpAny_pure ⟨_, rfl, wpAny_pure h⟩) htake)
    | exact wpAny_bind (m := Builtin.Tuple.tupleExact _) (wpAny_newObj_type (wpAny_bind (wpAny_pure (wpAny_pure ⟨_, rfl, wpAny_pure h⟩))) htake)
    | exact wpAny_bind (wpAny_bind (m := Builtin.Tuple.tupleExact _) (wpAny_newObj_type (wpAny_pure (wpAny_pure ⟨_, rfl, wpAny_pure h⟩)) htake))
    | exact wpAny_bind (wpAny_bind (m := Builtin.Tuple.tupleExact _) (wpAny_newObj_type (wpAny_pure ⟨_, rfl, wpAny_pure h⟩) htake))
end

/-! ### xs[::-1] by value, xs a tuple -/
def fRev (d : PyData) : Option PyData := match d with
  | .tuple xs => some (.tuple xs.reverse)
  | _ => none
def mRev (m : ME) : ME := mOp1 (lift1 fRev) m
def tRevT (K : PySem.W.Frag) (te : TE) : TE := fun σ H Q => te σ H fun x H1 => ∃ a xs, x = .ref a ∧ SqT K H1 a xs ∧ ∀ p, H1 p = none → Q (.ref p) (upd H1 p (.tup xs.reverse))
section
variable {X : Cx} {W : WX}
theorem pe_revT {e : Expr} {te : TE} {k : Nat} {p1 p2 p3 pos : Pos} (he : PE X e te) : PE X (.Subscript e (.Slice none none (some (.UnaryOp .USub (.Constant (.int 1) k p1) p2)) p3) pos) (tRevT X.K te) := by
  constructor
  intro pins s σ H Q I h
  refine Subscript_ (thn (he.run pins s σ H _ I h) fun v s1 ⟨x, H1, I1, r1, q1⟩ => ?_)
  obtain ⟨a, xs, ex, hx, q⟩ := q1
  subst ex
  cases r1
  have hst : PO X (some (.UnaryOp .USub (.Constant (.int 1) k p1) p2)) (tPart (tUn (rU fun i => .int (-i)) (tC (.int 1)))) :=
    po_some (pe_un un_neg pe_int)
  refine wpAny_Slice (thn (po_none.run pins s1 σ H1 (fun o H2 => o = none ∧ H2 = H1) I1 ⟨rfl, rfl⟩)
    fun vl s2 ⟨l, H2, I2, pl, el, e2⟩ => ?_)
  subst el e2
  refine thn (po_none.run pins s2 σ H2 (fun o H3 => o = none ∧ H3 = H2) I2 ⟨rfl, rfl⟩)
    fun vu s3 ⟨u, H3, I3, pu, eu, e3⟩ => ?_
  subst eu e3
  refine thn (hst.run pins s3 σ H3 (fun o H4 => o = some (-1) ∧ H4 = H3) I3 ⟨1, rfl, -1, rfl, rfl, rfl⟩)
    fun vs s4 ⟨o, H4, I4, ps, eo, e4⟩ => ?_
  subst eo e4
  have I5 : Inv X pins σ H4 { s4 with heap := s4.heap.push { cls := .type "slice", data := .fields #[vl, vu, vs] } } :=
    I4.kept (t' := s4.toks) fun b ob q => Heap.get?_push_of_some _ q
  obtain ⟨its, r, ht, hz⟩ := I5.tuple hx
  have hlen := r.length
  show wpAny (model X.prog X.w) X.A (subscriptTail e (.Slice none none (some (.UnaryOp .USub (.Constant (.int 1) k p1) p2)) p3) (.ref a) (.ref s4.heap.objs.size)) (EP X pins σ Q) X.xe
    { s4 with heap := s4.heap.push { cls := .type "slice", data := .fields #[vl, vu, vs] } }
  refine tail_any (ops := [.ref a, .ref s4.heap.objs.size]) ht.typeIs (PyProof.Rows.slot_tuple_getitem.lookup) ?_ (by with_unfolding_all rfl)
  refine tuple_rev ht (Heap.IsSliceOf.new _ vl vu vs) pl pu ps ?_ (by rw [List.size_toArray]; omega)
  refine ⟨.ref _, _, I5.laid (t' := s4.toks) (o := .tup xs.reverse) (fun b ob q => Heap.get?_push_of_some _ q) (Nat.le_refl _) ?_, rfl, q _ (I5.hok.fresh (Nat.le_refl _))⟩
  exact ⟨by rw [List.length_reverse]; exact hz, _, r.reverse, IsTup.new _ _⟩
theorem xe_rev {a : Expr} {m : ME} {k : Nat} {p1 p2 p3 pos : Pos} (h : PE X a (tE X.K W m)) : PE X (.Subscript a (.Slice none none (some (.UnaryOp .USub (.Constant (.int 1) k p1) p2)) p3) pos) (tE X.K W (mRev m)) :=
  pe_imp (pe_revT h) fun σ H Q ⟨F, S, ρ, s, A, w, sr, h⟩ => ⟨F, S, ρ, s, A, w, sr, (EndG.bind h).imp fun x H1 ⟨S1, ρ1, A1, d, l1, w1, r1, h1⟩ => by
    obtain ⟨b, A', e, q⟩ := EndG.opt h1
    obtain ⟨S2, y, z, ex, v1, hf, g⟩ := m1_of ⟨F, S1, ρ1, A1, d, b, A', w1, r1, e, q⟩
    unfold fRev at hf
    split at hf
    · cases hf
      obtain ⟨p, vs, rfl, h0, h1, h2⟩ := v1.tup ex
      exact ⟨p, vs, rfl, h1, fun l hl => g.tup ex hl h2.reverse⟩
    · cases hf⟩

/-! ### int of a text, texts of numbers -/
def fIntT (ds : List PyData) : Option PyData := match ds with
  | [.str a] => if a.length ≤ 640 then (PySem.intText? a).map PyData.int else none
  | ds => fInt ds
theorem c_intT : CallR X (.type "int") (rPN X.K fIntT) := by
  intro pins s σ H xs us Q I r ⟨S, ds, z, ex, va, hf, q⟩
  unfold fIntT at hf
  split at hf
  · split at hf
    · rename_i c
      obtain ⟨v, rfl, v1⟩ := va.one
      obtain rfl := v1.str
      rename_i a
      cases e : PySem.intText? a with
      | none => rw [e] at hf; cases hf
      | some n =>
        rw [e] at hf
        cases hf
        exact call_int_str pins s σ H _ us Q I r ⟨_, n, rfl, e, c, q.now ex (.int _)⟩
    · cases hf
  · exact c_int pins s σ H xs us Q I r ⟨S, ds, z, ex, va, hf, q⟩
def fStr (ds : List PyData) : Option PyData := match ds with
  | [.int i] => if i.natAbs.log2 < 1920 then some (.str (toString i)) else none
  | [.str a] => some (.str a)
  | _ => none
theorem c_str : CallR X (.type "str") (rPN X.K fStr) := by
  intro pins s σ H xs us Q I r ⟨S, ds, z, ex, va, hf, q⟩
  unfold fStr at hf
  split at hf
  · split at hf
    · rename_i c
      cases hf
      obtain ⟨v, rfl, v1⟩ := va.one
      obtain rfl := v1.int
      exact call_str_int pins s σ H _ us Q I r ⟨_, rfl, c, q.now ex (.str _)⟩
    · cases hf
  · cases hf
    obtain ⟨v, rfl, v1⟩ := va.one
    obtain rfl := v1.str
    exact SkE.call_str_str pins s σ H _ us Q I r ⟨_, rfl, q.now ex (.str _)⟩
  · cases hf

/-! ### a text cut at a text -/
def lfCut (a b : PyData) : Option (List PyData) := match a, b with
  | .str a, .str b => if (b.length == 0) = false ∧ a.length ≤ 100000 then some ((Txt.split a b).map PyData.str) else none
  | _, _ => none
def lCut (m k : ME) : ML := fun s A => (m s A).bind fun a A1 => if isS a A1 = true then (k s A1).bind fun b A2 => opt0 ((dataOf a A2).bind fun x => (dataOf b A2).bind fun y => (lfCut x y).map fun z => (z, A2)) else .bad
theorem t_cut {K : PySem.W.Frag} {m k : ME} : ∀ σ H Q, tL K W (lCut m k) σ H Q → tM1 (fun x xs H Q => ∃ a b, x = .str a ∧ xs = [.str b] ∧ (b.length == 0) = false ∧ a.length + 2 ≤ sizeLine ∧ rNewStrs (Txt.split a b) H Q) (tE K W m) (tE K W k) σ H Q := fun σ H Q ⟨F, S, ρ, s, A, w, sr, h⟩ => by
  refine ⟨F, S, ρ, s, A, w, sr, ?_⟩
  unfold lCut at h
  cases e : m s A with
  | bad => rw [e] at h; exact h
  | exn x A1 => rw [e] at h; exact h
  | ok a A1 =>
    rw [e] at h
    intro S1 ρ1 H1 x l1 w1 r1
    dsimp only [Res.bind] at h
    by_cases c : isS a A1 = true
    · rw [if_pos c] at h
      have tx : ∃ z, x = .str z ∧ dataOf a A1 = some (.str z) := by
        unfold isS at c
        cases ed : dataOf a A1 with
        | none => rw [ed] at c; cases c
        | some y =>
          rw [ed] at c
          cases y with
          | str z => exact ⟨z, (vw_of w1 r1 ed).str, rfl⟩
          | none => cases c
          | bool x => cases c
          | int x => cases c
          | list x => cases c
          | tuple x => cases c
          | dict x => cases c
      obtain ⟨z, rfl, ez⟩ := tx
      refine ⟨⟨z, rfl⟩, F, S1, ρ1, s, A1, w1, sr.mono l1, ?_⟩
      cases e2 : k s A1 with
      | bad => rw [e2] at h; exact h
      | exn x A2 =>
        rw [e2] at h
        intro S2 ρ2 H2 c d l2 w2 r2
        exact h S2 ρ2 H2 c d (l1.trans l2) w2 r2
      | ok b A2 =>
        rw [e2] at h
        intro S2 ρ2 H2 y l2 w2 r2
        dsimp only [Res.bind] at h
        cases e3 : dataOf a A2 with
        | none => rw [e3] at h; exact h.elim
        | some da =>
          rw [e3] at h
          dsimp only [Option.bind_some] at h
          cases e4 : dataOf b A2 with
          | none => rw [e4] at h; exact h.elim
          | some db =>
            rw [e4] at h
            dsimp only [Option.bind_some] at h
            cases e5 : lfCut da db with
            | none => rw [e5] at h; exact h.elim
            | some zs =>
              rw [e5] at h
              have va := vw_of w2 (r1.mono l2) e3
              have vb := vw_of w2 r2 e4
              unfold lfCut at e5
              split at e5
              · rename_i b2
                split at e5
                · rename_i cc
                  cases e5
                  have ea := va.str
                  cases ea
                  obtain rfl := vb.str
                  refine ⟨_, _, rfl, rfl, cc.1, Nat.le_trans (Nat.add_le_add_right cc.2 2) (by decide), fun p hp => ?_⟩
                  have g := Grow.side (o := HO.lst ((Txt.split z b2).map V.str)) w2.sub hp
                  exact h S2 ρ2 _ p _ (l1.trans l2) (w2.grow g) (w2.fresh hp) upd_same (DqAll.strs _)
                · cases e5
              · cases e5
    · rw [if_neg c] at h; exact h.elim
theorem xl_cut {o e : Expr} {m k : ME} {apos pos : Pos} (ho : PE X o (tE X.K W m)) (he : PE X e (tE X.K W k)) (hs : starEach [e] X.env = [(false, eval e X.env)] := by rfl) (hbase : attributeBase o "split" X.env (eval o X.env) = eval o X.env := by rfl) (hline : (apos.endLine == pos.line) = true := by rfl) :
    PE X (.Call (.Attribute o "split" apos) [e] [] pos) (tL X.K W (lCut m k)) := pe_imp (pe_split ho he hs hbase hline) t_cut
end
/-! ### short forms -/
section
variable {X : Cx} {W : WX}
theorem units65 {k : Nat} {A : Around} (h : Room k A) : A.units + 65 < cLine := by
  have := h.un
  omega
/-! a call by name of two, the second first -/
def swp (f : MF) : MF := fun ds A => match ds with
  | [a, b] => f [b, a] A
  | _ => .bad
theorem spM_swp {K : PySem.W.Frag} {fm : MF} {x y : V} {H : Hp} {Q : VK} {E : XK} (h : spM K 2 (swp fm) [y, x] H Q E) : spM K 2 fm [x, y] H Q E := by
  obtain ⟨F, S, ρ, A, ds, hl, r, w, q⟩ := h
  cases r with
  | cons r1 r =>
    cases r with
    | cons r2 r =>
      cases r
      exact ⟨F, S, ρ, A, _, rfl, .cons r2 (.cons r1 .nil), w, q⟩
def SBinds (K : PySem.W.Frag) (fd : FuncData) (p1 p2 : Str) : Prop := ∀ (s : Shared) (u1 u2 : Value), K.In s.heap → BindsTo s fd ⟨[], [(p2, u2), (p1, u1)]⟩ [(p1, u1), (p2, u2)]
theorem xe_callS {k : Nat} {f : Addr} {fd : FuncData} {p1 p2 : Str} {fm : MF} {x : Str} {p pos : Pos} {m : MA} {kws : List Keyword} (F : FnG X.prog X.w X.K X.mg X.base k f fd [p1, p2] fm) (tk : Takes X W) (hgd : X.A.guards = some []) (hr : Room k X.A) (hg : Gl X x) (hm : X.mg x = some (.ref f)) (hk : PySem.W.keepIn X.K (.ref f) = true) (hb : SBinds X.K fd p1 p2) (hn : ALen m 2)
    (ha : PK X kws (tA X.K W m)) (hall : (backToKw pos (keywordEach kws X.env)).all (·.1.isSome) = true := by rfl) (hks : (backToKw pos (keywordEach kws X.env)).filterMap (·.1) = [p2, p1] := by rfl) (hdb : (x == ("__debug__" : Str)) = false := by decide)
    (hpl : ((backTo pos (starEach [] X.env)).any (·.1) || (backToKw pos (keywordEach kws X.env)).any (·.1.isNone)) = false := by rfl) :
    PE X (.Call (.Name x p) [] kws pos) (tE X.K W (mCall (swp fm) m)) := by
  constructor
  intro pins s σ H Q I h
  have h' := t_call (swp fm) hn σ H Q h
  refine wpAny_Call_Name_kw (ld_glob I hg hm ?_ hdb)
  refine PySem.W.callWith_KW0 (h₀ := X.base) I.ok.mod.kin hk hall (thn (ha.run pos pins s σ H _ I h') fun us s1 ⟨vs, H1, I1, r, q⟩ => ⟨I1.kIn, wpAny_call ?_⟩) hpl
  rw [hks]
  have hl : vs.length = 2 := spM_len _ _ _ _ q
  obtain ⟨y, x', rfl⟩ : ∃ y x', vs = [y, x'] := by
    cases vs with
    | nil => cases hl
    | cons y vs =>
      cases vs with
      | nil => cases hl
      | cons x' vs =>
        cases vs with
        | nil => exact ⟨y, x', rfl⟩
        | cons z vs => simp at hl
  obtain ⟨u1, u2, rfl, r1, r2⟩ := vals2 r
  have b := hb s1 u2 u1 I1.kIn
  have q2 := spM_swp q
  exact run_own (ps := [p1, p2]) (us := [u2, u1]) (vs := [x', y]) F tk hgd hr I1 b (.cons r2 (.cons r1 .nil)) q2
theorem xv (i : Nat) {x : Str} {pos : Pos} (hN : X.N[i]? = some x := by rfl) (hv : Vis X.env.scope x := by first | exact Or.inl rfl | exact Or.inr (Or.inl rfl) | exact Or.inr (Or.inr rfl)) (hd : (x == ("__debug__" : Str)) = false := by decide) (hcd : (x == ("__classdict__" : Str)) = false := by decide) : PE X (.Name x pos) (tE X.K W (mVar i)) := xe_var hN hv hd hcd
theorem pgv (i : Nat) {x : Str} {pos : Pos} (hN : X.N.Nodup) (hi : X.N[i]? = some x := by rfl) (hx : Loc X.env.scope x := by first | exact Or.inl rfl | exact Or.inr rfl) (hf : X.fn x = true ∨ X.env.scope.names.lookup x = some .local := by first | exact .inl rfl | exact .inr rfl | assumption) : PG X (.Name x pos) (gName i) := pg_name hN hi hx hf
theorem xs_letv (i : Nat) {a : Expr} {ma : ME} {pos : Pos} {x : Str} {p' : Pos} (hN : X.N.Nodup) (he : PE X a (tE X.K W ma)) (hi : X.N[i]? = some x := by rfl) (hx : Loc X.env.scope x := by first | exact Or.inl rfl | exact Or.inr rfl) (hs : swapsWith a (some (.Name x p')) pos.line X.env = pure false := by rfl) (hf : X.fn x = true ∨ X.env.scope.names.lookup x = some .local := by first | exact .inl rfl | exact .inr rfl | assumption) :
    PS X (.Assign [.Name x p'] a pos) (tS X.K W (sLet i ma)) := xs_let hN hi hx he hs hf
end
end Mi
end

section
set_option maxHeartbeats 4000000
/-! MiO: what functions of data come to: a calculus. -/
namespace Mi
open PySem

@[irreducible] def Res.To {α : Type} (r : Res α) (P : α → Arn → Prop) : Prop := match r with
  | .ok a A => P a A
  | _ => False
@[irreducible] def Out.To (o : Out) (N : Slt → Arn → Prop) (R : D → Arn → Prop) : Prop := match o with
  | .nx s A => N s A
  | .rt d A => R d A
  | _ => False
section
variable {α β : Type} {r : Res α} {P Q : α → Arn → Prop} {o : Out} {N N' : Slt → Arn → Prop} {R R' : D → Arn → Prop} {s : Slt} {A : Arn}
theorem Res.To.mono (h : r.To P) (k : ∀ a A, P a A → Q a A) : r.To Q := by
  with_unfolding_all
    cases r with
    | ok a A => exact k _ _ h
    | exn e A => exact h
    | bad => exact h
theorem Res.To.ex (h : r.To P) : ∃ a A, r = .ok a A ∧ P a A := by
  with_unfolding_all
    cases r with
    | ok a A => exact ⟨a, A, rfl, h⟩
    | exn e A => exact h.elim
    | bad => exact h.elim
theorem Out.To.mono (h : o.To N R) (k : ∀ s A, N s A → N' s A) (l : ∀ d A, R d A → R' d A) : o.To N' R' := by
  with_unfolding_all
    cases o with
    | nx s A => exact k _ _ h
    | rt d A => exact l _ _ h
    | bk s A => exact h
    | ct s A => exact h
    | exn e A => exact h
    | bad => exact h
@[simp] theorem To_ok {a : α} : (Res.ok a A).To P ↔ P a A := by with_unfolding_all exact Iff.rfl
@[simp] theorem To_bad : (Res.bad : Res α).To P ↔ False := by with_unfolding_all exact Iff.rfl
@[simp] theorem To_bind {f : α → Arn → Res β} {P : β → Arn → Prop} : (r.bind f).To P ↔ r.To fun a A => (f a A).To P := by
  with_unfolding_all
    cases r with
    | ok a A => exact Iff.rfl
    | exn e A => exact Iff.rfl
    | bad => exact Iff.rfl
@[simp] theorem To_from {f : α → Arn → Out} : (fromR r f).To N R ↔ r.To fun a A => (f a A).To N R := by
  with_unfolding_all
    cases r with
    | ok a A => exact Iff.rfl
    | exn e A => exact Iff.rfl
    | bad => exact Iff.rfl
@[simp] theorem To_nx : (Out.nx s A).To N R ↔ N s A := by with_unfolding_all exact Iff.rfl
@[simp] theorem To_rt {d : D} : (Out.rt d A).To N R ↔ R d A := by with_unfolding_all exact Iff.rfl
@[simp] theorem To_badO : (Out.bad).To N R ↔ False := by with_unfolding_all exact Iff.rfl
@[simp] theorem To_seq {m k : MS} : (sSeq m k s A).To N R ↔ (m s A).To (fun s' A' => (k s' A').To N R) R := by
  with_unfolding_all
    unfold sSeq
    cases e : m s A <;> exact Iff.rfl
@[simp] theorem To_if {c : MT} {m k : MS} : (sIf c m k s A).To N R ↔ (c s A).To fun b A1 => if b = true then (m s A1).To N R else (k s A1).To N R := by
  with_unfolding_all
    unfold sIf
    rw [To_from]
    refine iff_of_eq (congrArg _ (funext fun b => funext fun A1 => ?_))
    cases b <;> rfl
@[simp] theorem To_ifE {c : MT} {m k : ME} {P : D → Arn → Prop} : (mIfE c m k s A).To P ↔ (c s A).To fun b A1 => if b = true then (m s A1).To P else (k s A1).To P := by
  with_unfolding_all
    unfold mIfE
    rw [To_bind]
    refine iff_of_eq (congrArg _ (funext fun b => funext fun A1 => ?_))
    cases b <;> rfl
@[simp] theorem To_for {m : MI} {g : MG} {b : MS} : (sFor m g b s A).To N R ↔ (m s A).To fun xs A1 => (forL (turnF g b) xs s A1).To N R := by with_unfolding_all exact To_from
theorem To_bk : (Out.bk s A).To N R ↔ False := by with_unfolding_all exact Iff.rfl
theorem To_ct : (Out.ct s A).To N R ↔ False := by with_unfolding_all exact Iff.rfl
theorem To_exO {e : Exn} : (Out.exn e A).To N R ↔ False := by with_unfolding_all exact Iff.rfl
theorem forL_inv (step : PyData → MS) {R : D → Arn → Prop} : ∀ (xs : List PyData) (I : Nat → Slt → Arn → Prop) (s : Slt) (A : Arn), (∀ i x s A, xs[i]? = some x → I i s A → (step x s A).To (I (i + 1)) R) → I 0 s A → (forL step xs s A).To (I xs.length) R
  | [], I, s, A, _, h0 => by
    show (Out.nx s A).To (I 0) R
    exact To_nx.mpr h0
  | x :: xs, I, s, A, h, h0 => by
    have h1 := h 0 x s A rfl h0
    show ((step x s A).turn (forL step xs)).To (I (xs.length + 1)) R
    cases e : step x s A with
    | nx s' A' =>
      rw [e, To_nx] at h1
      show (forL step xs s' A').To (I (xs.length + 1)) R
      exact forL_inv step xs (fun i => I (i + 1)) s' A' (fun i y t B hy => h (i + 1) y t B (by simpa using hy)) h1
    | rt d A' =>
      rw [e, To_rt] at h1
      show (Out.rt d A').To _ R
      exact To_rt.mpr h1
    | bk s' A' => rw [e, To_bk] at h1; exact h1.elim
    | ct s' A' => rw [e, To_ct] at h1; exact h1.elim
    | exn x A' => rw [e, To_exO] at h1; exact h1.elim
    | bad => rw [e, To_badO] at h1; exact h1.elim
theorem forK_inv {n : Nat} {xs : List PyData} {step : PyData → MS} {I : Nat → Slt → Arn → Prop} (hI : ∀ i x s A, xs[i]? = some x → I i s A → (step x s A).To (I (i + 1)) fun d A => A[n]? = some .gone ∧ R d (A.set n (.lst xs))) (h0 : I 0 s A) (hN : ∀ s A, I xs.length s A → A[n]? = some .gone ∧ N s (A.set n (.lst xs))) :
    (reviveO n xs (forL step xs s A)).To N R := by
  with_unfolding_all
    have h := forL_inv step xs I s A hI h0
    cases e : forL step xs s A with
    | nx s' A' =>
      rw [e] at h
      obtain ⟨g, q⟩ := hN _ _ h
      show Out.To (if isGone A' n = true then _ else _) N R
      have : isGone A' n = true := by unfold isGone; rw [g]
      rw [if_pos this]
      exact q
    | rt d A' =>
      rw [e] at h
      show Out.To (if isGone A' n = true then _ else _) N R
      have : isGone A' n = true := by unfold isGone; rw [h.1]
      rw [if_pos this]
      exact h.2
    | bk s' A' => rw [e] at h; exact h.elim
    | ct s' A' => rw [e] at h; exact h.elim
    | exn x A' => rw [e] at h; exact h.elim
    | bad => rw [e] at h; exact h.elim
theorem while_inv {c : MT} {b : MS} (I : Nat → Slt → Arn → Prop) (h : ∀ k s A, I k s A → (c s A).To fun t A1 => if t = true then 0 < k ∧ (b s A1).To (fun s' A' => ∃ k', k' < k ∧ I k' s' A') R else N s A1) : ∀ (n k : Nat) (s : Slt) (A : Arn), k < n → I k s A → (whileN c b n s A).To N R
  | 0, k, s, A, hk, _ => absurd hk (Nat.not_lt_zero k)
  | n + 1, k, s, A, hk, hi => by
    have h1 := h k s A hi
    show (fromR (c s A) fun t A1 => if t = true then (b s A1).turn (whileN c b n) else .nx s A1).To N R
    rw [To_from]
    refine h1.mono fun t A1 h2 => ?_
    cases t with
    | false =>
      rw [if_neg (by decide)] at h2 ⊢
      exact To_nx.mpr h2
    | true =>
      rw [if_pos rfl] at h2 ⊢
      obtain ⟨hk0, h2⟩ := h2
      cases e : b s A1 with
      | nx s' A' =>
        rw [e, To_nx] at h2
        obtain ⟨k', hlt, hi'⟩ := h2
        show (whileN c b n s' A').To N R
        exact while_inv I h n k' s' A' (by omega) hi'
      | rt d A' =>
        rw [e, To_rt] at h2
        show (Out.rt d A').To N R
        exact To_rt.mpr h2
      | bk s' A' => rw [e, To_bk] at h2; exact h2.elim
      | ct s' A' => rw [e, To_ct] at h2; exact h2.elim
      | exn x A' => rw [e, To_exO] at h2; exact h2.elim
      | bad => rw [e, To_badO] at h2; exact h2.elim
/-- a comprehension whose turns leave the arena as it is -/
theorem compL_pure {step : PyData → Arn → Res (Option PyData)} {f : PyData → Option PyData} {A : Arn} : ∀ (xs acc : List PyData), (∀ x, x ∈ xs → step x A = .ok (f x) A) → acc.length + xs.length ≤ 100000 → compL step xs acc A = .ok (acc ++ xs.filterMap f) A
  | [], acc, _, _ => by rw [List.filterMap_nil, List.append_nil]; rfl
  | x :: xs, acc, h, hl => by
    have h1 := h x List.mem_cons_self
    rw [List.length_cons] at hl
    unfold compL
    rw [h1]
    show (if acc.length < 100000 then _ else _) = _
    rw [if_pos (by omega), List.filterMap_cons]
    cases e : f x with
    | none => exact compL_pure xs acc (fun y hy => h y (List.mem_cons_of_mem _ hy)) (by omega)
    | some y =>
      rw [compL_pure xs (acc ++ [y]) (fun y hy => h y (List.mem_cons_of_mem _ hy)) (by rw [List.length_append]; simp only [List.length_cons, List.length_nil]; omega), List.append_assoc]
      rfl
end

/-! ### arenas without rows -/
def plain (A : Arn) : Prop := ∀ (n : Nat) (ns : List Nat), A[n]? ≠ some (O.refs ns)
theorem plain_below {A : Arn} (h : plain A) (n m : Nat) : below n (A.take m) = true := by
  unfold below
  rw [List.all_eq_true]
  intro o ho
  cases o with
  | refs ns =>
    obtain ⟨i, hi, e⟩ := List.getElem_of_mem (List.mem_of_mem_take ho)
    exact absurd (by rw [List.getElem?_eq_getElem hi, e]) (h i ns)
  | lst xs => rfl
  | dct xs => rfl
  | tab xs => rfl
  | gone => rfl
theorem plain_set {A : Arn} (h : plain A) {n : Nat} {o : O} (ho : ∀ ns, o ≠ .refs ns) : plain (A.set n o) := fun m ns e => by
  by_cases q : m = n
  · subst q
    by_cases hl : m < A.length
    · rw [List.getElem?_set_self hl] at e
      exact ho ns (Option.some.inj e)
    · rw [List.getElem?_eq_none (by rw [List.length_set]; omega)] at e
      cases e
  · rw [List.getElem?_set_ne (Ne.symm q)] at e
    exact h m ns e
theorem plain_app {A B : Arn} (h : plain A) (k : plain B) : plain (A ++ B) := fun m ns e => by
  by_cases q : m < A.length
  · rw [List.getElem?_append_left q] at e
    exact h m ns e
  · rw [List.getElem?_append_right (Nat.le_of_not_lt q)] at e
    exact k _ ns e
theorem plain_one {xs : List PyData} : plain [.lst xs] := fun m ns e => by
  cases m with
  | zero => cases e
  | succ m => simp at e
theorem plain_nil : plain [] := fun m ns e => by simp at e

/-! ### the well of the laws: three numbers -/
def Wl (A : Arn) (n : Nat) : Prop := ∃ a b c : Int, A[n]? = some (.lst [.int a, .int b, .int c])
def Wup (A : Arn) (n : Nat) (A' : Arn) : Prop := ∃ a b c : Int, A' = A.set n (.lst [.int a, .int b, .int c])
section
variable {A A' A'' B : Arn} {n : Nat}
theorem Wl.lt (h : Wl A n) : n < A.length := by
  obtain ⟨a, b, c, e⟩ := h
  exact (List.getElem?_eq_some_iff.mp e).1
theorem Wup.refl (h : Wl A n) : Wup A n A := by
  obtain ⟨a, b, c, e⟩ := h
  refine ⟨a, b, c, ?_⟩
  obtain ⟨hl, e2⟩ := List.getElem?_eq_some_iff.mp e
  rw [← e2, List.set_getElem_self]
theorem Wup.wl (u : Wup A n A') (h : Wl A n) : Wl A' n := by
  obtain ⟨a, b, c, rfl⟩ := u
  exact ⟨a, b, c, by rw [List.getElem?_set_self h.lt]⟩
theorem Wup.trans (u : Wup A n A') (v : Wup A' n A'') : Wup A n A'' := by
  obtain ⟨a, b, c, rfl⟩ := u
  obtain ⟨d, e, f, rfl⟩ := v
  exact ⟨d, e, f, by rw [List.set_set]⟩
theorem Wup.plain (u : Wup A n A') (h : plain A) : plain A' := by
  obtain ⟨a, b, c, rfl⟩ := u
  exact plain_set h fun ns e => by cases e
theorem Wup.length (u : Wup A n A') : A'.length = A.length := by
  obtain ⟨a, b, c, rfl⟩ := u
  rw [List.length_set]
theorem Wup.other (u : Wup A n A') {m : Nat} (h : m ≠ n) : A'[m]? = A[m]? := by
  obtain ⟨a, b, c, rfl⟩ := u
  rw [List.getElem?_set_ne (Ne.symm h)]
theorem Wup.app (u : Wup (A ++ B) n A') (h : n < A.length) : ∃ A1, A' = A1 ++ B ∧ Wup A n A1 := by
  obtain ⟨a, b, c, rfl⟩ := u
  exact ⟨_, by rw [List.set_append_left _ _ h], a, b, c, rfl⟩
theorem Wl.app (h : Wl A n) : Wl (A ++ B) n := by
  obtain ⟨a, b, c, e⟩ := h
  exact ⟨a, b, c, by rw [List.getElem?_append_left (List.getElem?_eq_some_iff.mp e).1]; exact e⟩
end
end Mi
end

section
set_option maxHeartbeats 4000000
/-! MiQ: the drawing defs that many laws have alike, as functions. -/
namespace Lw
open PySem PySem.Spec PyProof.Rows L2 Mi
def b__law_well : MS :=
  (sSeq (sLet 2 (mIfE (mB (mOp2 (lift2 (ordD gLt)) (mVar 1) (mOpN (liftN fLen) (aCons (mVar 0) aNil)))) (mOpN (liftN fIntT) (aCons (mOp2 (lift2 fIx) (mVar 0) (mVar 1)) aNil)) (mC (.int 0))))
    (sSeq (sLet 3 (mOp2 (lift2o fAdd) (mC (.int 97)) (mOp2 (lift2 fMul) (mC (.int 32452843)) (mVar 1))))
    (sSeq (sFor (iS (mSlA (mVar 0) pNo (pSome (mC (.int 11))))) (gN 4) (sLet 3 (mOp2 (lift2 fMod) (mOpN (liftN fIntT) (aCons (mOp2 (lift2o fAdd) (mOp2 (lift2o fAdd) (mOp2 (lift2 fMul) (mVar 3) (mC (.int 22695))) (mOp2 (lift2 fMod) (mOpN (liftN fIntT) (aCons (mVar 4) aNil)) (mC (.int 2147483423)))) (mC (.int 53))) aNil)) (mC (.int 2147483399)))))
    (sSeq (sLet 3 (mOp2 (lift2 fMod) (mOpN (liftN fIntT) (aCons (mOp2 (lift2o fAdd) (mOp2 (lift2o fAdd) (mOp2 (lift2 fMul) (mVar 3) (mC (.int 41358))) (mOp2 (lift2 fMul) (mOp2 (lift2 fMod) (mOpN (liftN fIntT) (aCons (mVar 2) aNil)) (mC (.int 2147483423))) (mC (.int 10301)))) (mC (.int 23))) aNil)) (mC (.int 2147483399))))
    (sRet (mAl (lDisp (aCons (mIfE (mB (mOp2 (lift2 (ordD gGe)) (mOpN (liftN fAbs) (aCons (mVar 2) aNil)) (mOp2 (lift2 fPow) (mC (.int 10)) (mC (.int 16))))) (mOpN (liftN fAbs) (aCons (mVar 2) aNil)) (mC (.int 0))) (aCons (mVar 3) (aCons (mC (.int 0)) aNil))))))))))
def m__law_well : MF := defK 5 b__law_well
def b__law_draw : MS :=
  (sSeq (sIf (mB (mOp2 (lift2 (ordD gGt)) (mOp2 (lift2 fIx) (mVar 0) (mC (.int 0))) (mC (.int 0)))) (sSeq (sLet 3 (mOp2 (lift2 fMod) (mOpN (liftN fIntT) (aCons (mOp2 (lift2 fIx) (mVar 0) (mC (.int 0))) aNil)) (mVar 1)))
    (sSeq (sPut (mOp2 (lift2 fDiv) (mOp2 (lift2 fIx) (mVar 0) (mC (.int 0))) (mVar 1)) (mVar 0) (mC (.int 0)))
    (sRet (mVar 3)))) sSkip)
    (sSeq (sPut (mOp2 (lift2o fAdd) (mOp2 (lift2 fIx) (mVar 0) (mC (.int 2))) (mC (.int 1))) (mVar 0) (mC (.int 2)))
    (sSeq (sLet 2 (mOp2 (lift2 fMod) (mOpN (liftN fIntT) (aCons (mOp2 (lift2o fAdd) (mOp2 (lift2o fAdd) (mOp2 (lift2 fMul) (mOp2 (lift2 fIx) (mVar 0) (mC (.int 1))) (mC (.int 40692))) (mOp2 (lift2 fMul) (mC (.int 17093)) (mOp2 (lift2 fIx) (mVar 0) (mC (.int 2))))) (mC (.int 31))) aNil)) (mC (.int 2147483399))))
    (sSeq (sPut (mVar 2) (mVar 0) (mC (.int 1)))
    (sRet (mOp2 (lift2 fMod) (mOpN (liftN fIntT) (aCons (mOp2 (lift2 fDiv) (mOp2 (lift2 fMul) (mVar 2) (mOp2 (lift2o fAdd) (mOp2 (lift2 fMod) (mOpN (liftN fIntT) (aCons (mVar 2) aNil)) (mC (.int 28001))) (mC (.int 30011)))) (mC (.int 5003))) aNil)) (mVar 1)))))))
def m__law_draw : MF := defM 4 b__law_draw
def b__law_pick : MS :=
  (sRet (mOp2 (lift2 fIx) (mVar 1) (mCall m__law_draw (aCons (mVar 0) (aCons (mOpN (liftN fLen) (aCons (mVar 1) aNil)) aNil)))))
def m__law_pick : MF := defM 2 b__law_pick
def b__law_strange : MS :=
  (sSeq (sLet 1 (mTup (aCons (mC .none) (aCons (mC (.bool true)) (aCons (mC (.bool false)) (aCons (mC (.int 0)) (aCons (mC (.int 1)) (aCons (mC (.int 7)) (aCons (mOp1 (lift1 fNeg) (mC (.int 1))) (aCons (mC (.int 11)) (aCons (mOp2 (lift2 fPow) (mC (.int 10)) (mC (.int 30))) (aCons (mC (.str "")) (aCons (mC (.str "3:")) (aCons (mC (.str "3: 0-1")) (aCons (mTup aNil) (aCons (mTup (aCons (mC (.int 0)) aNil)) (aCons (mTup (aCons (mC (.int 0)) (aCons (mC (.int 1)) aNil))) (aCons (mTup (aCons (mC (.int 1)) (aCons (mC (.int 0)) aNil))) (aCons (mFr (lDisp aNil)) (aCons (mFr (lDisp (aCons (mC (.int 0)) (aCons (mC (.int 1)) aNil)))) aNil))))))))))))))))))))
    (sSeq (sLet 2 (mTup (aCons (mTup (aCons (mC (.int 3)) (aCons (mTup aNil) aNil))) (aCons (mTup (aCons (mC (.int 3)) (aCons (mTup (aCons (mTup (aCons (mC (.int 0)) (aCons (mC (.int 1)) aNil))) aNil)) aNil))) (aCons (mTup (aCons (mC (.int 3)) (aCons (mTup (aCons (mTup (aCons (mC (.int 1)) (aCons (mC (.int 0)) aNil))) aNil)) aNil))) (aCons (mTup (aCons (mC (.int 0)) (aCons (mTup aNil) aNil))) (aCons (mTup (aCons (mC (.int 11)) (aCons (mTup aNil) aNil))) (aCons (mTup (aCons (mC (.bool true)) (aCons (mTup aNil) aNil))) (aCons (mTup (aCons (mC (.int 2)) (aCons (mFr (lDisp (aCons (mTup (aCons (mC (.int 0)) (aCons (mC (.int 1)) aNil))) aNil))) aNil))) aNil)))))))))
    (sRet (mCall m__law_pick (aCons (mVar 0) (aCons (mOp2 (lift2o fAdd) (mOp2 (lift2o fAdd) (mVar 1) (mVar 2)) (mTup (aCons (mC (.dict [])) (aCons (mTup (aCons (mTup (aCons (mC (.int 0)) (aCons (mC (.int 1)) aNil))) (aCons (mTup (aCons (mC (.int 1)) (aCons (mC (.int 2)) aNil))) aNil))) aNil)))) aNil))))))
def m__law_strange : MF := defM 3 b__law_strange
def b__law_is_whole : MS :=
  (sRet (mAndV (mIsi "int" (mVar 0)) (mNotV (mIsi "bool" (mVar 0)))))
def m__law_is_whole : MF := defM 1 b__law_is_whole
def b__law_is_up_to : MS :=
  (sRet (mAndV (mCall m__law_is_whole (aCons (mVar 0) aNil)) (mCh (mVar 1) (mLink (lift2 (ordD gLe)) (mVar 0) (mLast (lift2 (ordD gLe)) (mVar 2))))))
def m__law_is_up_to : MF := defM 3 b__law_is_up_to
def b__law_is_graph : MS :=
  (sSeq (sIf (mOr (mNot (mTru (mIsi "tuple" (mVar 0)))) (mOr (mB (mOp2 (lift2 fNe) (mOpN (liftN fLen) (aCons (mVar 0) aNil)) (mC (.int 2)))) (mNot (mTru (mCall m__law_is_up_to (aCons (mOp2 (lift2 fIx) (mVar 0) (mC (.int 0))) (aCons (mC (.int 1)) (aCons (mC (.int 10)) aNil)))))))) (sRet (mC (.bool false))) sSkip)
    (sSeq (sIf (mOr (mNot (mTru (mIsi "tuple" (mOp2 (lift2 fIx) (mVar 0) (mC (.int 1)))))) (mB (mOp2 (lift2 (ordD gGt)) (mOpN (liftN fLen) (aCons (mOp2 (lift2 fIx) (mVar 0) (mC (.int 1))) aNil)) (mC (.int 24))))) (sRet (mC (.bool false))) sSkip)
    (sSeq (sFor (iS (mOp2 (lift2 fIx) (mVar 0) (mC (.int 1)))) (gN 1) (sSeq (sIf (mOr (mNot (mTru (mIsi "tuple" (mVar 1)))) (mOr (mB (mOp2 (lift2 fNe) (mOpN (liftN fLen) (aCons (mVar 1) aNil)) (mC (.int 2)))) (mNot (mTru (mCall m__law_is_up_to (aCons (mOp2 (lift2 fIx) (mVar 1) (mC (.int 1))) (aCons (mC (.int 1)) (aCons (mOp2 (lift2 fSub) (mOp2 (lift2 fIx) (mVar 0) (mC (.int 0))) (mC (.int 1))) aNil)))))))) (sRet (mC (.bool false))) sSkip)
    (sIf (mNot (mTru (mCall m__law_is_up_to (aCons (mOp2 (lift2 fIx) (mVar 1) (mC (.int 0))) (aCons (mC (.int 0)) (aCons (mOp2 (lift2 fSub) (mOp2 (lift2 fIx) (mVar 1) (mC (.int 1))) (mC (.int 1))) aNil)))))) (sRet (mC (.bool false))) sSkip)))
    (sRet (mOp2 (lift2 fEq) (mFr (lComp (iR2 (aCons (mC (.int 1)) (aCons (mOpN (liftN fLen) (aCons (mOp2 (lift2 fIx) (mVar 0) (mC (.int 1))) aNil)) aNil))) (gN 2) (mB (mOp2 (lift2 (ordD gGe)) (mOp2 (lift2 fIx) (mOp2 (lift2 fIx) (mVar 0) (mC (.int 1))) (mOp2 (lift2 fSub) (mVar 2) (mC (.int 1)))) (mOp2 (lift2 fIx) (mOp2 (lift2 fIx) (mVar 0) (mC (.int 1))) (mVar 2)))) (mVar 2) [2])) (mFr (lDisp aNil)))))))
def m__law_is_graph : MF := defM 3 b__law_is_graph
def b__law_neighbours : MS :=
  (sRet (mFr (lOpN lfSorted (aCons (mFr (lComp (iS (mOp2 (lift2 fIx) (mVar 0) (mC (.int 1)))) (gTp (gMore (gN 2) (gMore (gN 3) gNone))) (mB (mOp2 (lift2 fIn) (mVar 1) (mTup (aCons (mVar 2) (aCons (mVar 3) aNil))))) (mOp2 (lift2 fSub) (mOp2 (lift2o fAdd) (mVar 2) (mVar 3)) (mVar 1)) [2, 3])) aNil))))
def m__law_neighbours : MF := defM 4 b__law_neighbours
def b__law_kept : MS :=
  (sSeq (sLet 2 (mAl (lDisp aNil)))
    (sSeq (sFor (iS (mVar 1)) (gTp (gMore (gN 3) (gMore (gN 4) gNone))) (sSeq (sLet 5 (mIfE (mB (mOp2 (lift2 (ordD gLt)) (mVar 3) (mVar 4))) (mTup (aCons (mVar 3) (aCons (mVar 4) aNil))) (mTup (aCons (mVar 4) (aCons (mVar 3) aNil)))))
    (sIf (mAnd (mB (mOp2 (lift2 fNe) (mVar 3) (mVar 4))) (mB (mOp2 (lift2 fNotIn) (mVar 5) (mVar 2)))) (sDrop (mMt isL fAppend (mVar 2) (aCons (mVar 5) aNil))) sSkip)))
    (sRet (mTup (aCons (mVar 0) (aCons (mOpN (liftN fTuple) (aCons (mFr (lOpN lfSorted (aCons (mVar 2) aNil))) aNil)) aNil))))))
def m__law_kept : MF := defM 6 b__law_kept
def b__law_edges_of : MS :=
  (sSeq (sLet 1 (mFr (lCut (mVar 0) (mC (.str " ")))))
    (sSeq (sLet 2 (mFr (lComp (iS (mSlA (mVar 1) (pSome (mC (.int 1))) pNo)) (gN 3) mYes (mFr (lCut (mVar 3) (mC (.str "-")))) [3])))
    (sRet (mCall m__law_kept (aCons (mOpN (liftN fIntT) (aCons (mSlA (mOp2 (lift2 fIx) (mVar 1) (mC (.int 0))) pNo (pSome (mOp1 (lift1 fNeg) (mC (.int 1))))) aNil)) (aCons (mFr (lComp (iS (mVar 2)) (gN 4) mYes (mTup (aCons (mOpN (liftN fIntT) (aCons (mOp2 (lift2 fIx) (mVar 4) (mC (.int 0))) aNil)) (aCons (mOpN (liftN fIntT) (aCons (mOp2 (lift2 fIx) (mVar 4) (mC (.int 1))) aNil)) aNil))) [4])) aNil))))))
def m__law_edges_of : MF := defM 5 b__law_edges_of
def b__law_family : MS :=
  (sSeq (sLet 1 (mTup (aCons (mTup (aCons (mC (.str "3: 0-1 0-2 1-2")) (aCons (mC (.str "4: 0-3 1-3 2-3")) aNil))) (aCons (mTup (aCons (mC (.str "4: 0-1 0-2 0-3 1-2 1-3 2-3")) (aCons (mC (.str "5: 0-2 0-3 0-4 1-2 1-3 1-4")) aNil))) (aCons (mTup (aCons (mC (.str "5: 0-1 0-2 0-3 0-4 1-2 1-3 1-4 2-3 2-4 3-4")) (aCons (mC (.str "6: 0-3 0-4 0-5 1-3 1-4 1-5 2-3 2-4 2-5")) aNil))) (aCons (mTup (aCons (mC (.str "6: 0-1 0-2 0-3 0-4 0-5 1-2 1-3 1-4 1-5 2-3 2-4 2-5 3-4 3-5 4-5")) (aCons (mC (.str "7: 0-3 0-4 0-5 0-6 1-3 1-4 1-5 1-6 2-3 2-4 2-5 2-6 3-6 4-6 5-6")) (aCons (mC (.str "7: 0-1 0-2 0-3 0-4 0-5 1-2 1-3 1-4 1-5 2-3 2-4 2-5 3-6 4-6 5-6")) (aCons (mC (.str "8: 0-4 0-5 0-6 0-7 1-4 1-5 1-6 1-7 2-4 2-5 2-6 2-7 3-4 3-5 3-6")) (aCons (mC (.str "8: 0-2 0-4 0-5 0-7 1-2 1-4 1-5 1-7 2-3 2-4 2-5 3-6 3-7 4-6 5-6")) (aCons (mC (.str "9: 0-5 0-7 0-8 1-2 1-4 1-5 1-7 2-3 2-5 2-8 3-6 3-7 4-6 4-8 5-6")) (aCons (mC (.str "10: 0-5 0-7 0-8 1-4 1-7 1-9 2-3 2-8 2-9 3-6 3-7 4-6 4-8 5-6 5-9")) aNil)))))))) aNil))))))
    (sRet (mFr (lComp (iS (mOp2 (lift2 fIx) (mVar 1) (mOp2 (lift2 fSub) (mVar 0) (mC (.int 1))))) (gN 2) mYes (mCall m__law_edges_of (aCons (mVar 2) aNil)) [2]))))
def m__law_family : MF := defM 3 b__law_family
def b__law_order : MS :=
  (sSeq (sPar 2 3 (aCons (mFr (lRg1 (mVar 1))) (aCons (mAl (lDisp aNil)) aNil)))
    (sSeq (sWhile 100000 (mB (mOp2 (lift2 fNe) (mVar 2) (mFr (lDisp aNil)))) (sSeq (sLet 4 (mCall m__law_pick (aCons (mVar 0) (aCons (mVar 2) aNil))))
    (sSeq (sDrop (mMt isL fAppend (mVar 3) (aCons (mVar 4) aNil)))
    (sLet 2 (mFr (lComp (iS (mVar 2)) (gN 5) (mB (mOp2 (lift2 fNe) (mVar 5) (mVar 4))) (mVar 5) [5]))))))
    (sRet (mVar 3))))
def m__law_order : MF := defM 6 b__law_order
def b__law_named : MS :=
  (sRet (mCall m__law_kept (aCons (mOp2 (lift2 fIx) (mVar 0) (mC (.int 0))) (aCons (mFr (lComp (iS (mOp2 (lift2 fIx) (mVar 0) (mC (.int 1)))) (gTp (gMore (gN 2) (gMore (gN 3) gNone))) mYes (mTup (aCons (mOp2 (lift2 fIx) (mVar 1) (mVar 2)) (aCons (mOp2 (lift2 fIx) (mVar 1) (mVar 3)) aNil))) [2, 3])) aNil))))
def m__law_named : MF := defM 4 b__law_named
def b__law_pairs_of : MS :=
  (sSeq (sLet 1 (mFr (lDisp aNil)))
    (sSeq (sFor (iR1 (aCons (mVar 0) aNil)) (gN 2) (sLet 1 (mOp2 (lift2o fAdd) (mVar 1) (mFr (lComp (iR2 (aCons (mOp2 (lift2o fAdd) (mVar 2) (mC (.int 1))) (aCons (mVar 0) aNil))) (gN 3) mYes (mTup (aCons (mVar 2) (aCons (mVar 3) aNil))) [3])))))
    (sRet (mVar 1))))
def m__law_pairs_of : MF := defM 4 b__law_pairs_of
def b__law_graph : MS :=
  (sSeq (sLet 3 (mOp2 (lift2o fAdd) (mC (.int 1)) (mCall m__law_draw (aCons (mVar 0) (aCons (mVar 1) aNil)))))
    (sSeq (sLet 4 (mCall m__law_pairs_of (aCons (mVar 3) aNil)))
    (sSeq (sIf (mB (mOp2 (lift2 fEq) (mCall m__law_draw (aCons (mVar 0) (aCons (mC (.int 3)) aNil))) (mC (.int 0)))) (sSeq (sLet 6 (mCall m__law_pick (aCons (mVar 0) (aCons (mCall m__law_family (aCons (mCall m__law_pick (aCons (mVar 0) (aCons (mTup (aCons (mC (.int 2)) (aCons (mC (.int 3)) (aCons (mC (.int 4)) aNil)))) aNil))) aNil)) aNil))))
    (sIf (mAnd (mB (mOp2 (lift2 (ordD gLe)) (mOp2 (lift2 fIx) (mVar 6) (mC (.int 0))) (mVar 1))) (mB (mOp2 (lift2 (ordD gLe)) (mOpN (liftN fLen) (aCons (mOp2 (lift2 fIx) (mVar 6) (mC (.int 1))) aNil)) (mVar 2)))) (sSeq (sLet 6 (mCall m__law_named (aCons (mVar 6) (aCons (mCall m__law_order (aCons (mVar 0) (aCons (mOp2 (lift2 fIx) (mVar 6) (mC (.int 0))) aNil))) aNil))))
    (sSeq (sLet 9 (mAl (lOpN lfList (aCons (mOp2 (lift2 fIx) (mVar 6) (mC (.int 1))) aNil))))
    (sSeq (sFor (iR1 (aCons (mCall m__law_draw (aCons (mVar 0) (aCons (mC (.int 4)) aNil))) aNil)) (gN 10) (sSeq (sLet 5 (mCall m__law_pick (aCons (mVar 0) (aCons (mCall m__law_pairs_of (aCons (mOp2 (lift2 fIx) (mVar 6) (mC (.int 0))) aNil)) aNil))))
    (sIf (mOr (mB (mOp2 (lift2 fEq) (mCall m__law_draw (aCons (mVar 0) (aCons (mC (.int 2)) aNil))) (mC (.int 0)))) (mB (mOp2 (lift2 (ordD gGe)) (mOpN (liftN fLen) (aCons (mVar 9) aNil)) (mVar 2)))) (sLet 9 (mAl (lCompK (mVar 9) (gN 11) (mB (mOp2 (lift2 fNe) (mVar 11) (mVar 5))) (mVar 11) [11]))) (sDrop (mMt isL fAppend (mVar 9) (aCons (mVar 5) aNil))))))
    (sRet (mCall m__law_kept (aCons (mOp2 (lift2 fIx) (mVar 6) (mC (.int 0))) (aCons (mVar 9) aNil))))))) sSkip)) sSkip)
    (sSeq (sPar 7 8 (aCons (mAl (lDisp aNil)) (aCons (mOp2 (lift2o fAdd) (mC (.int 1)) (mCall m__law_draw (aCons (mVar 0) (aCons (mC (.int 6)) aNil)))) aNil)))
    (sSeq (sFor (iS (mVar 4)) (gN 5) (sIf (mAnd (mB (mOp2 (lift2 (ordD gLt)) (mCall m__law_draw (aCons (mVar 0) (aCons (mC (.int 6)) aNil))) (mVar 8))) (mB (mOp2 (lift2 (ordD gLt)) (mOpN (liftN fLen) (aCons (mVar 7) aNil)) (mVar 2)))) (sDrop (mMt isL fAppend (mVar 7) (aCons (mVar 5) aNil))) sSkip))
    (sRet (mCall m__law_kept (aCons (mVar 3) (aCons (mVar 7) aNil)))))))))
def m__law_graph : MF := defM 12 b__law_graph
def b__law_bent : MS :=
  (sSeq (sAsg (mVar 1) (gTp (gMore (gN 3) (gMore (gN 4) gNone))))
    (sSeq (sPar 5 6 (aCons (mCall m__law_draw (aCons (mVar 0) (aCons (mC (.int 14)) aNil))) (aCons (mCall m__law_draw (aCons (mVar 0) (aCons (mOp2 (lift2o fAdd) (mOpN (liftN fLen) (aCons (mVar 4) aNil)) (mC (.int 1))) aNil))) aNil)))
    (sSeq (sLet 2 (mIfE (mB (mOp2 (lift2 (ordD gLt)) (mVar 6) (mOpN (liftN fLen) (aCons (mVar 4) aNil)))) (mOp2 (lift2 fIx) (mVar 4) (mVar 6)) (mTup (aCons (mC (.int 0)) (aCons (mVar 3) aNil)))))
    (sSeq (sIf (mB (mOp2 (lift2 fEq) (mVar 5) (mC (.int 0)))) (sRet (mFr (lDisp (aCons (mVar 3) (aCons (mVar 4) aNil))))) sSkip)
    (sSeq (sIf (mB (mOp2 (lift2 fEq) (mVar 5) (mC (.int 1)))) (sRet (mTup (aCons (mVar 3) (aCons (mFr (lOpN lfList (aCons (mVar 4) aNil))) aNil)))) sSkip)
    (sSeq (sIf (mB (mOp2 (lift2 fEq) (mVar 5) (mC (.int 2)))) (sRet (mTup (aCons (mVar 3) (aCons (mOp2 (lift2o fAdd) (mOp2 (lift2o fAdd) (mSlA (mVar 4) pNo (pSome (mVar 6))) (mTup (aCons (mTup (aCons (mOp2 (lift2 fIx) (mVar 2) (mC (.int 1))) (aCons (mOp2 (lift2 fIx) (mVar 2) (mC (.int 0))) aNil))) aNil))) (mSlA (mVar 4) (pSome (mOp2 (lift2o fAdd) (mVar 6) (mC (.int 1)))) pNo)) aNil)))) sSkip)
    (sSeq (sIf (mB (mOp2 (lift2 fEq) (mVar 5) (mC (.int 3)))) (sRet (mTup (aCons (mVar 3) (aCons (mOp2 (lift2o fAdd) (mOp2 (lift2o fAdd) (mSlA (mVar 4) pNo (pSome (mVar 6))) (mTup (aCons (mFr (lOpN lfList (aCons (mVar 2) aNil))) aNil))) (mSlA (mVar 4) (pSome (mOp2 (lift2o fAdd) (mVar 6) (mC (.int 1)))) pNo)) aNil)))) sSkip)
    (sSeq (sIf (mB (mOp2 (lift2 fEq) (mVar 5) (mC (.int 4)))) (sRet (mTup (aCons (mVar 3) (aCons (mRev (mVar 4)) aNil)))) sSkip)
    (sSeq (sIf (mB (mOp2 (lift2 fEq) (mVar 5) (mC (.int 5)))) (sRet (mTup (aCons (mVar 3) (aCons (mOp2 (lift2o fAdd) (mVar 4) (mSlA (mVar 4) (pSome (mOp1 (lift1 fNeg) (mC (.int 1)))) pNo)) aNil)))) sSkip)
    (sSeq (sIf (mB (mOp2 (lift2 fEq) (mVar 5) (mC (.int 6)))) (sRet (mTup (aCons (mCall m__law_pick (aCons (mVar 0) (aCons (mTup (aCons (mC (.int 0)) (aCons (mC (.int 11)) (aCons (mOp2 (lift2 fSub) (mVar 3) (mC (.int 1))) (aCons (mOp2 (lift2o fAdd) (mVar 3) (mC (.int 1))) (aCons (mOp1 (lift1 fNeg) (mVar 3)) (aCons (mC (.bool true)) (aCons (mC .none) (aCons (mOpN (liftN fStr) (aCons (mVar 3) aNil)) aNil))))))))) aNil))) (aCons (mVar 4) aNil)))) sSkip)
    (sSeq (sIf (mB (mOp2 (lift2 fEq) (mVar 5) (mC (.int 7)))) (sRet (mTup (aCons (mVar 3) (aCons (mOp2 (lift2o fAdd) (mOp2 (lift2o fAdd) (mSlA (mVar 4) pNo (pSome (mVar 6))) (mTup (aCons (mTup (aCons (mOp2 (lift2 fIx) (mVar 2) (mC (.int 0))) (aCons (mVar 3) aNil))) aNil))) (mSlA (mVar 4) (pSome (mOp2 (lift2o fAdd) (mVar 6) (mC (.int 1)))) pNo)) aNil)))) sSkip)
    (sSeq (sIf (mB (mOp2 (lift2 fEq) (mVar 5) (mC (.int 8)))) (sRet (mTup (aCons (mVar 3) (aCons (mOp2 (lift2o fAdd) (mOp2 (lift2o fAdd) (mSlA (mVar 4) pNo (pSome (mVar 6))) (mTup (aCons (mTup (aCons (mOp1 (lift1 fNeg) (mC (.int 1))) (aCons (mOp2 (lift2 fIx) (mVar 2) (mC (.int 1))) aNil))) aNil))) (mSlA (mVar 4) (pSome (mOp2 (lift2o fAdd) (mVar 6) (mC (.int 1)))) pNo)) aNil)))) sSkip)
    (sSeq (sIf (mB (mOp2 (lift2 fEq) (mVar 5) (mC (.int 9)))) (sRet (mTup (aCons (mVar 3) (aCons (mOp2 (lift2o fAdd) (mOp2 (lift2o fAdd) (mSlA (mVar 4) pNo (pSome (mVar 6))) (mTup (aCons (mTup (aCons (mOp2 (lift2 fIx) (mVar 2) (mC (.int 0))) (aCons (mOp2 (lift2 fIx) (mVar 2) (mC (.int 0))) aNil))) aNil))) (mSlA (mVar 4) (pSome (mOp2 (lift2o fAdd) (mVar 6) (mC (.int 1)))) pNo)) aNil)))) sSkip)
    (sSeq (sIf (mB (mOp2 (lift2 fEq) (mVar 5) (mC (.int 10)))) (sRet (mTup (aCons (mVar 3) (aCons (mOp2 (lift2o fAdd) (mOp2 (lift2o fAdd) (mSlA (mVar 4) pNo (pSome (mVar 6))) (mTup (aCons (mTup (aCons (mC (.bool false)) (aCons (mOp2 (lift2 fIx) (mVar 2) (mC (.int 1))) aNil))) aNil))) (mSlA (mVar 4) (pSome (mOp2 (lift2o fAdd) (mVar 6) (mC (.int 1)))) pNo)) aNil)))) sSkip)
    (sSeq (sIf (mB (mOp2 (lift2 fEq) (mVar 5) (mC (.int 11)))) (sRet (mCall m__law_pick (aCons (mVar 0) (aCons (mTup (aCons (mTup (aCons (mVar 3) aNil)) (aCons (mTup (aCons (mVar 3) (aCons (mVar 4) (aCons (mTup aNil) aNil)))) (aCons (mTup (aCons (mVar 4) (aCons (mVar 3) aNil))) (aCons (mTup (aCons (mVar 3) (aCons (mC .none) aNil))) (aCons (mTup (aCons (mVar 1) aNil)) aNil)))))) aNil)))) sSkip)
    (sSeq (sIf (mB (mOp2 (lift2 fEq) (mVar 5) (mC (.int 12)))) (sRet (mTup (aCons (mVar 3) (aCons (mOp2 (lift2o fAdd) (mOp2 (lift2o fAdd) (mSlA (mVar 4) pNo (pSome (mVar 6))) (mTup (aCons (mOp2 (lift2o fAdd) (mVar 2) (mTup (aCons (mC (.int 0)) aNil))) aNil))) (mSlA (mVar 4) (pSome (mOp2 (lift2o fAdd) (mVar 6) (mC (.int 1)))) pNo)) aNil)))) sSkip)
    (sRet (mTup (aCons (mVar 3) (aCons (mOp2 (lift2o fAdd) (mOp2 (lift2o fAdd) (mSlA (mVar 4) pNo (pSome (mVar 6))) (mTup (aCons (mCall m__law_strange (aCons (mVar 0) aNil)) aNil))) (mSlA (mVar 4) (pSome (mOp2 (lift2o fAdd) (mVar 6) (mC (.int 1)))) pNo)) aNil))))))))))))))))))))
def m__law_bent : MF := defM 7 b__law_bent
def b__law_full : MS :=
  (sSeq (sLet 2 (mAl (lDisp aNil)))
    (sSeq (sFor (iS (mSlA (mCall m__law_order (aCons (mVar 0) (aCons (mC (.int 45)) aNil))) pNo (pSome (mVar 1)))) (gN 3) (sDrop (mMt isL fAppend (mVar 2) (aCons (mOp2 (lift2 fIx) (mCall m__law_pairs_of (aCons (mC (.int 10)) aNil)) (mVar 3)) aNil))))
    (sRet (mCall m__law_kept (aCons (mC (.int 10)) (aCons (mVar 2) aNil))))))
def m__law_full : MF := defM 4 b__law_full
/-! the program's own defs on graphs, as they stand at ad97589 -/
def b_is_whole : MS :=
  (sRet (mTyIs "int" false (mVar 0)))
def m_is_whole : MF := defM 1 b_is_whole
def b_is_row : MS :=
  (sRet (mAndV (mTyIs "tuple" false (mVar 0)) (mOp2 (lift2 fEq) (mOpN (liftN fLen) (aCons (mVar 0) aNil)) (mVar 1))))
def m_is_row : MF := defM 2 b_is_row
def b_is_ascending : MS :=
  (sRet (mOpN (liftN fAll) (aCons (mFr (lComp (iR1 (aCons (mOp2 (lift2 fSub) (mOpN (liftN fLen) (aCons (mVar 0) aNil)) (mC (.int 1))) aNil)) (gN 1) mYes (mOp2 (lift2 (ordD gLt)) (mOp2 (lift2 fIx) (mVar 0) (mVar 1)) (mOp2 (lift2 fIx) (mVar 0) (mOp2 (lift2o fAdd) (mVar 1) (mC (.int 1))))) [1])) aNil)))
def m_is_ascending : MF := defM 2 b_is_ascending
def b_are_whole : MS :=
  (sRet (mAndV (mTyIs "tuple" false (mVar 0)) (mOpN (liftN fAll) (aCons (mFr (lComp (iS (mVar 0)) (gN 1) mYes (mCall m_is_whole (aCons (mVar 1) aNil)) [1])) aNil))))
def m_are_whole : MF := defM 2 b_are_whole
def b_is_whole_row : MS :=
  (sRet (mAndV (mCall m_is_row (aCons (mVar 0) (aCons (mVar 1) aNil))) (mCall m_are_whole (aCons (mVar 0) aNil))))
def m_is_whole_row : MF := defM 2 b_is_whole_row
def b__could_be_edge : MS :=
  (sRet (mAndV (mCall m_is_whole_row (aCons (mVar 0) (aCons (mC (.int 2)) aNil))) (mCh (mC (.int 0)) (mLink (lift2 (ordD gLe)) (mOp2 (lift2 fIx) (mVar 0) (mC (.int 0))) (mLink (lift2 (ordD gLt)) (mOp2 (lift2 fIx) (mVar 0) (mC (.int 1))) (mLast (lift2 (ordD gLt)) (mVar 1)))))))
def m__could_be_edge : MF := defM 2 b__could_be_edge
def b_is_graph : MS :=
  (sSeq (sIf (mNot (mTru (mCall m_is_row (aCons (mVar 0) (aCons (mC (.int 2)) aNil))))) (sRet (mC (.bool false))) sSkip)
    (sSeq (sAsg (mVar 0) (gTp (gMore (gN 1) (gMore (gN 2) gNone))))
    (sSeq (sIf (mOr (mNot (mTru (mCall m_is_whole (aCons (mVar 1) aNil)))) (mNot (mB (mCh (mC (.int 1)) (mLink (lift2 (ordD gLe)) (mVar 1) (mLast (lift2 (ordD gLe)) (mC (.int 10)))))))) (sRet (mC (.bool false))) sSkip)
    (sSeq (sIf (mOr (mB (mTyIs "tuple" true (mVar 2))) (mB (mOp2 (lift2 (ordD gGt)) (mOpN (liftN fLen) (aCons (mVar 2) aNil)) (mC (.int 24))))) (sRet (mC (.bool false))) sSkip)
    (sRet (mAndV (mOpN (liftN fAll) (aCons (mFr (lComp (iS (mVar 2)) (gN 3) mYes (mCall m__could_be_edge (aCons (mVar 3) (aCons (mVar 1) aNil))) [3])) aNil)) (mCall m_is_ascending (aCons (mVar 2) aNil))))))))
def m_is_graph : MF := defM 4 b_is_graph
def b_check_graph : MS :=
  (sIf (mNot (mTru (mCall m_is_graph (aCons (mVar 0) aNil)))) sNever sSkip)
def m_check_graph : MF := defM 1 b_check_graph
def b_neighbours : MS :=
  (sSeq (sAsg (mVar 0) (gTp (gMore (gN 2) (gMore (gN 3) gNone))))
    (sSeq (sLet 1 (mRows (iR1 (aCons (mVar 2) aNil))))
    (sSeq (sFor (iS (mVar 3)) (gTp (gMore (gN 4) (gMore (gN 5) gNone))) (sSeq (sDrop (mMt isL fAppend (mOp2 ixR (mVar 1) (mVar 4)) (aCons (mVar 5) aNil)))
    (sDrop (mMt isL fAppend (mOp2 ixR (mVar 1) (mVar 5)) (aCons (mVar 4) aNil)))))
    (sRet (mOpN (liftN fTuple) (aCons (mFr (lComp (iS (mStill (mVar 1))) (gN 7) mYes (mOpN (liftN fTuple) (aCons (mFr (lOpN lfSorted (aCons (mVar 7) aNil))) aNil)) [7])) aNil))))))
def m_neighbours : MF := defM 8 b_neighbours
def b__reached : MS :=
  (sSeq (sLet 2 (mAl (lDisp (aCons (mVar 0) aNil))))
    (sSeq (sLet 3 (mAl (lDisp (aCons (mVar 0) aNil))))
    (sSeq (sWhile 100000 (mTru (mVar 3)) (sSeq (sLet 4 (mMt isL fPop (mVar 3) aNil))
    (sFor (iS (mOp2 (lift2 fIx) (mVar 1) (mVar 4))) (gN 5) (sIf (mB (mOp2 (lift2 fNotIn) (mVar 5) (mVar 2))) (sSeq (sDrop (mMt isL fAppend (mVar 2) (aCons (mVar 5) aNil)))
    (sDrop (mMt isL fAppend (mVar 3) (aCons (mVar 5) aNil)))) sSkip))))
    (sRet (mOpN (liftN fTuple) (aCons (mFr (lOpN lfSorted (aCons (mVar 2) aNil))) aNil))))))
def m__reached : MF := defM 6 b__reached
def b_components : MS :=
  (sSeq (sDrop (mCall m_check_graph (aCons (mVar 0) aNil)))
    (sSeq (sLet 1 (mCall m_neighbours (aCons (mVar 0) aNil)))
    (sSeq (sLet 2 (mAl (lDisp aNil)))
    (sSeq (sFor (iR1 (aCons (mOp2 (lift2 fIx) (mVar 0) (mC (.int 0))) aNil)) (gN 3) (sIf (mNot (mTru (mOpN (liftN fAny) (aCons (mFr (lCompK (mVar 2) (gN 4) mYes (mOp2 (lift2 fIn) (mVar 3) (mVar 4)) [4])) aNil)))) (sDrop (mMt isL fAppend (mVar 2) (aCons (mCall m__reached (aCons (mVar 3) (aCons (mVar 1) aNil))) aNil))) sSkip))
    (sRet (mOpN (liftN fTuple) (aCons (mVar 2) aNil)))))))
def m_components : MF := defM 5 b_components
end Lw
end

section
set_option maxHeartbeats 4000000
/-! MiR: the calculus' small steps; the laws' drawing. -/
namespace Mi
open PySem PySem.W
section
variable {P : D → Arn → Prop} {PB : Bool → Arn → Prop} {PD : List D → Arn → Prop} {s : Slt} {A : Arn}
@[simp] theorem ap_C {d : PyData} : mC d s A = .ok (.p d) A := rfl
@[simp] theorem To_op1 {f : D → Arn → Option (D × Arn)} {m : ME} : (mOp1 f m s A).To P ↔ (m s A).To fun a A1 => (opt1 (f a A1)).To P := by with_unfolding_all exact To_bind
@[simp] theorem To_op2 {f : D → D → Arn → Option (D × Arn)} {m k : ME} : (mOp2 f m k s A).To P ↔ (m s A).To fun a A1 => (k s A1).To fun b A2 => (opt1 (f a b A2)).To P := by
  with_unfolding_all
    unfold mOp2
    simp only [To_bind]
@[simp] theorem To_opN {f : List D → Arn → Option (D × Arn)} {m : MA} : (mOpN f m s A).To P ↔ (m s A).To fun a A1 => (opt1 (f a A1)).To P := by with_unfolding_all exact To_bind
@[simp] theorem To_nil : (aNil s A).To PD ↔ PD [] A := by with_unfolding_all exact Iff.rfl
@[simp] theorem To_cons {m : ME} {k : MA} : (aCons m k s A).To PD ↔ (m s A).To fun a A1 => (k s A1).To fun as A2 => PD (a :: as) A2 := by
  with_unfolding_all
    unfold aCons
    simp only [To_bind, To_ok]
@[simp] theorem To_call {f : MF} {m : MA} : (mCall f m s A).To P ↔ (m s A).To fun as A1 => (f as A1).To P := by with_unfolding_all exact To_bind
@[simp] theorem To_o1 {d : D} {A' : Arn} : (opt1 (some (d, A'))).To P ↔ P d A' := by with_unfolding_all exact Iff.rfl
@[simp] theorem To_B {m : ME} : (mB m s A).To PB ↔ (m s A).To fun a A1 => ∃ b, a = .p (.bool b) ∧ PB b A1 := by
  with_unfolding_all
    unfold mB
    rw [To_bind]
    refine iff_of_eq (congrArg _ (funext fun a => funext fun A1 => ?_))
    cases a with
    | ref n => simp
    | scr n => simp
    | p d => cases d <;> simp
@[simp] theorem To_not {m : MT} : (mNot m s A).To PB ↔ (m s A).To fun b A1 => PB (!b) A1 := by
  with_unfolding_all
    unfold mNot
    simp only [To_bind, To_ok]
@[simp] theorem To_and {m k : MT} : (mAnd m k s A).To PB ↔ (m s A).To fun b A1 => if b = true then (k s A1).To PB else PB false A1 := by
  with_unfolding_all
    unfold mAnd
    rw [To_bind]
    refine iff_of_eq (congrArg _ (funext fun b => funext fun A1 => ?_))
    cases b <;> rfl
@[simp] theorem To_or {m k : MT} : (mOr m k s A).To PB ↔ (m s A).To fun b A1 => if b = true then PB true A1 else (k s A1).To PB := by
  with_unfolding_all
    unfold mOr
    rw [To_bind]
    refine iff_of_eq (congrArg _ (funext fun b => funext fun A1 => ?_))
    cases b <;> rfl
@[simp] theorem To_tru {m : ME} : (mTru m s A).To PB ↔ (m s A).To fun d A1 => ∃ b, truthD d A1 = some b ∧ PB b A1 := by
  with_unfolding_all
    unfold mTru
    rw [To_bind]
    refine iff_of_eq (congrArg _ (funext fun a => funext fun A1 => ?_))
    cases truthD a A1 <;> simp
theorem To_withB {d : D} {f : Bool → Arn → Res D} : (withB d A f).To P ↔ ∃ b, d = .p (.bool b) ∧ (f b A).To P := by
  with_unfolding_all
    unfold withB asB
    cases d with
    | ref n => simp
    | scr n => simp
    | p d => cases d <;> simp
@[simp] theorem To_orV {m k : ME} : (mOrV m k s A).To P ↔ (m s A).To fun a A1 => ∃ b, a = .p (.bool b) ∧ if b = true then P (.p (.bool true)) A1 else (k s A1).To P := by
  with_unfolding_all
    unfold mOrV
    simp only [To_bind, To_withB]
    refine iff_of_eq (congrArg _ (funext fun a => funext fun A1 => propext (exists_congr fun b => and_congr_right fun _ => ?_)))
    cases b <;> exact Iff.rfl
@[simp] theorem To_andV {m k : ME} : (mAndV m k s A).To P ↔ (m s A).To fun a A1 => ∃ b, a = .p (.bool b) ∧ if b = true then (k s A1).To P else P (.p (.bool false)) A1 := by
  with_unfolding_all
    unfold mAndV
    simp only [To_bind, To_withB]
    refine iff_of_eq (congrArg _ (funext fun a => funext fun A1 => propext (exists_congr fun b => and_congr_right fun _ => ?_)))
    cases b <;> exact Iff.rfl
@[simp] theorem To_notV {m : ME} : (mNotV m s A).To P ↔ (m s A).To fun a A1 => ∃ b, a = .p (.bool b) ∧ P (.p (.bool (!b))) A1 := by
  with_unfolding_all
    unfold mNotV
    simp only [To_bind, To_withB]
    exact Iff.rfl
/-! statements -/
variable {N : Slt → Arn → Prop} {R : D → Arn → Prop}
@[simp] theorem To_let {i : Nat} {m : ME} : (sLet i m s A).To N R ↔ (m s A).To fun d A1 => N (s.set i (some d)) A1 := by with_unfolding_all exact To_from
@[simp] theorem To_drop {m : ME} : (sDrop m s A).To N R ↔ (m s A).To fun _ A1 => N s A1 := by with_unfolding_all exact To_from
@[simp] theorem To_ret {m : ME} : (sRet m s A).To N R ↔ (m s A).To fun d A1 => R d A1 := by with_unfolding_all exact To_from
@[simp] theorem To_skip : (sSkip s A).To N R ↔ N s A := by with_unfolding_all exact Iff.rfl
@[simp] theorem To_put {mv mo mi : ME} : (sPut mv mo mi s A).To N R ↔ (mv s A).To fun v A1 => (mo s A1).To fun o A2 => (mi s A2).To fun i A3 => ∃ A4, putIx o i v A3 = some A4 ∧ N s A4 := by
  with_unfolding_all
    unfold sPut
    simp only [To_from]
    refine iff_of_eq (congrArg _ (funext fun a => funext fun A1 => congrArg _ (funext fun b => funext fun A2 => congrArg _ (funext fun c => funext fun A3 => ?_))))
    cases putIx b c a A3 <;> simp
@[simp] theorem To_forK {m : ME} {g : MG} {b : MS} : (sForK m g b s A).To N R ↔ (m s A).To fun d A1 => ∃ n xs, d = .ref n ∧ A1[n]? = some (.lst xs) ∧ (reviveO n xs (forL (turnF g b) xs s (A1.set n .gone))).To N R := by
  with_unfolding_all
    unfold sForK
    simp only [To_from]
    refine iff_of_eq (congrArg _ (funext fun a => funext fun A1 => ?_))
    cases a with
    | p d => simp
    | scr d => simp
    | ref n =>
      cases e : A1[n]? with
      | none => simp [e]
      | some o => cases o <;> simp [e]
theorem To_var {i : Nat} {d : D} (h : s[i]? = some (some d)) : (mVar i s A).To P ↔ P d A := by
  with_unfolding_all
    unfold mVar
    rw [h]
    exact Iff.rfl
@[simp] theorem To_var0 {d : D} {r : Slt} : (mVar 0 (some d :: r) A).To P ↔ P d A := by with_unfolding_all exact Iff.rfl
@[simp] theorem To_varS {i : Nat} {o : Option D} {r : Slt} : (mVar (i + 1) (o :: r) A).To P ↔ (mVar i r A).To P := by with_unfolding_all exact Iff.rfl
@[simp] theorem To_one {o : Option D} {r : Slt} : (mVar 1 (o :: r) A).To P ↔ (mVar 0 r A).To P := by with_unfolding_all exact Iff.rfl
@[simp] theorem To_two {o : Option D} {r : Slt} : (mVar 2 (o :: r) A).To P ↔ (mVar 1 r A).To P := by with_unfolding_all exact Iff.rfl
@[simp] theorem To_three {o : Option D} {r : Slt} : (mVar 3 (o :: r) A).To P ↔ (mVar 2 r A).To P := by with_unfolding_all exact Iff.rfl
@[simp] theorem To_four {o : Option D} {r : Slt} : (mVar 4 (o :: r) A).To P ↔ (mVar 3 r A).To P := by with_unfolding_all exact Iff.rfl
@[simp] theorem To_five {o : Option D} {r : Slt} : (mVar 5 (o :: r) A).To P ↔ (mVar 4 r A).To P := by with_unfolding_all exact Iff.rfl
@[simp] theorem To_six {o : Option D} {r : Slt} : (mVar 6 (o :: r) A).To P ↔ (mVar 5 r A).To P := by with_unfolding_all exact Iff.rfl
@[simp] theorem To_seven {o : Option D} {r : Slt} : (mVar 7 (o :: r) A).To P ↔ (mVar 6 r A).To P := by with_unfolding_all exact Iff.rfl
@[simp] theorem To_eight {o : Option D} {r : Slt} : (mVar 8 (o :: r) A).To P ↔ (mVar 7 r A).To P := by with_unfolding_all exact Iff.rfl
@[simp] theorem To_nine {o : Option D} {r : Slt} : (mVar 9 (o :: r) A).To P ↔ (mVar 8 r A).To P := by with_unfolding_all exact Iff.rfl
@[simp] theorem To_ten {o : Option D} {r : Slt} : (mVar 10 (o :: r) A).To P ↔ (mVar 9 r A).To P := by with_unfolding_all exact Iff.rfl
@[simp] theorem To_eleven {o : Option D} {r : Slt} : (mVar 11 (o :: r) A).To P ↔ (mVar 10 r A).To P := by with_unfolding_all exact Iff.rfl
/-! data -/
@[simp] theorem data_p {d : PyData} : dataOf (.p d) A = some d := rfl
@[simp] theorem own_p {d : PyData} : dataOwn (.p d) A = some d := rfl
/-- the list of the arena -/
def lst (A : Arn) (n : Nat) : Option (List PyData) := match A[n]? with
  | some (.lst xs) => some xs
  | _ => none
theorem lst_iff {n : Nat} {xs : List PyData} : lst A n = some xs ↔ A[n]? = some (.lst xs) := by
  unfold lst
  cases e : A[n]? with
  | none => simp
  | some o => cases o <;> simp
theorem lst_set {n : Nat} {xs : List PyData} (h : n < A.length) : lst (A.set n (.lst xs)) n = some xs := by
  unfold lst
  rw [List.getElem?_set_self h]
@[simp] theorem lst_new {xs : List PyData} : lst (A ++ [.lst xs]) A.length = some xs := by
  unfold lst
  rw [List.getElem?_append_right (Nat.le_refl _), Nat.sub_self]
  rfl
theorem lst_old {n : Nat} {B : Arn} (h : n < A.length) : lst (A ++ B) n = lst A n := by
  unfold lst
  rw [List.getElem?_append_left h]
@[simp] theorem set_new {o o' : O} : (A ++ [o]).set A.length o' = A ++ [o'] := by
  rw [List.set_append_right _ _ (Nat.le_refl _), Nat.sub_self]
  rfl
@[simp] theorem data_ref {n : Nat} : dataOf (.ref n) A = (lst A n).map .list := by
  unfold dataOf lst
  dsimp only
  cases e : A[n]? with
  | none => rfl
  | some o => cases o <;> rfl
@[simp] theorem own_ref {n : Nat} : dataOwn (.ref n) A = (lst A n).map .list := data_ref
@[simp] theorem data_s {ns : List Int} : dataOf (.scr ns) A = some (.list (ns.map .int)) := rfl
@[simp] theorem lift2_p {f : PyData → PyData → Option PyData} {a b : PyData} : lift2 f (.p a) (.p b) A = (f a b).map fun z => (.p z, A) := rfl
@[simp] theorem lift2o_p {f : PyData → PyData → Option PyData} {a b : PyData} : lift2o f (.p a) (.p b) A = (f a b).map fun z => (.p z, A) := rfl
@[simp] theorem lift1_p {f : PyData → Option PyData} {a : PyData} : lift1 f (.p a) A = (f a).map fun z => (.p z, A) := rfl
@[simp] theorem lift2_ref {f : PyData → PyData → Option PyData} {n : Nat} {b : PyData} : lift2 f (.ref n) (.p b) A = (lst A n).bind fun xs => (f (.list xs) b).map fun z => (.p z, A) := by
  unfold lift2
  rw [data_ref]
  cases lst A n <;> rfl
@[simp] theorem lift2_to {f : PyData → PyData → Option PyData} {n : Nat} {b : PyData} : lift2 f (.p b) (.ref n) A = (lst A n).bind fun xs => (f b (.list xs)).map fun z => (.p z, A) := by
  unfold lift2
  rw [data_ref]
  cases lst A n <;> rfl
@[simp] theorem lift2o_ref {f : PyData → PyData → Option PyData} {n : Nat} {b : PyData} : lift2o f (.ref n) (.p b) A = (lst A n).bind fun xs => (f (.list xs) b).map fun z => (.p z, A) := by
  unfold lift2o
  rw [own_ref]
  cases lst A n <;> rfl
@[simp] theorem liftN_1 {f : List PyData → Option PyData} {a : PyData} : liftN f [.p a] A = (f [a]).map fun z => (.p z, A) := rfl
@[simp] theorem liftN_2 {f : List PyData → Option PyData} {a b : PyData} : liftN f [.p a, .p b] A = (f [a, b]).map fun z => (.p z, A) := rfl
@[simp] theorem liftN_r {f : List PyData → Option PyData} {n : Nat} : liftN f [.ref n] A = (lst A n).bind fun xs => (f [.list xs]).map fun z => (.p z, A) := by
  unfold liftN datasOf datasOf
  rw [data_ref]
  cases lst A n <;> rfl
@[simp] theorem liftN_s {f : List PyData → Option PyData} {ns : List Int} : liftN f [.scr ns] A = (f [.list (ns.map .int)]).map fun z => (.p z, A) := rfl
@[simp] theorem put_r {n : Nat} {k : Int} {y : PyData} : putIx (.ref n) (.p (.int k)) (.p y) A = (lst A n).bind fun xs => (L2.ixN xs.length k).map fun j => A.set n (.lst (xs.set j y)) := by
  unfold putIx lst
  dsimp only
  cases e : A[n]? with
  | none => rfl
  | some o => cases o <;> rfl
@[simp] theorem at_0 {α : Type} {x : α} {r : List α} : L2.atI (x :: r) 0 = some x := by
  unfold L2.atI L2.ixN
  rw [if_pos (by omega), if_pos (by simp)]
  rfl
@[simp] theorem at_1 {α : Type} {x y : α} {r : List α} : L2.atI (x :: y :: r) 1 = some y := by
  unfold L2.atI L2.ixN
  rw [if_pos (by omega), if_pos (by simp; omega)]
  rfl
@[simp] theorem at_2 {α : Type} {x y z : α} {r : List α} : L2.atI (x :: y :: z :: r) 2 = some z := by
  unfold L2.atI L2.ixN
  rw [if_pos (by omega), if_pos (by simp; omega)]
  rfl
@[simp] theorem ix_0 : L2.ixN 3 0 = some 0 := rfl
@[simp] theorem ix_1 : L2.ixN 3 1 = some 1 := rfl
@[simp] theorem ix_2 : L2.ixN 3 2 = some 2 := rfl
@[simp] theorem fIx_l {xs : List PyData} {i : Int} : fIx (.list xs) (.int i) = L2.atI xs i := rfl
@[simp] theorem fIx_t {xs : List PyData} {i : Int} : fIx (.tuple xs) (.int i) = L2.atI xs i := rfl
@[simp] theorem add_ii {i j : Int} : fAdd (.int i) (.int j) = some (.int (i + j)) := rfl
@[simp] theorem sub_ii {i j : Int} : fSub (.int i) (.int j) = some (.int (i - j)) := rfl
theorem mul_ii {i j : Int} (h : (-(2 ^ 64) < i ∧ i < 2 ^ 64) ∨ (-(2 ^ 64) < j ∧ j < 2 ^ 64)) : fMul (.int i) (.int j) = some (.int (i * j)) := if_pos h
theorem div_ii {i j : Int} (h : j ≠ 0 ∧ j.natAbs < 1073741824) : fDiv (.int i) (.int j) = some (.int (i.fdiv j)) := if_pos h
theorem mod_ii {i j : Int} (h : j ≠ 0) : fMod (.int i) (.int j) = some (.int (i.fmod j)) := if_pos h
@[simp] theorem neg_i {i : Int} : fNeg (.int i) = some (.int (-i)) := rfl
@[simp] theorem int_i {i : Int} : fIntT [.int i] = some (.int i) := rfl
@[simp] theorem int_b {b : Bool} : fIntT [.bool b] = some (.int (if b then 1 else 0)) := rfl
@[simp] theorem abs_i {i : Int} : fAbs [.int i] = some (.int (if i < 0 then -i else i)) := rfl
theorem ord_ii {g : PyData → PyData → Bool} {i j : Int} : ordD g (.int i) (.int j) = some (.bool (g (.int i) (.int j))) := by
  unfold ordD
  rw [if_pos]
  refine ⟨?_, rfl, rfl⟩
  unfold comparable
  simp only [alike, Bool.true_and, decide_eq_true_eq]
  simp [PyData.depth]
@[simp] theorem lt_ii {i j : Int} : ordD gLt (.int i) (.int j) = some (.bool (decide (i < j))) := by rw [ord_ii]; unfold gLt; rw [dataLt_int]
@[simp] theorem gt_ii {i j : Int} : ordD gGt (.int i) (.int j) = some (.bool (decide (j < i))) := by rw [ord_ii]; unfold gGt; rw [dataLt_int]
@[simp] theorem le_ii {i j : Int} : ordD gLe (.int i) (.int j) = some (.bool (decide (i ≤ j))) := by
  rw [ord_ii]; unfold gLe; rw [dataLt_int]
  congr 2
  rw [← decide_not]
  exact decide_eq_decide.mpr Int.not_lt
@[simp] theorem ge_ii {i j : Int} : ordD gGe (.int i) (.int j) = some (.bool (decide (j ≤ i))) := by
  rw [ord_ii]; unfold gGe; rw [dataLt_int]
  congr 2
  rw [← decide_not]
  exact decide_eq_decide.mpr Int.not_lt
theorem at_nat {α : Type} {xs : List α} {i : Nat} {x : α} (h : xs[i]? = some x) : L2.atI xs (i : Int) = some x := by
  have hl := (List.getElem?_eq_some_iff.mp h).1
  unfold L2.atI L2.ixN
  rw [if_pos (by omega), if_pos (by omega)]
  exact h
/-- a def whose own lists are dropped -/
theorem To_def {names : Nat} {body : MS} {ds : List D} {P : D → Arn → Prop} (h : (body (ds.map some ++ List.replicate (names - ds.length) none) A).To (fun _ A' => below A.length (A'.take A.length) = true ∧ P (.p .none) (A'.take A.length)) fun d A' => (closeV A.length d A').To P) : (defM names body ds A).To P := by
  with_unfolding_all
    unfold defM finish
    cases e : body (ds.map some ++ List.replicate (names - ds.length) none) A with
    | nx s A' =>
      rw [e] at h
      show (closeV A.length (.p .none) A').To P
      unfold closeV
      rw [if_pos h.1]
      exact h.2
    | rt d A' => rw [e] at h; exact h
    | bk s A' => rw [e] at h; exact h.elim
    | ct s A' => rw [e] at h; exact h.elim
    | exn s A' => rw [e] at h; exact h.elim
    | bad => rw [e] at h; exact h.elim
theorem close_p {n : Nat} {x : PyData} {A' : Arn} (h : plain A') (hp : P (.p x) (A'.take n)) : (closeV n (.p x) A').To P := by
  with_unfolding_all
    unfold closeV
    rw [if_pos (plain_below h n n)]
    exact hp
@[simp] theorem To_close {n : Nat} {x : PyData} {A' : Arn} (h : plain A') : (closeV n (.p x) A').To P ↔ P (.p x) (A'.take n) := by
  with_unfolding_all
    unfold closeV
    rw [if_pos (plain_below h n n)]
    exact Iff.rfl
theorem close_r {n m : Nat} {xs : List PyData} {A' : Arn} (h : plain A') (hm : n ≤ m) (e : lst A' m = some xs) : (closeV n (.ref m) A').To P ↔ P (.p (.list xs)) (A'.take n) := by
  with_unfolding_all
    unfold closeV
    rw [if_pos (plain_below h n n)]
    dsimp only
    rw [if_neg (by omega), lst_iff.mp e]
    exact Iff.rfl
@[simp] theorem plain_setL {n : Nat} {xs : List PyData} (h : plain A) : plain (A.set n (.lst xs)) := plain_set h fun ns e => by cases e
@[simp] theorem plain_setG {n : Nat} (h : plain A) : plain (A.set n .gone) := plain_set h fun ns e => by cases e
@[simp] theorem plain_snoc {xs : List PyData} (h : plain A) : plain (A ++ [.lst xs]) := plain_app h plain_one
@[simp] theorem take_set {n : Nat} {o : O} : (A.set n o).take A.length = A.set n o := List.take_of_length_le (by rw [List.length_set]; exact Nat.le_refl _)
@[simp] theorem below_plain {n m : Nat} (h : plain A) : below n (A.take m) = true := plain_below h n m
end
end Mi
namespace Lw
open PySem PySem.W Mi
theorem draw {A : Arn} {n : Nat} {k : Int} (hw : Wl A n) (hp : plain A) (hk : 0 < k) (hk2 : k < 1000000) : (m__law_draw [.ref n, .p (.int k)] A).To fun d A' => (∃ i : Int, d = .p (.int i) ∧ 0 ≤ i ∧ i < k) ∧ Wup A n A' := by
  with_unfolding_all
    have hlt := hw.lt
    obtain ⟨a, b, c, hA⟩ := hw
    have hL := lst_iff.mpr hA
    have kne : k ≠ 0 := by omega
    have hf : ∀ x : Int, 0 ≤ x.fmod k ∧ x.fmod k < k := fun x => ⟨Int.fmod_nonneg_of_pos x hk, Int.fmod_lt_of_pos x hk⟩
    unfold m__law_draw
    refine To_def ?_
    unfold b__law_draw
    have hs : ∀ x : Int, (-(2 ^ 64) < x.fmod 2147483399 ∧ x.fmod 2147483399 < 2 ^ 64) := fun x => by
      have h1 := Int.fmod_nonneg_of_pos x (show (0 : Int) < 2147483399 by decide)
      have h2 := Int.fmod_lt_of_pos x (show (0 : Int) < 2147483399 by decide)
      omega
    have hd : k.natAbs < 1073741824 := by omega
    have hm : ∀ x y : Int, fMul (.int (x.fmod 2147483399)) (.int y) = some (.int (x.fmod 2147483399 * y)) := fun x y => mul_ii (.inl (hs x))
    simp [hL, lst_set hlt, mod_ii, mul_ii, div_ii, kne, hd, hm, hp, hf]
    rcases Int.lt_or_le 0 a with h | h
    · exact .inr ⟨h, _, _, _, rfl⟩
    · exact .inl ⟨h, _, _, _, rfl⟩
end Lw
end

section
set_option maxHeartbeats 4000000
/-! MiS: pairs of numbers as data; graphs as the laws keep them. -/
namespace Lw
open PySem PySem.W Mi
abbrev Ed := Int × Int
def encP (p : Ed) : PyData := .tuple [.int p.1, .int p.2]
def encE (es : List Ed) : List PyData := es.map encP
def encG (v : Int) (es : List Ed) : PyData := .tuple [.int v, .tuple (encE es)]
theorem layP : ∀ es : List Ed, PyData.canLayAll0 (encE es) = true
  | [] => rfl
  | p :: es => by
    show PyData.canLayAll0 (encP p :: encE es) = true
    rw [PyData.canLayAll0, layP es]
    rfl
theorem depthP : ∀ es : List Ed, PyData.depthAll (encE es) ≤ 1
  | [] => Nat.zero_le _
  | p :: es => by
    show PyData.depthAll (encP p :: encE es) ≤ 1
    rw [PyData.depthAll]
    exact Nat.max_le.mpr ⟨by simp [encP, PyData.depth, PyData.depthAll], depthP es⟩
theorem shP (p : Ed) : SeqAt.shaped (encP p) = true := by
  unfold SeqAt.shaped
  simp [encP, PyData.canLay0, PyData.canLayAll0, PyData.depth, PyData.depthAll]
theorem shL (es : List Ed) : SeqAt.shaped (.list (encE es)) = true := by
  unfold SeqAt.shaped
  rw [PyData.canLay0, PyData.depth, layP, Bool.true_and, decide_eq_true_eq]
  have := depthP es
  omega
theorem shT (es : List Ed) : SeqAt.shaped (.tuple (encE es)) = true := by
  unfold SeqAt.shaped
  rw [PyData.canLay0, PyData.depth, layP, Bool.true_and, decide_eq_true_eq]
  have := depthP es
  omega
@[simp] theorem shI (i : Int) : SeqAt.shaped (.int i) = true := by
  unfold SeqAt.shaped
  simp [PyData.canLay0, PyData.depth]
theorem eqvP (p q : Ed) : PyData.eqv (encP p) (encP q) = decide (p = q) := by
  unfold encP
  rw [PyData.eqv, PyData.eqvAll, PyData.eqvAll, PyData.eqvAll, PyData.eqv, PyData.eqv]
  obtain ⟨a, b⟩ := p
  obtain ⟨c, d⟩ := q
  simp only [Prod.mk.injEq, Bool.and_true]
  by_cases h1 : a = c <;> by_cases h2 : b = d <;> simp [h1, h2]
@[simp] theorem ne_ii {i j : Int} : fNe (.int i) (.int j) = some (.bool (decide (i ≠ j))) := by
  unfold fNe
  dsimp only
  rw [if_pos ⟨shI i, shI j⟩, PyData.eqv]
  by_cases h : i = j <;> simp [h]
@[simp] theorem eq_ii {i j : Int} : fEq (.int i) (.int j) = some (.bool (decide (i = j))) := by
  unfold fEq
  rw [if_pos ⟨shI i, shI j⟩, PyData.eqv]
  by_cases h : i = j <;> simp [h]
theorem eq_pp {p q : Ed} : fEq (encP p) (encP q) = some (.bool (decide (p = q))) := by
  unfold fEq
  rw [if_pos ⟨shP p, shP q⟩, eqvP]
theorem ne_pp {p q : Ed} : fNe (encP p) (encP q) = some (.bool (decide (p ≠ q))) := by
  show (if SeqAt.shaped (encP p) = true ∧ SeqAt.shaped (encP q) = true then some (PyData.bool (!PyData.eqv (encP p) (encP q))) else none) = _
  rw [if_pos ⟨shP p, shP q⟩, eqvP]
  by_cases h : p = q <;> simp [h]
theorem any_pp (p : Ed) (es : List Ed) : ((encE es).any fun z => PyData.eqv z (encP p)) = decide (p ∈ es) := by
  unfold encE
  rw [List.any_map]
  rw [Bool.eq_iff_iff, List.any_eq_true, decide_eq_true_eq]
  constructor
  · rintro ⟨q, hq, e⟩
    have e : PyData.eqv (encP q) (encP p) = true := e
    rw [eqvP, decide_eq_true_eq] at e
    rw [← e]
    exact hq
  · intro h
    refine ⟨p, h, ?_⟩
    show PyData.eqv (encP p) (encP p) = true
    rw [eqvP]
    simp
theorem notIn_pp {p : Ed} {es : List Ed} : fNotIn (encP p) (.list (encE es)) = some (.bool (decide (p ∉ es))) := by
  unfold fNotIn
  dsimp only
  rw [if_pos ⟨shP p, shL es⟩, any_pp]
  by_cases h : p ∈ es <;> simp [h]
theorem in_pp {p : Ed} {es : List Ed} : fIn (encP p) (.list (encE es)) = some (.bool (decide (p ∈ es))) := by
  unfold fIn
  dsimp only
  rw [if_pos ⟨shP p, shL es⟩, any_pp]
/-! the order -/
def pLt (p q : Ed) : Prop := p.1 < q.1 ∨ (p.1 = q.1 ∧ p.2 < q.2)
instance (p q : Ed) : Decidable (pLt p q) := inferInstanceAs (Decidable (_ ∨ _))
def pLe (p q : Ed) : Bool := decide (¬ pLt q p)
theorem lt_pp (p q : Ed) : dataLt (encP p) (encP q) = decide (pLt p q) := dataLt_ii _ _ _ _
theorem le_pp (p q : Ed) : dataLe false id (encP p) (encP q) = pLe p q := by
  rw [dataLe_eq]
  show (!dataLt (encP q) (encP p)) = pLe p q
  rw [lt_pp]
  unfold pLe
  rw [← decide_not]
theorem srt_pp (es : List Ed) : srt (encE es) = encE (es.mergeSort pLe) := by
  unfold srt encE
  exact (List.map_mergeSort fun a _ b _ => (le_pp a b).symm).symm
theorem alikeP (p q : Ed) : alike (encP p) (encP q) = true := by
  unfold encP
  rw [alike, alikeAll, alikeAll, alikeAll, alike, alike]
  rfl
theorem sorted_pp {es : List Ed} (h : es.length ≤ 100000) : lfSorted [.list (encE es)] = some (encE (es.mergeSort pLe)) := by
  unfold lfSorted
  dsimp only
  rw [if_pos, srt_pp]
  refine ⟨?_, ?_, by unfold encE; rw [List.length_map]; exact h, Nat.le_trans (depthP es) (by decide)⟩
  · unfold allAlike encE
    simp only [List.all_eq_true, List.mem_map]
    rintro _ ⟨p, _, rfl⟩ _ ⟨q, _, rfl⟩
    exact alikeP p q
  · unfold Mi.sortable encE
    rw [Bool.or_eq_true]
    refine .inl ?_
    simp only [List.all_eq_true, List.mem_map]
    rintro _ ⟨p, _, rfl⟩
    rfl
theorem pLe_trans (a b c : Ed) (h : pLe a b = true) (k : pLe b c = true) : pLe a c = true := by
  unfold pLe pLt at *
  simp only [decide_eq_true_eq] at *
  omega
theorem pLe_total (a b : Ed) : (pLe a b || pLe b a) = true := by
  unfold pLe pLt
  simp only [Bool.or_eq_true, decide_eq_true_eq]
  omega
theorem pLt_of {a b : Ed} (h : pLe a b = true) (ne : a ≠ b) : pLt a b := by
  unfold pLe at h
  simp only [decide_eq_true_eq] at h
  unfold pLt at *
  obtain ⟨a1, a2⟩ := a
  obtain ⟨b1, b2⟩ := b
  simp only [ne_eq, Prod.mk.injEq, not_and] at *
  by_cases e : a1 = b1
  · have := ne e
    omega
  · omega
/-- two ascending rows with the same members -/
theorem asc_ext : ∀ {xs ys : List Ed}, xs.Pairwise pLt → ys.Pairwise pLt → (∀ p, p ∈ xs ↔ p ∈ ys) → xs = ys := by
  have irr : ∀ p : Ed, ¬ pLt p p := fun p h => by unfold pLt at h; omega
  have asy : ∀ p q : Ed, pLt p q → ¬ pLt q p := fun p q h k => by unfold pLt at *; omega
  intro xs
  induction xs with
  | nil =>
    intro ys _ _ h
    cases ys with
    | nil => rfl
    | cons y ys => exact absurd ((h y).mpr List.mem_cons_self) (by simp)
  | cons x xs ih =>
    intro ys hx hy h
    cases ys with
    | nil => exact absurd ((h x).mp List.mem_cons_self) (by simp)
    | cons y ys =>
      rw [List.pairwise_cons] at hx hy
      have e : x = y := by
        rcases List.mem_cons.mp ((h x).mp List.mem_cons_self) with e | m
        · exact e
        · rcases List.mem_cons.mp ((h y).mpr List.mem_cons_self) with e | k
          · exact e.symm
          · exact absurd (hx.1 y k) (asy _ _ (hy.1 x m))
      subst e
      rw [ih hx.2 hy.2 fun p => ?_]
      constructor
      · intro m
        rcases List.mem_cons.mp ((h p).mp (List.mem_cons_of_mem _ m)) with e | k
        · subst e; exact absurd (hx.1 _ m) (irr _)
        · exact k
      · intro m
        rcases List.mem_cons.mp ((h p).mpr (List.mem_cons_of_mem _ m)) with e | k
        · subst e; exact absurd (hy.1 _ m) (irr _)
        · exact k
/-! what the laws keep of some pairs -/
def nrm (p : Ed) : Ed := if p.1 < p.2 then p else (p.2, p.1)
def ddS (acc : List Ed) (p : Ed) : List Ed := if p.1 ≠ p.2 ∧ nrm p ∉ acc then acc ++ [nrm p] else acc
def dd (es : List Ed) : List Ed := es.foldl ddS []
def keptE (es : List Ed) : List Ed := (dd es).mergeSort pLe
theorem dd_snoc (es : List Ed) (p : Ed) : dd (es ++ [p]) = ddS (dd es) p := by
  unfold dd
  rw [List.foldl_append]
  rfl
theorem dd_aux : ∀ (es acc : List Ed), acc.Nodup → (es.foldl ddS acc).Nodup ∧ (∀ q, q ∈ es.foldl ddS acc ↔ q ∈ acc ∨ ∃ p, p ∈ es ∧ p.1 ≠ p.2 ∧ nrm p = q) ∧ (es.foldl ddS acc).length ≤ acc.length + es.length
  | [], acc, h => ⟨h, fun q => by simp, by simp⟩
  | p :: es, acc, h => by
    have hs : (ddS acc p).Nodup ∧ (∀ q, q ∈ ddS acc p ↔ q ∈ acc ∨ (p.1 ≠ p.2 ∧ nrm p = q)) ∧ (ddS acc p).length ≤ acc.length + 1 := by
      unfold ddS
      by_cases c : p.1 ≠ p.2 ∧ nrm p ∉ acc
      · rw [if_pos c]
        refine ⟨?_, fun q => ?_, by simp⟩
        · rw [List.nodup_append]
          refine ⟨h, by simp, fun a ha b hb => ?_⟩
          rw [List.mem_singleton] at hb
          subst hb
          rintro rfl
          exact c.2 ha
        · rw [List.mem_append, List.mem_singleton]
          exact or_congr_right ⟨fun e => ⟨c.1, e.symm⟩, fun e => e.2.symm⟩
      · rw [if_neg c]
        refine ⟨h, fun q => ⟨.inl, ?_⟩, by omega⟩
        rintro (m | ⟨e1, rfl⟩)
        · exact m
        · by_cases m : nrm p ∈ acc
          · exact m
          · exact absurd ⟨e1, m⟩ c
    obtain ⟨h1, h2, h3⟩ := dd_aux es (ddS acc p) hs.1
    refine ⟨h1, fun q => ?_, by rw [List.length_cons]; have := hs.2.2; exact Nat.le_trans h3 (by omega)⟩
    refine (h2 q).trans ?_
    rw [hs.2.1 q]
    constructor
    · rintro ((m | e) | ⟨r, a, b, e⟩)
      · exact .inl m
      · exact .inr ⟨p, List.mem_cons_self, e.1, e.2⟩
      · exact .inr ⟨r, List.mem_cons_of_mem _ a, b, e⟩
    · rintro (m | ⟨r, a, b, e⟩)
      · exact .inl (.inl m)
      · rcases List.mem_cons.mp a with rfl | a
        · exact .inl (.inr ⟨b, e⟩)
        · exact .inr ⟨r, a, b, e⟩
theorem dd_spec (es : List Ed) : (dd es).Nodup ∧ (∀ q, q ∈ dd es ↔ ∃ p, p ∈ es ∧ p.1 ≠ p.2 ∧ nrm p = q) ∧ (dd es).length ≤ es.length := by
  obtain ⟨h1, h2, h3⟩ := dd_aux es [] List.nodup_nil
  exact ⟨h1, fun q => (h2 q).trans (by simp), by rw [List.length_nil, Nat.zero_add] at h3; exact h3⟩
theorem kept_mem {es : List Ed} {q : Ed} : q ∈ keptE es ↔ ∃ p, p ∈ es ∧ p.1 ≠ p.2 ∧ nrm p = q := by
  unfold keptE
  rw [List.mem_mergeSort]
  exact (dd_spec es).2.1 q
theorem kept_asc (es : List Ed) : (keptE es).Pairwise pLt := by
  have h1 : (keptE es).Pairwise (fun a b => pLe a b = true) := List.pairwise_mergeSort pLe_trans pLe_total _
  have h2 : (keptE es).Nodup := (List.mergeSort_perm _ _).nodup_iff.mpr (dd_spec es).1
  exact (h1.and h2).imp fun h => pLt_of h.1 h.2
theorem kept_length (es : List Ed) : (keptE es).length ≤ es.length := by
  unfold keptE
  rw [List.length_mergeSort]
  exact (dd_spec es).2.2
theorem kept_lt {es : List Ed} {q : Ed} (h : q ∈ keptE es) : q.1 < q.2 := by
  obtain ⟨p, _, hne, rfl⟩ := kept_mem.mp h
  unfold nrm
  split
  · assumption
  · dsimp only
    omega
end Lw
end

section
set_option maxHeartbeats 4000000
/-! MiU: more of the calculus' small steps. -/
namespace Mi
open PySem PySem.W
section
variable {P : D → Arn → Prop} {PB : Bool → Arn → Prop} {PD : List D → Arn → Prop} {PL : List PyData → Arn → Prop} {PO : Option Int → Arn → Prop} {N : Slt → Arn → Prop} {R : D → Arn → Prop} {s : Slt} {A : Arn}
@[simp] theorem To_o0 {α : Type} {P : α → Arn → Prop} {a : α} {A' : Arn} : (opt0 (some (a, A'))).To P ↔ P a A' := by with_unfolding_all exact Iff.rfl
@[simp] theorem To_fr {m : ML} : (mFr m s A).To P ↔ (m s A).To fun xs A1 => P (.p (.list xs)) A1 := by with_unfolding_all exact To_bind
@[simp] theorem To_al {m : ML} : (mAl m s A).To P ↔ (m s A).To fun xs A1 => P (.ref A1.length) (A1 ++ [.lst xs]) := by with_unfolding_all exact To_bind
@[simp] theorem To_disp {m : MA} : (lDisp m s A).To PL ↔ (m s A).To fun ds A1 => (opt0 ((frzs ds A1).bind fun x => if x.1.length ≤ 100000 then some x else none)).To PL := by with_unfolding_all exact To_bind
@[simp] theorem To_mtup {m : MA} : (mTup m s A).To P ↔ (m s A).To fun ds A1 => (opt1 ((frzs ds A1).bind fun x => if x.1.length ≤ 100000 then some (.p (.tuple x.1), x.2) else none)).To P := by with_unfolding_all exact To_bind
@[simp] theorem frzs_nil : frzs [] A = some ([], A) := rfl
@[simp] theorem frzs_p {d : PyData} {ds : List D} : frzs (.p d :: ds) A = (frzs ds A).map fun xs => (d :: xs.1, xs.2) := rfl
@[simp] theorem frz_p {d : PyData} : frz (.p d) A = some (d, A) := rfl
@[simp] theorem frz_r {n : Nat} : frz (.ref n) A = (lst A n).map fun xs => (.list xs, A.set n .gone) := by
  unfold frz lst
  dsimp only
  cases e : A[n]? with
  | none => rfl
  | some o => cases o <;> rfl
@[simp] theorem To_lop {f : List PyData → Option (List PyData)} {m : MA} : (lOpN f m s A).To PL ↔ (m s A).To fun ds A1 => (opt0 ((datasOf ds A1).bind fun xs => (f xs).map fun zs => (zs, A1))).To PL := by with_unfolding_all exact To_bind
@[simp] theorem datas_nil : datasOf [] A = some [] := rfl
@[simp] theorem datas_p {d : PyData} {ds : List D} : datasOf (.p d :: ds) A = (datasOf ds A).map fun xs => d :: xs := rfl
@[simp] theorem datas_r {n : Nat} {ds : List D} : datasOf (.ref n :: ds) A = (lst A n).bind fun x => (datasOf ds A).map fun xs => .list x :: xs := by
  show ((dataOf (.ref n) A).bind fun x => (datasOf ds A).map fun xs => x :: xs) = _
  rw [data_ref]
  cases lst A n <;> rfl
@[simp] theorem To_mt {chk : D → Arn → Bool} {f : D → List D → Arn → Option (D × Arn)} {o : ME} {m : MA} : (mMt chk f o m s A).To P ↔ (o s A).To fun a A1 => chk a A1 = true ∧ (m s A1).To fun ds A2 => (opt1 (f a ds A2)).To P := by
  with_unfolding_all
    unfold mMt
    rw [To_bind]
    refine iff_of_eq (congrArg _ (funext fun a => funext fun A1 => ?_))
    by_cases c : chk a A1 = true
    · rw [if_pos c]; simp [c]
    · rw [if_neg c]; simp [c]
@[simp] theorem isL_r {n : Nat} : isL (.ref n) A = (lst A n).isSome := by
  unfold isL
  rw [data_ref]
  cases lst A n <;> rfl
@[simp] theorem app_r {n : Nat} {y : PyData} : fAppend (.ref n) [.p y] A = (lst A n).bind fun xs => if xs.length < 100000 then some (.p .none, A.set n (.lst (xs ++ [y]))) else none := by
  unfold fAppend lst
  dsimp only
  cases e : A[n]? with
  | none => rfl
  | some o => cases o <;> rfl
@[simp] theorem To_iS {m : ME} : (iS m s A).To PL ↔ (m s A).To fun d A1 => (opt0 ((frz d A1).bind fun x => (itemsOf x.1).map fun xs => (xs, x.2))).To PL := by with_unfolding_all exact To_bind
def small (j : Int) : Prop := -1000000 ≤ j ∧ j ≤ 1000000
theorem rng1_small {j : Int} (h : small j) : rng1 [j] = some (rangeD 0 j.toNat) := by
  unfold small at h
  unfold rng1
  dsimp only
  exact if_pos (by omega)
theorem rng2_small {i j : Int} (h : small i) (k : small j) : rng2 [i, j] = some (rangeD i (j - i).toNat) := by
  unfold small at h k
  unfold rng2
  dsimp only
  exact if_pos (by omega)
theorem To_iR1 {m : MA} (h : (m s A).To fun ds A1 => ∃ j : Int, ds = [.p (.int j)] ∧ small j ∧ PL (rangeD 0 j.toNat) A1) : (iR1 m s A).To PL := by
  with_unfolding_all
    unfold iR1
    refine To_bind.mpr (h.mono fun ds A1 => ?_)
    rintro ⟨j, rfl, hj, q⟩
    show (opt0 ((rng1 [j]).map fun xs => (xs, A1))).To PL
    rw [rng1_small hj]
    exact q
theorem To_iR2 {m : MA} (h : (m s A).To fun ds A1 => ∃ i j : Int, ds = [.p (.int i), .p (.int j)] ∧ small i ∧ small j ∧ PL (rangeD i (j - i).toNat) A1) : (iR2 m s A).To PL := by
  with_unfolding_all
    unfold iR2
    refine To_bind.mpr (h.mono fun ds A1 => ?_)
    rintro ⟨i, j, rfl, hi, hj, q⟩
    show (opt0 ((rng2 [i, j]).map fun xs => (xs, A1))).To PL
    rw [rng2_small hi hj]
    exact q
@[simp] theorem items_l {xs : List PyData} : itemsOf (.list xs) = some xs := rfl
@[simp] theorem items_t {xs : List PyData} : itemsOf (.tuple xs) = some xs := rfl
@[simp] theorem intsD_nil : intsD [] = some [] := rfl
@[simp] theorem intsD_i {i : Int} {ds : List D} : intsD (.p (.int i) :: ds) = (intsD ds).map fun ns => i :: ns := rfl
@[simp] theorem To_turnF {g : MG} {b : MS} {x : PyData} : (turnF g b x s A).To N R ↔ ∃ s', g x s = some s' ∧ (b s' A).To N R := by
  with_unfolding_all
    unfold turnF
    cases g x s <;> simp
@[simp] theorem gN_ap {i : Nat} {x : PyData} : gN i x s = some (s.set i (some (.p x))) := rfl
@[simp] theorem gNone_ap : gNone [] s = some s := rfl
@[simp] theorem gMore_ap {g : MG} {r : List PyData → Slt → Option Slt} {x : PyData} {xs : List PyData} : gMore g r (x :: xs) s = (g x s).bind (r xs) := rfl
@[simp] theorem gTp_ap {r : List PyData → Slt → Option Slt} {xs : List PyData} : gTp r (.tuple xs) s = r xs s := rfl
@[simp] theorem To_asg {m : ME} {g : MG} : (sAsg m g s A).To N R ↔ (m s A).To fun d A1 => ∃ x s', d = .p x ∧ g x s = some s' ∧ N s' A1 := by
  with_unfolding_all
    unfold sAsg
    rw [To_from]
    refine iff_of_eq (congrArg _ (funext fun a => funext fun A1 => ?_))
    cases a with
    | ref n => simp
    | scr n => simp
    | p d =>
      show ((optS (g d s) A1).To N R) = _
      unfold optS
      cases e : g d s with
      | none => simp [e]
      | some t => simp [e]
@[simp] theorem To_par {i j : Nat} {m : MA} : (sPar i j m s A).To N R ↔ (m s A).To fun ds A1 => ∃ d e, ds = [d, e] ∧ N ((s.set i (some d)).set j (some e)) A1 := by
  with_unfolding_all
    unfold sPar
    rw [To_from]
    refine iff_of_eq (congrArg _ (funext fun a => funext fun A1 => ?_))
    cases a with
    | nil => simp
    | cons d r =>
      cases r with
      | nil => simp
      | cons e r =>
        cases r with
        | nil => exact propext ⟨fun h => ⟨d, e, rfl, h⟩, fun ⟨_, _, q, h⟩ => by cases q; exact h⟩
        | cons f r => simp
@[simp] theorem To_slA {m : ME} {k l : MP} : (mSlA m k l s A).To P ↔ (m s A).To fun d A1 => (k s A1).To fun lo A2 => (l s A2).To fun hi A3 => (opt1 ((dataOf d A3).bind fun x => (fSlA x lo hi).map fun z => (.p z, A3))).To P := by
  with_unfolding_all
    unfold mSlA
    simp only [To_bind]
@[simp] theorem To_pNo : (pNo s A).To PO ↔ PO none A := by with_unfolding_all exact Iff.rfl
@[simp] theorem To_pSome {m : ME} : (pSome m s A).To PO ↔ (m s A).To fun d A1 => ∃ i, d = .p (.int i) ∧ PO (some i) A1 := by
  with_unfolding_all
    unfold pSome
    rw [To_bind]
    refine iff_of_eq (congrArg _ (funext fun a => funext fun A1 => ?_))
    cases a with
    | ref n => simp
    | scr n => simp
    | p d => cases d <;> simp
@[simp] theorem To_rev {m : ME} : (mRev m s A).To P ↔ (m s A).To fun a A1 => (opt1 (lift1 fRev a A1)).To P := by with_unfolding_all exact To_op1
@[simp] theorem To_cut {m k : ME} : (lCut m k s A).To PL ↔ (m s A).To fun a A1 => isS a A1 = true ∧ (k s A1).To fun b A2 => (opt0 ((dataOf a A2).bind fun x => (dataOf b A2).bind fun y => (lfCut x y).map fun z => (z, A2))).To PL := by
  with_unfolding_all
    unfold lCut
    rw [To_bind]
    refine iff_of_eq (congrArg _ (funext fun a => funext fun A1 => ?_))
    by_cases c : isS a A1 = true
    · rw [if_pos c]; simp [c]
    · rw [if_neg c]; simp [c]
def isiF (T : String) (ds : List PyData) : Option PyData := match ds with
  | [d] => (isInst d T).map PyData.bool
  | _ => none
def tyF (T : String) (neg : Bool) (ds : List PyData) : Option PyData := match ds with
  | [d] => some (.bool (if neg then !decide (tyName d = T) else decide (tyName d = T)))
  | _ => none
@[simp] theorem isiF_1 {T : String} {d : PyData} : isiF T [d] = (isInst d T).map PyData.bool := rfl
@[simp] theorem tyF_1 {T : String} {neg : Bool} {d : PyData} : tyF T neg [d] = some (.bool (if neg then !decide (tyName d = T) else decide (tyName d = T))) := rfl
@[simp] theorem To_isi {T : String} {m : ME} : (mIsi T m s A).To P ↔ (m s A).To fun a A1 => (opt1 (liftN (isiF T) [a] A1)).To P := by
  with_unfolding_all
    show (mOpN (liftN (isiF T)) (aCons m aNil) s A).To P ↔ _
    simp only [To_opN, To_cons, To_nil]
@[simp] theorem To_tyIs {T : String} {neg : Bool} {m : ME} : (mTyIs T neg m s A).To P ↔ (m s A).To fun a A1 => (opt1 (liftN (tyF T neg) [a] A1)).To P := by
  with_unfolding_all
    show (mOpN (liftN (tyF T neg)) (aCons m aNil) s A).To P ↔ _
    simp only [To_opN, To_cons, To_nil]
@[simp] theorem To_chain {m : ME} {r : MD} : (mCh m r s A).To P ↔ (m s A).To fun a A1 => (r a s A1).To P := by with_unfolding_all exact To_bind
@[simp] theorem To_last {f : D → D → Arn → Option (D × Arn)} {k : ME} {a : D} : (mLast f k a s A).To P ↔ (k s A).To fun b A1 => (opt1 (f a b A1)).To P := by with_unfolding_all exact To_bind
@[simp] theorem To_link {f : D → D → Arn → Option (D × Arn)} {k : ME} {r : MD} {a : D} : (mLink f k r a s A).To P ↔ (k s A).To fun b A1 => (opt1 (f a b A1)).To fun c A2 => ∃ t, c = .p (.bool t) ∧ if t = true then (r b s A2).To P else P (.p (.bool false)) A2 := by
  with_unfolding_all
    unfold mLink
    simp only [To_bind]
    refine iff_of_eq (congrArg _ (funext fun b => funext fun A1 => congrArg _ (funext fun c => funext fun A2 => ?_)))
    unfold cutD
    cases c with
    | ref n => simp
    | scr n => simp
    | p d =>
      cases d with
      | bool t => cases t <;> simp
      | none => simp
      | int i => simp
      | str i => simp
      | list i => simp
      | tuple i => simp
      | dict i => simp
@[simp] theorem tru_b {b : Bool} : truthD (.p (.bool b)) A = some b := rfl
@[simp] theorem tru_l {n : Nat} : truthD (.ref n) A = (lst A n).map fun xs => !xs.isEmpty := by
  unfold truthD
  rw [data_ref]
  cases lst A n <;> rfl
@[simp] theorem To_lRg1 {m : ME} : (lRg1 m s A).To PL ↔ (m s A).To fun d A1 => ∃ n : Int, d = .p (.int n) ∧ -(2 ^ 62) ≤ n ∧ n ≤ 16777216 ∧ PL (rangeD 0 n.toNat) A1 := by
  with_unfolding_all
    unfold lRg1
    rw [To_bind]
    refine iff_of_eq (congrArg _ (funext fun a => funext fun A1 => ?_))
    cases a with
    | ref n => simp
    | scr n => simp
    | p d =>
      cases d with
      | int i =>
        dsimp only
        by_cases c : -(2 ^ 62) ≤ i ∧ i ≤ 16777216
        · rw [if_pos c]; simp [c.1, c.2]; omega
        · rw [if_neg c]; simp; omega
      | none => simp
      | bool i => simp
      | str i => simp
      | list i => simp
      | tuple i => simp
      | dict i => simp
/-- comprehensions, turn by turn -/
theorem To_comp (f : PyData → Option PyData) {it : MI} {gm : MG} {tt : MT} {te : ME} {vs : List Nat} (hi : (it s A).To fun xs A1 => A1 = A ∧ xs.length ≤ 100000 ∧ (∀ x, x ∈ xs → turnC gm tt te (wipeS s vs) x A = .ok (f x) A) ∧ PL (xs.filterMap f) A) : (lComp it gm tt te vs s A).To PL := by
  with_unfolding_all
    unfold lComp
    refine To_bind.mpr (hi.mono fun xs A1 => ?_)
    rintro ⟨rfl, hl, h, q⟩
    show (compL _ xs [] A1).To PL
    rw [compL_pure xs [] h (by simpa using hl)]
    exact q
theorem To_compK (f : PyData → Option PyData) {m : ME} {n : Nat} {xs : List PyData} {gm : MG} {tt : MT} {te : ME} {vs : List Nat} (hm : (m s A).To fun d A1 => d = .ref n ∧ A1 = A ∧ lst A n = some xs ∧ xs.length ≤ 100000 ∧ (∀ x, x ∈ xs → turnC gm tt te (wipeS s vs) x (A.set n .gone) = .ok (f x) (A.set n .gone)) ∧ PL (xs.filterMap f) A) : (lCompK m gm tt te vs s A).To PL := by
  with_unfolding_all
    unfold lCompK
    refine To_bind.mpr (hm.mono fun d A1 => ?_)
    rintro ⟨rfl, rfl, h1, hl, h, q⟩
    have h2 := lst_iff.mp h1
    obtain ⟨hlt, h3⟩ := List.getElem?_eq_some_iff.mp h2
    dsimp only
    rw [h2]
    dsimp only
    rw [compL_pure xs [] h (by simpa using hl)]
    have e : isGone (A1.set n .gone) n = true := by
      unfold isGone
      rw [List.getElem?_set_self hlt]
    show (if isGone (A1.set n .gone) n = true then Res.ok ([] ++ xs.filterMap f) ((A1.set n .gone).set n (.lst xs)) else .bad).To PL
    rw [if_pos e, List.set_set, ← h3, List.set_getElem_self]
    exact q
@[simp] theorem To_yes : (mYes s A).To PB ↔ PB true A := by with_unfolding_all exact Iff.rfl
/-- a turn by what its parts come to -/
theorem turn_of {gm : MG} {tt : MT} {te : ME} {s0 : Slt} {x : PyData} {f : PyData → Option PyData} (h : ∃ s', gm x s0 = some s' ∧ (tt s' A).To fun b A1 => if b = true then (te s' A1).To fun d A2 => ∃ y, frz d A2 = some (y, A) ∧ f x = some y else f x = none ∧ A1 = A) : turnC gm tt te s0 x A = .ok (f x) A := by
  with_unfolding_all
    obtain ⟨s', e, h⟩ := h
    unfold turnC
    rw [e]
    dsimp only
    unfold turnB
    obtain ⟨b, A1, e1, h⟩ := h.ex
    rw [e1]
    show (if b = true then _ else _) = _
    cases b with
    | false =>
      obtain ⟨hf, rfl⟩ := h
      rw [if_neg (by decide), hf]
    | true =>
      rw [if_pos rfl]
      obtain ⟨d, A2, e2, y, e3, e4⟩ := h.ex
      rw [e2]
      show opt0 ((frz d A2).map fun y => (some y.1, y.2)) = _
      rw [e3, e4]
      rfl
theorem To_defK {A : Arn} {names : Nat} {body : MS} {ds : List D} {P : D → Arn → Prop} (h : (body (ds.map some ++ List.replicate (names - ds.length) none) A).To (fun _ _ => False) fun d A' => ∃ m xs, d = .ref m ∧ A.length ≤ m ∧ plain A' ∧ lst A' m = some xs ∧ P (.ref A.length) (A'.take A.length ++ [.lst xs])) : (defK names body ds A).To P := by
  with_unfolding_all
    unfold defK finishK
    cases e : body (ds.map some ++ List.replicate (names - ds.length) none) A with
    | nx s A' => rw [e] at h; first | exact (To_nx.mp h).elim | exact (To_bk.mp h).elim | exact (To_ct.mp h).elim | exact (To_exO.mp h).elim | exact (To_badO.mp h).elim
    | rt d A' =>
      rw [e, To_rt] at h
      obtain ⟨m, xs, rfl, hm, hp, hl, hq⟩ := h
      show (closeK A.length (.ref m) A').To P
      unfold closeK
      rw [if_pos (plain_below hp _ _)]
      dsimp only
      rw [if_neg (by omega), lst_iff.mp hl]
      exact hq
    | bk s A' => rw [e] at h; first | exact (To_nx.mp h).elim | exact (To_bk.mp h).elim | exact (To_ct.mp h).elim | exact (To_exO.mp h).elim | exact (To_badO.mp h).elim
    | ct s A' => rw [e] at h; first | exact (To_nx.mp h).elim | exact (To_bk.mp h).elim | exact (To_ct.mp h).elim | exact (To_exO.mp h).elim | exact (To_badO.mp h).elim
    | exn s A' => rw [e] at h; first | exact (To_nx.mp h).elim | exact (To_bk.mp h).elim | exact (To_ct.mp h).elim | exact (To_exO.mp h).elim | exact (To_badO.mp h).elim
    | bad => rw [e] at h; first | exact (To_nx.mp h).elim | exact (To_bk.mp h).elim | exact (To_ct.mp h).elim | exact (To_exO.mp h).elim | exact (To_badO.mp h).elim
theorem forL_to (I : Nat → Slt → Arn → Prop) {step : PyData → MS} {xs : List PyData} (hI : ∀ i x s A, xs[i]? = some x → I i s A → (step x s A).To (I (i + 1)) R) (h0 : I 0 s A) (hN : ∀ s A, I xs.length s A → N s A) : (forL step xs s A).To N R :=
  (forL_inv step xs I s A hI h0).mono hN fun _ _ h => h
end
end Mi
end

section
set_option maxHeartbeats 4000000
/-! MiT: what the laws' drawing defs come to. -/
namespace Lw
open PySem PySem.W Mi
theorem pick {A : Arn} {n : Nat} {xs : List PyData} {c : PyData} (hw : Wl A n) (hp : plain A) (h0 : xs ≠ []) (h1 : xs.length < 100000) (hc : c = .tuple xs ∨ c = .list xs) :
    (m__law_pick [.ref n, .p c] A).To fun d A' => (∃ x, d = .p x ∧ x ∈ xs) ∧ Wup A n A' := by
  have hlen : fLen [c] = some (.int xs.length) := by
    rcases hc with rfl | rfl
    · exact if_pos (by omega)
    · exact if_pos (by omega)
  have hpos : 0 < xs.length := List.length_pos_iff.mpr h0
  unfold m__law_pick
  refine To_def ?_
  unfold b__law_pick
  simp [hlen]
  refine (draw hw hp (k := (xs.length : Int)) (by omega) (by omega)).mono fun d A' h => ?_
  obtain ⟨⟨i, rfl, i0, i1⟩, u⟩ := h
  have hi : i.toNat < xs.length := by omega
  have e : fIx c (.int i) = some xs[i.toNat] := by
    obtain ⟨j, rfl⟩ := Int.eq_ofNat_of_zero_le i0
    rcases hc with rfl | rfl
    · exact at_nat (List.getElem?_eq_getElem hi)
    · exact at_nat (List.getElem?_eq_getElem hi)
  have ht : A'.take A.length = A' := List.take_of_length_le (Nat.le_of_eq u.length)
  simp [e, u.plain hp, ht]
  exact u
/-! kept -/
@[simp] theorem gTp_P {r : List PyData → Slt → Option Slt} {p : Ed} {s : Slt} : gTp r (encP p) s = r [.int p.1, .int p.2] s := rfl
theorem encE_snoc (es : List Ed) (p : Ed) : encE es ++ [encP p] = encE (es ++ [p]) := by
  unfold encE
  rw [List.map_append]
  rfl
theorem kept_step {v x3 x4 x5 : Option D} {e : Option D} {A : Arn} {acc : List Ed} {p : Ed} (hl : acc.length < 100000) {R : D → Arn → Prop} :
    (turnF (gTp (gMore (gN 3) (gMore (gN 4) gNone))) (sSeq (sLet 5 (mIfE (mB (mOp2 (lift2 (ordD gLt)) (mVar 3) (mVar 4))) (mTup (aCons (mVar 3) (aCons (mVar 4) aNil))) (mTup (aCons (mVar 4) (aCons (mVar 3) aNil)))))
    (sIf (mAnd (mB (mOp2 (lift2 fNe) (mVar 3) (mVar 4))) (mB (mOp2 (lift2 fNotIn) (mVar 5) (mVar 2)))) (sDrop (mMt isL fAppend (mVar 2) (aCons (mVar 5) aNil))) sSkip)) (encP p) [v, e, some (.ref A.length), x3, x4, x5] (A ++ [.lst (encE acc)])).To
    (fun s B => (∃ y3 y4 y5, s = [v, e, some (.ref A.length), y3, y4, y5]) ∧ B = A ++ [.lst (encE (ddS acc p))]) R := by
  have hL : lst (A ++ [O.lst (encE acc)]) A.length = some (encE acc) := lst_new
  have hN : (encE acc).length < 100000 := by unfold encE; rw [List.length_map]; exact hl
  obtain ⟨a, b⟩ := p
  have ht : ∀ x y : Int, PyData.tuple [.int x, .int y] = encP (x, y) := fun _ _ => rfl
  by_cases c : a < b
  · have e : nrm (a, b) = (a, b) := if_pos c
    have e2 : a ≠ b := by omega
    by_cases d : (a, b) ∈ acc
    · simp [c, hL, ht, notIn_pp, e2, d, ddS, e]
    · simp [c, hL, ht, notIn_pp, e2, d, ddS, e, hN, encE_snoc]
  · have e : nrm (a, b) = (b, a) := if_neg c
    by_cases e2 : a = b
    · subst e2
      simp [hL, ddS]
    · by_cases d : (b, a) ∈ acc
      · simp [c, hL, ht, notIn_pp, e2, d, ddS, e]
      · simp [c, hL, ht, notIn_pp, e2, d, ddS, e, hN, encE_snoc]
theorem dd_take {es : List Ed} {i : Nat} {p : Ed} (h : es[i]? = some p) : ddS (dd (es.take i)) p = dd (es.take (i + 1)) := by
  rw [← dd_snoc, List.take_succ, h]
  rfl
theorem getE {es : List Ed} {i : Nat} {x : PyData} (h : (encE es)[i]? = some x) : ∃ p, es[i]? = some p ∧ x = encP p := by
  unfold encE at h
  rw [List.getElem?_map] at h
  cases e : es[i]? with
  | none => rw [e] at h; cases h
  | some p => rw [e] at h; cases h; exact ⟨p, rfl, rfl⟩
@[simp] theorem encE_nil : encE [] = [] := rfl
theorem kept_core {A A1 : Arn} {v : PyData} {e : D} {x : PyData} {es : List Ed} (hp : plain A1) (hf : frz e A = some (x, A1)) (hx : itemsOf x = some (encE es)) (hl : es.length ≤ 2000) (hlen : A1.length = A.length) (hold : ∀ B, frz e (A ++ B) = some (x, A1 ++ B)) :
    (m__law_kept [.p v, e] A).To fun d A' => d = .p (.tuple [v, .tuple (encE (keptE es))]) ∧ A' = A1 := by
  unfold m__law_kept
  refine To_def ?_
  unfold b__law_kept
  have h2 := hold [.lst []]
  simp [h2, hx]
  refine forL_to (fun i s B => ∃ y3 y4 y5, s = [some (.p v), some e, some (.ref A1.length), y3, y4, y5] ∧ B = A1 ++ [.lst (encE (dd (es.take i)))]) ?_ ⟨none, none, none, by rw [hlen], rfl⟩ ?_
  · rintro i y s B hy ⟨y3, y4, y5, rfl, rfl⟩
    obtain ⟨p, hp2, rfl⟩ := getE hy
    have hd : (dd (es.take i)).length < 100000 := by
      have := (dd_spec (es.take i)).2.2
      rw [List.length_take] at this
      omega
    refine (kept_step hd).mono ?_ (fun _ _ h => h)
    rintro s' B' ⟨⟨z3, z4, z5, rfl⟩, rfl⟩
    exact ⟨z3, z4, z5, rfl, by rw [dd_take hp2]⟩
  · rintro s B ⟨y3, y4, y5, rfl, rfl⟩
    have hle : (encE es).length = es.length := by unfold encE; rw [List.length_map]
    rw [hle, List.take_length]
    have hL : lst (A1 ++ [O.lst (encE (dd es))]) A1.length = some (encE (dd es)) := lst_new
    have hs : lfSorted [.list (encE (dd es))] = some (encE (keptE es)) := sorted_pp (Nat.le_trans (dd_spec es).2.2 (by omega))
    simp [hL, hs, fTuple, hp, ← hlen]
theorem kept {A : Arn} {v : PyData} {c : PyData} {es : List Ed} (hp : plain A) (hc : c = .list (encE es) ∨ c = .tuple (encE es)) (hl : es.length ≤ 2000) :
    (m__law_kept [.p v, .p c] A).To fun d A' => d = .p (.tuple [v, .tuple (encE (keptE es))]) ∧ A' = A := by
  refine kept_core (x := c) hp rfl ?_ hl rfl fun B => rfl
  rcases hc with rfl | rfl <;> rfl
theorem keptR {A : Arn} {v : PyData} {m : Nat} {es : List Ed} (hp : plain A) (hm : lst A m = some (encE es)) (hl : es.length ≤ 2000) :
    (m__law_kept [.p v, .ref m] A).To fun d A' => d = .p (.tuple [v, .tuple (encE (keptE es))]) ∧ A' = A.set m .gone := by
  have hlt : m < A.length := (List.getElem?_eq_some_iff.mp (lst_iff.mp hm)).1
  refine kept_core (x := .list (encE es)) (plain_setG hp) ?_ rfl hl (by rw [List.length_set]) fun B => ?_
  · rw [frz_r, hm]; rfl
  · rw [frz_r, lst_old hlt, hm, List.set_append_left _ _ hlt]; rfl
end Lw
end

section
set_option maxHeartbeats 4000000
/-! MiV: wells, all pairs, orders, names exchanged. -/
namespace Mi
open PySem PySem.W
theorem cut_mem {α : Type} {xs : List α} {lo hi : Option Int} {x : α} (h : x ∈ cutD' xs lo hi) : x ∈ xs := by
  unfold cutD' at h
  exact List.mem_of_mem_drop (List.mem_of_mem_take h)
theorem mem_ints {ns : List Int} {x : PyData} (h : x ∈ ns.map PyData.int) : ∃ i, x = .int i := by
  obtain ⟨i, _, rfl⟩ := List.mem_map.mp h
  exact ⟨i, rfl⟩
@[simp] theorem pow_16 : fPow (.int 10) (.int 16) = some (.int 10000000000000000) := rfl
@[simp] theorem slA_l {xs : List PyData} {lo hi : Option Int} : fSlA (.list xs) lo hi = some (.list (cutD' xs lo hi)) := rfl
@[simp] theorem slA_t {xs : List PyData} {lo hi : Option Int} : fSlA (.tuple xs) lo hi = some (.tuple (cutD' xs lo hi)) := rfl
@[simp] theorem frz_s {ns : List Int} {A : Arn} : frz (.scr ns) A = none := rfl
end Mi
namespace Lw
open PySem PySem.W Mi
theorem well {A : Arn} {ns : List Int} {t : Nat} (hp : plain A) (hn : ns.length ≤ 63) :
    (m__law_well [.scr ns, .p (.int t)] A).To fun d A' => d = .ref A.length ∧ ∃ a b c : Int, A' = A ++ [.lst [.int a, .int b, .int c]] := by
  have hlen : fLen [.list (ns.map PyData.int)] = some (.int ns.length) := by
    unfold fLen
    dsimp only
    rw [if_pos (by rw [List.length_map]; omega), List.length_map]
  unfold m__law_well
  refine To_defK ?_
  unfold b__law_well
  have core : ∀ own : Int, (forL (turnF (gN 4) (sLet 3 (mOp2 (lift2 fMod) (mOpN (liftN fIntT) (aCons (mOp2 (lift2o fAdd) (mOp2 (lift2o fAdd) (mOp2 (lift2 fMul) (mVar 3) (mC (.int 22695))) (mOp2 (lift2 fMod) (mOpN (liftN fIntT) (aCons (mVar 4) aNil)) (mC (.int 2147483423)))) (mC (.int 53))) aNil)) (mC (.int 2147483399))))) (cutD' (ns.map PyData.int) none (some 11)) [some (.scr ns), some (.p (.int t)), some (.p (.int own)), some (.p (.int (97 + 32452843 * t))), none] A).To
      (fun s B => (∃ (m : Int) (y : Option D), s = [some (.scr ns), some (.p (.int t)), some (.p (.int own)), some (.p (.int m)), y]) ∧ B = A) (fun _ _ => False) := by
    intro own
    refine forL_to (fun _ s B => (∃ (m : Int) (y : Option D), s = [some (.scr ns), some (.p (.int t)), some (.p (.int own)), some (.p (.int m)), y]) ∧ B = A) ?_ ⟨⟨_, _, rfl⟩, rfl⟩ fun _ _ h => h
    rintro i x s B hx ⟨⟨m, y, rfl⟩, rfl⟩
    obtain ⟨j, rfl⟩ := mem_ints (cut_mem (List.mem_of_getElem? hx))
    simp [mul_ii, mod_ii]
  have ixs : ∀ (h : t < ns.length), lift2 fIx (.scr ns) (.p (.int t)) A = some (.p (.int ns[t]), A) := fun h => by
    unfold lift2
    rw [data_s]
    show ((fIx (.list (ns.map .int)) (.int t)).map fun z => (D.p z, A)) = _
    rw [fIx_l, at_nat (x := .int ns[t]) (by rw [List.getElem?_map, List.getElem?_eq_getElem h]; rfl)]
    rfl
  by_cases c : t < ns.length
  · simp [hlen, mul_ii, c, ixs c]
    refine (core ns[t]).mono ?_ fun _ _ h => h.elim
    rintro s B ⟨⟨m, y, rfl⟩, rfl⟩
    simp [mul_ii, mod_ii, hp]
    by_cases d : (10000000000000000 : Int) ≤ (if ns[t] < 0 then -ns[t] else ns[t])
    · simp [d]
    · simp [d, Int.not_le.mp d]
  · simp [hlen, mul_ii, c]
    refine (core 0).mono ?_ fun _ _ h => h.elim
    rintro s B ⟨⟨m, y, rfl⟩, rfl⟩
    simp [mul_ii, mod_ii, hp]
theorem rangeD_get {n i : Nat} {x : PyData} (h : (rangeD 0 n)[i]? = some x) : i < n ∧ x = .int (i : Int) := by
  have hl := (List.getElem?_eq_some_iff.mp h).1
  have hi : i < n := by simpa [rangeD] using hl
  unfold rangeD at h
  rw [List.getElem?_map, List.getElem?_range hi] at h
  refine ⟨hi, ?_⟩
  have := (Option.some.inj h).symm
  rw [this]
  simp
/-! all pairs below v -/
def rowA (v a : Nat) : List Ed := (List.range (v - (a + 1))).map fun j => ((a : Int), ((a + 1 + j : Nat) : Int))
def pairsTo (v n : Nat) : List Ed := (List.range n).flatMap (rowA v)
theorem rowA_mem {v a : Nat} {p : Ed} (h : p ∈ rowA v a) : p.1 = a ∧ p.1 < p.2 ∧ p.2 < v := by
  obtain ⟨j, hj, rfl⟩ := List.mem_map.mp h
  have := List.mem_range.mp hj
  dsimp only
  omega
theorem pairsTo_succ (v n : Nat) : pairsTo v (n + 1) = pairsTo v n ++ rowA v n := by
  unfold pairsTo
  rw [List.range_succ, List.flatMap_append]
  simp
theorem pairsTo_mem {v n : Nat} {p : Ed} (h : p ∈ pairsTo v n) : 0 ≤ p.1 ∧ p.1 < p.2 ∧ p.2 < v := by
  obtain ⟨a, _, h⟩ := List.mem_flatMap.mp h
  have := rowA_mem h
  omega
theorem pairsTo_length (v : Nat) : ∀ n, (pairsTo v n).length ≤ n * v
  | 0 => by simp [pairsTo]
  | n + 1 => by
    rw [pairsTo_succ, List.length_append, Nat.succ_mul]
    have h1 := pairsTo_length v n
    have h2 : (rowA v n).length ≤ v := by unfold rowA; rw [List.length_map, List.length_range]; omega
    omega
theorem rowA_length (v a : Nat) : (rowA v a).length = v - (a + 1) := by unfold rowA; rw [List.length_map, List.length_range]
theorem encE_app (es fs : List Ed) : encE es ++ encE fs = encE (es ++ fs) := by
  unfold encE
  rw [List.map_append]
theorem encE_length (es : List Ed) : (encE es).length = es.length := by
  unfold encE
  rw [List.length_map]
theorem row_comp {v a : Nat} : (rangeD ((a : Int) + 1) (v - (a + 1))).filterMap (fun x => match x with
    | .int b => some (encP ((a : Int), b))
    | _ => none) = encE (rowA v a) := by
  unfold rangeD encE rowA
  rw [List.filterMap_map, List.map_map]
  show List.filterMap (some ∘ fun (j : Nat) => encP ((a : Int), (a : Int) + 1 + (j : Int))) _ = _
  rw [List.filterMap_eq_map]
  refine List.map_congr_left fun j _ => ?_
  show encP ((a : Int), (a : Int) + 1 + (j : Int)) = encP ((a : Int), ((a + 1 + j : Nat) : Int))
  rw [show (a : Int) + 1 + (j : Int) = ((a + 1 + j : Nat) : Int) by omega]
theorem pairs_of {A : Arn} {v : Nat} (hp : plain A) (hv : v ≤ 10) : (m__law_pairs_of [.p (.int v)] A).To fun d A' => d = .p (.list (encE (pairsTo v v))) ∧ A' = A := by
  unfold m__law_pairs_of
  refine To_def ?_
  unfold b__law_pairs_of
  simp
  refine To_iR1 ?_
  simp
  refine ⟨(by unfold small; omega), ?_⟩
  refine forL_to (fun i s B => (∃ y, s = [some (.p (.int v)), some (.p (.list (encE (pairsTo v i)))), y, none]) ∧ B = A) ?_ ⟨⟨none, rfl⟩, rfl⟩ ?_
  · rintro i x s B hx ⟨⟨y, rfl⟩, rfl⟩
    obtain ⟨hi, rfl⟩ := rangeD_get hx
    simp
    refine To_comp (fun x => match x with
      | .int b => some (encP ((i : Int), b))
      | _ => none) (To_iR2 ?_)
    have hrow := rowA_length v i
    have hto := pairsTo_length v i
    have hb1 : i * v ≤ 100 := Nat.mul_le_mul (Nat.le_trans (Nat.le_of_lt hi) hv) hv
    have en : ((v : Int) - ((i : Int) + 1)).toNat = v - (i + 1) := by omega
    simp
    refine ⟨_, _, ⟨rfl, rfl⟩, by unfold small; omega, by unfold small; omega, ?_⟩
    rw [en]
    refine ⟨by unfold rangeD; rw [List.length_map, List.length_range]; omega, ?_, ?_⟩
    · intro x hx
      obtain ⟨j, _, rfl⟩ := List.mem_map.mp hx
      refine turn_of (f := fun x => match x with
        | .int b => some (encP ((i : Int), b))
        | _ => none) ⟨_, rfl, ?_⟩
      simp [wipeS, encP]
    · rw [row_comp]
      have hsum : (pairsTo v i).length + (rowA v i).length ≤ 100000 := by omega
      simp [fAdd, encE_length, encE_app, pairsTo_succ, hsum]
  · rintro s B ⟨⟨y, rfl⟩, rfl⟩
    have : (rangeD 0 v).length = v := by unfold rangeD; rw [List.length_map, List.length_range]
    simp [hp, this]
/-! an order -/
def encI (ns : List Int) : List PyData := ns.map PyData.int
theorem encI_length (ns : List Int) : (encI ns).length = ns.length := by unfold encI; rw [List.length_map]
theorem layI : ∀ ns : List Int, PyData.canLayAll0 (encI ns) = true
  | [] => rfl
  | n :: ns => by
    show PyData.canLayAll0 (.int n :: encI ns) = true
    rw [PyData.canLayAll0, layI ns]
    rfl
theorem depthI : ∀ ns : List Int, PyData.depthAll (encI ns) ≤ 0
  | [] => Nat.le_refl _
  | n :: ns => by
    show PyData.depthAll (.int n :: encI ns) ≤ 0
    rw [PyData.depthAll]
    exact Nat.max_le.mpr ⟨by simp [PyData.depth], depthI ns⟩
theorem shIs (ns : List Int) : SeqAt.shaped (.list (encI ns)) = true := by
  unfold SeqAt.shaped
  rw [PyData.canLay0, PyData.depth, layI, Bool.true_and, decide_eq_true_eq]
  have := depthI ns
  omega
theorem ne_nil {ns : List Int} : fNe (.list (encI ns)) (.list []) = some (.bool (decide (ns ≠ []))) := by
  unfold fNe
  dsimp only
  rw [if_pos ⟨shIs ns, shIs []⟩, PyData.eqv]
  cases ns with
  | nil => rfl
  | cons a b => rfl
def keepNe (m : Int) (x : PyData) : Option PyData := match x with
  | .int j => if j = m then none else some (.int j)
  | _ => none
theorem keepNe_map (m : Int) : ∀ left : List Int, (encI left).filterMap (keepNe m) = encI (left.filter (fun x => x != m))
  | [] => rfl
  | a :: r => by
    show List.filterMap (keepNe m) (.int a :: encI r) = _
    rw [List.filterMap_cons, List.filter_cons, keepNe_map m r]
    by_cases q : a = m
    · subst q; simp [keepNe]
    · simp [keepNe, q, encI]
theorem order {A : Arn} {n k : Nat} (hw : Wl A n) (hp : plain A) (hk : k ≤ 1000) :
    (m__law_order [.ref n, .p (.int k)] A).To fun d A' => (∃ os : List Int, d = .p (.list (encI os)) ∧ os.length = k ∧ os.Nodup ∧ ∀ x, x ∈ os ↔ 0 ≤ x ∧ x < k) ∧ Wup A n A' := by
  unfold m__law_order
  refine To_def ?_
  unfold b__law_order
  have hlt := hw.lt
  simp
  refine ⟨by omega, _, _, ⟨rfl, rfl⟩, ?_⟩
  show (whileN _ _ 100000 _ _).To _ _
  refine while_inv (fun j s B => ∃ (left os : List Int) (y4 y5 : Option D) (A1 : Arn), s = [some (.ref n), some (.p (.int k)), some (.p (.list (encI left))), some (.ref A.length), y4, y5] ∧ B = A1 ++ [.lst (encI os)] ∧ Wup A n A1 ∧ left.Nodup ∧ os.Nodup ∧ (∀ x, x ∈ os → x ∉ left) ∧ (∀ x, (x ∈ os ∨ x ∈ left) ↔ 0 ≤ x ∧ x < k) ∧ os.length + left.length = k ∧ j = left.length) ?_ 100000 k _ _ (by omega) ?_
  · rintro j s B ⟨left, os, y4, y5, A1, rfl, rfl, up, n1, n2, dis, mem, len, rfl⟩
    have hp1 := up.plain hp
    have hw1 := up.wl hw
    have hl1 : A1.length = A.length := up.length
    simp [ne_nil]
    by_cases c : left = []
    · subst c
      left
      have hL : lst (A1 ++ [O.lst (encI os)]) A.length = some (encI os) := by rw [← hl1]; exact lst_new
      refine ⟨rfl, ?_⟩
      rw [close_r (plain_snoc hp1) (Nat.le_refl _) hL, ← hl1, List.take_left]
      exact ⟨⟨os, rfl, by simpa using len, n2, fun x => by simpa using mem x⟩, up⟩
    · right
      have hpos : 0 < left.length := List.length_pos_iff.mpr c
      refine ⟨c, hpos, (pick (c := .list (encI left)) (xs := encI left) hw1.app (plain_snoc hp1) (fun e => ?_) (by rw [encI_length]; omega) (.inr rfl)).mono ?_⟩
      · have := congrArg List.length e
        rw [encI_length, List.length_nil] at this
        omega
      rintro d B ⟨⟨x, rfl, hx⟩, u⟩
      obtain ⟨m, hm, rfl⟩ := List.mem_map.mp hx
      obtain ⟨A2, rfl, u2⟩ := u.app (by omega)
      have up2 := up.trans u2
      have hl2 : A2.length = A.length := up2.length
      have hL : lst (A2 ++ [O.lst (encI os)]) A.length = some (encI os) := by rw [← hl2]; exact lst_new
      have hS : ∀ o o' : O, (A2 ++ [o]).set A.length o' = A2 ++ [o'] := fun o o' => by rw [← hl2]; exact set_new
      have hE : encI os ++ [PyData.int m] = encI (os ++ [m]) := by unfold encI; rw [List.map_append]; rfl
      have hlo : os.length < 100000 := by omega
      simp [hL, hS, encI_length, hlo, hE]
      refine To_comp (keepNe m) ?_
      simp
      refine ⟨by rw [encI_length]; omega, ?_, ?_⟩
      · intro x hx
        obtain ⟨j, _, rfl⟩ := List.mem_map.mp hx
        refine turn_of (f := keepNe m) ⟨_, rfl, ?_⟩
        simp [wipeS, keepNe]
        by_cases q : j = m <;> simp [q]
      · have hf : (encI left).filterMap (keepNe m) = encI (left.erase m) := by
          rw [n1.erase_eq_filter, keepNe_map]
        refine ⟨(left.erase m).length, ?_, left.erase m, hf, os ++ [m], A2, ⟨rfl, rfl⟩, up2, n1.erase m, ?_, ?_, ?_, ?_, rfl⟩
        · rw [List.length_erase_of_mem hm]; omega
        · rw [List.nodup_append]
          refine ⟨n2, by simp, fun a ha b hb => ?_⟩
          rw [List.mem_singleton] at hb
          subst hb
          rintro rfl
          exact dis a ha hm
        · intro x hx
          rw [n1.mem_erase_iff]
          rcases List.mem_append.mp hx with hx | hx
          · exact fun h => dis x hx h.2
          · rw [List.mem_singleton] at hx
            exact fun h => h.1 hx
        · intro x
          rw [← mem x, n1.mem_erase_iff, List.mem_append, List.mem_singleton]
          by_cases q : x = m
          · subst q; simp [hm]
          · simp [q]
        · rw [List.length_append, List.length_erase_of_mem hm, List.length_cons, List.length_nil]; omega
  · refine ⟨(List.range k).map fun (i : Nat) => (i : Int), [], none, none, A, ?_, rfl, Wup.refl hw, ?_, List.nodup_nil, fun x h => by simp at h, fun x => ?_, by simp, by simp⟩
    · simp [encI, rangeD]
    · rw [List.nodup_iff_pairwise_ne, List.pairwise_map]
      exact List.nodup_range.imp fun h e => h (by omega)
    · simp only [List.not_mem_nil, false_or, List.mem_map, List.mem_range]
      constructor
      · rintro ⟨i, hi, rfl⟩; omega
      · rintro ⟨h0, h1⟩; exact ⟨x.toNat, by omega, by omega⟩
end Lw
end

section
set_option maxHeartbeats 4000000
/-! MiW: graphs out of texts, families. -/
namespace Lw
open PySem PySem.W Mi
def In (v : Int) (p : Ed) : Prop := 0 ≤ p.1 ∧ p.1 < v ∧ 0 ≤ p.2 ∧ p.2 < v
structure GOkay (v : Int) (es : List Ed) : Prop where
  lo : 1 ≤ v
  hi : v ≤ 10
  len : es.length ≤ 24
  asc : es.Pairwise pLt
  inn : ∀ p, p ∈ es → 0 ≤ p.1 ∧ p.1 < p.2 ∧ p.2 < v
theorem nrm_in {v : Int} {p : Ed} (h : In v p) : In v (nrm p) := by
  unfold nrm In at *
  split
  · exact h
  · exact ⟨h.2.2.1, h.2.2.2, h.1, h.2.1⟩
theorem kept_ok {v : Int} {es : List Ed} (h1 : 1 ≤ v) (h2 : v ≤ 10) (hl : es.length ≤ 24) (h : ∀ p, p ∈ es → In v p) : GOkay v (keptE es) where
  lo := h1
  hi := h2
  len := Nat.le_trans (kept_length es) hl
  asc := kept_asc es
  inn := fun q hq => by
    have hlt := kept_lt hq
    obtain ⟨p, hp, _, rfl⟩ := kept_mem.mp hq
    have := nrm_in (h p hp)
    unfold In at this
    omega
/-! names exchanged -/
def ren (os : List Int) (p : Ed) : Ed := (os.getD p.1.toNat 0, os.getD p.2.toNat 0)
def renF (os : List Int) (x : PyData) : Option PyData := match x with
  | .tuple [.int a, .int b] => some (encP (ren os (a, b)))
  | _ => none
theorem renF_map (os : List Int) : ∀ es : List Ed, (encE es).filterMap (renF os) = encE (es.map (ren os))
  | [] => rfl
  | p :: r => by
    show List.filterMap (renF os) (encP p :: encE r) = _
    rw [List.filterMap_cons, renF_map os r]
    rfl
theorem at_enc {os : List Int} {i : Int} (h0 : 0 ≤ i) (h1 : i < os.length) : L2.atI (encI os) i = some (.int (os.getD i.toNat 0)) := by
  obtain ⟨j, rfl⟩ := Int.eq_ofNat_of_zero_le h0
  have hj : j < os.length := by omega
  refine at_nat ?_
  unfold encI
  rw [List.getElem?_map, List.getElem?_eq_getElem hj]
  simp [List.getD, hj]
theorem named {A : Arn} {v : Int} {es : List Ed} {os : List Int} (hp : plain A) (hl : es.length ≤ 2000) (h : ∀ p, p ∈ es → In os.length p) :
    (m__law_named [.p (encG v es), .p (.list (encI os))] A).To fun d A' => d = .p (encG v (keptE (es.map (ren os)))) ∧ A' = A := by
  unfold m__law_named
  refine To_def ?_
  unfold b__law_named
  simp [encG]
  refine To_comp (renF os) ?_
  simp
  refine ⟨by rw [encE_length]; omega, ?_, ?_⟩
  · intro x hx
    obtain ⟨p, hp2, rfl⟩ := List.mem_map.mp hx
    have hin := h p hp2
    unfold In at hin
    refine turn_of (f := renF os) ⟨_, rfl, ?_⟩
    simp [wipeS, at_enc hin.1 hin.2.1, at_enc hin.2.2.1 hin.2.2.2]
    rfl
  · rw [renF_map]
    refine (kept (es := es.map (ren os)) hp (.inl rfl) (by rw [List.length_map]; exact hl)).mono ?_
    rintro d A' ⟨rfl, rfl⟩
    simp [hp]
/-! a text's graph -/
def pw (w : Str) : Option Ed := match Txt.split w "-" with
  | [a, b] => if a.length ≤ 640 ∧ b.length ≤ 640 ∧ w.length ≤ 100000 then (PySem.intText? a).bind fun x => (PySem.intText? b).map fun y => (x, y) else none
  | _ => none
def pws : List Str → Option (List Ed)
  | [] => some []
  | w :: ws => (pw w).bind fun p => (pws ws).map fun ps => p :: ps
def parse (t : Str) : Option (Int × List Ed) := match Txt.split t " " with
  | w :: ws => if t.length ≤ 100000 ∧ w.length ≤ 100000 ∧ (L2.cutS w none (some (-1))).length ≤ 640 ∧ ws.length ≤ 2000 then (PySem.intText? (L2.cutS w none (some (-1)))).bind fun v => (pws ws).map fun es => (v, es) else none
  | [] => none
def cutF (x : PyData) : Option PyData := match x with
  | .str w => some (.list ((Txt.split w "-").map PyData.str))
  | _ => none
def numF (x : PyData) : Option PyData := match x with
  | .list [.str a, .str b] => (PySem.intText? a).bind fun x => (PySem.intText? b).map fun y => encP (x, y)
  | _ => none
theorem pw_ok {w : Str} {p : Ed} (h : pw w = some p) : ∃ a b, Txt.split w "-" = [a, b] ∧ a.length ≤ 640 ∧ b.length ≤ 640 ∧ w.length ≤ 100000 ∧ PySem.intText? a = some p.1 ∧ PySem.intText? b = some p.2 := by
  unfold pw at h
  split at h
  · rename_i a b e
    split at h
    · rename_i c
      cases ea : PySem.intText? a with
      | none => rw [ea] at h; cases h
      | some x =>
        cases eb : PySem.intText? b with
        | none => rw [ea, eb] at h; cases h
        | some y => rw [ea, eb] at h; cases h; exact ⟨a, b, e, c.1, c.2.1, c.2.2, ea, eb⟩
    · cases h
  · cases h
theorem pws_mem : ∀ {ws : List Str} {ps : List Ed}, pws ws = some ps → ∀ w, w ∈ ws → ∃ p, pw w = some p
  | [], _, _, w, h => by simp at h
  | a :: ws, ps, e, w, h => by
    unfold pws at e
    cases ea : pw a with
    | none => rw [ea] at e; cases e
    | some p =>
      cases eb : pws ws with
      | none => rw [ea, eb] at e; cases e
      | some qs =>
        rcases List.mem_cons.mp h with rfl | h
        · exact ⟨p, ea⟩
        · exact pws_mem eb w h
theorem pws_length : ∀ {ws : List Str} {ps : List Ed}, pws ws = some ps → ps.length = ws.length
  | [], _, e => by cases e; rfl
  | a :: ws, ps, e => by
    unfold pws at e
    cases ea : pw a with
    | none => rw [ea] at e; cases e
    | some p =>
      cases eb : pws ws with
      | none => rw [ea, eb] at e; cases e
      | some qs =>
        rw [ea, eb] at e
        cases e
        rw [List.length_cons, List.length_cons, pws_length eb]
theorem cutF_map : ∀ ws : List Str, (ws.map PyData.str).filterMap cutF = ws.map fun w => .list ((Txt.split w "-").map PyData.str)
  | [] => rfl
  | w :: ws => by
    show List.filterMap cutF (.str w :: ws.map PyData.str) = _
    rw [List.filterMap_cons, cutF_map ws]
    rfl
theorem numF_map : ∀ {ws : List Str} {ps : List Ed}, pws ws = some ps → (ws.map fun w => PyData.list ((Txt.split w "-").map PyData.str)).filterMap numF = encE ps
  | [], _, e => by cases e; rfl
  | a :: ws, ps, e => by
    unfold pws at e
    cases ea : pw a with
    | none => rw [ea] at e; cases e
    | some p =>
      cases eb : pws ws with
      | none => rw [ea, eb] at e; cases e
      | some qs =>
        rw [ea, eb] at e
        cases e
        obtain ⟨x, y, e1, _, _, _, e2, e3⟩ := pw_ok ea
        have hn : numF (.list ([x, y].map PyData.str)) = some (encP p) := by
          show ((PySem.intText? x).bind fun x => (PySem.intText? y).map fun y => encP (x, y)) = _
          rw [e2, e3]
          rfl
        rw [List.map_cons, List.filterMap_cons, numF_map eb, e1, hn]
        rfl
theorem cutF_comp (ws : List Str) : ws.filterMap (cutF ∘ PyData.str) = ws.map fun w => .list ((Txt.split w "-").map PyData.str) := by
  rw [← List.filterMap_map]
  exact cutF_map ws
theorem numF_comp {ws : List Str} {ps : List Ed} (h : pws ws = some ps) : ws.filterMap (numF ∘ fun w => PyData.list ((Txt.split w "-").map PyData.str)) = encE ps := by
  rw [← List.filterMap_map]
  exact numF_map h
theorem cut_tail {α : Type} {x : α} {xs : List α} : cutD' (x :: xs) (some 1) none = xs := by
  unfold cutD' HT.sIx
  simp
theorem edges_of {A : Arn} {t : Str} {v : Int} {es : List Ed} (hp : plain A) (h : parse t = some (v, es)) :
    (m__law_edges_of [.p (.str t)] A).To fun d A' => d = .p (encG v (keptE es)) ∧ A' = A := by
  unfold parse at h
  split at h
  · rename_i w ws e
    split at h
    · rename_i c
      obtain ⟨c1, c2, c3, c4⟩ := c
      cases ev : PySem.intText? (L2.cutS w none (some (-1))) with
      | none => rw [ev] at h; cases h
      | some u =>
        cases ew : pws ws with
        | none => rw [ev, ew] at h; cases h
        | some ps =>
          rw [ev, ew] at h
          cases h
          have hlen := pws_length ew
          have hc : lfCut (.str t) (.str " ") = some (.str w :: ws.map PyData.str) := by
            unfold lfCut
            dsimp only
            rw [if_pos ⟨rfl, c1⟩, e]
            rfl
          have hs : fSlA (.str w) none (some (-1)) = some (.str (L2.cutS w none (some (-1)))) := by
            show fSl (.str w) none (some (-1)) = _
            unfold fSl
            dsimp only
            rw [if_pos c2]
          have hi : fIntT [.str (L2.cutS w none (some (-1)))] = some (.int v) := by
            unfold fIntT
            dsimp only
            rw [if_pos c3, ev]
            rfl
          unfold m__law_edges_of
          refine To_def ?_
          unfold b__law_edges_of
          simp [isS, hc]
          refine To_comp cutF ?_
          simp [cut_tail]
          refine ⟨by omega, ?_, ?_⟩
          · intro x hx
            obtain ⟨p, hpp⟩ := pws_mem ew x hx
            obtain ⟨a, b, e1, e2, e3, e4, e5, e6⟩ := pw_ok hpp
            have hc2 : lfCut (.str x) (.str "-") = some ((Txt.split x "-").map PyData.str) := by
              unfold lfCut
              dsimp only
              rw [if_pos ⟨rfl, e4⟩]
            refine turn_of (f := cutF) ⟨_, rfl, ?_⟩
            simp [wipeS, isS, hc2]
            rfl
          · rw [cutF_comp]
            simp [hs, hi]
            refine To_comp numF ?_
            simp
            refine ⟨by omega, ?_, ?_⟩
            · intro x hx
              obtain ⟨p, hpp⟩ := pws_mem ew x hx
              obtain ⟨a, b, e1, e2, e3, e4, e5, e6⟩ := pw_ok hpp
              have ha : fIntT [.str a] = some (.int p.1) := by
                unfold fIntT
                dsimp only
                rw [if_pos e2, e5]
                rfl
              have hb : fIntT [.str b] = some (.int p.2) := by
                unfold fIntT
                dsimp only
                rw [if_pos e3, e6]
                rfl
              refine turn_of (f := numF) ⟨_, rfl, ?_⟩
              simp [wipeS, e1, ha, hb, numF, e5, e6, encP]
            · have := numF_comp ew
              rw [this]
              refine (kept (es := es) hp (.inl rfl) (by omega)).mono ?_
              rintro d A' ⟨rfl, rfl⟩
              simp [hp]
              rfl
    · cases h
  · cases h
/-! families -/
def okText (x : PyData) : Bool := match x with
  | .str t => (match parse t with
    | some (v, es) => decide (2 ≤ v) && decide (v ≤ 10) && decide (es.length ≤ 24) && es.all fun p => decide (0 ≤ p.1) && decide (p.1 < v) && decide (0 ≤ p.2) && decide (p.2 < v)
    | none => false)
  | _ => false
def famF (x : PyData) : Option PyData := match x with
  | .str t => (parse t).map fun r => encG r.1 (keptE r.2)
  | _ => none
theorem okText_ok {x : PyData} (h : okText x = true) : ∃ t v es, x = .str t ∧ parse t = some (v, es) ∧ 2 ≤ v ∧ GOkay v (keptE es) := by
  unfold okText at h
  split at h
  · rename_i t
    split at h
    · rename_i v es e
      simp only [Bool.and_eq_true, decide_eq_true_eq, List.all_eq_true] at h
      obtain ⟨⟨⟨h1, h2⟩, h3⟩, h4⟩ := h
      exact ⟨t, v, es, rfl, e, h1, kept_ok (by omega) h2 h3 fun p hp => by
        have := h4 p hp
        unfold In
        omega⟩
    · cases h
  · cases h
theorem fam_spec {ts : List PyData} (hall : ts.all okText = true) : ∀ g, g ∈ ts.filterMap famF → ∃ v es, g = encG v es ∧ 2 ≤ v ∧ GOkay v es := by
  intro g hg
  obtain ⟨x, hx, e⟩ := List.mem_filterMap.mp hg
  obtain ⟨t, v, es, rfl, e2, h2, ok⟩ := okText_ok (List.all_eq_true.mp hall x hx)
  unfold famF at e
  dsimp only at e
  rw [e2] at e
  cases e
  exact ⟨v, keptE es, rfl, h2, ok⟩
theorem fam_length : ∀ {ts : List PyData}, ts.all okText = true → (ts.filterMap famF).length = ts.length
  | [], _ => rfl
  | x :: ts, h => by
    rw [List.all_cons, Bool.and_eq_true] at h
    obtain ⟨t, v, es, rfl, e2, h2, ok⟩ := okText_ok h.1
    have : famF (.str t) = some (encG v (keptE es)) := by
      unfold famF
      dsimp only
      rw [e2]
      rfl
    rw [List.filterMap_cons, this, List.length_cons, List.length_cons, fam_length h.2]
theorem fam_turn {A : Arn} {a b : Option D} (hp : plain A) {x : PyData} (h : okText x = true) : turnC (gN 2) mYes (mCall m__law_edges_of (aCons (mVar 2) aNil)) (wipeS [a, b, none] [2]) x A = .ok (famF x) A := by
  obtain ⟨t, v, es, rfl, e2, h2, ok⟩ := okText_ok h
  refine turn_of (f := famF) ⟨_, rfl, ?_⟩
  simp [wipeS]
  refine (edges_of hp e2).mono ?_
  rintro d A' ⟨rfl, rfl⟩
  simp [famF, e2]
theorem fam_end {A : Arn} {a b : Option D} {l : Int} {ts : List PyData} (hp : plain A) (ha : a = some (.p (.int l))) {tt : List PyData} (hb : b = some (.p (.tuple tt))) (hix : L2.atI tt (l - 1) = some (.tuple ts)) (hall : ts.all okText = true) (hne : ts ≠ []) (hl : ts.length ≤ 1000) {n : Nat} (hn : n = A.length) :
    (lComp (iS (mOp2 (lift2 fIx) (mVar 1) (mOp2 (lift2 fSub) (mVar 0) (mC (.int 1))))) (gN 2) mYes (mCall m__law_edges_of (aCons (mVar 2) aNil)) [2] [a, b, none] A).To fun xs A1 =>
    (closeV n (.p (.list xs)) A1).To fun d A' => (∃ gs : List PyData, d = .p (.list gs) ∧ ¬gs = [] ∧ gs.length ≤ 1000 ∧ ∀ g, g ∈ gs → ∃ v es, g = encG v es ∧ 2 ≤ v ∧ GOkay v es) ∧ A' = A := by
  subst ha hb hn
  refine To_comp famF ?_
  simp [hix]
  refine ⟨by omega, fun x hx => fam_turn hp (List.all_eq_true.mp hall x hx), ?_⟩
  have hlen := fam_length hall
  have key : (closeV A.length (.p (.list (ts.filterMap famF))) A).To fun d A' => (∃ gs : List PyData, d = .p (.list gs) ∧ ¬gs = [] ∧ gs.length ≤ 1000 ∧ ∀ g, g ∈ gs → ∃ v es, g = encG v es ∧ 2 ≤ v ∧ GOkay v es) ∧ A' = A := by
    rw [To_close hp]
    refine ⟨⟨_, rfl, fun e => ?_, by rw [hlen]; exact hl, fam_spec hall⟩, List.take_length⟩
    rw [e] at hlen
    exact hne (List.eq_nil_of_length_eq_zero hlen.symm)
  exact key
theorem at_3 {α : Type} {x y z u : α} {r : List α} : L2.atI (x :: y :: z :: u :: r) 3 = some u := by
  unfold L2.atI L2.ixN
  rw [if_pos (by omega), if_pos (by simp; omega)]
  rfl
theorem family {A : Arn} {l : Int} (hp : plain A) (hl : l = 2 ∨ l = 3 ∨ l = 4) :
    (m__law_family [.p (.int l)] A).To fun d A' => (∃ gs : List PyData, d = .p (.list gs) ∧ ¬gs = [] ∧ gs.length ≤ 1000 ∧ ∀ g, g ∈ gs → ∃ v es, g = encG v es ∧ 2 ≤ v ∧ GOkay v es) ∧ A' = A := by
  unfold m__law_family
  refine To_def ?_
  unfold b__law_family
  simp
  rcases hl with rfl | rfl | rfl
  · exact fam_end hp rfl rfl at_1 (by decide +kernel) (by simp) (by simp) rfl
  · exact fam_end hp rfl rfl at_2 (by decide +kernel) (by simp) (by simp) rfl
  · exact fam_end hp rfl rfl at_3 (by decide +kernel) (by simp) (by simp) rfl
end Lw
end

section
set_option maxHeartbeats 4000000
/-! MiX: an arena behind a well; any graph. -/
namespace Mi
open PySem PySem.W
/-- A but for its well, and lists behind it -/
def Lg (A : Arn) (n : Nat) (B : Arn) : Prop := ∃ A1 G, B = A1 ++ G ∧ Wup A n A1 ∧ plain G
section
variable {A B B' : Arn} {n m : Nat}
theorem Lg.refl (h : Wl A n) : Lg A n A := ⟨A, [], by rw [List.append_nil], Wup.refl h, plain_nil⟩
theorem Lg.draw (h : Lg A n B) (hw : Wl A n) (u : Wup B n B') : Lg A n B' := by
  obtain ⟨A1, G, rfl, u1, pg⟩ := h
  obtain ⟨A2, rfl, u2⟩ := u.app (by rw [u1.length]; exact hw.lt)
  exact ⟨A2, G, rfl, u1.trans u2, pg⟩
theorem Lg.wl (h : Lg A n B) (hw : Wl A n) : Wl B n := by
  obtain ⟨A1, G, rfl, u1, pg⟩ := h
  exact (u1.wl hw).app
theorem Lg.plain (h : Lg A n B) (hp : Mi.plain A) : Mi.plain B := by
  obtain ⟨A1, G, rfl, u1, pg⟩ := h
  exact plain_app (u1.plain hp) pg
theorem Lg.len (h : Lg A n B) : A.length ≤ B.length := by
  obtain ⟨A1, G, rfl, u1, pg⟩ := h
  rw [List.length_append, u1.length]
  omega
theorem Lg.take (h : Lg A n B) : Wup A n (B.take A.length) := by
  obtain ⟨A1, G, rfl, u1, pg⟩ := h
  rw [← u1.length, List.take_left]
  exact u1
theorem Lg.snoc (h : Lg A n B) (xs : List PyData) : Lg A n (B ++ [.lst xs]) := by
  obtain ⟨A1, G, rfl, u1, pg⟩ := h
  exact ⟨A1, G ++ [.lst xs], by rw [List.append_assoc], u1, plain_app pg plain_one⟩
theorem Lg.setO (h : Lg A n B) (hm : A.length ≤ m) {o : O} (ho : ∀ ns, o ≠ .refs ns) : Lg A n (B.set m o) := by
  obtain ⟨A1, G, rfl, u1, pg⟩ := h
  refine ⟨A1, G.set (m - A1.length) o, ?_, u1, plain_set pg ho⟩
  rw [List.set_append_right _ _ (by rw [u1.length]; exact hm)]
theorem Lg.set (h : Lg A n B) (hm : A.length ≤ m) (xs : List PyData) : Lg A n (B.set m (.lst xs)) := h.setO hm fun ns e => by cases e
theorem Lg.gone (h : Lg A n B) (hm : A.length ≤ m) : Lg A n (B.set m .gone) := h.setO hm fun ns e => by cases e
theorem Wup.lst (u : Wup B n B') (h : m ≠ n) : lst B' m = lst B m := by
  unfold Mi.lst
  rw [u.other h]
theorem Lg.close {P : D → Arn → Prop} (h : Lg A n B) (hp : Mi.plain A) {x : PyData} (k : P (.p x) (B.take A.length)) : (closeV A.length (.p x) B).To P := (To_close (h.plain hp)).mpr k
theorem lst_lt {xs : List PyData} (h : Mi.lst B m = some xs) : m < B.length := (List.getElem?_eq_some_iff.mp (lst_iff.mp h)).1
theorem lst_snoc {xs : List PyData} : Mi.lst (B ++ [.lst xs]) B.length = some xs := lst_new
end
end Mi
namespace Lw
open PySem PySem.W Mi
theorem pairsTo_In {v : Nat} {p : Ed} (h : p ∈ pairsTo v v) : In v p := by
  have := pairsTo_mem h
  unfold In
  omega
theorem len_E {es : List Ed} (h : es.length ≤ 100000) : fLen [.list (encE es)] = some (.int es.length) := by
  unfold fLen
  dsimp only
  rw [if_pos (by rw [encE_length]; exact h), encE_length]
theorem len_T {es : List Ed} (h : es.length ≤ 100000) : fLen [.tuple (encE es)] = some (.int es.length) := by
  unfold fLen
  dsimp only
  rw [if_pos (by rw [encE_length]; exact h), encE_length]
def Gr (m e : Int) (d : D) : Prop := ∃ v es, d = .p (encG v es) ∧ GOkay v es ∧ v ≤ m ∧ es.length ≤ e
/-- its last part -/
def gb : MS := (sSeq (sPar 7 8 (aCons (mAl (lDisp aNil)) (aCons (mOp2 (lift2o fAdd) (mC (.int 1)) (mCall m__law_draw (aCons (mVar 0) (aCons (mC (.int 6)) aNil)))) aNil)))
    (sSeq (sFor (iS (mVar 4)) (gN 5) (sIf (mAnd (mB (mOp2 (lift2 (ordD gLt)) (mCall m__law_draw (aCons (mVar 0) (aCons (mC (.int 6)) aNil))) (mVar 8))) (mB (mOp2 (lift2 (ordD gLt)) (mOpN (liftN fLen) (aCons (mVar 7) aNil)) (mVar 2)))) (sDrop (mMt isL fAppend (mVar 7) (aCons (mVar 5) aNil))) sSkip))
    (sRet (mCall m__law_kept (aCons (mVar 3) (aCons (mVar 7) aNil))))))
theorem graph_b {A B : Arn} {n v : Nat} {m e : Int} {x5 x6 x7 x8 x9 x10 x11 : Option D} (hw : Wl A n) (hp : plain A) (hB : Lg A n B) (hv : 1 ≤ v) (hm : v ≤ m) (hm2 : m ≤ 10) (he : 0 ≤ e) (he2 : e ≤ 24) {N : Slt → Arn → Prop} :
    (gb [some (.ref n), some (.p (.int m)), some (.p (.int e)), some (.p (.int v)), some (.p (.list (encE (pairsTo v v)))), x5, x6, x7, x8, x9, x10, x11] B).To N
      fun d A' => (closeV A.length d A').To fun d A' => Gr m e d ∧ Wup A n A' := by
  have hlt := hw.lt
  unfold gb
  simp
  refine (draw (hB.snoc [] |>.wl hw) ((hB.snoc []).plain hp) (k := 6) (by omega) (by omega)).mono ?_
  rintro d B1 ⟨⟨sh, rfl, _, _⟩, u⟩
  have hB1 := (hB.snoc []).draw hw u
  have hl1 : lst B1 B.length = some (encE []) := by
    rw [u.lst (by have := hB.len; omega)]
    exact lst_snoc
  simp
  refine ⟨_, _, ⟨rfl, rfl⟩, ?_⟩
  refine forL_to (fun i s C => ∃ (es : List Ed) (y5 : Option D), s = [some (.ref n), some (.p (.int m)), some (.p (.int e)), some (.p (.int v)), some (.p (.list (encE (pairsTo v v)))), y5, x6, some (.ref B.length), some (.p (.int (1 + sh))), x9, x10, x11] ∧ Lg A n C ∧ lst C B.length = some (encE es) ∧ es.length ≤ e ∧ ∀ p, p ∈ es → In v p) ?_ ⟨[], x5, rfl, hB1, hl1, by simpa using he, fun p hp => by simp at hp⟩ ?_
  · rintro i x s C hx ⟨es, y5, rfl, hC, hl, hle, hin⟩
    obtain ⟨p, hp2, rfl⟩ := getE hx
    have hpi := pairsTo_In (List.mem_of_getElem? hp2)
    simp
    refine (draw (hC.wl hw) (hC.plain hp) (k := 6) (by omega) (by omega)).mono ?_
    rintro d C1 ⟨⟨r, rfl, _, _⟩, u2⟩
    have hC1 := hC.draw hw u2
    have hl2 : lst C1 B.length = some (encE es) := by
      rw [u2.lst (by have := hB.len; omega)]
      exact hl
    have hlen := len_E (es := es) (by omega)
    have e100 : es.length < 100000 := by omega
    by_cases c1 : r < 1 + sh
    · have c1' : ¬ 1 + sh ≤ r := by omega
      by_cases c2 : (es.length : Int) < e
      · have c2' : ¬ e ≤ (es.length : Int) := by omega
        simp [hl2, hlen, encE_length, e100, c1, c2, c1', c2']
        refine ⟨hC1.set hB.len _, es ++ [p], ?_, ?_, ?_⟩
        · rw [lst_set (lst_lt hl2), encE_snoc]
        · rw [List.length_append, List.length_cons, List.length_nil]; omega
        · intro a b hq
          rcases List.mem_append.mp hq with hq | hq
          · exact hin _ hq
          · rw [List.mem_singleton] at hq
            rw [hq]
            exact hpi
      · have c2' : e ≤ (es.length : Int) := by omega
        simp [hl2, hlen, encE_length, e100, c1, c2, c1', c2']
        exact ⟨hC1, es, rfl, hle, fun a b hq => hin _ hq⟩
    · have c1' : 1 + sh ≤ r := by omega
      simp [hl2, hlen, encE_length, e100, c1, c1']
      exact ⟨hC1, es, rfl, hle, fun a b hq => hin _ hq⟩
  · rintro s C ⟨es, y5, rfl, hC, hl, hle, hin⟩
    simp
    refine (keptR (es := es) (hC.plain hp) hl (by omega)).mono ?_
    rintro d C1 ⟨rfl, rfl⟩
    have hg := hC.gone (m := B.length) hB.len
    refine hg.close hp ⟨⟨v, keptE es, rfl, kept_ok (by omega) (by omega) (by omega) hin, hm, ?_⟩, hg.take⟩
    have := kept_length es
    omega
@[simp] theorem encG_0 {v : Int} {es : List Ed} : fIx (encG v es) (.int 0) = some (.int v) := at_0
@[simp] theorem encG_1 {v : Int} {es : List Ed} : fIx (encG v es) (.int 1) = some (.tuple (encE es)) := at_1
theorem ren_in {os : List Int} {v : Nat} (hl : os.length = v) (h : ∀ x, x ∈ os ↔ 0 ≤ x ∧ x < (v : Int)) {p : Ed} (hp : In v p) : In v (ren os p) := by
  unfold In at hp
  have g : ∀ i : Int, 0 ≤ i → i < v → 0 ≤ os.getD i.toNat 0 ∧ os.getD i.toNat 0 < (v : Int) := fun i h0 h1 => by
    have hi : i.toNat < os.length := by omega
    have : os.getD i.toNat 0 = os[i.toNat] := by simp [List.getD, hi]
    rw [this]
    exact (h _).mp (List.getElem_mem hi)
  have h1 := g p.1 hp.1 hp.2.1
  have h2 := g p.2 hp.2.2.1 hp.2.2.2
  exact ⟨h1.1, h1.2, h2.1, h2.2⟩
theorem pairsTo_ne {v : Nat} (h : 2 ≤ v) : encE (pairsTo v v) ≠ [] := by
  intro e
  have hm : ((0 : Int), (1 : Int)) ∈ pairsTo v v := List.mem_flatMap.mpr ⟨0, List.mem_range.mpr (by omega), List.mem_map.mpr ⟨0, List.mem_range.mpr (by omega), rfl⟩⟩
  have : encP (0, 1) ∈ encE (pairsTo v v) := List.mem_map.mpr ⟨_, hm, rfl⟩
  rw [e] at this
  simp at this
def neF (p : Ed) (x : PyData) : Option PyData := match x with
  | .tuple [.int a, .int b] => if (a, b) = p then none else some (encP (a, b))
  | _ => none
theorem neF_P (p q : Ed) : neF p (encP q) = if q = p then none else some (encP q) := rfl
theorem neF_map (p : Ed) : ∀ es : List Ed, (encE es).filterMap (neF p) = encE (es.filter fun q => !decide (q = p))
  | [] => rfl
  | q :: r => by
    show List.filterMap (neF p) (encP q :: encE r) = _
    rw [List.filterMap_cons, neF_P, neF_map p r, List.filter_cons]
    by_cases h : q = p
    · simp [h]
    · simp [h]
      rfl
def GI (A : Arn) (n : Nat) (m e : Int) (v k : Nat) (ks : List Ed) (s : Slt) (C : Arn) : Prop := ∃ (es : List Ed) (x5 x10 x11 : Option D) (mm : Nat), s = [some (.ref n), some (.p (.int m)), some (.p (.int e)), some (.p (.int v)), some (.p (.list (encE (pairsTo v v)))), x5, some (.p (encG k ks)), none, none, some (.ref mm), x10, x11] ∧ Lg A n C ∧ A.length ≤ mm ∧ lst C mm = some (encE es) ∧ es.length ≤ e ∧ ∀ p, p ∈ es → In k p
theorem graph {A : Arn} {n : Nat} {m e : Int} (hw : Wl A n) (hp : plain A) (hm1 : 1 ≤ m) (hm2 : m ≤ 10) (he : 0 ≤ e) (he2 : e ≤ 24) : (m__law_graph [.ref n, .p (.int m), .p (.int e)] A).To fun d A' => Gr m e d ∧ Wup A n A' := by
  have hlt := hw.lt
  unfold m__law_graph
  refine To_def ?_
  show ((sSeq _ (sSeq _ (sSeq _ gb))) _ _).To _ _
  simp
  refine (draw hw hp (k := m) (by omega) (by omega)).mono ?_
  rintro d B ⟨⟨i, rfl, i0, i1⟩, u⟩
  obtain ⟨j, rfl⟩ := Int.eq_ofNat_of_zero_le i0
  have hB := (Lg.refl hw).draw hw u
  have ev : (1 : Int) + (j : Int) = ((j + 1 : Nat) : Int) := by omega
  simp only [ev, lift2o_p, add_ii, Option.map_some, To_o1]
  generalize hvv : j + 1 = v at *
  refine (pairs_of (v := v) (hB.plain hp) (by omega)).mono ?_
  rintro d _ ⟨rfl, rfl⟩
  refine (draw (hB.wl hw) (hB.plain hp) (k := 3) (by omega) (by omega)).mono ?_
  rintro d B1 ⟨⟨r, rfl, _, _⟩, u1⟩
  have hB1 := hB.draw hw u1
  have rest : ∀ {x5 x6 x7 x8 x9 x10 x11 : Option D} {B : Arn}, Lg A n B → (gb [some (.ref n), some (.p (.int m)), some (.p (.int e)), some (.p (.int v)), some (.p (.list (encE (pairsTo v v)))), x5, x6, x7, x8, x9, x10, x11] B).To
      (fun x A' => below A.length (A'.take A.length) = true ∧ Gr m e (.p .none) ∧ Wup A n (A'.take A.length)) fun d A' => (closeV A.length d A').To fun d A' => Gr m e d ∧ Wup A n A' := fun h => graph_b hw hp h (by omega) (by omega) hm2 he he2
  by_cases c0 : r = 0
  · subst c0
    simp
    refine (pick (c := .tuple [.int 2, .int 3, .int 4]) (hB1.wl hw) (hB1.plain hp) (by simp) (by simp) (.inl rfl)).mono ?_
    rintro d B2 ⟨⟨lv, rfl, hlv⟩, u2⟩
    have hB2 := hB1.draw hw u2
    obtain ⟨l, rfl, hl⟩ : ∃ l : Int, lv = .int l ∧ (l = 2 ∨ l = 3 ∨ l = 4) := by
      simp at hlv
      rcases hlv with rfl | rfl | rfl
      · exact ⟨2, rfl, .inl rfl⟩
      · exact ⟨3, rfl, .inr (.inl rfl)⟩
      · exact ⟨4, rfl, .inr (.inr rfl)⟩
    refine (family (hB2.plain hp) hl).mono ?_
    rintro d _ ⟨⟨gs, rfl, gne, glen, gok⟩, rfl⟩
    refine (pick (c := .list gs) (hB2.wl hw) (hB2.plain hp) gne (by omega) (.inr rfl)).mono ?_
    rintro d B3 ⟨⟨g, rfl, hg⟩, u3⟩
    have hB3 := hB2.draw hw u3
    obtain ⟨w, fs, rfl, hw2, ok⟩ := gok g hg
    have hlen := len_T (es := fs) (by have := ok.len; omega)
    by_cases c1 : w ≤ m
    · have c1' : ¬ m < w := by omega
      by_cases c2 : (fs.length : Int) ≤ e
      · have c2' : ¬ e < (fs.length : Int) := by omega
        obtain ⟨k, rfl⟩ := Int.eq_ofNat_of_zero_le (show 0 ≤ w by omega)
        simp [hlen, c1, c2, c1', c2']
        refine (order (k := k) (hB3.wl hw) (hB3.plain hp) (by have := ok.hi; omega)).mono ?_
        rintro d B4 ⟨⟨os, rfl, ol, ond, omem⟩, u4⟩
        have hB4 := hB3.draw hw u4
        have inn : ∀ p, p ∈ fs → In k p := fun p h => by have := ok.inn p h; unfold In; omega
        refine (named (os := os) (hB4.plain hp) (by have := ok.len; omega) (fun p h => by rw [ol]; exact inn p h)).mono ?_
        rintro d _ ⟨rfl, rfl⟩
        generalize hks : keptE (fs.map (ren os)) = ks
        have kin : ∀ p, p ∈ ks → In k p := fun p h => by
          subst hks
          obtain ⟨q, hq, _, rfl⟩ := kept_mem.mp h
          obtain ⟨q2, hq2, rfl⟩ := List.mem_map.mp hq
          exact nrm_in (ren_in ol omem (inn q2 hq2))
        have klen : (ks.length : Int) ≤ e := by
          subst hks
          have := kept_length (fs.map (ren os))
          rw [List.length_map] at this
          omega
        simp [lfList]
        have hC0 := hB4.snoc (encE ks)
        refine To_iR1 ?_
        simp
        refine (draw (hC0.wl hw) (hC0.plain hp) (k := 4) (by omega) (by omega)).mono ?_
        rintro d B5 ⟨⟨q, rfl, q0, q1⟩, u5⟩
        have hB5 := hC0.draw hw u5
        have hb4 := hB4.len
        have hl5 := (u5.lst (by omega)).trans (lst_snoc (xs := encE ks))
        simp
        refine ⟨by unfold small; omega, ?_⟩
        refine forL_to (fun _ s C => GI A n m e v k ks s C) ?_ ⟨ks, none, none, none, _, rfl, hB5, hb4, hl5, klen, kin⟩ ?_
        · rintro i x s C hx ⟨es, x5, x10, x11, mm, rfl, hC, hmm, hl, hle, hin⟩
          simp
          have hk10 := ok.hi
          refine (pairs_of (v := k) (hC.plain hp) (by omega)).mono ?_
          rintro d _ ⟨rfl, rfl⟩
          refine (pick (c := .list (encE (pairsTo k k))) (hC.wl hw) (hC.plain hp) (pairsTo_ne (by omega)) ?_ (.inr rfl)).mono ?_
          · have := pairsTo_length k k
            have h2 : k * k ≤ 10 * 10 := Nat.mul_le_mul (by omega) (by omega)
            rw [encE_length]
            omega
          rintro d C1 ⟨⟨y, rfl, hy⟩, v1⟩
          have hC1 := hC.draw hw v1
          obtain ⟨pp, hpp, rfl⟩ := List.mem_map.mp hy
          have ppin := pairsTo_In hpp
          refine (draw (hC1.wl hw) (hC1.plain hp) (k := 2) (by omega) (by omega)).mono ?_
          rintro d C2 ⟨⟨r2, rfl, _, _⟩, v2⟩
          have hC2 := hC1.draw hw v2
          have hl2 : lst C2 mm = some (encE es) := by rw [v2.lst (by omega), v1.lst (by omega)]; exact hl
          have hlen2 := len_E (es := es) (by omega)
          have e100 : es.length < 100000 := by omega
          have comp : (lCompK (mVar 9) (gN 11) (mB (mOp2 (lift2 fNe) (mVar 11) (mVar 5))) (mVar 11) [11] [some (.ref n), some (.p (.int m)), some (.p (.int e)), some (.p (.int v)), some (.p (.list (encE (pairsTo v v)))), some (.p (encP pp)), some (.p (encG k ks)), none, none, some (.ref mm), some (.p x), x11] C2).To fun xs A1 => xs = encE (es.filter fun q => !decide (q = pp)) ∧ A1 = C2 := by
            refine To_compK (neF pp) (n := mm) (xs := encE es) ?_
            simp
            refine ⟨hl2, by rw [encE_length]; omega, ?_, neF_map pp es⟩
            intro z hz
            obtain ⟨qq, _, rfl⟩ := List.mem_map.mp hz
            refine turn_of (f := neF pp) ⟨_, rfl, ?_⟩
            simp [wipeS, ne_pp, neF_P]
            by_cases h : qq = pp <;> simp [h]
          have step1 : (lCompK (mVar 9) (gN 11) (mB (mOp2 (lift2 fNe) (mVar 11) (mVar 5))) (mVar 11) [11] [some (.ref n), some (.p (.int m)), some (.p (.int e)), some (.p (.int v)), some (.p (.list (encE (pairsTo v v)))), some (.p (encP pp)), some (.p (encG k ks)), none, none, some (.ref mm), some (.p x), x11] C2).To fun xs A1 => GI A n m e v k ks [some (.ref n), some (.p (.int m)), some (.p (.int e)), some (.p (.int v)), some (.p (.list (encE (pairsTo v v)))), some (.p (encP pp)), some (.p (encG k ks)), none, none, some (.ref A1.length), some (.p x), x11] (A1 ++ [.lst xs]) := comp.mono fun xs A1 h => by
            obtain ⟨rfl, rfl⟩ := h
            refine ⟨es.filter fun q => !decide (q = pp), _, _, _, _, rfl, hC2.snoc _, hC2.len, lst_snoc, ?_, fun p hp => hin p (List.mem_filter.mp hp).1⟩
            have := List.length_filter_le (fun q => !decide (q = pp)) es
            omega
          by_cases d1 : r2 = 0
          · simp [d1]
            exact step1
          · by_cases d2 : e ≤ (es.length : Int)
            · have d2' : ¬ (es.length : Int) < e := by omega
              simp [d1, hl2, hlen2, d2, d2']
              exact step1
            · have d2' : (es.length : Int) < e := by omega
              simp [d1, hl2, hlen2, d2, d2', encE_length, e100]
              refine ⟨es ++ [pp], _, _, _, _, rfl, hC2.set hmm _, hmm, ?_, ?_, ?_⟩
              · rw [lst_set (lst_lt hl2), encE_snoc]
              · rw [List.length_append, List.length_cons, List.length_nil]; omega
              · intro a hq
                rcases List.mem_append.mp hq with hq | hq
                · exact hin _ hq
                · rw [List.mem_singleton] at hq
                  rw [hq]
                  exact ppin
        · rintro s C ⟨es, x5, x10, x11, mm, rfl, hC, hmm, hl, hle, hin⟩
          simp
          refine (keptR (es := es) (hC.plain hp) hl (by omega)).mono ?_
          rintro d C1 ⟨rfl, rfl⟩
          have hg := hC.gone (m := mm) hmm
          refine hg.close hp ⟨⟨k, keptE es, rfl, kept_ok (by omega) ok.hi (by omega) hin, c1, ?_⟩, hg.take⟩
          have := kept_length es
          omega
      · have c2' : e < (fs.length : Int) := by omega
        simp [hlen, c1, c2, c1', c2']
        exact rest hB3
    · have c1' : m < w := by omega
      simp [hlen, c1, c1']
      exact rest hB3
  · simp [c0]
    exact rest hB1
end Lw
end

section
set_option maxHeartbeats 4000000
/-! MiY: what a graph is, by the program and by the laws. -/
namespace Lw
open PySem PySem.W Mi
mutual
/-- no row is long -/
def lenB : PyData → Bool
  | .tuple xs => decide (xs.length ≤ 1000) && lenBAll xs
  | .list xs => decide (xs.length ≤ 1000) && lenBAll xs
  | _ => true
def lenBAll : List PyData → Bool
  | [] => true
  | x :: xs => lenB x && lenBAll xs
end
theorem lenB_mem : ∀ {xs : List PyData} {x : PyData}, lenBAll xs = true → x ∈ xs → lenB x = true
  | [], _, _, h => by simp at h
  | y :: ys, x, h, hx => by
    rw [lenBAll, Bool.and_eq_true] at h
    rcases List.mem_cons.mp hx with rfl | hx
    · exact h.1
    · exact lenB_mem h.2 hx
theorem lenB_tup {xs : List PyData} (h : lenB (.tuple xs) = true) : xs.length ≤ 1000 ∧ lenBAll xs = true := by
  rw [lenB, Bool.and_eq_true, decide_eq_true_eq] at h
  exact h
def isIntD (d : PyData) : Bool := match d with
  | .int _ => true
  | _ => false
def isRow2 (d : PyData) : Bool := match d with
  | .tuple [_, _] => true
  | _ => false
def isWR (d : PyData) : Bool := match d with
  | .tuple [.int _, .int _] => true
  | _ => false
def isE (v : Int) (d : PyData) : Bool := match d with
  | .tuple [.int a, .int b] => decide (0 ≤ a) && decide (a < b) && decide (b < v)
  | _ => false
section
variable {A : Arn} {d : PyData}
theorem is_whole (hp : plain A) : (m_is_whole [.p d] A).To fun r A' => r = .p (.bool (isIntD d)) ∧ A' = A := by
  unfold m_is_whole
  refine To_def ?_
  unfold b_is_whole
  simp [hp]
  cases d <;> simp [tyName, isIntD]
theorem is_row (hp : plain A) (hl : lenB d = true) : (m_is_row [.p d, .p (.int 2)] A).To fun r A' => r = .p (.bool (isRow2 d)) ∧ A' = A := by
  unfold m_is_row
  refine To_def ?_
  unfold b_is_row
  cases d with
  | tuple xs =>
    have h := lenB_tup hl
    have hf : fLen [.tuple xs] = some (.int xs.length) := by
      unfold fLen
      dsimp only
      rw [if_pos (by omega)]
    have e : isRow2 (.tuple xs) = decide ((xs.length : Int) = 2) := by
      match xs with
      | [] => rfl
      | [a] => rfl
      | [a, b] => rfl
      | a :: b :: c :: r =>
        have : ¬ (((a :: b :: c :: r).length : Int) = 2) := by simp only [List.length_cons]; omega
        rw [decide_eq_false this]
        rfl
    simp [hp, tyName, hf, e]
  | none => simp [hp, tyName, isRow2]
  | bool b => simp [hp, tyName, isRow2]
  | int b => simp [hp, tyName, isRow2]
  | str b => simp [hp, tyName, isRow2]
  | list b => simp [hp, tyName, isRow2]
  | dict b => simp [hp, tyName, isRow2]
theorem boolsOf_map (f : PyData → Bool) : ∀ xs : List PyData, boolsOf (xs.filterMap fun x => some (.bool (f x))) = some (xs.map f)
  | [] => rfl
  | x :: xs => by
    rw [List.filterMap_cons]
    show boolsOf (.bool (f x) :: _) = _
    unfold boolsOf
    rw [boolsOf_map f xs]
    rfl
theorem all_map (f : PyData → Bool) (xs : List PyData) : fAll [.list (xs.filterMap fun x => some (.bool (f x)))] = some (.bool (xs.all f)) := by
  unfold fAll
  dsimp only
  rw [boolsOf_map]
  simp
theorem all_map2 (f : PyData → Bool) (xs : List PyData) : fAll [.list (xs.map fun x => .bool (f x))] = some (.bool (xs.all f)) := by
  rw [← all_map, ← List.filterMap_eq_map]
  rfl
def isWs (d : PyData) : Bool := match d with
  | .tuple xs => xs.all isIntD
  | _ => false
theorem are_whole (hp : plain A) (hl : lenB d = true) : (m_are_whole [.p d] A).To fun r A' => r = .p (.bool (isWs d)) ∧ A' = A := by
  unfold m_are_whole
  refine To_def ?_
  unfold b_are_whole
  cases d with
  | tuple xs =>
    simp [hp, tyName]
    refine To_comp (fun x => some (.bool (isIntD x))) ?_
    have ht : ∀ x, turnC (gN 1) mYes (mCall m_is_whole (aCons (mVar 1) aNil)) (wipeS [some (.p (.tuple xs)), none] [1]) x A = .ok (some (.bool (isIntD x))) A := fun x => by
      refine turn_of (f := fun x => some (.bool (isIntD x))) ⟨_, rfl, ?_⟩
      simp [wipeS]
      refine (is_whole hp).mono ?_
      rintro r A2 ⟨rfl, rfl⟩
      simp
    simp only [To_iS, To_var0, frz_p, Option.bind_some, items_t, Option.map_some, To_o0]
    refine ⟨trivial, by have := (lenB_tup hl).1; omega, fun x _ => ht x, ?_⟩
    rw [all_map]
    simp [hp, isWs]
  | none => simp [hp, tyName, isWs]
  | bool b => simp [hp, tyName, isWs]
  | int b => simp [hp, tyName, isWs]
  | str b => simp [hp, tyName, isWs]
  | list b => simp [hp, tyName, isWs]
  | dict b => simp [hp, tyName, isWs]
theorem is_whole_row (hp : plain A) (hl : lenB d = true) : (m_is_whole_row [.p d, .p (.int 2)] A).To fun r A' => r = .p (.bool (isWR d)) ∧ A' = A := by
  unfold m_is_whole_row
  refine To_def ?_
  unfold b_is_whole_row
  simp
  refine (is_row hp hl).mono ?_
  rintro r A' ⟨rfl, rfl⟩
  cases hr : isRow2 d with
  | false =>
    have : isWR d = false := by
      unfold isWR
      unfold isRow2 at hr
      split
      · simp at hr
      · rfl
    simp [hp, this]
  | true =>
    obtain ⟨a, b, rfl⟩ : ∃ a b, d = .tuple [a, b] := by
      unfold isRow2 at hr
      split at hr
      · exact ⟨_, _, rfl⟩
      · cases hr
    have e : isWR (.tuple [a, b]) = isWs (.tuple [a, b]) := by
      cases a <;> cases b <;> rfl
    simp
    refine (are_whole hp hl).mono ?_
    rintro r A2 ⟨rfl, rfl⟩
    simp [hp, e]
theorem could_be_edge (hp : plain A) (hl : lenB d = true) {v : Int} : (m__could_be_edge [.p d, .p (.int v)] A).To fun r A' => r = .p (.bool (isE v d)) ∧ A' = A := by
  unfold m__could_be_edge
  refine To_def ?_
  unfold b__could_be_edge
  simp
  refine (is_whole_row hp hl).mono ?_
  rintro r A' ⟨rfl, rfl⟩
  cases hr : isWR d with
  | false =>
    have : isE v d = false := by
      unfold isE
      unfold isWR at hr
      split
      · simp at hr
      · rfl
    simp [hp, this]
  | true =>
    obtain ⟨a, b, rfl⟩ : ∃ a b, d = .tuple [.int a, .int b] := by
      unfold isWR at hr
      split at hr
      · exact ⟨_, _, rfl⟩
      · cases hr
    by_cases c1 : 0 ≤ a
    · by_cases c2 : a < b
      · have c2' : ¬ b ≤ a := by omega
        simp [hp, c1, c2, c2', isE]
      · have c2' : b ≤ a := by omega
        simp [hp, c1, c2, c2', isE]
    · have c1' : a < 0 := by omega
      simp [hp, c1, c1', isE]
def ascB : List Ed → Bool
  | [] => true
  | [_] => true
  | p :: q :: r => decide (pLt p q) && ascB (q :: r)
theorem depth_P (p : Ed) : (encP p).depth = 1 := by
  simp [encP, PyData.depth, PyData.depthAll]
theorem cmpP (p q : Ed) : comparable (encP p) (encP q) = true := by
  unfold comparable
  rw [alikeP, depth_P, depth_P]
  rfl
theorem ndP (p : Ed) : Mi.noDict (encP p) = true := rfl
theorem lt_P (p q : Ed) : ordD gLt (encP p) (encP q) = some (.bool (decide (pLt p q))) := by
  unfold ordD
  rw [if_pos ⟨cmpP p q, ndP p, ndP q⟩]
  unfold gLt
  rw [lt_pp]
theorem ge_P (p q : Ed) : ordD gGe (encP p) (encP q) = some (.bool (!decide (pLt p q))) := by
  unfold ordD
  rw [if_pos ⟨cmpP p q, ndP p, ndP q⟩]
  unfold gGe
  rw [lt_pp]
theorem asc_range : ∀ es : List Ed, ((List.range (es.length - 1)).all fun k => decide (pLt (es.getD k (0, 0)) (es.getD (k + 1) (0, 0)))) = ascB es
  | [] => rfl
  | [_] => rfl
  | p :: q :: r => by
    have ih := asc_range (q :: r)
    have e : (p :: q :: r).length - 1 = ((q :: r).length - 1) + 1 := by simp
    rw [e, List.range_succ_eq_map, List.all_cons, List.all_map, ascB, ← ih]
    rfl
theorem asc_iff : ∀ es : List Ed, ascB es = true ↔ es.Pairwise pLt
  | [] => by simp [ascB]
  | [_] => by simp [ascB]
  | p :: q :: r => by
    rw [ascB, Bool.and_eq_true, decide_eq_true_eq, asc_iff (q :: r), List.pairwise_cons (a := p)]
    have tr : ∀ a b c : Ed, pLt a b → pLt b c → pLt a c := fun a b c h k => by unfold pLt at *; omega
    constructor
    · rintro ⟨h, k⟩
      refine ⟨fun x hx => ?_, k⟩
      rcases List.mem_cons.mp hx with rfl | hx
      · exact h
      · exact tr _ _ _ h ((List.pairwise_cons.mp k).1 x hx)
    · rintro ⟨h, k⟩
      exact ⟨h q List.mem_cons_self, k⟩
theorem at_E {es : List Ed} {k : Nat} (h : k < es.length) : L2.atI (encE es) (k : Int) = some (encP (es.getD k (0, 0))) := by
  refine at_nat ?_
  unfold encE
  rw [List.getElem?_map, List.getElem?_eq_getElem h]
  simp [List.getD, h]
def ascF (es : List Ed) (x : PyData) : Bool := match x with
  | .int k => decide (pLt (es.getD k.toNat (0, 0)) (es.getD (k.toNat + 1) (0, 0)))
  | _ => true
theorem all_range (f : PyData → Bool) (n : Nat) : ((rangeD 0 n).all f) = (List.range n).all fun k => f (.int (k : Int)) := by
  unfold rangeD
  rw [List.all_map]
  congr 1
  funext k
  simp
theorem is_ascending {A : Arn} (hp : plain A) {es : List Ed} (hl : es.length ≤ 1000) : (m_is_ascending [.p (.tuple (encE es))] A).To fun r A' => r = .p (.bool (ascB es)) ∧ A' = A := by
  unfold m_is_ascending
  refine To_def ?_
  unfold b_is_ascending
  simp
  refine To_comp (fun x => some (.bool (ascF es x))) (To_iR1 ?_)
  have hlen := len_T (es := es) (by omega)
  simp [hlen]
  have en : ((es.length : Int) - 1).toNat = es.length - 1 := by omega
  refine ⟨by unfold small; omega, by unfold rangeD; rw [List.length_map, List.length_range]; omega, ?_, ?_⟩
  · intro x hx
    obtain ⟨k, hk, rfl⟩ := List.mem_map.mp hx
    have hk := List.mem_range.mp hk
    refine turn_of (f := fun x => some (.bool (ascF es x))) ⟨_, rfl, ?_⟩
    have e1 := at_E (es := es) (k := k) (by omega)
    have e2 : L2.atI (encE es) ((k : Int) + 1) = some (encP (es.getD (k + 1) (0, 0))) := at_E (es := es) (k := k + 1) (by omega)
    simp only [wipeS, To_op2, To_varS, To_var0, To_one, ap_C, To_ok, lift2_p, lift2o_p, fIx_t, e1, Option.map_some, To_o1, add_ii, e2, lt_P, To_yes, List.foldl_cons, List.foldl_nil]
    simp [e1, e2, lt_P, ascF]
  · rw [all_map2, all_range]
    have : ((List.range (es.length - 1)).all fun k => ascF es (.int (k : Int))) = ascB es := by
      rw [← asc_range]
      rfl
    rw [this]
    simp [hp]
def toE (d : PyData) : Ed := match d with
  | .tuple [.int a, .int b] => (a, b)
  | _ => (0, 0)
theorem isE_toE {v : Int} {d : PyData} (h : isE v d = true) : d = encP (toE d) := by
  unfold isE at h
  split at h
  · rfl
  · cases h
theorem toE_map {v : Int} : ∀ {xs : List PyData}, xs.all (isE v) = true → encE (xs.map toE) = xs
  | [], _ => rfl
  | x :: xs, h => by
    rw [List.all_cons, Bool.and_eq_true] at h
    show encP (toE x) :: encE (xs.map toE) = x :: xs
    rw [toE_map h.2, ← isE_toE h.1]
/-- the graphs among all data -/
def isG (d : PyData) : Bool := match d with
  | .tuple [.int v, .tuple xs] => decide (1 ≤ v) && decide (v ≤ 10) && decide (xs.length ≤ 24) && xs.all (isE v) && ascB (xs.map toE)
  | _ => false
theorem is_graph {A : Arn} {d : PyData} (hp : plain A) (hl : lenB d = true) : (m_is_graph [.p d] A).To fun r A' => r = .p (.bool (isG d)) ∧ A' = A := by
  unfold m_is_graph
  refine To_def ?_
  unfold b_is_graph
  simp
  refine (is_row hp hl).mono ?_
  rintro r A' ⟨rfl, rfl⟩
  cases hr : isRow2 d with
  | false =>
    have : isG d = false := by
      unfold isG
      unfold isRow2 at hr
      split
      · simp at hr
      · rfl
    simp [hp, this]
  | true =>
    obtain ⟨a, b, rfl⟩ : ∃ a b, d = .tuple [a, b] := by
      unfold isRow2 at hr
      split at hr
      · exact ⟨_, _, rfl⟩
      · cases hr
    have hl2 := (lenB_tup hl).2
    have hlb : lenB b = true := lenB_mem hl2 (by simp)
    simp
    refine (is_whole hp).mono ?_
    rintro r A2 ⟨rfl, rfl⟩
    cases ha : isIntD a with
    | false =>
      have : isG (.tuple [a, b]) = false := by
        unfold isG
        split
        · rename_i e
          cases e
          simp [isIntD] at ha
        · rfl
      simp [hp, this]
    | true =>
      obtain ⟨v, rfl⟩ : ∃ v, a = .int v := by
        unfold isIntD at ha
        split at ha
        · exact ⟨_, rfl⟩
        · cases ha
      by_cases c1 : 1 ≤ v
      · by_cases c2 : v ≤ 10
        · have c1' : ¬ v < 1 := by omega
          have c2' : ¬ 10 < v := by omega
          cases b with
          | tuple xs =>
            have hx := lenB_tup hlb
            have hf : fLen [.tuple xs] = some (.int xs.length) := by
              unfold fLen
              dsimp only
              rw [if_pos (by omega)]
            by_cases c3 : xs.length ≤ 24
            · have c3' : ¬ (24 : Int) < (xs.length : Int) := by omega
              have c3'' : (xs.length : Int) ≤ 24 := by omega
              simp [c1, c2, c1', c2', tyName, hf, c3', c3'']
              refine To_comp (fun x => some (.bool (isE v x))) ?_
              simp only [To_iS, To_varS, To_var0, To_two, To_one, frz_p, Option.bind_some, items_t, Option.map_some, To_o0]
              refine ⟨trivial, by omega, fun x hxm => ?_, ?_⟩
              · refine turn_of (f := fun x => some (.bool (isE v x))) ⟨_, rfl, ?_⟩
                simp [wipeS]
                refine (could_be_edge hp (lenB_mem hx.2 hxm)).mono ?_
                rintro r A3 ⟨rfl, rfl⟩
                simp
              · rw [all_map]
                cases hall : xs.all (isE v) with
                | false => simp [hp, isG, hall]
                | true =>
                  have he := toE_map hall
                  simp
                  rw [← he]
                  refine (is_ascending hp (by rw [List.length_map]; omega)).mono ?_
                  rintro r A3 ⟨rfl, rfl⟩
                  simp [hp, isG, he, hall, c1, c2, c3]
            · have c3' : (24 : Int) < (xs.length : Int) := by omega
              simp [c1, c2, c1', c2', tyName, hf, c3', hp, isG, c3]
          | none => simp [c1, c2, c1', c2', tyName, hp, isG]
          | bool b => simp [c1, c2, c1', c2', tyName, hp, isG]
          | int b => simp [c1, c2, c1', c2', tyName, hp, isG]
          | str b => simp [c1, c2, c1', c2', tyName, hp, isG]
          | list b => simp [c1, c2, c1', c2', tyName, hp, isG]
          | dict b => simp [c1, c2, c1', c2', tyName, hp, isG]
        · have c2' : 10 < v := by omega
          have c1' : ¬ v < 1 := by omega
          have : isG (.tuple [.int v, b]) = false := by
            unfold isG
            split
            · rename_i e
              cases e
              simp [c2]
            · rfl
          simp [c1, c1', c2, c2', hp, this]
      · have c1' : v < 1 := by omega
        have : isG (.tuple [.int v, b]) = false := by
          unfold isG
          split
          · rename_i e
            cases e
            simp [c1]
          · rfl
        simp [c1, c1', hp, this]
theorem GOkay.isG {v : Int} {es : List Ed} (h : GOkay v es) : Lw.isG (encG v es) = true := by
  have h1 : (encE es).all (isE v) = true := by
    rw [List.all_eq_true]
    intro x hx
    obtain ⟨p, hp, rfl⟩ := List.mem_map.mp hx
    have := h.inn p hp
    unfold encP isE
    simp
    omega
  have h2 : (encE es).map toE = es := by
    unfold encE
    rw [List.map_map]
    exact List.map_id' _
  unfold encG Lw.isG
  dsimp only
  rw [h1, h2, (asc_iff es).mpr h.asc, encE_length]
  simp [h.lo, h.hi, h.len]
end
end Lw
end

section
set_option maxHeartbeats 4000000
/-! MiZ: the law's own look at graphs; strange things, full graphs. -/
namespace Lw
open PySem PySem.W Mi
def upTo (d : PyData) (lo hi : Int) : Bool := match d with
  | .int i => decide (lo ≤ i) && decide (i ≤ hi)
  | _ => false
section
variable {A : Arn} {d : PyData}
theorem law_is_whole (hp : plain A) : (m__law_is_whole [.p d] A).To fun r A' => r = .p (.bool (isIntD d)) ∧ A' = A := by
  unfold m__law_is_whole
  refine To_def ?_
  unfold b__law_is_whole
  cases d <;> simp [isInst, hp, isIntD]
theorem law_is_up_to (hp : plain A) {lo hi : Int} : (m__law_is_up_to [.p d, .p (.int lo), .p (.int hi)] A).To fun r A' => r = .p (.bool (upTo d lo hi)) ∧ A' = A := by
  unfold m__law_is_up_to
  refine To_def ?_
  unfold b__law_is_up_to
  simp
  refine (law_is_whole hp).mono ?_
  rintro r A' ⟨rfl, rfl⟩
  cases d with
  | int i =>
    by_cases c : lo ≤ i
    · have c' : ¬ i < lo := by omega
      simp [isIntD, upTo, hp, c, c']
    · have c' : i < lo := by omega
      simp [isIntD, upTo, hp, c, c']
  | none => simp [isIntD, upTo, hp]
  | bool b => simp [isIntD, upTo, hp]
  | str b => simp [isIntD, upTo, hp]
  | list b => simp [isIntD, upTo, hp]
  | tuple b => simp [isIntD, upTo, hp]
  | dict b => simp [isIntD, upTo, hp]
theorem len_tup {xs : List PyData} (h : xs.length ≤ 1000) : fLen [.tuple xs] = some (.int xs.length) := by
  unfold fLen
  dsimp only
  rw [if_pos (by omega)]
/-- one edge, by the law -/
theorem law_edge {v : Int} {xs : List PyData} {x : PyData} {x1 x2 : Option D} (hp : plain A) (hx : lenB x = true) {P : Slt → Arn → Prop} {R : D → Arn → Prop}
    (h1 : isE v x = true → P [some (.p (.tuple [.int v, .tuple xs])), some (.p x), x2] A) (h2 : isE v x = false → R (.p (.bool false)) A) :
    (turnF (gN 1) (sSeq (sIf (mOr (mNot (mTru (mIsi "tuple" (mVar 1)))) (mOr (mB (mOp2 (lift2 fNe) (mOpN (liftN fLen) (aCons (mVar 1) aNil)) (mC (.int 2)))) (mNot (mTru (mCall m__law_is_up_to (aCons (mOp2 (lift2 fIx) (mVar 1) (mC (.int 1))) (aCons (mC (.int 1)) (aCons (mOp2 (lift2 fSub) (mOp2 (lift2 fIx) (mVar 0) (mC (.int 0))) (mC (.int 1))) aNil)))))))) (sRet (mC (.bool false))) sSkip)
    (sIf (mNot (mTru (mCall m__law_is_up_to (aCons (mOp2 (lift2 fIx) (mVar 1) (mC (.int 0))) (aCons (mC (.int 0)) (aCons (mOp2 (lift2 fSub) (mOp2 (lift2 fIx) (mVar 1) (mC (.int 1))) (mC (.int 1))) aNil)))))) (sRet (mC (.bool false))) sSkip)) x [some (.p (.tuple [.int v, .tuple xs])), x1, x2] A).To P R := by
  simp
  cases x with
  | tuple ys =>
    have hy := lenB_tup hx
    have hf := len_tup hy.1
    match ys, hf with
    | [], hf =>
      simp [isInst, hf]
      exact h2 rfl
    | [a], hf =>
      simp [isInst, hf]
      exact h2 (by cases a <;> rfl)
    | a :: b :: c :: r, hf =>
      have hf' : fLen [.tuple (a :: b :: c :: r)] = some (.int ((r.length : Int) + 3)) := by
        rw [hf]
        simp only [List.length_cons]
        congr 2
      have this : ¬ ((r.length : Int) + 3 = 2) := by omega
      have e : isE v (.tuple (a :: b :: c :: r)) = false := by cases a <;> cases b <;> rfl
      simp [isInst, hf', this]
      exact h2 e
    | [a, b], hf =>
      simp [isInst, hf]
      refine (law_is_up_to hp).mono ?_
      rintro r A' ⟨rfl, rfl⟩
      cases hb : upTo b 1 (v - 1) with
      | false =>
        have e : isE v (.tuple [a, b]) = false := by
          unfold isE
          split
          · rename_i i j e
            cases e
            unfold upTo at hb
            simp at hb ⊢
            omega
          · rfl
        simp
        exact h2 e
      | true =>
        obtain ⟨j, rfl, hj1, hj2⟩ : ∃ j, b = .int j ∧ 1 ≤ j ∧ j ≤ v - 1 := by
          unfold upTo at hb
          split at hb
          · simp at hb
            exact ⟨_, rfl, hb.1, hb.2⟩
          · cases hb
        simp
        refine (law_is_up_to hp).mono ?_
        rintro r A2 ⟨rfl, rfl⟩
        cases ha : upTo a 0 (j - 1) with
        | false =>
          have e : isE v (.tuple [a, .int j]) = false := by
            unfold isE
            split
            · rename_i i j2 e
              cases e
              unfold upTo at ha
              simp at ha ⊢
              omega
            · rfl
          simp
          exact h2 e
        | true =>
          have e : isE v (.tuple [a, .int j]) = true := by
            unfold upTo at ha
            split at ha
            · simp at ha
              unfold isE
              simp
              omega
            · cases ha
          simp
          exact h1 e
  | none => simp [isInst]; exact h2 rfl
  | bool b => simp [isInst]; exact h2 rfl
  | int b => simp [isInst]; exact h2 rfl
  | str b => simp [isInst]; exact h2 rfl
  | list b => simp [isInst]; exact h2 rfl
  | dict b => simp [isInst]; exact h2 rfl
theorem isG_no {a b : PyData} (h : upTo a 1 10 = false) : isG (.tuple [a, b]) = false := by
  unfold isG
  split
  · rename_i v xs e
    cases e
    unfold upTo at h
    simp at h
    by_cases c : 1 ≤ v
    · have := h c
      have c2 : ¬ v ≤ 10 := by omega
      simp [c2]
    · simp [c]
  · rfl
def badAt (es : List Ed) (x : PyData) : Option PyData := match x with
  | .int k => if pLt (es.getD (k - 1).toNat (0, 0)) (es.getD k.toNat (0, 0)) then none else some (.int k)
  | _ => none
theorem bad_none (es : List Ed) : ((rangeD 1 (es.length - 1)).filterMap (badAt es) = []) ↔ ascB es = true := by
  rw [← asc_range, List.filterMap_eq_nil_iff, List.all_eq_true]
  constructor
  · intro h k hk
    have hk := List.mem_range.mp hk
    have h1 := h (.int (1 + (k : Int))) (List.mem_map.mpr ⟨k, List.mem_range.mpr hk, rfl⟩)
    unfold badAt at h1
    dsimp only at h1
    have e1 : (1 + (k : Int) - 1).toNat = k := by omega
    have e2 : (1 + (k : Int)).toNat = k + 1 := by omega
    rw [e1, e2] at h1
    by_cases c : pLt (es.getD k (0, 0)) (es.getD (k + 1) (0, 0))
    · exact decide_eq_true c
    · rw [if_neg c] at h1; cases h1
  · intro h x hx
    obtain ⟨k, hk, rfl⟩ := List.mem_map.mp hx
    have hk := List.mem_range.mp hk
    have h1 := of_decide_eq_true (h k (List.mem_range.mpr hk))
    unfold badAt
    dsimp only
    have e1 : (1 + (k : Int) - 1).toNat = k := by omega
    have e2 : (1 + (k : Int)).toNat = k + 1 := by omega
    rw [e1, e2, if_pos h1]
def isSome2 (xs : List PyData) : Prop := ∀ x, x ∈ xs → isIntD x = true
theorem eq_nil_int {xs : List PyData} (h : ∀ x, x ∈ xs → ∃ i, x = .int i) : fEq (.list xs) (.list []) = some (.bool xs.isEmpty) := by
  have : xs = encI (xs.map fun x => match x with
    | .int i => i
    | _ => 0) := by
    unfold encI
    rw [List.map_map]
    refine (List.map_id' xs).symm.trans (List.map_congr_left fun x hx => ?_)
    obtain ⟨i, rfl⟩ := h x hx
    rfl
  unfold fEq
  rw [if_pos ⟨by rw [this]; exact shIs _, shIs []⟩, PyData.eqv]
  cases xs with
  | nil => rfl
  | cons a b => rfl
theorem law_is_graph (hp : plain A) (hl : lenB d = true) : (m__law_is_graph [.p d] A).To fun r A' => r = .p (.bool (isG d)) ∧ A' = A := by
  unfold m__law_is_graph
  refine To_def ?_
  unfold b__law_is_graph
  cases d with
  | tuple ys =>
    have hy := lenB_tup hl
    have hf := len_tup hy.1
    match ys, hf, hy with
    | [], hf, hy => simp [isInst, hf, hp, isG]
    | [a], hf, hy =>
      have : isG (.tuple [a]) = false := by cases a <;> rfl
      simp [isInst, hf, hp, this]
    | a :: b :: c :: r, hf, hy =>
      have hf' : fLen [.tuple (a :: b :: c :: r)] = some (.int ((r.length : Int) + 3)) := by
        rw [hf]
        simp only [List.length_cons]
        congr 2
      have this : ¬ ((r.length : Int) + 3 = 2) := by omega
      have e : isG (.tuple (a :: b :: c :: r)) = false := by cases a <;> cases b <;> rfl
      simp [isInst, hf', this, hp, e]
    | [a, b], hf, hy =>
      have hlb : lenB b = true := lenB_mem hy.2 (by simp)
      simp [isInst, hf]
      refine (law_is_up_to hp).mono ?_
      rintro r A' ⟨rfl, rfl⟩
      cases ha : upTo a 1 10 with
      | false => simp [hp, isG_no ha]
      | true =>
        obtain ⟨v, rfl, hv1, hv2⟩ : ∃ v, a = .int v ∧ 1 ≤ v ∧ v ≤ 10 := by
          unfold upTo at ha
          split at ha
          · simp at ha
            exact ⟨_, rfl, ha.1, ha.2⟩
          · cases ha
        cases b with
        | tuple xs =>
          have hx := lenB_tup hlb
          have hf2 := len_tup hx.1
          by_cases c3 : xs.length ≤ 24
          · have c3' : (xs.length : Int) ≤ 24 := by omega
            have c3'' : ¬ (24 : Int) < (xs.length : Int) := by omega
            simp [isInst, hf2, c3', c3'']
            refine forL_to (fun i s B => (∃ x1, s = [some (.p (.tuple [.int v, .tuple xs])), x1, none]) ∧ B = A' ∧ (xs.take i).all (isE v) = true) ?_ ⟨⟨none, rfl⟩, rfl, rfl⟩ ?_
            · rintro i x s B hxi ⟨⟨x1, rfl⟩, rfl, hall⟩
              refine law_edge hp (lenB_mem hx.2 (List.mem_of_getElem? hxi)) (fun h => ⟨⟨_, rfl⟩, rfl, ?_⟩) (fun h => ?_)
              · rw [List.take_succ, List.all_append, hall, hxi]
                simp [h]
              · have e : xs.all (isE v) = false := by
                  rw [Bool.eq_false_iff]
                  intro z
                  have := List.all_eq_true.mp z x (List.mem_of_getElem? hxi)
                  rw [h] at this
                  cases this
                simp [hp, isG, e]
            · rintro s B ⟨⟨x1, rfl⟩, rfl, hall⟩
              rw [List.take_length] at hall
              have he := toE_map hall
              generalize hes : xs.map toE = es at he
              have hel : es.length = xs.length := by rw [← hes, List.length_map]
              refine To_comp (badAt es) (To_iR2 ?_)
              simp [hf2]
              refine ⟨_, _, ⟨rfl, rfl⟩, by unfold small; omega, by unfold small; omega, ?_⟩
              have en : ((xs.length : Int) - 1).toNat = es.length - 1 := by omega
              rw [en]
              refine ⟨by unfold rangeD; rw [List.length_map, List.length_range]; omega, ?_, ?_⟩
              · intro x hx2
                obtain ⟨k, hk, rfl⟩ := List.mem_map.mp hx2
                have hk := List.mem_range.mp hk
                have e1 : L2.atI xs (1 + (k : Int) - 1) = some (encP (es.getD k (0, 0))) := by
                  have : 1 + (k : Int) - 1 = (k : Int) := by omega
                  rw [this, ← he]
                  exact at_E (by omega)
                have e2 : L2.atI xs (1 + (k : Int)) = some (encP (es.getD (k + 1) (0, 0))) := by
                  have : 1 + (k : Int) = ((k + 1 : Nat) : Int) := by omega
                  rw [this, ← he]
                  exact at_E (by omega)
                have e3 : (1 + (k : Int) - 1).toNat = k := by omega
                have e4 : (1 + (k : Int)).toNat = k + 1 := by omega
                refine turn_of (f := badAt es) ⟨_, rfl, ?_⟩
                have hb : badAt es (.int (1 + (k : Int))) = if pLt (es.getD k (0, 0)) (es.getD (k + 1) (0, 0)) then none else some (.int (1 + (k : Int))) := by
                  unfold badAt
                  dsimp only
                  rw [e3, e4]
                rw [hb]
                generalize (1 + (k : Int)) = kk at *
                generalize es.getD k (0, 0) = p at *
                generalize es.getD (k + 1) (0, 0) = q at *
                by_cases c : pLt p q
                · simp only [wipeS, List.foldl_cons, List.foldl_nil]
                  simp [e1, e2, ge_P, c]
                · simp only [wipeS, List.foldl_cons, List.foldl_nil]
                  simp [e1, e2, ge_P, c]
              · have hints : ∀ x, x ∈ (rangeD 1 (es.length - 1)).filterMap (badAt es) → ∃ i, x = .int i := by
                  intro x hx2
                  obtain ⟨y, _, hy2⟩ := List.mem_filterMap.mp hx2
                  unfold badAt at hy2
                  split at hy2
                  · split at hy2
                    · cases hy2
                    · cases hy2; exact ⟨_, rfl⟩
                  · cases hy2
                have hem : ((rangeD 1 (es.length - 1)).filterMap (badAt es)).isEmpty = ascB es := by
                  rw [Bool.eq_iff_iff, List.isEmpty_iff]
                  exact bad_none es
                have hG : isG (.tuple [.int v, .tuple xs]) = ascB es := by
                  unfold isG
                  dsimp only
                  rw [hall, hes]
                  simp [hv1, hv2, c3]
                generalize (rangeD 1 (es.length - 1)).filterMap (badAt es) = zs at *
                simp [eq_nil_int hints, hem, hG, hp]
          · have c3' : (24 : Int) < (xs.length : Int) := by omega
            simp [isInst, hf2, c3', hp, isG, c3]
        | none => simp [isInst, hp, isG]
        | bool b => simp [isInst, hp, isG]
        | int b => simp [isInst, hp, isG]
        | str b => simp [isInst, hp, isG]
        | list b => simp [isInst, hp, isG]
        | dict b => simp [isInst, hp, isG]
  | none => simp [isInst, hp, isG]
  | bool b => simp [isInst, hp, isG]
  | int b => simp [isInst, hp, isG]
  | str b => simp [isInst, hp, isG]
  | list b => simp [isInst, hp, isG]
  | dict b => simp [isInst, hp, isG]
end
end Lw
end

section
set_option maxHeartbeats 4000000
/-! NiA: things that can be shown; strange things, full graphs. -/
namespace Lw
open PySem PySem.W Mi
/-- what can be shown, to a depth k and a weight w -/
structure Sm (k w : Nat) (d : PyData) : Prop where
  shw : d.showable = true
  lvs : PyData.leavesShort 50 d = true
  len : lenB d = true
  dep : d.depth ≤ k
  wgt : d.weight ≤ w
def smB (k w : Nat) (d : PyData) : Bool := d.showable && PyData.leavesShort 50 d && lenB d && decide (d.depth ≤ k) && decide (d.weight ≤ w)
theorem smB_ok {k w : Nat} {d : PyData} (h : smB k w d = true) : Sm k w d := by
  unfold smB at h
  simp only [Bool.and_eq_true, decide_eq_true_eq] at h
  exact ⟨h.1.1.1.1, h.1.1.1.2, h.1.1.2, h.1.2, h.2⟩
theorem Sm.mono {k w k2 w2 : Nat} {d : PyData} (h : Sm k w d) (a : k ≤ k2) (b : w ≤ w2) : Sm k2 w2 d := ⟨h.shw, h.lvs, h.len, Nat.le_trans h.dep a, Nat.le_trans h.wgt b⟩
theorem sm_int {i : Int} (h0 : -30 ≤ i) (h1 : i ≤ 30) : Sm 0 5 (.int i) := by
  have h : ∀ n : Fin 61, smB 0 5 (.int ((n.val : Int) - 30)) = true := by decide +kernel
  have := h ⟨(i + 30).toNat, by omega⟩
  have e : (((i + 30).toNat : Nat) : Int) - 30 = i := by omega
  dsimp only at this
  rw [e] at this
  exact smB_ok this
theorem sm_all {k w : Nat} : ∀ {xs : List PyData}, (∀ x, x ∈ xs → Sm k w x) → PyData.showableAll xs = true ∧ PyData.leavesShortAll 50 xs = true ∧ lenBAll xs = true ∧ PyData.depthAll xs ≤ k ∧ PyData.weightAll xs ≤ xs.length * (w + 1)
  | [], _ => ⟨rfl, rfl, rfl, Nat.zero_le _, by simp [PyData.weightAll]⟩
  | x :: xs, h => by
    obtain ⟨a, b, c, d, e⟩ := sm_all fun y hy => h y (List.mem_cons_of_mem _ hy)
    have hx := h x List.mem_cons_self
    refine ⟨by rw [PyData.showableAll, hx.shw, a]; rfl, by rw [PyData.leavesShortAll, hx.lvs, b]; rfl, by rw [lenBAll, hx.len, c]; rfl, by rw [PyData.depthAll]; exact Nat.max_le.mpr ⟨hx.dep, d⟩, ?_⟩
    rw [PyData.weightAll, List.length_cons, Nat.succ_mul]
    have := hx.wgt
    omega
theorem sm_tup {k w : Nat} {xs : List PyData} (h : ∀ x, x ∈ xs → Sm k w x) (hl : xs.length ≤ 1000) : Sm (k + 1) (xs.length * (w + 1)) (.tuple xs) := by
  obtain ⟨a, b, c, d, e⟩ := sm_all h
  exact ⟨by rw [PyData.showable]; exact a, by rw [PyData.leavesShort]; exact b, by rw [lenB, c, decide_eq_true hl]; rfl, by rw [PyData.depth]; omega, by rw [PyData.weight]; exact e⟩
theorem sm_lst {k w : Nat} {xs : List PyData} (h : ∀ x, x ∈ xs → Sm k w x) (hl : xs.length ≤ 1000) : Sm (k + 1) (xs.length * (w + 1)) (.list xs) := by
  obtain ⟨a, b, c, d, e⟩ := sm_all h
  exact ⟨by rw [PyData.showable]; exact a, by rw [PyData.leavesShort]; exact b, by rw [lenB, c, decide_eq_true hl]; rfl, by rw [PyData.depth]; omega, by rw [PyData.weight]; exact e⟩
/-- no dict within, or no list -/
def Nd (d : PyData) : Prop := Mi.noDict d = true ∨ noList d = true
theorem nd_all {xs : List PyData} (h : ∀ x, x ∈ xs → Mi.noDict x = true) : noDictAll xs = true := by
  induction xs with
  | nil => rfl
  | cons x xs ih => rw [noDictAll, h x List.mem_cons_self, ih fun y hy => h y (List.mem_cons_of_mem _ hy)]; rfl
theorem nl_all {xs : List PyData} (h : ∀ x, x ∈ xs → noList x = true) : noListAll xs = true := by
  induction xs with
  | nil => rfl
  | cons x xs ih => rw [noListAll, h x List.mem_cons_self, ih fun y hy => h y (List.mem_cons_of_mem _ hy)]; rfl
/-- a thing of the laws -/
def Th (d : PyData) : Prop := ∃ k w, k ≤ 20 ∧ w ≤ 100000 ∧ Sm k w d ∧ Nd d
theorem Th.len {d : PyData} (h : Th d) : lenB d = true := by
  obtain ⟨k, w, _, _, s, _⟩ := h
  exact s.len
theorem Th.repr {d : PyData} (h : Th d) : fRepr [d] = some (.str d.shown) := by
  obtain ⟨k, w, hk, hw, s, n⟩ := h
  unfold fRepr
  dsimp only
  have h1 := PyData.shown_le 50 (by decide) d s.lvs
  have h2 := s.wgt
  have h3 : (50 + 2) * d.weight ≤ 52 * 100000 := Nat.mul_le_mul_left 52 (by omega)
  have h4 : 52 * 100000 + 50 ≤ sizeLine := by decide
  exact if_pos ⟨s.shw, n, Nat.le_trans s.dep (by omega), by omega⟩
/-! strange things -/
def stranges : List PyData := [.none, .bool true, .bool false, .int 0, .int 1, .int 7, .int (-1), .int 11, .int (10 ^ 30), .str "", .str "3:", .str "3: 0-1", .tuple [], .tuple [.int 0], .tuple [.int 0, .int 1], .tuple [.int 1, .int 0], .list [], .list [.int 0, .int 1],
  .tuple [.int 3, .tuple []], .tuple [.int 3, .tuple [.tuple [.int 0, .int 1]]], .tuple [.int 3, .tuple [.tuple [.int 1, .int 0]]], .tuple [.int 0, .tuple []], .tuple [.int 11, .tuple []], .tuple [.bool true, .tuple []], .tuple [.int 2, .list [.tuple [.int 0, .int 1]]],
  .dict [], .tuple [.tuple [.int 0, .int 1], .tuple [.int 1, .int 2]]]
theorem strange_ok {x : PyData} (h : x ∈ stranges) : Sm 4 200 x ∧ (Mi.noDict x = true ∨ noList x = true) := by
  have : stranges.all (fun x => smB 4 200 x && (Mi.noDict x || noList x)) = true := by decide +kernel
  have := List.all_eq_true.mp this x h
  rw [Bool.and_eq_true, Bool.or_eq_true] at this
  exact ⟨smB_ok this.1, this.2⟩
theorem pow_30 : fPow (.int 10) (.int 30) = some (.int (10 ^ 30)) := rfl
theorem strange {A : Arn} {n : Nat} (hw : Wl A n) (hp : plain A) : (m__law_strange [.ref n] A).To fun d A' => (∃ x, d = .p x ∧ x ∈ stranges) ∧ Wup A n A' := by
  unfold m__law_strange
  refine To_def ?_
  unfold b__law_strange
  simp [pow_30]
  simp [fAdd]
  refine (pick (c := .tuple stranges) (xs := stranges) hw hp (by simp [stranges]) (by decide) (.inl rfl)).mono ?_
  rintro d A' ⟨⟨x, rfl, hx⟩, u⟩
  have ht : A'.take A.length = A' := List.take_of_length_le (Nat.le_of_eq u.length)
  simp [u.plain hp, ht]
  exact ⟨hx, u⟩
end Lw
end

section
set_option maxHeartbeats 4000000
/-! NiB: full graphs, bent graphs. -/
namespace Lw
open PySem PySem.W Mi
def Lo (p : Ed) : Prop := -20 ≤ p.1 ∧ p.1 ≤ 20 ∧ -20 ≤ p.2 ∧ p.2 ≤ 20
theorem sm_P {p : Ed} (h : Lo p) : Sm 1 12 (encP p) := by
  unfold Lo at h
  refine (sm_tup (k := 0) (w := 5) (xs := [.int p.1, .int p.2]) (fun x hx => ?_) (by simp)).mono (by omega) (by simp)
  rcases List.mem_cons.mp hx with rfl | hx
  · exact sm_int (by omega) (by omega)
  · rw [List.mem_singleton] at hx
    subst hx
    exact sm_int (by omega) (by omega)
theorem nlP (p : Ed) : noList (encP p) = true := rfl
/-- an edge's place: what may stand there -/
structure El (x : PyData) : Prop where
  sm : Sm 6 400 x
  nd : Mi.noDict x = true ∨ noList x = true
theorem El.P {p : Ed} (h : Lo p) : El (encP p) := ⟨(sm_P h).mono (by omega) (by omega), .inl (ndP p)⟩
theorem El.strange {x : PyData} (h : x ∈ stranges) : El x := ⟨(strange_ok h).1.mono (by omega) (by omega), (strange_ok h).2⟩
theorem th_of {v : Int} {pre post : List PyData} {x : PyData} (hv : -20 ≤ v ∧ v ≤ 20) (h1 : ∀ y, y ∈ pre → ∃ p, y = encP p ∧ Lo p) (h2 : ∀ y, y ∈ post → ∃ p, y = encP p ∧ Lo p) (hx : El x) (l1 : pre.length ≤ 100) (l2 : post.length ≤ 100) : Th (.tuple [.int v, .tuple (pre ++ x :: post)]) := by
  have hall : ∀ y, y ∈ pre ++ x :: post → Sm 6 400 y := fun y hy => by
    rcases List.mem_append.mp hy with hy | hy
    · obtain ⟨p, rfl, hp⟩ := h1 y hy; exact (El.P hp).sm
    · rcases List.mem_cons.mp hy with rfl | hy
      · exact hx.sm
      · obtain ⟨p, rfl, hp⟩ := h2 y hy; exact (El.P hp).sm
  have hlen : (pre ++ x :: post).length ≤ 201 := by rw [List.length_append, List.length_cons]; omega
  have s1 := sm_tup hall (by omega)
  have hw : (pre ++ x :: post).length * (400 + 1) ≤ 201 * 401 := Nat.mul_le_mul_right 401 hlen
  have s1' := s1.mono (k2 := 7) (w2 := 90000) (by omega) (by omega)
  refine ⟨8, 100000 - 1, by omega, by omega, ?_, ?_⟩
  · have sall := sm_all (k := 7) (w := 90000) (xs := [.tuple (pre ++ x :: post)]) (fun y hy => by rw [List.mem_singleton] at hy; rw [hy]; exact s1')
    have si := sm_int (i := v) (by omega) (by omega)
    refine ⟨?_, ?_, ?_, ?_, ?_⟩
    · rw [PyData.showable, PyData.showableAll, si.shw, sall.1]; rfl
    · rw [PyData.leavesShort, PyData.leavesShortAll, si.lvs, sall.2.1]; rfl
    · rw [lenB, lenBAll, si.len, sall.2.2.1]; rfl
    · rw [PyData.depth, PyData.depthAll]
      have := si.dep
      have := sall.2.2.2.1
      omega
    · rw [PyData.weight, PyData.weightAll]
      have := si.wgt
      have := sall.2.2.2.2
      simp only [List.length_cons, List.length_nil] at this
      omega
  · rcases hx.nd with hd | hd
    · left
      show Mi.noDict (.tuple [.int v, .tuple (pre ++ x :: post)]) = true
      have e : noDictAll (pre ++ x :: post) = true := by
        refine nd_all fun y hy => ?_
        rcases List.mem_append.mp hy with hy | hy
        · obtain ⟨p, rfl, _⟩ := h1 y hy; exact ndP p
        · rcases List.mem_cons.mp hy with rfl | hy
          · exact hd
          · obtain ⟨p, rfl, _⟩ := h2 y hy; exact ndP p
      show (true && (noDictAll (pre ++ x :: post) && true)) = true
      rw [e]
      rfl
    · right
      show noList (.tuple [.int v, .tuple (pre ++ x :: post)]) = true
      have e : noListAll (pre ++ x :: post) = true := by
        refine nl_all fun y hy => ?_
        rcases List.mem_append.mp hy with hy | hy
        · obtain ⟨p, rfl, _⟩ := h1 y hy; exact nlP p
        · rcases List.mem_cons.mp hy with rfl | hy
          · exact hd
          · obtain ⟨p, rfl, _⟩ := h2 y hy; exact nlP p
      show (true && (noListAll (pre ++ x :: post) && true)) = true
      rw [e]
      rfl
/-- things whose parts have no dict -/
theorem th_tup {xs : List PyData} {k w : Nat} (h : ∀ x, x ∈ xs → Sm k w x ∧ Mi.noDict x = true) (hk : k ≤ 19) (hl : xs.length ≤ 10) (hw : w ≤ 9000) : Th (.tuple xs) := by
  have s := sm_tup (fun x hx => (h x hx).1) (by omega)
  have hm : xs.length * (w + 1) ≤ 10 * 9001 := Nat.mul_le_mul hl (by omega)
  refine ⟨k + 1, xs.length * (w + 1), by omega, by omega, s, .inl ?_⟩
  rw [Mi.noDict]
  exact nd_all fun x hx => (h x hx).2
theorem th_lst {xs : List PyData} {k w : Nat} (h : ∀ x, x ∈ xs → Sm k w x ∧ Mi.noDict x = true) (hk : k ≤ 19) (hl : xs.length ≤ 10) (hw : w ≤ 9000) : Th (.list xs) := by
  have s := sm_lst (fun x hx => (h x hx).1) (by omega)
  have hm : xs.length * (w + 1) ≤ 10 * 9001 := Nat.mul_le_mul hl (by omega)
  refine ⟨k + 1, xs.length * (w + 1), by omega, by omega, s, .inl ?_⟩
  rw [Mi.noDict]
  exact nd_all fun x hx => (h x hx).2
theorem sm_E {es : List Ed} (h : ∀ p, p ∈ es → Lo p) (hl : es.length ≤ 100) : Sm 2 1300 (.tuple (encE es)) ∧ Mi.noDict (.tuple (encE es)) = true := by
  have a : ∀ x, x ∈ encE es → Sm 1 12 x := fun x hx => by
    obtain ⟨p, hp, rfl⟩ := List.mem_map.mp hx
    exact sm_P (h p hp)
  have hm : (encE es).length * (12 + 1) ≤ 100 * 13 := Nat.mul_le_mul_right 13 (by rw [encE_length]; exact hl)
  refine ⟨(sm_tup a (by rw [encE_length]; omega)).mono (by omega) (by omega), ?_⟩
  rw [Mi.noDict]
  exact nd_all fun x hx => by
    obtain ⟨p, hp, rfl⟩ := List.mem_map.mp hx
    exact ndP p
theorem sm_I {v : Int} (h : -20 ≤ v ∧ v ≤ 20) : Sm 2 1300 (.int v) ∧ Mi.noDict (.int v) = true := ⟨(sm_int (by omega) (by omega)).mono (by omega) (by omega), rfl⟩
theorem th_G {v : Int} {es : List Ed} (hv : -20 ≤ v ∧ v ≤ 20) (h : ∀ p, p ∈ es → Lo p) (hl : es.length ≤ 100) : Th (encG v es) :=
  th_tup (k := 2) (w := 1300) (fun x hx => by
    rcases List.mem_cons.mp hx with rfl | hx
    · exact sm_I hv
    · rw [List.mem_singleton] at hx
      rw [hx]
      exact sm_E h hl) (by omega) (by simp) (by omega)
theorem GOkay.lo_ {v : Int} {es : List Ed} (h : GOkay v es) : ∀ p, p ∈ es → Lo p := fun p hp => by
  have := h.inn p hp
  have := h.hi
  unfold Lo
  omega
theorem full {A : Arn} {n : Nat} {e : Nat} (hw : Wl A n) (hp : plain A) (he : e ≤ 45) : (m__law_full [.ref n, .p (.int e)] A).To fun d A' => (∃ x, d = .p x ∧ Th x) ∧ Wup A n A' := by
  have hlt := hw.lt
  unfold m__law_full
  refine To_def ?_
  unfold b__law_full
  simp
  have hB := (Lg.refl hw).snoc []
  refine (order (k := 45) (hB.wl hw) (hB.plain hp) (by omega)).mono ?_
  rintro d B ⟨⟨os, rfl, ol, ond, omem⟩, u⟩
  have hB1 := hB.draw hw u
  have hl1 : lst B A.length = some (encE []) := by
    rw [u.lst (by omega)]
    exact lst_snoc
  simp
  refine forL_to (fun i s C => ∃ (es : List Ed) (y : Option D), s = [some (.ref n), some (.p (.int e)), some (.ref A.length), y] ∧ Lg A n C ∧ lst C A.length = some (encE es) ∧ es.length = i ∧ ∀ p, p ∈ es → In 10 p) ?_ ⟨[], none, rfl, hB1, hl1, rfl, fun p hp => by simp at hp⟩ ?_
  · rintro i x s C hx ⟨es, y, rfl, hC, hl, hle, hin⟩
    have hx2 := cut_mem (List.mem_of_getElem? hx)
    have hlc : i < (cutD' (encI os) none (some (e : Int))).length := (List.getElem?_eq_some_iff.mp hx).1
    have hlc2 : (cutD' (encI os) none (some (e : Int))).length ≤ (encI os).length := by
      unfold cutD'
      rw [List.length_take, List.length_drop]
      omega
    rw [encI_length, ol] at hlc2
    obtain ⟨k, hk, rfl⟩ := List.mem_map.mp hx2
    have hk2 := (omem k).mp hk
    simp [hl]
    refine (pairs_of (v := 10) (hC.plain hp) (by omega)).mono ?_
    rintro d _ ⟨rfl, rfl⟩
    have hpl : (pairsTo 10 10).length = 45 := by decide +kernel
    obtain ⟨j, rfl⟩ := Int.eq_ofNat_of_zero_le hk2.1
    have e1 := at_E (es := pairsTo 10 10) (k := j) (by omega)
    have hpm : (pairsTo 10 10).getD j (0, 0) ∈ pairsTo 10 10 := by
      have hj : j < (pairsTo 10 10).length := by omega
      have : (pairsTo 10 10).getD j (0, 0) = (pairsTo 10 10)[j] := by simp [List.getD, hj]
      rw [this]
      exact List.getElem_mem hj
    have hpi := pairsTo_In hpm
    generalize (pairsTo 10 10).getD j (0, 0) = pp at *
    have e100 : es.length < 100000 := by omega
    simp [e1, hl, encE_length, e100]
    refine ⟨hC.set (Nat.le_refl _) _, es ++ [pp], ?_, ?_, fun a b hq => ?_⟩
    · rw [lst_set (lst_lt hl), encE_snoc]
    · rw [List.length_append, List.length_cons, List.length_nil]; omega
    · rcases List.mem_append.mp hq with hq | hq
      · exact hin _ hq
      · rw [List.mem_singleton] at hq
        rw [hq]
        exact hpi
  · rintro s C ⟨es, y, rfl, hC, hl, hle, hin⟩
    have hlc2 : (cutD' (encI os) none (some (e : Int))).length ≤ (encI os).length := by
      unfold cutD'
      rw [List.length_take, List.length_drop]
      omega
    rw [encI_length, ol] at hlc2
    simp
    refine (keptR (es := es) (hC.plain hp) hl (by omega)).mono ?_
    rintro d C1 ⟨rfl, rfl⟩
    have hg := hC.gone (m := A.length) (Nat.le_refl _)
    refine hg.close hp ⟨⟨_, rfl, th_G (by omega) (fun p hp => ?_) ?_⟩, hg.take⟩
    · obtain ⟨q, hq, _, rfl⟩ := kept_mem.mp hp
      have := nrm_in (hin q hq)
      unfold In at this
      unfold Lo
      omega
    · have := kept_length es
      omega
theorem add_tt {xs ys : List PyData} (h : xs.length ≤ 1000) (k : ys.length ≤ 1000) : fAdd (.tuple xs) (.tuple ys) = some (.tuple (xs ++ ys)) := by
  show (if xs.length + ys.length ≤ 100000 then _ else _) = _
  rw [if_pos (by omega)]
theorem cut_len {α : Type} (xs : List α) (lo hi : Option Int) : (cutD' xs lo hi).length ≤ xs.length := by
  unfold cutD'
  rw [List.length_take, List.length_drop]
  omega
theorem sm_ys {ys : List PyData} (h : ∀ y, y ∈ ys → ∃ p, y = encP p ∧ Lo p) (hl : ys.length ≤ 100) : Sm 2 1300 (.tuple ys) ∧ Mi.noDict (.tuple ys) = true := by
  have a : ∀ x, x ∈ ys → Sm 1 12 x := fun x hx => by
    obtain ⟨p, rfl, hp⟩ := h x hx
    exact sm_P hp
  have hm : ys.length * (12 + 1) ≤ 100 * 13 := Nat.mul_le_mul_right 13 hl
  refine ⟨(sm_tup a (by omega)).mono (by omega) (by omega), ?_⟩
  rw [Mi.noDict]
  exact nd_all fun x hx => by
    obtain ⟨p, rfl, hp⟩ := h x hx
    exact ndP p
theorem sm_yl {ys : List PyData} (h : ∀ y, y ∈ ys → ∃ p, y = encP p ∧ Lo p) (hl : ys.length ≤ 100) : Sm 2 1300 (.list ys) ∧ Mi.noDict (.list ys) = true := by
  have a : ∀ x, x ∈ ys → Sm 1 12 x := fun x hx => by
    obtain ⟨p, rfl, hp⟩ := h x hx
    exact sm_P hp
  have hm : ys.length * (12 + 1) ≤ 100 * 13 := Nat.mul_le_mul_right 13 hl
  refine ⟨(sm_lst a (by omega)).mono (by omega) (by omega), ?_⟩
  rw [Mi.noDict]
  exact nd_all fun x hx => by
    obtain ⟨p, rfl, hp⟩ := h x hx
    exact ndP p
theorem th_two {a b : PyData} (ha : Sm 2 1300 a ∧ Mi.noDict a = true) (hb : Sm 2 1300 b ∧ Mi.noDict b = true) : Th (.tuple [a, b]) :=
  th_tup (k := 2) (w := 1300) (fun x hx => by
    rcases List.mem_cons.mp hx with rfl | hx
    · exact ha
    · rw [List.mem_singleton] at hx; rw [hx]; exact hb) (by omega) (by simp) (by omega)
theorem str_v {v : Int} (h1 : 1 ≤ v) (h2 : v ≤ 10) : fStr [.int v] = some (.str (toString v)) ∧ Sm 2 1300 (.str (toString v)) ∧ Mi.noDict (.str (toString v)) = true := by
  have h : ∀ n : Fin 11, ((n.val : Int).natAbs.log2 < 1920) ∧ smB 2 1300 (.str (toString (n.val : Int))) = true := by decide +kernel
  have := h ⟨v.toNat, by omega⟩
  have e : ((v.toNat : Nat) : Int) = v := by omega
  dsimp only at this
  rw [e] at this
  exact ⟨if_pos this.1, smB_ok this.2, rfl⟩
theorem sm_c {d : PyData} (h : smB 2 1300 d = true) (k : Mi.noDict d = true) : Sm 2 1300 d ∧ Mi.noDict d = true := ⟨smB_ok h, k⟩
def bt : MS :=
  (sSeq (sIf (mB (mOp2 (lift2 fEq) (mVar 5) (mC (.int 0)))) (sRet (mFr (lDisp (aCons (mVar 3) (aCons (mVar 4) aNil))))) sSkip)
    (sSeq (sIf (mB (mOp2 (lift2 fEq) (mVar 5) (mC (.int 1)))) (sRet (mTup (aCons (mVar 3) (aCons (mFr (lOpN lfList (aCons (mVar 4) aNil))) aNil)))) sSkip)
    (sSeq (sIf (mB (mOp2 (lift2 fEq) (mVar 5) (mC (.int 2)))) (sRet (mTup (aCons (mVar 3) (aCons (mOp2 (lift2o fAdd) (mOp2 (lift2o fAdd) (mSlA (mVar 4) pNo (pSome (mVar 6))) (mTup (aCons (mTup (aCons (mOp2 (lift2 fIx) (mVar 2) (mC (.int 1))) (aCons (mOp2 (lift2 fIx) (mVar 2) (mC (.int 0))) aNil))) aNil))) (mSlA (mVar 4) (pSome (mOp2 (lift2o fAdd) (mVar 6) (mC (.int 1)))) pNo)) aNil)))) sSkip)
    (sSeq (sIf (mB (mOp2 (lift2 fEq) (mVar 5) (mC (.int 3)))) (sRet (mTup (aCons (mVar 3) (aCons (mOp2 (lift2o fAdd) (mOp2 (lift2o fAdd) (mSlA (mVar 4) pNo (pSome (mVar 6))) (mTup (aCons (mFr (lOpN lfList (aCons (mVar 2) aNil))) aNil))) (mSlA (mVar 4) (pSome (mOp2 (lift2o fAdd) (mVar 6) (mC (.int 1)))) pNo)) aNil)))) sSkip)
    (sSeq (sIf (mB (mOp2 (lift2 fEq) (mVar 5) (mC (.int 4)))) (sRet (mTup (aCons (mVar 3) (aCons (mRev (mVar 4)) aNil)))) sSkip)
    (sSeq (sIf (mB (mOp2 (lift2 fEq) (mVar 5) (mC (.int 5)))) (sRet (mTup (aCons (mVar 3) (aCons (mOp2 (lift2o fAdd) (mVar 4) (mSlA (mVar 4) (pSome (mOp1 (lift1 fNeg) (mC (.int 1)))) pNo)) aNil)))) sSkip)
    (sSeq (sIf (mB (mOp2 (lift2 fEq) (mVar 5) (mC (.int 6)))) (sRet (mTup (aCons (mCall m__law_pick (aCons (mVar 0) (aCons (mTup (aCons (mC (.int 0)) (aCons (mC (.int 11)) (aCons (mOp2 (lift2 fSub) (mVar 3) (mC (.int 1))) (aCons (mOp2 (lift2o fAdd) (mVar 3) (mC (.int 1))) (aCons (mOp1 (lift1 fNeg) (mVar 3)) (aCons (mC (.bool true)) (aCons (mC .none) (aCons (mOpN (liftN fStr) (aCons (mVar 3) aNil)) aNil))))))))) aNil))) (aCons (mVar 4) aNil)))) sSkip)
    (sSeq (sIf (mB (mOp2 (lift2 fEq) (mVar 5) (mC (.int 7)))) (sRet (mTup (aCons (mVar 3) (aCons (mOp2 (lift2o fAdd) (mOp2 (lift2o fAdd) (mSlA (mVar 4) pNo (pSome (mVar 6))) (mTup (aCons (mTup (aCons (mOp2 (lift2 fIx) (mVar 2) (mC (.int 0))) (aCons (mVar 3) aNil))) aNil))) (mSlA (mVar 4) (pSome (mOp2 (lift2o fAdd) (mVar 6) (mC (.int 1)))) pNo)) aNil)))) sSkip)
    (sSeq (sIf (mB (mOp2 (lift2 fEq) (mVar 5) (mC (.int 8)))) (sRet (mTup (aCons (mVar 3) (aCons (mOp2 (lift2o fAdd) (mOp2 (lift2o fAdd) (mSlA (mVar 4) pNo (pSome (mVar 6))) (mTup (aCons (mTup (aCons (mOp1 (lift1 fNeg) (mC (.int 1))) (aCons (mOp2 (lift2 fIx) (mVar 2) (mC (.int 1))) aNil))) aNil))) (mSlA (mVar 4) (pSome (mOp2 (lift2o fAdd) (mVar 6) (mC (.int 1)))) pNo)) aNil)))) sSkip)
    (sSeq (sIf (mB (mOp2 (lift2 fEq) (mVar 5) (mC (.int 9)))) (sRet (mTup (aCons (mVar 3) (aCons (mOp2 (lift2o fAdd) (mOp2 (lift2o fAdd) (mSlA (mVar 4) pNo (pSome (mVar 6))) (mTup (aCons (mTup (aCons (mOp2 (lift2 fIx) (mVar 2) (mC (.int 0))) (aCons (mOp2 (lift2 fIx) (mVar 2) (mC (.int 0))) aNil))) aNil))) (mSlA (mVar 4) (pSome (mOp2 (lift2o fAdd) (mVar 6) (mC (.int 1)))) pNo)) aNil)))) sSkip)
    (sSeq (sIf (mB (mOp2 (lift2 fEq) (mVar 5) (mC (.int 10)))) (sRet (mTup (aCons (mVar 3) (aCons (mOp2 (lift2o fAdd) (mOp2 (lift2o fAdd) (mSlA (mVar 4) pNo (pSome (mVar 6))) (mTup (aCons (mTup (aCons (mC (.bool false)) (aCons (mOp2 (lift2 fIx) (mVar 2) (mC (.int 1))) aNil))) aNil))) (mSlA (mVar 4) (pSome (mOp2 (lift2o fAdd) (mVar 6) (mC (.int 1)))) pNo)) aNil)))) sSkip)
    (sSeq (sIf (mB (mOp2 (lift2 fEq) (mVar 5) (mC (.int 11)))) (sRet (mCall m__law_pick (aCons (mVar 0) (aCons (mTup (aCons (mTup (aCons (mVar 3) aNil)) (aCons (mTup (aCons (mVar 3) (aCons (mVar 4) (aCons (mTup aNil) aNil)))) (aCons (mTup (aCons (mVar 4) (aCons (mVar 3) aNil))) (aCons (mTup (aCons (mVar 3) (aCons (mC .none) aNil))) (aCons (mTup (aCons (mVar 1) aNil)) aNil)))))) aNil)))) sSkip)
    (sSeq (sIf (mB (mOp2 (lift2 fEq) (mVar 5) (mC (.int 12)))) (sRet (mTup (aCons (mVar 3) (aCons (mOp2 (lift2o fAdd) (mOp2 (lift2o fAdd) (mSlA (mVar 4) pNo (pSome (mVar 6))) (mTup (aCons (mOp2 (lift2o fAdd) (mVar 2) (mTup (aCons (mC (.int 0)) aNil))) aNil))) (mSlA (mVar 4) (pSome (mOp2 (lift2o fAdd) (mVar 6) (mC (.int 1)))) pNo)) aNil)))) sSkip)
    (sRet (mTup (aCons (mVar 3) (aCons (mOp2 (lift2o fAdd) (mOp2 (lift2o fAdd) (mSlA (mVar 4) pNo (pSome (mVar 6))) (mTup (aCons (mCall m__law_strange (aCons (mVar 0) aNil)) aNil))) (mSlA (mVar 4) (pSome (mOp2 (lift2o fAdd) (mVar 6) (mC (.int 1)))) pNo)) aNil)))))))))))))))))
theorem bent_tail {A C : Arn} {n : Nat} {v : Int} {es : List Ed} {q : Ed} {way at' : Int} (hw : Wl A n) (hp : plain A) (ok : GOkay v es) (hC : Wup A n C) (hq : Lo q) (w0 : 0 ≤ way) (w1 : way < 14) (a0 : 0 ≤ at') (a1 : at' < es.length + 1) {N : Slt → Arn → Prop} :
    (bt [some (.ref n), some (.p (encG v es)), some (.p (encP q)), some (.p (.int v)), some (.p (.tuple (encE es))), some (.p (.int way)), some (.p (.int at'))] C).To N fun d A' => (closeV A.length d A').To fun d A' => (∃ x, d = .p x ∧ Th x) ∧ Wup A n A' := by
  have hlt := hw.lt
  have el := ok.len
  have hvl : -20 ≤ v ∧ v ≤ 20 := by have := ok.lo; have := ok.hi; omega
  have hlo := ok.lo_
  have hE := sm_E hlo (by omega)
  have hV := sm_I hvl
  have hpC := hC.plain hp
  have tC : C.take A.length = C := List.take_of_length_le (Nat.le_of_eq hC.length)
  have fin : ∀ {x : PyData}, Th x → (closeV A.length (.p x) C).To fun d A' => (∃ x, d = .p x ∧ Th x) ∧ Wup A n A' := fun h => by
    rw [To_close hpC, tC]
    exact ⟨⟨_, rfl, h⟩, hC⟩
  have hpre : ∀ y, y ∈ cutD' (encE es) none (some at') → ∃ p, y = encP p ∧ Lo p := fun y hy => by
    obtain ⟨p, hp, rfl⟩ := List.mem_map.mp (cut_mem hy)
    exact ⟨p, rfl, hlo p hp⟩
  have hpost : ∀ y, y ∈ cutD' (encE es) (some (at' + 1)) none → ∃ p, y = encP p ∧ Lo p := fun y hy => by
    obtain ⟨p, hp, rfl⟩ := List.mem_map.mp (cut_mem hy)
    exact ⟨p, rfl, hlo p hp⟩
  have lpre := Nat.le_trans (cut_len (encE es) none (some at')) (by rw [encE_length]; exact el)
  have lpost := Nat.le_trans (cut_len (encE es) (some (at' + 1)) none) (by rw [encE_length]; exact el)
  have put : ∀ {x : PyData}, El x → Th (.tuple [.int v, .tuple (cutD' (encE es) none (some at') ++ x :: cutD' (encE es) (some (at' + 1)) none)]) := fun hx => th_of hvl hpre hpost hx (by omega) (by omega)
  have adds : ∀ x : PyData, fAdd (.tuple (cutD' (encE es) none (some at'))) (.tuple [x]) = some (.tuple (cutD' (encE es) none (some at') ++ [x])) := fun x => add_tt (by omega) (by simp)
  have adds2 : ∀ x : PyData, fAdd (.tuple (cutD' (encE es) none (some at') ++ [x])) (.tuple (cutD' (encE es) (some (at' + 1)) none)) = some (.tuple (cutD' (encE es) none (some at') ++ x :: cutD' (encE es) (some (at' + 1)) none)) := fun x => by
    rw [add_tt (by rw [List.length_append, List.length_cons, List.length_nil]; omega) (by omega), List.append_assoc]
    rfl
  have q0 : fIx (encP q) (.int 0) = some (.int q.1) := at_0
  have q1 : fIx (encP q) (.int 1) = some (.int q.2) := at_1
  have pairOk : ∀ a b : Int, (-20 ≤ a ∧ a ≤ 20) → (-20 ≤ b ∧ b ≤ 20) → El (.tuple [.int a, .int b]) := fun a b ha hb => El.P (p := (a, b)) ⟨ha.1, ha.2, hb.1, hb.2⟩
  unfold Lo at hq
  have hways : way = 0 ∨ way = 1 ∨ way = 2 ∨ way = 3 ∨ way = 4 ∨ way = 5 ∨ way = 6 ∨ way = 7 ∨ way = 8 ∨ way = 9 ∨ way = 10 ∨ way = 11 ∨ way = 12 ∨ way = 13 := by omega
  unfold bt
  generalize hpr : cutD' (encE es) none (some at') = pre at *
  generalize hpo : cutD' (encE es) (some (at' + 1)) none = post at *
  rcases hways with rfl | rfl | rfl | rfl | rfl | rfl | rfl | rfl | rfl | rfl | rfl | rfl | rfl | rfl
  · simp
    refine fin (th_lst (k := 2) (w := 1300) (fun x hx => ?_) (by omega) (by simp) (by omega))
    rcases List.mem_cons.mp hx with rfl | hx
    · exact hV
    · rw [List.mem_singleton] at hx; rw [hx]; exact hE
  · simp [lfList]
    exact fin (th_two hV (sm_yl (ys := encE es) (fun y hy => by
      obtain ⟨p, hp, rfl⟩ := List.mem_map.mp hy
      exact ⟨p, rfl, hlo p hp⟩) (by rw [encE_length]; omega)))
  · simp [hpr, hpo, adds, adds2, q0, q1]
    exact fin (put (pairOk _ _ ⟨hq.2.2.1, hq.2.2.2⟩ ⟨hq.1, hq.2.1⟩))
  · have e : lfList [encP q] = some [.int q.1, .int q.2] := rfl
    simp [hpr, hpo, adds, adds2, e]
    refine fin (put ⟨(sm_lst (k := 0) (w := 5) (xs := [.int q.1, .int q.2]) (fun x hx => ?_) (by simp)).mono (by omega) (by simp), .inl rfl⟩)
    rcases List.mem_cons.mp hx with rfl | hx
    · exact sm_int (by omega) (by omega)
    · rw [List.mem_singleton] at hx
      subst hx
      exact sm_int (by omega) (by omega)
  · have e : fRev (.tuple (encE es)) = some (.tuple (encE es).reverse) := rfl
    simp [e]
    exact fin (th_two hV (sm_ys (fun y hy => by
      obtain ⟨p, hp, rfl⟩ := List.mem_map.mp (List.mem_reverse.mp hy)
      exact ⟨p, rfl, hlo p hp⟩) (by rw [List.length_reverse, encE_length]; omega)))
  · have lc := Nat.le_trans (cut_len (encE es) (some (-1)) none) (by rw [encE_length]; exact el)
    have e : fAdd (.tuple (encE es)) (.tuple (cutD' (encE es) (some (-1)) none)) = some (.tuple (encE es ++ cutD' (encE es) (some (-1)) none)) := add_tt (by rw [encE_length]; omega) (by omega)
    simp [e]
    refine fin (th_two hV (sm_ys (fun y hy => ?_) (by rw [List.length_append, encE_length]; omega)))
    rcases List.mem_append.mp hy with hy | hy
    · obtain ⟨p, hp, rfl⟩ := List.mem_map.mp hy
      exact ⟨p, rfl, hlo p hp⟩
    · obtain ⟨p, hp, rfl⟩ := List.mem_map.mp (cut_mem hy)
      exact ⟨p, rfl, hlo p hp⟩
  · obtain ⟨s1, s2⟩ := str_v ok.lo ok.hi
    simp [s1]
    refine (pick (c := .tuple [.int 0, .int 11, .int (v - 1), .int (v + 1), .int (-v), .bool true, .none, .str (toString v)]) (hC.wl hw) hpC (by simp) (by simp) (.inl rfl)).mono ?_
    rintro d C2 ⟨⟨x, rfl, hx⟩, u3⟩
    have hC2 := hC.trans u3
    simp
    rw [To_close (hC2.plain hp), List.take_of_length_le (Nat.le_of_eq hC2.length)]
    refine ⟨⟨_, rfl, th_two ?_ hE⟩, hC2⟩
    have b1 := ok.lo
    have b2 := ok.hi
    simp only [List.mem_cons, List.not_mem_nil, or_false] at hx
    rcases hx with rfl | rfl | rfl | rfl | rfl | rfl | rfl | rfl
    · exact sm_I (by omega)
    · exact sm_I (by omega)
    · exact sm_I (by omega)
    · exact sm_I (by omega)
    · exact sm_I (by omega)
    · exact sm_c (by decide +kernel) rfl
    · exact sm_c (by decide +kernel) rfl
    · exact s2
  · simp [hpr, hpo, adds, adds2, q0, q1]
    exact fin (put (pairOk _ _ ⟨hq.1, hq.2.1⟩ hvl))
  · simp [hpr, hpo, adds, adds2, q0, q1]
    exact fin (put (pairOk _ _ (by omega) ⟨hq.2.2.1, hq.2.2.2⟩))
  · simp [hpr, hpo, adds, adds2, q0, q1]
    exact fin (put (pairOk _ _ ⟨hq.1, hq.2.1⟩ ⟨hq.1, hq.2.1⟩))
  · simp [hpr, hpo, adds, adds2, q0, q1]
    refine fin (put ⟨(sm_tup (k := 0) (w := 5) (xs := [.bool false, .int q.2]) (fun x hx => ?_) (by simp)).mono (by omega) (by simp), .inl rfl⟩)
    rcases List.mem_cons.mp hx with rfl | hx
    · exact smB_ok (by decide +kernel)
    · rw [List.mem_singleton] at hx
      subst hx
      exact sm_int (by omega) (by omega)
  · simp
    refine (pick (c := .tuple [.tuple [.int v], .tuple [.int v, .tuple (encE es), .tuple []], .tuple [.tuple (encE es), .int v], .tuple [.int v, .none], .tuple [encG v es]]) (hC.wl hw) hpC (by simp) (by simp) (.inl rfl)).mono ?_
    rintro d C2 ⟨⟨x, rfl, hx⟩, u3⟩
    have hC2 := hC.trans u3
    rw [To_close (hC2.plain hp), List.take_of_length_le (Nat.le_of_eq hC2.length)]
    refine ⟨⟨_, rfl, ?_⟩, hC2⟩
    simp only [List.mem_cons, List.not_mem_nil, or_false] at hx
    have sG : Sm 3 3000 (encG v es) ∧ Mi.noDict (encG v es) = true := ⟨(sm_tup (k := 2) (w := 1300) (xs := [.int v, .tuple (encE es)]) (fun x hx => by
      rcases List.mem_cons.mp hx with rfl | hx
      · exact hV.1
      · rw [List.mem_singleton] at hx; rw [hx]; exact hE.1) (by simp)).mono (by omega) (by simp), by
        show (true && (Mi.noDict (.tuple (encE es)) && true)) = true
        rw [hE.2]
        rfl⟩
    rcases hx with rfl | rfl | rfl | rfl | rfl
    · exact th_tup (k := 2) (w := 1300) (fun x hx => by rw [List.mem_singleton] at hx; rw [hx]; exact hV) (by omega) (by simp) (by omega)
    · exact th_tup (k := 2) (w := 1300) (fun x hx => by
        simp only [List.mem_cons, List.not_mem_nil, or_false] at hx
        rcases hx with rfl | rfl | rfl
        · exact hV
        · exact hE
        · exact sm_c (by decide +kernel) rfl) (by omega) (by simp) (by omega)
    · exact th_two hE hV
    · exact th_two hV (sm_c (by decide +kernel) rfl)
    · exact th_tup (k := 3) (w := 3000) (fun x hx => by rw [List.mem_singleton] at hx; rw [hx]; exact sG) (by omega) (by simp) (by omega)
  · have e : fAdd (encP q) (.tuple [.int 0]) = some (.tuple [.int q.1, .int q.2, .int 0]) := rfl
    simp [hpr, hpo, adds, adds2, e]
    refine fin (put ⟨(sm_tup (k := 0) (w := 5) (xs := [.int q.1, .int q.2, .int 0]) (fun x hx => ?_) (by simp)).mono (by omega) (by simp), .inl rfl⟩)
    simp only [List.mem_cons, List.not_mem_nil, or_false] at hx
    rcases hx with rfl | rfl | rfl
    · exact sm_int (by omega) (by omega)
    · exact sm_int (by omega) (by omega)
    · exact sm_int (by omega) (by omega)
  · simp [hpr]
    refine (strange (hC.wl hw) hpC).mono ?_
    rintro d C2 ⟨⟨x, rfl, hx⟩, u3⟩
    have hC2 := hC.trans u3
    simp [hpr, hpo, adds, adds2]
    rw [To_close (hC2.plain hp), List.take_of_length_le (Nat.le_of_eq hC2.length)]
    exact ⟨⟨_, rfl, put (El.strange hx)⟩, hC2⟩
theorem bent {A : Arn} {n : Nat} {v : Int} {es : List Ed} (hw : Wl A n) (hp : plain A) (ok : GOkay v es) : (m__law_bent [.ref n, .p (encG v es)] A).To fun d A' => (∃ x, d = .p x ∧ Th x) ∧ Wup A n A' := by
  have hlt := hw.lt
  have el := ok.len
  have hlen := len_T (es := es) (by omega)
  unfold m__law_bent
  refine To_def ?_
  show ((sSeq _ (sSeq _ (sSeq _ bt))) _ _).To _ _
  have hg : ∀ (r : List PyData → Slt → Option Slt) (s : Slt), gTp r (encG v es) s = r [.int v, .tuple (encE es)] s := fun _ _ => rfl
  simp [hg]
  refine (draw hw hp (k := 14) (by omega) (by omega)).mono ?_
  rintro d B ⟨⟨way, rfl, w0, w1⟩, u⟩
  simp [hlen]
  refine (draw (u.wl hw) (u.plain hp) (k := (es.length : Int) + 1) (by omega) (by omega)).mono ?_
  rintro d C ⟨⟨at', rfl, a0, a1⟩, u2⟩
  have hC := u.trans u2
  refine ⟨_, _, ⟨rfl, rfl⟩, ?_⟩
  by_cases c : at' < es.length
  · obtain ⟨k, rfl⟩ := Int.eq_ofNat_of_zero_le a0
    have hk : k < es.length := by omega
    have e1 := at_E (es := es) (k := k) hk
    have hm : es.getD k (0, 0) ∈ es := by
      have : es.getD k (0, 0) = es[k] := by simp [List.getD, hk]
      rw [this]
      exact List.getElem_mem hk
    have hlo := ok.lo_ _ hm
    generalize es.getD k (0, 0) = q at *
    simp [hk, e1]
    refine (bent_tail hw hp ok hC hlo w0 w1 a0 a1 (N := fun _ _ => False)).mono (fun _ _ h => h.elim) fun _ _ h => h
  · have hk : (es.length : Int) ≤ at' := by omega
    have hlo : Lo (0, v) := by have := ok.lo; have := ok.hi; unfold Lo; dsimp only; omega
    have e0 : PyData.tuple [.int 0, .int v] = encP (0, v) := rfl
    simp [c, hk, e0]
    refine (bent_tail hw hp ok hC hlo w0 w1 a0 a1 (N := fun _ _ => False)).mono (fun _ _ h => h.elim) fun _ _ h => h
end Lw
end

section
set_option maxHeartbeats 4000000
/-! NiC: neighbours, as the program reckons them. -/
namespace Mi
open PySem PySem.W
theorem frzNs_come : ∀ (ns : List Nat) (A : Arn) (f : Nat → List PyData), ns.Nodup → (∀ n, n ∈ ns → lst A n = some (f n)) → ∃ A', frzNs ns A = some (ns.map (fun n => .list (f n)), A') ∧ A'.length = A.length ∧ ∀ m, m ∉ ns → A'[m]? = A[m]?
  | [], A, f, _, _ => ⟨A, rfl, rfl, fun _ _ => rfl⟩
  | n :: ns, A, f, nd, h => by
    rw [List.nodup_cons] at nd
    have h0 := h n List.mem_cons_self
    have hne : ∀ m, m ∈ ns → m ≠ n := fun m hm e => nd.1 (by rw [← e]; exact hm)
    obtain ⟨A', e, hl, ho⟩ := frzNs_come ns (A.set n .gone) f nd.2 fun m hm => by
      have := h m (List.mem_cons_of_mem _ hm)
      rw [lst_iff] at this ⊢
      rw [List.getElem?_set_ne (Ne.symm (hne m hm))]
      exact this
    refine ⟨A', ?_, by rw [hl, List.length_set], fun m hm => ?_⟩
    · have e0 : frzN n A = some (.list (f n), A.set n .gone) := by
        unfold frzN
        rw [lst_iff.mp h0]
      unfold frzNs
      rw [e0]
      show ((frzNs ns (A.set n .gone)).map _) = _
      rw [e]
      rfl
    · rw [List.mem_cons, not_or] at hm
      rw [ho m hm.2, List.getElem?_set_ne (Ne.symm hm.1)]
section
variable {P : D → Arn → Prop} {PL : List PyData → Arn → Prop} {s : Slt} {A : Arn}
theorem To_rows {it : MI} (h : (it s A).To fun xs A1 => xs.length ≤ 1000 ∧ P (.ref (A1.length + xs.length)) (A1 ++ List.replicate xs.length (.lst []) ++ [.refs ((List.range xs.length).map fun i => A1.length + i)])) : (mRows it s A).To P := by
  unfold mRows
  refine To_bind.mpr (h.mono fun xs A1 => ?_)
  rintro ⟨hl, q⟩
  rw [if_pos hl]
  exact To_ok.mpr q
theorem To_still {m : ME} (h : (m s A).To fun d A1 => ∃ n ns xs A2, d = .ref n ∧ A1[n]? = some (.refs ns) ∧ frzNs ns A1 = some (xs, A2) ∧ A2[n]? = some (.refs ns) ∧ P (.p (.list xs)) (A2.set n .gone)) : (mStill m s A).To P := by
  unfold mStill
  refine To_bind.mpr (h.mono fun d A1 => ?_)
  rintro ⟨n, ns, xs, A2, rfl, e1, e2, e3, q⟩
  dsimp only
  rw [e1]
  dsimp only
  rw [e2]
  dsimp only [Option.bind_some]
  rw [e3]
  dsimp only
  rw [if_pos rfl]
  exact To_o1.mpr q
theorem To_comp1 (f : PyData → Option PyData) {it : MI} {gm : MG} {tt : MT} {te : ME} {vs : List Nat} (hi : (it s A).To fun xs A1 => xs.length ≤ 100000 ∧ (∀ x, x ∈ xs → turnC gm tt te (wipeS s vs) x A1 = .ok (f x) A1) ∧ PL (xs.filterMap f) A1) : (lComp it gm tt te vs s A).To PL := by
  unfold lComp
  refine To_bind.mpr (hi.mono fun xs A1 => ?_)
  rintro ⟨hl, h, q⟩
  show (compL _ xs [] A1).To PL
  rw [compL_pure xs [] h (by simpa using hl)]
  exact To_ok.mpr q
end
end Mi
namespace Lw
open PySem PySem.W Mi
def nb (es : List Ed) (i : Int) : List Int := es.flatMap fun p => (if p.1 = i then [p.2] else []) ++ (if p.2 = i then [p.1] else [])
theorem nb_snoc (es : List Ed) (p : Ed) (i : Int) : nb (es ++ [p]) i = nb es i ++ ((if p.1 = i then [p.2] else []) ++ (if p.2 = i then [p.1] else [])) := by
  unfold nb
  rw [List.flatMap_append]
  simp
def rowsA (v : Nat) (es : List Ed) : Arn := (List.range v).map fun (i : Nat) => O.lst (encI (nb es i))
theorem rowsA_length (v : Nat) (es : List Ed) : (rowsA v es).length = v := by unfold rowsA; rw [List.length_map, List.length_range]
def nbA (A : Arn) (v : Nat) (es : List Ed) : Arn := A ++ rowsA v es ++ [.refs ((List.range v).map fun i => A.length + i)]
theorem nbA_row {A : Arn} {v : Nat} {es : List Ed} {i : Nat} (h : i < v) : lst (nbA A v es) (A.length + i) = some (encI (nb es i)) := by
  rw [lst_iff]
  unfold nbA
  rw [List.append_assoc, List.getElem?_append_right (by omega), Nat.add_sub_cancel_left, List.getElem?_append_left (by rw [rowsA_length]; exact h)]
  unfold rowsA
  rw [List.getElem?_map, List.getElem?_range h]
  rfl
theorem nbA_refs {A : Arn} {v : Nat} {es : List Ed} : (nbA A v es)[A.length + v]? = some (.refs ((List.range v).map fun i => A.length + i)) := by
  unfold nbA
  rw [List.getElem?_append_right (by rw [List.length_append, rowsA_length]; exact Nat.le_refl _), List.length_append, rowsA_length, Nat.sub_self]
  rfl
theorem nbA_ix {A : Arn} {v : Nat} {es : List Ed} {i : Int} (h0 : 0 ≤ i) (h1 : i < v) : ixR (.ref (A.length + v)) (.p (.int i)) (nbA A v es) = some (.ref (A.length + i.toNat), nbA A v es) := by
  obtain ⟨k, rfl⟩ := Int.eq_ofNat_of_zero_le h0
  have hk : k < v := by omega
  unfold ixR
  dsimp only
  rw [nbA_refs]
  dsimp only
  rw [at_nat (x := A.length + k) (by rw [List.getElem?_map, List.getElem?_range hk]; rfl)]
  rfl
theorem nbA_set {A : Arn} {v : Nat} {g : Nat → O} {T : Arn} {i : Nat} {o : O} (h : i < v) : (A ++ (List.range v).map g ++ T).set (A.length + i) o = A ++ (List.range v).map (fun j => if j = i then o else g j) ++ T := by
  rw [List.append_assoc, List.set_append_right _ _ (by omega), Nat.add_sub_cancel_left, List.set_append_left _ _ (by rw [List.length_map, List.length_range]; exact h), List.append_assoc]
  congr 2
  apply List.ext_getElem
  · simp
  · intro k h1 h2
    simp at h1 h2
    rw [List.getElem_set]
    by_cases q : i = k
    · subst q; simp
    · rw [if_neg q]
      simp [Ne.symm q]
theorem nbA_two {A : Arn} {v : Nat} {es : List Ed} {a b : Nat} (ha : a < v) (hb : b < v) (hab : a ≠ b) :
    ((nbA A v es).set (A.length + a) (.lst (encI (nb es a) ++ [.int b]))).set (A.length + b) (.lst (encI (nb es b) ++ [.int a])) = nbA A v (es ++ [((a : Int), (b : Int))]) := by
  unfold nbA rowsA
  rw [nbA_set ha, nbA_set hb]
  congr 2
  refine List.map_congr_left fun i _ => ?_
  rw [nb_snoc]
  dsimp only
  by_cases h1 : i = b
  · subst h1
    have h2 : ¬ ((a : Int) = (i : Int)) := by omega
    simp [encI, h2]
  · rw [if_neg h1]
    have h3 : ¬ ((b : Int) = (i : Int)) := by omega
    by_cases h2 : i = a
    · subst h2
      simp [encI, h3]
    · have h4 : ¬ ((a : Int) = (i : Int)) := by omega
      simp [encI, h2, h3, h4]
theorem nbA_row1 {A : Arn} {v : Nat} {es : List Ed} {a b : Nat} {o : O} (hb : b < v) (hab : a ≠ b) : lst ((nbA A v es).set (A.length + a) o) (A.length + b) = some (encI (nb es b)) := by
  rw [lst_iff, List.getElem?_set_ne (by omega), ← lst_iff]
  exact nbA_row hb
def iLe (a b : Int) : Bool := decide (a ≤ b)
def srtI (xs : List Int) : List Int := xs.mergeSort iLe
theorem sorted_ii {xs : List Int} (h : xs.length ≤ 100000) : lfSorted [.list (encI xs)] = some (encI (srtI xs)) := by
  unfold lfSorted
  dsimp only
  have e : srt (encI xs) = encI (srtI xs) := by
    unfold srt encI srtI
    refine (List.map_mergeSort fun a _ b _ => ?_).symm
    rw [dataLe_eq]
    show iLe a b = !dataLt (.int b) (.int a)
    rw [dataLt_int]
    unfold iLe
    rw [← decide_not]
    exact decide_eq_decide.mpr Int.not_lt.symm
  rw [if_pos, e]
  refine ⟨?_, ?_, by rw [encI_length]; exact h, Nat.le_trans (depthI xs) (by decide)⟩
  · unfold allAlike encI
    simp only [List.all_eq_true, List.mem_map]
    rintro _ ⟨p, _, rfl⟩ _ ⟨q, _, rfl⟩
    rfl
  · unfold Mi.sortable encI
    rw [Bool.or_eq_true]
    refine .inr ?_
    simp only [List.all_eq_true, List.mem_map]
    rintro _ ⟨p, _, rfl⟩
    rfl
def nbRow (es : List Ed) (i : Nat) : PyData := .tuple (encI (srtI (nb es i)))
theorem nb_length (es : List Ed) (i : Int) : (nb es i).length ≤ 2 * es.length := by
  induction es with
  | nil => simp [nb]
  | cons p es ih =>
    have : nb (p :: es) i = ((if p.1 = i then [p.2] else []) ++ (if p.2 = i then [p.1] else [])) ++ nb es i := by
      unfold nb
      rw [List.flatMap_cons]
    rw [this, List.length_append, List.length_append, List.length_cons]
    split <;> split <;> simp <;> omega
def rowF (x : PyData) : Option PyData := match x with
  | .list ys => some (.tuple (srt ys))
  | _ => none
theorem neighbours {A : Arn} {v : Nat} {es : List Ed} (hp : plain A) (ok : GOkay v es) : (m_neighbours [.p (encG v es)] A).To fun r A' => r = .p (.tuple ((List.range v).map (nbRow es))) ∧ A' = A := by
  have el := ok.len
  have vh := ok.hi
  unfold m_neighbours
  refine To_def ?_
  unfold b_neighbours
  have hg : ∀ (r : List PyData → Slt → Option Slt) (s : Slt), gTp r (encG v es) s = r [.int v, .tuple (encE es)] s := fun _ _ => rfl
  simp [hg]
  refine To_rows (To_iR1 ?_)
  simp
  have hr : (rangeD 0 v).length = v := by unfold rangeD; rw [List.length_map, List.length_range]
  rw [hr]
  refine ⟨by unfold small; omega, by omega, ?_⟩
  have h0 : A ++ List.replicate v (O.lst []) ++ [.refs ((List.range v).map fun i => A.length + i)] = nbA A v [] := by
    unfold nbA rowsA
    congr 2
    apply List.ext_getElem
    · simp
    · intro k h1 h2
      simp [nb, encI]
  have h0' : A ++ (List.replicate v (O.lst []) ++ [.refs ((List.range v).map fun i => A.length + i)]) = nbA A v [] := by rw [← List.append_assoc]; exact h0
  rw [h0']
  refine forL_to (fun i s C => (∃ y4 y5 : Option D, s = [some (.p (encG v es)), some (.ref (A.length + v)), some (.p (.int v)), some (.p (.tuple (encE es))), y4, y5, none, none]) ∧ C = nbA A v (es.take i)) ?_ ⟨⟨none, none, rfl⟩, rfl⟩ ?_
  · rintro i x s C hx ⟨⟨y4, y5, rfl⟩, rfl⟩
    obtain ⟨p, hp2, rfl⟩ := getE hx
    have hin := ok.inn p (List.mem_of_getElem? hp2)
    obtain ⟨a, b⟩ := p
    dsimp only at hin
    obtain ⟨a, rfl⟩ := Int.eq_ofNat_of_zero_le hin.1
    obtain ⟨b, rfl⟩ := Int.eq_ofNat_of_zero_le (show 0 ≤ b by omega)
    have ha : a < v := by omega
    have hb : b < v := by omega
    have hab : a ≠ b := by omega
    have ix1 := nbA_ix (A := A) (es := es.take i) (i := (a : Int)) (v := v) (by omega) (by omega)
    have ix2 : ixR (.ref (A.length + v)) (.p (.int (b : Int))) ((nbA A v (es.take i)).set (A.length + a) (.lst (encI (nb (es.take i) a) ++ [.int b]))) = some (.ref (A.length + b), (nbA A v (es.take i)).set (A.length + a) (.lst (encI (nb (es.take i) a) ++ [.int b]))) := by
      unfold ixR
      dsimp only
      rw [List.getElem?_set_ne (by omega), nbA_refs]
      dsimp only
      rw [at_nat (x := A.length + b) (by rw [List.getElem?_map, List.getElem?_range hb]; rfl)]
      rfl
    have r1 := nbA_row (A := A) (es := es.take i) ha
    have r2 := nbA_row1 (A := A) (es := es.take i) (o := .lst (encI (nb (es.take i) a) ++ [.int b])) hb hab
    have l1 := nb_length (es.take i) a
    have l2 := nb_length (es.take i) b
    have l3 : (es.take i).length ≤ 24 := by rw [List.length_take]; omega
    have k1 : (nb (es.take i) a).length < 100000 := by omega
    have k2 : (nb (es.take i) b).length < 100000 := by omega
    have e2 := nbA_two (A := A) (es := es.take i) ha hb hab
    have tk : es.take (i + 1) = es.take i ++ [((a : Int), (b : Int))] := by rw [List.take_succ, hp2]; rfl
    simp [ix1, r1, encI_length, k1, ix2, r2, k2]
    rw [tk]
    exact e2
  · rintro s C ⟨⟨y4, y5, rfl⟩, rfl⟩
    have hle : (encE es).length = es.length := encE_length es
    rw [hle, List.take_length]
    obtain ⟨C2, e1, e2, e3⟩ := frzNs_come ((List.range v).map fun i => A.length + i) (nbA A v es) (fun n => encI (nb es ((n - A.length : Nat) : Int))) (by
      rw [List.nodup_iff_pairwise_ne, List.pairwise_map]
      exact List.nodup_range.imp fun h e => h (by omega)) (fun n hn => by
      obtain ⟨i, hi, rfl⟩ := List.mem_map.mp hn
      rw [nbA_row (List.mem_range.mp hi), Nat.add_sub_cancel_left])
    have e4 : C2[A.length + v]? = some (.refs ((List.range v).map fun i => A.length + i)) := by
      rw [e3 _ (fun h => by
        obtain ⟨i, hi, e⟩ := List.mem_map.mp h
        have := List.mem_range.mp hi
        omega)]
      exact nbA_refs
    have e5 : (C2.set (A.length + v) .gone).take A.length = A := by
      apply List.ext_getElem?
      intro k
      by_cases hk : k < A.length
      · rw [List.getElem?_take_of_lt hk, List.getElem?_set_ne (by omega), e3 k (fun h => by
          obtain ⟨i, hi, e⟩ := List.mem_map.mp h
          omega)]
        unfold nbA
        rw [List.append_assoc, List.getElem?_append_left hk]
      · rw [List.getElem?_eq_none (by rw [List.length_take]; omega), List.getElem?_eq_none (by omega)]
    refine To_comp1 rowF (To_iS.mpr (To_still ?_))
    simp only [To_varS, To_var0, To_one]
    refine ⟨_, _, _, _, rfl, nbA_refs, e1, e4, ?_⟩
    have e1' : ((List.range v).map fun i => A.length + i).map (fun n => PyData.list (encI (nb es ((n - A.length : Nat) : Int)))) = (List.range v).map fun (i : Nat) => PyData.list (encI (nb es i)) := by
      rw [List.map_map]
      refine List.map_congr_left fun i _ => ?_
      show PyData.list (encI (nb es ((A.length + i - A.length : Nat) : Int))) = _
      rw [Nat.add_sub_cancel_left]
    rw [e1']
    simp only [frz_p, Option.bind_some, items_l, Option.map_some, To_o0]
    have srt_i : ∀ xs : List Int, xs.length ≤ 1000 → srt (encI xs) = encI (srtI xs) := fun xs h => by
      have := sorted_ii (xs := xs) (by omega)
      unfold lfSorted at this
      dsimp only at this
      split at this
      · exact Option.some.inj this
      · cases this
    have nl : ∀ i : Nat, (nb es i).length ≤ 48 := fun i => by have := nb_length es i; omega
    refine ⟨by rw [List.length_map, List.length_range]; omega, fun x hx => ?_, ?_⟩
    · obtain ⟨i, hi, rfl⟩ := List.mem_map.mp hx
      refine turn_of (f := rowF) ⟨_, rfl, ?_⟩
      have hs := sorted_ii (xs := nb es i) (by have := nl i; omega)
      simp only [wipeS, List.foldl_cons, List.foldl_nil]
      simp [hs, fTuple, rowF, srt_i (nb es i) (by have := nl i; omega)]
    · have e6 : ((List.range v).map fun (i : Nat) => PyData.list (encI (nb es i))).filterMap rowF = (List.range v).map (nbRow es) := by
        rw [List.filterMap_map, ← List.filterMap_eq_map]
        congr 1
        funext i
        show some (PyData.tuple (srt (encI (nb es i)))) = some (nbRow es i)
        rw [srt_i _ (by have := nl i; omega)]
        rfl
      rw [e6]
      have ht : fTuple [.list ((List.range v).map (nbRow es))] = some (.tuple ((List.range v).map (nbRow es))) := rfl
      rw [ht]
      simp only [Option.map_some, To_o1]
      have hb : below A.length ((C2.set (A.length + v) .gone).take A.length) = true := by
        rw [e5]
        have := plain_below hp A.length A.length
        rw [List.take_length] at this
        exact this
      unfold closeV
      rw [if_pos hb]
      refine To_ok.mpr ⟨rfl, e5⟩
end Lw
end

section
set_option maxHeartbeats 4000000
/-! NiD: what can be reached, as the program goes. -/
namespace Mi
open PySem PySem.W
section
variable {A : Arn} {a b : List PyData}
@[simp] theorem two_0 : lst (A ++ [.lst a, .lst b]) A.length = some a := by
  rw [lst_iff, List.getElem?_append_right (Nat.le_refl _), Nat.sub_self]
  rfl
@[simp] theorem two_1 : lst (A ++ [.lst a, .lst b]) (A.length + 1) = some b := by
  rw [lst_iff, List.getElem?_append_right (by omega), Nat.add_sub_cancel_left]
  rfl
@[simp] theorem set2_0 {x y o : O} : (A ++ [x, y]).set A.length o = A ++ [o, y] := by
  rw [List.set_append_right _ _ (Nat.le_refl _), Nat.sub_self]
  rfl
@[simp] theorem set2_1 {x y o : O} : (A ++ [x, y]).set (A.length + 1) o = A ++ [x, o] := by
  rw [List.set_append_right _ _ (by omega), Nat.add_sub_cancel_left]
  rfl
@[simp] theorem pop_r {n : Nat} : fPop (.ref n) [] A = (lst A n).bind fun xs => (xs[xs.length - 1]?).map fun y => (.p y, A.set n (.lst xs.dropLast)) := by
  unfold fPop lst
  dsimp only
  cases e : A[n]? with
  | none => rfl
  | some o => cases o <;> rfl
theorem plain_two (h : plain A) : plain (A ++ [.lst a, .lst b]) := by
  have e : A ++ [O.lst a, .lst b] = A ++ [.lst a] ++ [.lst b] := by simp
  rw [e]
  exact plain_snoc (plain_snoc h)
end
end Mi
namespace Lw
open PySem PySem.W Mi
def adj (es : List Ed) (x y : Int) : Prop := (x, y) ∈ es ∨ (y, x) ∈ es
inductive Rch (es : List Ed) (x : Int) : Int → Prop
  | refl : Rch es x x
  | step {y z : Int} (h : Rch es x y) (a : adj es y z) : Rch es x z
theorem mem_nb {es : List Ed} {x y : Int} : y ∈ nb es x ↔ adj es x y := by
  unfold nb adj
  rw [List.mem_flatMap]
  constructor
  · rintro ⟨⟨a, b⟩, hp, h⟩
    rcases List.mem_append.mp h with h | h
    · dsimp only at h
      by_cases c : a = x
      · rw [if_pos c, List.mem_singleton] at h; rw [h, ← c]; exact .inl hp
      · rw [if_neg c] at h; simp at h
    · dsimp only at h
      by_cases c : b = x
      · rw [if_pos c, List.mem_singleton] at h; rw [h, ← c]; exact .inr hp
      · rw [if_neg c] at h; simp at h
  · rintro (h | h)
    · exact ⟨_, h, List.mem_append_left _ (by simp)⟩
    · exact ⟨_, h, List.mem_append_right _ (by simp)⟩
theorem mem_srtI {xs : List Int} {y : Int} : y ∈ srtI xs ↔ y ∈ xs := List.mem_mergeSort
theorem eqvI (i : Int) (xs : List Int) : ((encI xs).any fun z => PyData.eqv z (.int i)) = decide (i ∈ xs) := by
  unfold encI
  rw [List.any_map, Bool.eq_iff_iff, List.any_eq_true, decide_eq_true_eq]
  constructor
  · rintro ⟨q, hq, e⟩
    have e : PyData.eqv (.int q) (.int i) = true := e
    rw [PyData.eqv, beq_iff_eq] at e
    rw [← e]
    exact hq
  · intro h
    refine ⟨i, h, ?_⟩
    show PyData.eqv (.int i) (.int i) = true
    rw [PyData.eqv, beq_iff_eq]
theorem notIn_ii {i : Int} {xs : List Int} : fNotIn (.int i) (.list (encI xs)) = some (.bool (decide (i ∉ xs))) := by
  unfold fNotIn
  dsimp only
  rw [if_pos ⟨shI i, shIs xs⟩, eqvI]
  by_cases h : i ∈ xs <;> simp [h]
theorem in_ii {i : Int} {xs : List Int} : fIn (.int i) (.list (encI xs)) = some (.bool (decide (i ∈ xs))) := by
  unfold fIn
  dsimp only
  rw [if_pos ⟨shI i, shIs xs⟩, eqvI]
theorem shTs (ns : List Int) : SeqAt.shaped (.tuple (encI ns)) = true := by
  unfold SeqAt.shaped
  rw [PyData.canLay0, PyData.depth, layI, Bool.true_and, decide_eq_true_eq]
  have := depthI ns
  omega
theorem in_it {i : Int} {xs : List Int} : fIn (.int i) (.tuple (encI xs)) = some (.bool (decide (i ∈ xs))) := by
  unfold fIn
  dsimp only
  rw [if_pos ⟨shI i, shTs xs⟩, eqvI]
/-! what is not reached yet -/
def unr (v : Nat) (rs : List Int) : List Nat := (List.range v).filter fun i => decide ((i : Int) ∉ rs)
theorem unr_snoc {v : Nat} {rs : List Int} {z : Nat} (hz : z < v) (h : (z : Int) ∉ rs) : (unr v (rs ++ [(z : Int)])).length + 1 = (unr v rs).length := by
  have nd : (unr v rs).Nodup := List.nodup_range.sublist List.filter_sublist
  have hm : z ∈ unr v rs := List.mem_filter.mpr ⟨List.mem_range.mpr hz, decide_eq_true h⟩
  have e : unr v (rs ++ [(z : Int)]) = (unr v rs).erase z := by
    rw [nd.erase_eq_filter]
    unfold unr
    rw [List.filter_filter]
    apply List.filter_congr
    intro i _
    rw [Bool.eq_iff_iff]
    simp only [decide_eq_true_eq, List.mem_append, List.mem_singleton, not_or, Bool.and_eq_true, bne_iff_ne, ne_eq]
    constructor
    · rintro ⟨h1, h2⟩; exact ⟨fun q => h2 (by omega), h1⟩
    · rintro ⟨h1, h2⟩; exact ⟨h2, fun q => h1 (by omega)⟩
  rw [e, List.length_erase_of_mem hm]
  have := List.length_pos_of_mem hm
  omega
theorem unr_nil (v : Nat) : (unr v []).length = v := by
  unfold unr
  rw [List.filter_eq_self.mpr (fun a _ => by simp), List.length_range]
theorem row_at {v : Nat} {es : List Ed} {i : Nat} (h : i < v) : L2.atI ((List.range v).map (nbRow es)) (i : Int) = some (nbRow es i) := by
  refine at_nat ?_
  rw [List.getElem?_map, List.getElem?_range h]
  rfl
theorem GOkay.adj {v : Int} {es : List Ed} (ok : GOkay v es) {x y : Int} (h : Lw.adj es x y) : 0 ≤ x ∧ x < v ∧ 0 ≤ y ∧ y < v := by
  rcases h with h | h
  · have := ok.inn _ h
    dsimp only at this
    omega
  · have := ok.inn _ h
    dsimp only at this
    omega
theorem getI {ns : List Int} {i : Nat} {x : PyData} (h : (encI ns)[i]? = some x) : ∃ p, ns[i]? = some p ∧ x = .int p := by
  unfold encI at h
  rw [List.getElem?_map] at h
  cases e : ns[i]? with
  | none => rw [e] at h; cases h
  | some p => rw [e] at h; cases h; exact ⟨p, rfl, rfl⟩
theorem encI_snoc (ns : List Int) (z : Int) : encI ns ++ [.int z] = encI (ns ++ [z]) := by
  unfold encI
  rw [List.map_append]
  rfl
/-- the middle of the going -/
structure Go (v : Nat) (es : List Ed) (s : Int) (rs ws : List Int) : Prop where
  nd : rs.Nodup
  sub : ∀ w, w ∈ ws → w ∈ rs
  rch : ∀ y, y ∈ rs → Rch es s y ∧ 0 ≤ y ∧ y < v
  st : s ∈ rs
  un : rs.length + (unr v rs).length = v
  ms : 2 * (unr v rs).length + ws.length ≤ 2 * v
def GoS (A : Arn) (v : Nat) (es : List Ed) (s : Int) (rs ws : List Int) (st : Slt) (C : Arn) : Prop := (∃ y4 y5 : Option D, st = [some (.p (.int s)), some (.p (.tuple ((List.range v).map (nbRow es)))), some (.ref A.length), some (.ref (A.length + 1)), y4, y5]) ∧ C = A ++ [.lst (encI rs), .lst (encI ws)]
theorem reached {A : Arn} {v : Nat} {es : List Ed} {s : Nat} (hp : plain A) (ok : GOkay v es) (hs : s < v) : (m__reached [.p (.int s), .p (.tuple ((List.range v).map (nbRow es)))] A).To fun r A' => (∃ rs : List Int, r = .p (.tuple (encI (srtI rs))) ∧ rs.Nodup ∧ ∀ y, y ∈ rs ↔ Rch es s y) ∧ A' = A := by
  have vh := ok.hi
  unfold m__reached
  refine To_def ?_
  unfold b__reached
  simp
  show (whileN _ _ 100000 _ _).To _ _
  refine while_inv (fun k st C => ∃ rs ws, GoS A v es s rs ws st C ∧ Go v es s rs ws ∧ (∀ y, y ∈ rs → y ∉ ws → ∀ z, Lw.adj es y z → z ∈ rs) ∧ k = 2 * (unr v rs).length + ws.length) ?_ 100000 (2 * (unr v [(s : Int)]).length + 1) _ _ ?_ ?_
  · rintro k st C ⟨rs, ws, ⟨⟨y4, y5, rfl⟩, rfl⟩, go, clo, rfl⟩
    simp
    have l10 : rs.length ≤ v := by have := go.un; omega
    rcases List.eq_nil_or_concat ws with rfl | ⟨ws', h, rfl⟩
    · left
      have hs1 := sorted_ii (xs := rs) (by omega)
      simp only [hs1, Option.map_some, To_o0]
      refine ⟨rfl, ?_⟩
      have ft : fTuple [.list (encI (srtI rs))] = some (.tuple (encI (srtI rs))) := rfl
      simp only [ft, Option.map_some, To_o1]
      rw [To_close (plain_two hp), List.take_left]
      refine ⟨⟨rs, rfl, go.nd, fun y => ⟨fun hy => (go.rch y hy).1, fun hy => ?_⟩⟩, rfl⟩
      induction hy with
      | refl => exact go.st
      | step _ a ih => exact clo _ ih (by simp) _ a
    · right
      rw [List.concat_eq_append] at *
      have hh : h ∈ rs := go.sub h (by simp)
      obtain ⟨_, h0, h1⟩ := go.rch h hh
      obtain ⟨hn, rfl⟩ := Int.eq_ofNat_of_zero_le h0
      have hnv : hn < v := by omega
      have e1 : encI (ws' ++ [(hn : Int)]) = encI ws' ++ [.int hn] := (encI_snoc _ _).symm
      have e2 : (encI ws' ++ [PyData.int hn])[(encI ws' ++ [PyData.int hn]).length - 1]? = some (.int hn) := by
        rw [List.length_append, List.length_cons, List.length_nil, Nat.zero_add, Nat.add_sub_cancel, List.getElem?_append_right (Nat.le_refl _), Nat.sub_self]
        rfl
      have e3 : (encI ws' ++ [PyData.int hn]).dropLast = encI ws' := by simp
      rw [e1, e2, e3]
      refine ⟨by simp, by simp only [List.length_append, List.length_cons, List.length_nil]; omega, ?_⟩
      simp only [Option.map_some, To_o1, lift2_p, fIx_t, row_at hnv]
      show (opt0 ((frz (.p (nbRow es hn)) _).bind _)).To _
      simp only [frz_p, Option.bind_some, nbRow, items_t, Option.map_some, To_o0]
      refine forL_to (fun i st C => ∃ rs2 ws2, GoS A v es s rs2 ws2 st C ∧ Go v es s rs2 ws2 ∧ (∀ y, y ∈ rs2 → y ∉ ws2 → y ≠ (hn : Int) → ∀ z, Lw.adj es y z → z ∈ rs2) ∧ 2 * (unr v rs2).length + ws2.length ≤ 2 * (unr v rs).length + ws'.length ∧ (∀ z, z ∈ (srtI (nb es hn)).take i → z ∈ rs2) ∧ (hn : Int) ∈ rs2) ?_ ?_ ?_
      · rintro i x st C hx ⟨rs2, ws2, ⟨⟨y4', y5', rfl⟩, rfl⟩, go2, clo2, ms, tk, hh2⟩
        obtain ⟨z, hz, rfl⟩ := getI hx
        have hadj : Lw.adj es hn z := mem_nb.mp (mem_srtI.mp (List.mem_of_getElem? hz))
        obtain ⟨_, _, z0, z1⟩ := ok.adj hadj
        have l2 : rs2.length ≤ v := by have := go2.un; omega
        have un2 := go2.un
        have lw : ws2.length ≤ 2 * (unr v rs).length + ws'.length := by omega
        have lu : (unr v rs).length ≤ v := by have := go.un; omega
        have lws := go2.ms
        have tk2 : ∀ rs3 : List Int, (∀ y, y ∈ rs2 → y ∈ rs3) → z ∈ rs3 → ∀ y, y ∈ (srtI (nb es hn)).take (i + 1) → y ∈ rs3 := fun rs3 hsub hz3 y hy => by
          rw [List.take_succ, hz] at hy
          rcases List.mem_append.mp hy with hy | hy
          · exact hsub y (tk y hy)
          · have : y = z := by simpa using hy
            rw [this]
            exact hz3
        by_cases c : z ∈ rs2
        · simp [notIn_ii, c]
          exact ⟨rs2, ws2, ⟨⟨_, _, rfl⟩, rfl⟩, go2, clo2, ms, tk2 rs2 (fun y hy => hy) c, hh2⟩
        · obtain ⟨zn, rfl⟩ := Int.eq_ofNat_of_zero_le z0
          have hzn : zn < v := by omega
          have us := unr_snoc hzn c
          have b1 : (encI rs2).length < 100000 := by rw [encI_length]; omega
          have b2 : (encI ws2).length < 100000 := by rw [encI_length]; omega
          simp [notIn_ii, c, b1, b2]
          refine ⟨rs2 ++ [(zn : Int)], ws2 ++ [(zn : Int)], ⟨⟨_, _, rfl⟩, by rw [encI_snoc, encI_snoc]⟩, ⟨?_, ?_, ?_, List.mem_append_left _ go2.st, ?_, ?_⟩, ?_, ?_, tk2 _ (fun y hy => List.mem_append_left _ hy) (by simp), List.mem_append_left _ hh2⟩
          · rw [List.nodup_append]
            refine ⟨go2.nd, by simp, fun a ha b hb => ?_⟩
            rw [List.mem_singleton] at hb
            subst hb
            rintro rfl
            exact c ha
          · intro w hw
            rcases List.mem_append.mp hw with hw | hw
            · exact List.mem_append_left _ (go2.sub w hw)
            · exact List.mem_append_right _ hw
          · intro y hy
            rcases List.mem_append.mp hy with hy | hy
            · exact go2.rch y hy
            · rw [List.mem_singleton] at hy
              rw [hy]
              exact ⟨.step (go2.rch _ hh2).1 hadj, z0, z1⟩
          · rw [List.length_append, List.length_cons, List.length_nil]; omega
          · rw [List.length_append, List.length_cons, List.length_nil]; omega
          · intro y hy hn1 hn2 u hu
            rcases List.mem_append.mp hy with hy | hy
            · exact List.mem_append_left _ (clo2 y hy (fun q => hn1 (List.mem_append_left _ q)) hn2 u hu)
            · exact absurd (List.mem_append_right ws2 hy) hn1
          · rw [List.length_append, List.length_cons, List.length_nil]; omega
      · refine ⟨rs, ws', ⟨⟨_, _, rfl⟩, rfl⟩, ⟨go.nd, fun w hw => go.sub w (List.mem_append_left _ hw), go.rch, go.st, go.un, by have := go.ms; rw [List.length_append] at this; omega⟩, fun y hy hn1 hn2 z hz => clo y hy (fun hm => ?_) z hz, Nat.le_refl _, fun z hz => by simp at hz, hh⟩
        rcases List.mem_append.mp hm with hm | hm
        · exact hn1 hm
        · exact hn2 (List.mem_singleton.mp hm)
      · rintro st C ⟨rs2, ws2, gs, go2, clo2, ms, tk, hh2⟩
        refine ⟨_, ?_, rs2, ws2, gs, go2, fun y hy hn1 z hz => ?_, rfl⟩
        · rw [List.length_append, List.length_cons, List.length_nil]; omega
        · by_cases q : y = (hn : Int)
          · subst q
            have hm : z ∈ srtI (nb es hn) := mem_srtI.mpr (mem_nb.mpr hz)
            refine tk z ?_
            rw [encI_length, List.take_length]
            exact hm
          · exact clo2 y hy hn1 q z hz
  · have := unr_snoc (v := v) (rs := []) hs (by simp)
    rw [unr_nil, List.nil_append] at this
    omega
  · refine ⟨[(s : Int)], [(s : Int)], ⟨⟨none, none, rfl⟩, rfl⟩, ⟨by simp, fun w h => h, fun y hy => ?_, by simp, ?_, ?_⟩, fun y hy hn => absurd hy hn, rfl⟩
    · rw [List.mem_singleton] at hy
      subst hy
      exact ⟨.refl, by omega, by omega⟩
    · have := unr_snoc (v := v) (rs := []) hs (by simp)
      rw [unr_nil, List.nil_append] at this
      simp only [List.length_cons, List.length_nil]
      omega
    · have := unr_snoc (v := v) (rs := []) hs (by simp)
      rw [unr_nil, List.nil_append] at this
      simp only [List.length_cons, List.length_nil]
      omega
end Lw
end

section
set_option maxHeartbeats 4000000
/-! NiE: components, as the program tells them. -/
namespace Lw
open PySem PySem.W Mi
open Classical in
noncomputable def cls (es : List Ed) (v : Nat) (s : Nat) : List Int := srtI (((List.range v).map fun (i : Nat) => (i : Int)).filter fun y => decide (Rch es s y))
theorem lt_ext : ∀ {xs ys : List Int}, xs.Pairwise (· < ·) → ys.Pairwise (· < ·) → (∀ p, p ∈ xs ↔ p ∈ ys) → xs = ys := by
  intro xs
  induction xs with
  | nil =>
    intro ys _ _ h
    cases ys with
    | nil => rfl
    | cons y ys => exact absurd ((h y).mpr List.mem_cons_self) (by simp)
  | cons x xs ih =>
    intro ys hx hy h
    cases ys with
    | nil => exact absurd ((h x).mp List.mem_cons_self) (by simp)
    | cons y ys =>
      rw [List.pairwise_cons] at hx hy
      have e : x = y := by
        rcases List.mem_cons.mp ((h x).mp List.mem_cons_self) with e | m
        · exact e
        · rcases List.mem_cons.mp ((h y).mpr List.mem_cons_self) with e | k
          · exact e.symm
          · have := hx.1 y k
            have := hy.1 x m
            omega
      subst e
      rw [ih hx.2 hy.2 fun p => ?_]
      constructor
      · intro m
        rcases List.mem_cons.mp ((h p).mp (List.mem_cons_of_mem _ m)) with e | k
        · have := hx.1 p m
          omega
        · exact k
      · intro m
        rcases List.mem_cons.mp ((h p).mpr (List.mem_cons_of_mem _ m)) with e | k
        · have := hy.1 p m
          omega
        · exact k
theorem srtI_lt {xs : List Int} (h : xs.Nodup) : (srtI xs).Pairwise (· < ·) := by
  have h1 : (srtI xs).Pairwise (fun a b => iLe a b = true) := List.pairwise_mergeSort (fun a b c h k => by unfold iLe at *; simp only [decide_eq_true_eq] at *; omega) (fun a b => by unfold iLe; simp only [Bool.or_eq_true, decide_eq_true_eq]; omega) _
  have h2 : (srtI xs).Nodup := (List.mergeSort_perm _ _).nodup_iff.mpr h
  refine (h1.and h2).imp fun h => ?_
  obtain ⟨h3, h4⟩ := h
  unfold iLe at h3
  have := of_decide_eq_true h3
  omega
theorem range_nd (v : Nat) : ((List.range v).map fun (i : Nat) => (i : Int)).Nodup := by
  rw [List.nodup_iff_pairwise_ne, List.pairwise_map]
  exact List.nodup_range.imp fun h e => h (by omega)
theorem rch_in {v : Nat} {es : List Ed} (ok : GOkay v es) {s : Nat} (hs : s < v) {y : Int} (h : Rch es s y) : 0 ≤ y ∧ y < v := by
  cases h with
  | refl => omega
  | step _ a => have := ok.adj a; omega
open Classical in
theorem mem_cls {v : Nat} {es : List Ed} (ok : GOkay v es) {s : Nat} (hs : s < v) {y : Int} : y ∈ cls es v s ↔ Rch es s y := by
  unfold cls
  rw [mem_srtI, List.mem_filter, decide_eq_true_eq, List.mem_map]
  constructor
  · exact fun h => h.2
  · intro h
    have := rch_in ok hs h
    exact ⟨⟨y.toNat, List.mem_range.mpr (by omega), by omega⟩, h⟩
open Classical in
theorem cls_lt (es : List Ed) (v s : Nat) : (cls es v s).Pairwise (· < ·) := srtI_lt ((range_nd v).sublist List.filter_sublist)
theorem cls_eq {v : Nat} {es : List Ed} (ok : GOkay v es) {s : Nat} (hs : s < v) {rs : List Int} (nd : rs.Nodup) (h : ∀ y, y ∈ rs ↔ Rch es s y) : srtI rs = cls es v s :=
  lt_ext (srtI_lt nd) (cls_lt es v s) fun y => by rw [mem_srtI, h, mem_cls ok hs]
open Classical in
/-- the least vertices of the classes below k -/
noncomputable def reps (es : List Ed) : Nat → List Nat
  | 0 => []
  | k + 1 => if ∃ r, r ∈ reps es k ∧ Rch es (r : Int) (k : Int) then reps es k else reps es k ++ [k]
theorem reps_lt (es : List Ed) : ∀ (k r : Nat), r ∈ reps es k → r < k
  | 0, _, h => by simp [reps] at h
  | k + 1, r, h => by
    unfold reps at h
    split at h
    · have := reps_lt es k r h; omega
    · rcases List.mem_append.mp h with h | h
      · have := reps_lt es k r h; omega
      · rw [List.mem_singleton] at h; omega
theorem reps_length (es : List Ed) : ∀ k : Nat, (reps es k).length ≤ k
  | 0 => Nat.le_refl _
  | k + 1 => by
    unfold reps
    have := reps_length es k
    split
    · omega
    · rw [List.length_append, List.length_cons, List.length_nil]; omega
noncomputable def clsD (es : List Ed) (v : Nat) (r : Nat) : PyData := .tuple (encI (cls es v r))
noncomputable def comps (es : List Ed) (v k : Nat) : List PyData := (reps es k).map (clsD es v)
theorem below_all {A : Arn} (h : plain A) (n : Nat) : below n A = true := by
  have := plain_below h n A.length
  rw [List.take_length] at this
  exact this
theorem check_graph {A : Arn} {v : Int} {es : List Ed} (hp : plain A) (ok : GOkay v es) : (m_check_graph [.p (encG v es)] A).To fun r A' => r = .p .none ∧ A' = A := by
  have hl : lenB (encG v es) = true := (th_G (by have := ok.lo; have := ok.hi; omega) ok.lo_ (by have := ok.len; omega)).len
  unfold m_check_graph
  refine To_def ?_
  unfold b_check_graph
  simp
  refine (is_graph hp hl).mono ?_
  rintro r A' ⟨rfl, rfl⟩
  simp [ok.isG, hp, below_all hp]
theorem any_map2 (f : PyData → Bool) (xs : List PyData) : fAny [.list (xs.filterMap fun x => some (.bool (f x)))] = some (.bool (xs.any f)) := by
  unfold fAny
  dsimp only
  rw [boolsOf_map]
  simp
def inLot (k : Int) (x : PyData) : Bool := match x with
  | .tuple xs => xs.any fun z => PyData.eqv z (.int k)
  | _ => false
theorem components {A : Arn} {v : Nat} {es : List Ed} (hp : plain A) (ok : GOkay v es) : (m_components [.p (encG v es)] A).To fun r A' => r = .p (.tuple (comps es v v)) ∧ A' = A := by
  have vh := ok.hi
  unfold m_components
  refine To_def ?_
  unfold b_components
  simp
  refine (check_graph hp ok).mono ?_
  rintro _ _ ⟨rfl, rfl⟩
  refine (neighbours hp ok).mono ?_
  rintro _ A ⟨rfl, rfl⟩
  refine To_iR1 ?_
  simp
  refine ⟨by unfold small; omega, ?_⟩
  refine forL_to (fun i s C => (∃ y3 y4 : Option D, s = [some (.p (encG v es)), some (.p (.tuple ((List.range v).map (nbRow es)))), some (.ref A.length), y3, y4]) ∧ C = A ++ [.lst (comps es v i)]) ?_ ⟨⟨none, none, rfl⟩, rfl⟩ ?_
  · rintro i x s C hx ⟨⟨y3, y4, rfl⟩, rfl⟩
    obtain ⟨hi, rfl⟩ := rangeD_get hx
    have hr := reps_length es i
    have hcl : (comps es v i).length ≤ 10 := by unfold comps; rw [List.length_map]; omega
    simp
    refine To_compK (fun x => some (.bool (inLot i x))) (n := A.length) (xs := comps es v i) ?_
    simp only [To_varS, To_var0, To_two, To_one]
    refine ⟨trivial, trivial, lst_new, by omega, fun y hy => ?_, ?_⟩
    · obtain ⟨r, hr2, rfl⟩ := List.mem_map.mp hy
      refine turn_of (f := fun x => some (.bool (inLot i x))) ⟨_, rfl, ?_⟩
      simp only [wipeS, List.foldl_cons, List.foldl_nil]
      have : inLot i (clsD es v r) = decide ((i : Int) ∈ cls es v r) := eqvI _ _
      simp [clsD, in_it]
      exact this.symm
    · rw [any_map2]
      have hany : (comps es v i).any (inLot i) = true ↔ ∃ r, r ∈ reps es i ∧ Rch es (r : Int) (i : Int) := by
        unfold comps
        rw [List.any_map, List.any_eq_true]
        constructor
        · rintro ⟨r, hr2, h⟩
          have h : inLot i (clsD es v r) = true := h
          have e : inLot i (clsD es v r) = decide ((i : Int) ∈ cls es v r) := eqvI _ _
          rw [e, decide_eq_true_eq, mem_cls ok (by have := reps_lt es i r hr2; omega)] at h
          exact ⟨r, hr2, h⟩
        · rintro ⟨r, hr2, h⟩
          refine ⟨r, hr2, ?_⟩
          show inLot i (clsD es v r) = true
          have e : inLot i (clsD es v r) = decide ((i : Int) ∈ cls es v r) := eqvI _ _
          rw [e, decide_eq_true_eq, mem_cls ok (by have := reps_lt es i r hr2; omega)]
          exact h
      by_cases c : ∃ r, r ∈ reps es i ∧ Rch es (r : Int) (i : Int)
      · have e : comps es v (i + 1) = comps es v i := by
          unfold comps
          rw [reps, if_pos c]
        rw [hany.mpr c]
        simp [e]
      · have e : comps es v (i + 1) = comps es v i ++ [clsD es v i] := by
          unfold comps
          rw [reps, if_neg c, List.map_append]
          rfl
        have c2 : (comps es v i).any (inLot i) = false := by
          rw [Bool.eq_false_iff]
          exact fun h => c (hany.mp h)
        rw [c2]
        simp
        refine (reached (plain_snoc hp) ok hi).mono ?_
        rintro _ C ⟨⟨rs, rfl, nd, mem⟩, rfl⟩
        rw [cls_eq ok hi nd mem]
        have h100 : (comps es v i).length < 100000 := by omega
        simp [h100, e]
        rfl
  · rintro s C ⟨⟨y3, y4, rfl⟩, rfl⟩
    have hr : (rangeD 0 v).length = v := by unfold rangeD; rw [List.length_map, List.length_range]
    rw [hr]
    simp [fTuple, hp]
end Lw
end

section
set_option maxHeartbeats 4000000
/-! NiF: components, by the law's own going. -/
namespace Lw
open PySem PySem.W Mi
def b__law_reached : MS :=
  (sSeq (sPar 2 3 (aCons (mAl (lOpN lfList (aCons (mSlA (mVar 1) pNo (pSome (mC (.int 1)))) aNil))) (aCons (mC (.int 0)) aNil)))
    (sSeq (sWhile 100000 (mB (mOp2 (lift2 (ordD gLt)) (mVar 3) (mOpN (liftN fLen) (aCons (mVar 2) aNil)))) (sSeq (sFor (iS (mCall m__law_neighbours (aCons (mVar 0) (aCons (mOp2 (lift2 fIx) (mVar 2) (mVar 3)) aNil)))) (gN 4) (sIf (mAnd (mB (mOp2 (lift2 fIn) (mVar 4) (mVar 1))) (mB (mOp2 (lift2 fNotIn) (mVar 4) (mVar 2)))) (sDrop (mMt isL fAppend (mVar 2) (aCons (mVar 4) aNil))) sSkip))
    (sLet 3 (mOp2 (lift2o fAdd) (mVar 3) (mC (.int 1))))))
    (sRet (mVar 2))))
def m__law_reached : MF := defM 5 b__law_reached
def b__law_components : MS :=
  (sSeq (sPar 1 2 (aCons (mAl (lDisp aNil)) (aCons (mFr (lRg1 (mOp2 (lift2 fIx) (mVar 0) (mC (.int 0))))) aNil)))
    (sSeq (sWhile 100000 (mB (mOp2 (lift2 fNe) (mVar 2) (mFr (lDisp aNil)))) (sSeq (sLet 3 (mCall m__law_reached (aCons (mVar 0) (aCons (mVar 2) aNil))))
    (sSeq (sDrop (mMt isL fAppend (mVar 1) (aCons (mOpN (liftN fTuple) (aCons (mFr (lOpN lfSorted (aCons (mVar 3) aNil))) aNil)) aNil)))
    (sLet 2 (mFr (lComp (iS (mVar 2)) (gN 4) (mB (mOp2 (lift2 fNotIn) (mVar 4) (mVar 3))) (mVar 4) [4]))))))
    (sRet (mVar 1))))
def m__law_components : MF := defM 5 b__law_components
def nbF (x : Int) (d : PyData) : Option PyData := match d with
  | .tuple [.int a, .int b] => if a = x ∨ b = x then some (.int (a + b - x)) else none
  | _ => none
theorem nbF_map (x : Int) : ∀ {es : List Ed}, (∀ p, p ∈ es → p.1 ≠ p.2) → (encE es).filterMap (nbF x) = encI (nb es x)
  | [], _ => rfl
  | p :: es, h => by
    have ih := nbF_map x fun q hq => h q (List.mem_cons_of_mem _ hq)
    have hne := h p List.mem_cons_self
    show List.filterMap (nbF x) (encP p :: encE es) = _
    have hnb : nb (p :: es) x = ((if p.1 = x then [p.2] else []) ++ (if p.2 = x then [p.1] else [])) ++ nb es x := by
      unfold nb
      rw [List.flatMap_cons]
    rw [List.filterMap_cons, ih, hnb]
    have hf : nbF x (encP p) = if p.1 = x ∨ p.2 = x then some (.int (p.1 + p.2 - x)) else none := rfl
    rw [hf]
    by_cases c1 : p.1 = x
    · have c2 : ¬ p.2 = x := fun e => hne (by omega)
      have e : p.1 + p.2 - x = p.2 := by omega
      simp [c1, c2, encI]
      omega
    · by_cases c2 : p.2 = x
      · have e : p.1 + p.2 - x = p.1 := by omega
        simp [c1, c2, encI]
      · simp [c1, c2]
theorem sh2 (a b : Int) : SeqAt.shaped (.tuple [.int a, .int b]) = true := shP (a, b)
theorem in_2 {x a b : Int} : fIn (.int x) (.tuple [.int a, .int b]) = some (.bool (decide (a = x ∨ b = x))) := by
  unfold fIn
  dsimp only
  rw [if_pos ⟨shI x, sh2 a b⟩]
  simp only [List.any_cons, List.any_nil, PyData.eqv, Bool.or_false]
  congr 2
  rw [Bool.eq_iff_iff]
  simp
theorem law_neighbours {A : Arn} {v x : Int} {es : List Ed} (hp : plain A) (ok : GOkay v es) : (m__law_neighbours [.p (encG v es), .p (.int x)] A).To fun r A' => r = .p (.list (encI (srtI (nb es x)))) ∧ A' = A := by
  have el := ok.len
  unfold m__law_neighbours
  refine To_def ?_
  unfold b__law_neighbours
  simp
  refine To_comp (nbF x) ?_
  simp
  refine ⟨by rw [encE_length]; omega, fun y hy => ?_, ?_⟩
  · obtain ⟨p, hp2, rfl⟩ := List.mem_map.mp hy
    refine turn_of (f := nbF x) ⟨_, rfl, ?_⟩
    have hf : nbF x (encP p) = if p.1 = x ∨ p.2 = x then some (.int (p.1 + p.2 - x)) else none := rfl
    simp only [wipeS, List.foldl_cons, List.foldl_nil]
    rw [hf]
    by_cases c : p.1 = x ∨ p.2 = x
    · simp [in_2, c]
    · simp [in_2, c]
  · rw [nbF_map x (fun p hp2 => by have := ok.inn p hp2; omega)]
    have hs := sorted_ii (xs := nb es x) (by have := nb_length es x; omega)
    simp [hs, hp]
theorem len_I {ns : List Int} (h : ns.length ≤ 100000) : fLen [.list (encI ns)] = some (.int ns.length) := by
  unfold fLen
  dsimp only
  rw [if_pos (by rw [encI_length]; exact h), encI_length]
theorem at_I {ns : List Int} {k : Nat} {x : Int} (h : ns[k]? = some x) : L2.atI (encI ns) (k : Int) = some (.int x) := by
  refine at_nat ?_
  unfold encI
  rw [List.getElem?_map, h]
  rfl
/-- the middle of the law's going -/
structure Gl2 (v : Nat) (es : List Ed) (s : Int) (ls fs : List Int) : Prop where
  nd : fs.Nodup
  rch : ∀ y, y ∈ fs → Rch es s y ∧ 0 ≤ y ∧ y < v ∧ y ∈ ls
  st : s ∈ fs
  un : fs.length + (unr v fs).length = v
def GfI (A : Arn) (v : Nat) (es : List Ed) (s : Nat) (ls fs : List Int) (at' : Nat) (x : Int) (i : Nat) (st : Slt) (C : Arn) : Prop := ∃ (t : List Int) (y4 : Option D), (st = [some (.p (encG v es)), some (.p (.list (encI ((s : Int) :: ls)))), some (.ref A.length), some (.p (.int at')), y4] ∧ C = A ++ [.lst (encI (fs ++ t))]) ∧ Gl2 v es s (s :: ls) (fs ++ t) ∧ ∀ z, z ∈ (srtI (nb es x)).take i → z ∈ fs ++ t
def GwI (A : Arn) (v : Nat) (es : List Ed) (s : Nat) (ls : List Int) (k : Nat) (st : Slt) (C : Arn) : Prop := ∃ (fs : List Int) (at' : Nat) (y4 : Option D), (st = [some (.p (encG v es)), some (.p (.list (encI ((s : Int) :: ls)))), some (.ref A.length), some (.p (.int at')), y4] ∧ C = A ++ [.lst (encI fs)]) ∧ Gl2 v es s (s :: ls) fs ∧ at' ≤ fs.length ∧ (∀ y, y ∈ fs.take at' → ∀ z, Lw.adj es y z → z ∈ fs) ∧ k = v - at'
theorem law_reached {A : Arn} {v : Nat} {es : List Ed} {s : Nat} {ls : List Int} (hp : plain A) (ok : GOkay v es) (hs : s < v) (hl : ls.length ≤ 100) (hclo : ∀ y, y ∈ (s : Int) :: ls → ∀ z, Lw.adj es y z → z ∈ (s : Int) :: ls) :
    (m__law_reached [.p (encG v es), .p (.list (encI ((s : Int) :: ls)))] A).To fun r A' => (∃ fs : List Int, r = .p (.list (encI fs)) ∧ fs.Nodup ∧ ∀ y, y ∈ fs ↔ Rch es s y) ∧ A' = A := by
  have vh := ok.hi
  unfold m__law_reached
  refine To_def ?_
  unfold b__law_reached
  have c1 : cutD' (encI ((s : Int) :: ls)) none (some 1) = encI [(s : Int)] := by
    unfold cutD' HT.sIx
    simp [encI]
  simp [c1, lfList]
  refine ⟨_, _, ⟨rfl, rfl⟩, ?_⟩
  show (whileN _ _ 100000 _ _).To _ _
  refine while_inv (fun k st C => GwI A v es s ls k st C) ?_ 100000 v _ _ (by omega) ?_
  · rintro k st C ⟨fs, at', y4, ⟨rfl, rfl⟩, go, ha, clo, rfl⟩
    have l10 : fs.length ≤ v := by have := go.un; omega
    have hlen := len_I (ns := fs) (by omega)
    by_cases c : at' < fs.length
    · have c' : ¬ fs.length ≤ at' := by omega
      have hat : fs[at']? = some fs[at'] := List.getElem?_eq_getElem c
      generalize hx : fs[at'] = x at hat
      have hxm : x ∈ fs := List.mem_of_getElem? hat
      simp [hlen, c, c', at_I hat]
      refine ⟨by omega, ?_⟩
      refine (law_neighbours (plain_snoc hp) ok).mono ?_
      rintro _ _ ⟨rfl, rfl⟩
      simp
      refine forL_to (fun i st C => GfI A v es s ls fs at' x i st C) ?_ ⟨[], _, ⟨rfl, by rw [List.append_nil]⟩, by rw [List.append_nil]; exact go, fun z hz => by simp at hz⟩ ?_
      · rintro i w st C hw ⟨t, y4, ⟨rfl, rfl⟩, go2, tk⟩
        obtain ⟨z, hz, rfl⟩ := getI hw
        have hadj : Lw.adj es x z := mem_nb.mp (mem_srtI.mp (List.mem_of_getElem? hz))
        have hzl : z ∈ (s : Int) :: ls := hclo x (go.rch x hxm).2.2.2 z hadj
        obtain ⟨_, _, z0, z1⟩ := ok.adj hadj
        have un2 := go2.un
        have tk2 : ∀ rs3 : List Int, (∀ y, y ∈ fs ++ t → y ∈ rs3) → z ∈ rs3 → ∀ y, y ∈ (srtI (nb es x)).take (i + 1) → y ∈ rs3 := fun rs3 hsub hz3 y hy => by
          rw [List.take_succ, hz] at hy
          rcases List.mem_append.mp hy with hy | hy
          · exact hsub y (tk y hy)
          · have : y = z := by simpa using hy
            rw [this]
            exact hz3
        have in1 : fIn (.int z) (.list (encI ((s : Int) :: ls))) = some (.bool true) := by rw [in_ii, decide_eq_true hzl]
        by_cases cz : z ∈ fs ++ t
        · have ni : fNotIn (.int z) (.list (encI (fs ++ t))) = some (.bool false) := by rw [notIn_ii]; simp only [cz, not_true_eq_false, decide_false]
          simp [in1, ni]
          exact ⟨t, _, ⟨rfl, rfl⟩, go2, tk2 _ (fun y hy => hy) cz⟩
        · have ni : fNotIn (.int z) (.list (encI (fs ++ t))) = some (.bool true) := by rw [notIn_ii, decide_eq_true cz]
          obtain ⟨zn, rfl⟩ := Int.eq_ofNat_of_zero_le z0
          have hzn : zn < v := by omega
          have us := unr_snoc hzn cz
          have b1 : (encI (fs ++ t)).length < 100000 := by rw [encI_length]; omega
          simp [in1, ni, b1]
          refine ⟨t ++ [(zn : Int)], _, ⟨rfl, by rw [encI_snoc, List.append_assoc]⟩, ?_, ?_⟩
          · rw [← List.append_assoc]
            refine ⟨?_, ?_, List.mem_append_left _ go2.st, ?_⟩
            · rw [List.nodup_append]
              refine ⟨go2.nd, by simp, fun a ha b hb => ?_⟩
              rw [List.mem_singleton] at hb
              subst hb
              rintro rfl
              exact cz ha
            · intro y hy
              rcases List.mem_append.mp hy with hy | hy
              · exact go2.rch y hy
              · rw [List.mem_singleton] at hy
                rw [hy]
                exact ⟨.step (go.rch x hxm).1 hadj, z0, z1, hzl⟩
            · rw [List.length_append, List.length_cons, List.length_nil]; omega
          · rw [← List.append_assoc]
            exact tk2 _ (fun y hy => List.mem_append_left _ hy) (by simp)
      · rintro st C ⟨t, y4, ⟨rfl, rfl⟩, go2, tk⟩
        rw [encI_length, List.take_length] at tk
        have l2 : (fs ++ t).length ≤ v := by have := go2.un; omega
        simp
        refine ⟨v - (at' + 1), by omega, fs ++ t, at' + 1, _, ⟨rfl, rfl⟩, go2, by rw [List.length_append]; omega, fun y hy z hz => ?_, rfl⟩
        rw [List.take_append_of_le_length (by omega), List.take_succ, hat] at hy
        rcases List.mem_append.mp hy with hy | hy
        · exact List.mem_append_left _ (clo y hy z hz)
        · have : y = x := by simpa using hy
          rw [this] at hz
          exact tk z (mem_srtI.mpr (mem_nb.mpr hz))
    · have c' : fs.length ≤ at' := by omega
      have ht : fs.take at' = fs := List.take_of_length_le c'
      rw [ht] at clo
      simp [hlen, c, c']
      rw [close_r (plain_snoc hp) (Nat.le_refl _) lst_new, List.take_left]
      refine ⟨⟨fs, rfl, go.nd, fun y => ⟨fun hy => (go.rch y hy).1, fun hy => ?_⟩⟩, rfl⟩
      induction hy with
      | refl => exact go.st
      | step _ a ih => exact clo _ ih _ a
  · refine ⟨[(s : Int)], 0, none, ⟨rfl, rfl⟩, ⟨by simp, fun y hy => ?_, by simp, ?_⟩, by simp, fun y hy => by simp at hy, rfl⟩
    · rw [List.mem_singleton] at hy
      subst hy
      exact ⟨.refl, by omega, by omega, by simp⟩
    · have := unr_snoc (v := v) (rs := []) hs (by simp)
      rw [unr_nil, List.nil_append] at this
      simp only [List.length_cons, List.length_nil]
      omega
end Lw
end

section
set_option maxHeartbeats 4000000
/-! MkA: sets of rows of numbers that a comprehension makes, and sorted of them. -/
namespace Mi
open PySem PySem.Spec PyProof.Rows L2
open Evl (Ex)
section
variable {X : Cx}
/-- one more into the set at D -/
theorem putT {pins : List (Addr × Obj)} {σ : L2.St} {H : Hp} {s : Shared} {E : Value → Shared → Prop} {D x : Addr}
    {L : List (Addr × List Int)} {k : List Int} {Q : Value → Shared → Prop}
    (iv : Inv X pins σ H s) (units : X.A.units + 64 < cLine) (at' : H D = some (SetTO X.prog X.w D L))
    (old : ∀ p ∈ L, SqT X.K H p.1 (p.2.map V.int)) (nw : SqT X.K H x (k.map V.int)) (few : L.length + 1 < 64)
    (go : ∀ L' s', (k ∈ L.map (·.2) → L' = L) → (k ∉ L.map (·.2) → L'.Perm ((x, k) :: L)) →
      Inv X pins σ (upd H D (SetTO X.prog X.w D L')) s' → Q .none s') :
    wpAny (model X.prog X.w) X.A (call (.builtin "set.add") [.ref D, .ref x]) Q E s := by
  have r0 : SetT0 X.prog X.w s.heap D L := (iv.hok D _ at').1
  obtain ⟨es, ep, t, R⟩ := r0.full fun p hp => iv.isT (old p hp)
  have ty : s.TypeIs (.ref D) "set" := by
    obtain ⟨o, ho, hex, _⟩ := R.ob
    exact ⟨o, ho, hex.1⟩
  have kx := iv.isT nw
  refine wpAny_call_entry F.slot_set_add ty F.entry_set_add ?_ (F.args_set_add_2 _ _)
  unfold Builtin.«set.add» Builtin.Frozenset.oneOther
  simp only [List.isEmpty_nil, bind_assoc]
  unfold Builtin.Frozenset.addrOf setAdd
  refine wpAny_bind (wpAny_pure ?_)
  try dsimp only
  refine wpAny_bind (wpAny_pure ?_)
  try dsimp only
  refine wpAny_bind ?_
  refine wpAny_holding ?_
  have ui : X.A.in1.units < cLine := by
    show X.A.units + 1 < cLine
    omega
  refine wpAny_bind (wpAny_pyHash_tuple ui kx ?_)
  refine add_at (s := { s with toks := s.toks + (k.length + 1) }) R kx ui few fun b h' L' es' ep' t' sb R' c1 c2 => ?_
  show wpAny _ _ (ret Value.none) _ _ _
  refine wpAny_pure ⟨_, rfl, go L' _ c1 c2 ?_⟩
  have he : ∃ u, h'.get? D = some u := by
    obtain ⟨o, ho, _⟩ := R'.ob
    exact ⟨o, ho⟩
  exact iv.write (e := D) (t' := s.toks + (k.length + 1)) (by rw [at']; trivial) (.inl rfl) (fun b u hb hu => (sb.2 b hb).trans hu) he (setTO_new R'.t0)

/-- what a turn does to the set -/
def AddT (K : PySem.W.Frag) (P : Program) (w : World) (D : Addr) (y : V) (H : Hp) (Nx : Hp → Prop) : Prop :=
  ∃ x k L, y = .ref x ∧ SqT K H x (k.map V.int) ∧ H D = some (SetTO P w D L) ∧ (∀ p ∈ L, SqT K H p.1 (p.2.map V.int)) ∧ L.length + 1 < 64 ∧
    ∀ L' : List (Addr × List Int), (k ∈ L.map (·.2) → L' = L) → (k ∉ L.map (·.2) → L'.Perm ((x, k) :: L)) → Nx (upd H D (SetTO P w D L'))
def TcI (K : PySem.W.Frag) (P : Program) (w : World) (J : It) (g : TG) (tt : TT) (te : TE) (vs : List Nat) : TE := fun σ H1 Q =>
  ∀ D, H1 D = none → ∃ W : Nat → Nat → Hp → Prop, (∃ m, W 0 m (upd H1 D (SetTO P w D []))) ∧ ∀ i m H, W i m H →
    (J.stop i H ∧ Q (.ref D) H) ∨ (J.go i H ∧ ∃ Nx : Hp → Prop, (∀ H', Nx H' → ∃ m', m' < m ∧ W (i + 1) m' H') ∧
      ∀ x H', J.yld i H x H' → g x (L2.wipe σ vs) H' fun σ2 H2 => L2.wipe σ2 vs = L2.wipe σ vs ∧
        tt σ2 H2 fun b H3 => if b = true then te σ2 H3 fun y H4 => AddT K P w D y H4 Nx else Nx H3)
abbrev Blks (X : Cx) (scope : Scope) (p : Cx → Prop) : Prop :=
  ∀ (s : Shared) (H : Hp) (C : Addr) (cl : List (Str × Addr)) (fp : List Addr), p (X.blk s H scope (compEnvC scope cl C X.env) fp)
theorem pe_tc {elt tg iter : Expr} {ifs : List Expr} {scope : Scope} {own : List (Str × Nat)} {pos : Pos} {wi : TI} {g : TG} {tt : TT} {te : TE}
    (calm : X.calm = true) (units : X.A.units + 64 < cLine) (nodup : X.N.Nodup) (pi : PI X tg iter wi) (ok : BlkOk X.N X.env.scope scope own)
    (bg : Blks X scope fun Y => PG Y tg g) (bt : Blks X scope fun Y => PTs Y ifs tt) (be : Blks X scope fun Y => PE Y elt te)
    (fold : ∀ x, foldedSetIterable iter X.env x = pure x := by intro _; rfl) :
    PE X (.SetComp elt [⟨tg, iter, ifs, 0⟩] scope pos) (fun σ H Q => wi σ H fun J H1 => TcI X.K X.prog X.w J g tt te (own.map (·.2)) σ H1 Q) := by
  refine ⟨fun pins s σ H Q iv h => ?_⟩
  rw [PpSet.eval_SetComp]
  have free : ∀ y ∈ scope.names, y.2 = .free → ∃ c, X.env.cells.lookup y.1 = some c := fun y hy e =>
    (ok.free y hy e).elim (fun k => iv.ok.has _ (.inl k)) (fun k => iv.ok.has _ (.inr k))
  refine wpAny_comprehension_free rfl fold (closure_ok free) ok.kind (fun y hy e => by rw [ok.uniq y hy, e])
    (thn (pi.run pins s σ H _ iv h) fun xv s1 hx => thn hx fun itv s2 got => ?_)
  obtain ⟨it, fp, tn, J, H2, rfl, iv2, T, st2, f2, q⟩ := got
  refine PpSet.newSet_ok (newEnv_comp ?_)
  generalize hD : s2.heap.objs.size = D
  have Dn : H2 D = none := iv2.hok.fresh (Nat.le_of_eq hD)
  obtain ⟨W, ⟨m0, w0⟩, turn⟩ := q D Dn
  let ob : Obj := { cls := .type "set", dict := none, data := .set #[] 0 (.fresh 0 0 (!X.w.params.followText "set-order")) }
  generalize hs3 : ({ s2 with heap := s2.heap.push ob } : Shared) = s3
  have iv3 : Inv X pins σ (upd H2 D (SetTO X.prog X.w D [])) s3 := by
    rw [← hs3]
    refine iv2.laid (t' := s2.toks) (fun b o e => Heap.get?_push_of_some _ e) (Nat.le_of_eq hD) ?_
    rw [← hD]
    exact setTO_new (setTR_fresh (Heap.get?_push_size _ rfl)).t0
  have heap3 : s3.heap = s2.heap.push ob := by rw [← hs3]
  have below : ∀ b ∈ fp, b < s2.heap.objs.size := fun b hb => by
    obtain ⟨o, e, _⟩ := T.obj _ _ st2 b hb
    exact Heap.lt_size e
  have f3 : ∀ b ∈ fp, FpOk X pins (upd H2 D (SetTO X.prog X.w D [])) b ∧ b < s3.heap.objs.size := fun b hb => by
    have lt := below b hb
    refine ⟨⟨?_, (f2 b hb).2⟩, by rw [heap3, Heap.size_push]; exact Nat.lt_succ_of_lt lt⟩
    rw [upd_ne (fun e : b = D => by rw [← hD] at e; exact Nat.ne_of_lt lt e)]
    exact (f2 b hb).1
  have st3 : tn 0 s3.heap := T.keep _ _ _ st2 fun b _ o e => by
    rw [heap3]
    exact Heap.get?_push_of_some _ e
  have iv4 := block_start iv3 ok nodup f3
  generalize hC : s3.heap.objs.size = C at *
  generalize hcl : cellsFrom (C + 1) scope.names (cloFrom X.env.cells scope.names []) = cl at *
  generalize hH3 : upd H2 D (SetTO X.prog X.w D []) = H3 at *
  have pg := bg s3 H3 C cl fp
  have pt := bt s3 H3 C cl fp
  have pe := be s3 H3 C cl fp
  have nfp : ∀ b ∈ fp, H3 b = none := fun b hb => (f3 b hb).1.1
  generalize hce : compEnvC scope cl C X.env = ce at *
  have cL : ce.locals = C := by subst hce; rfl
  generalize hs4 : ({ s3 with heap := pushCells (s3.heap.push { cls := .type "dict", data := .dict #[] }) scope.names } : Shared) = s4 at *
  have st4 : tn 0 s4.heap := T.keep _ _ _ st3 fun b _ o e => by
    rw [← hs4]
    exact pushCells_keeps _ _ _ _ (Heap.get?_push_of_some _ e)
  show codeAny _ _ (.compStart (.SetComp elt [⟨tg, iter, ifs, 0⟩] scope pos) 0 (.ref it) (.ref D) (compEnvC scope cl C X.env)) (compPost (model X.prog X.w) X.A X.xe none (EP X pins σ Q) (.ref D) C) s4
  rw [hce]
  have stay : ∀ {σ' : L2.St} {H' : Hp} {s' : Shared}, Inv (X.blk s3 H3 scope ce fp) [] σ' H' s' → (∀ b ∈ fp, H' b = none) →
      ∀ b ∈ fp, FpOk (X.blk s3 H3 scope ce fp) [] H' b := fun {σ' H' s'} i' hn b hb =>
    ⟨hn b hb, (i'.ok.exf b hb).1, i'.ok.exfs b hb, .inl hb, fun x c e => (i'.ok.exf b hb).2 x c e,
      fun p hp => absurd (show p ∈ ([] : List (Addr × Obj)) ++ [] from hp) (by simp)⟩
  have loop : codeAny (model X.prog X.w) X.A (.compLoop (.SetComp elt [⟨tg, iter, ifs, 0⟩] scope pos) 0 (.ref it) (.ref D) ce)
      (compPost (model X.prog X.w) X.A X.xe none (EP X pins σ Q) (.ref D) C) s4 := by
    refine PpSet.compLoopS_any (fun n s' => ∃ i H', Inv (X.blk s3 H3 scope ce fp) [] (L2.wipe σ (own.map (·.2))) H' s' ∧ tn i s'.heap ∧
      (∀ b ∈ fp, H' b = none) ∧ W i n H') ?_ m0 ⟨0, H3, iv4, st4, nfp, w0⟩
    rintro n s5 ⟨i, H5, iv5, st5, n5, w5⟩
    rcases turn i n H5 w5 with ⟨stop, last⟩ | ⟨go, Nx, hNx, step⟩
    · have td := T.done (X.blk s3 H3 scope ce fp) rfl rfl rfl calm i [] s5 _ H5 (fun _ _ => False) iv5 (stay iv5 n5) st5 stop
      refine thnF td fun r s6 ⟨hr, iv6⟩ => ?_
      subst hr
      have iv7 : Inv X pins σ H5 s6 := iv3.call' (ch := fp) iv6.os iv6.base iv6.hok iv6.bare fun b hb =>
        ⟨(f3 b hb).1.2.2.2.1, (f3 b hb).1.2.1, (f3 b hb).1.2.2.2.2.1, (f3 b hb).1.2.2.2.2.2⟩
      have nC : H5 C = none := by
        have z : H5 ce.locals = none := iv6.free
        rw [cL] at z
        exact z
      obtain ⟨m, hn, _⟩ := iv6.loc
      have hn : s6.heap.Ns ce.locals m := hn
      rw [cL] at hn
      obtain ⟨f0, f1, f2', f3', f4, f5⟩ := iv3.fpOk (by rw [← hC]; exact Nat.le_refl _) nC
      refine ⟨m, hn, fun h'' sb => ?_⟩
      exact ⟨.ref D, H5, iv7.turned (t' := s6.toks) (fun b o hb e => (sb.2 b hb).trans e) f0 f1 f3' f4 f5, rfl, last⟩
    · have ti := T.item (X.blk s3 H3 scope ce fp) rfl rfl rfl calm i [] s5 _ H5 (fun _ _ => False) iv5 (stay iv5 n5) st5 go
      refine thnF ti fun r s6 ⟨u, hr, h6⟩ => ?_
      subst hr
      refine thnF h6 fun _ s7 ⟨x, H7, iv7, r7, y7, st7, n7⟩ => ?_
      have iv7' := iv7.pinned (stay iv7 n7) (T.obj _ _ st7)
      refine thnF (pg.run _ s7 _ H7 x u _ iv7' r7 (step x H7 y7)) fun _ s8 ⟨σ8, H8, iv8, hw8, q8⟩ => ?_
      refine thnF (pt.run _ s8 σ8 H8 _ iv8 q8) fun b s9 ⟨H9, iv9, q9⟩ => ?_
      have fin : ∀ {s' : Shared} {H' : Hp}, Inv (X.blk s3 H3 scope ce fp) ([] ++ pinsAt fp s7.heap) σ8 H' s' → Nx H' →
          ∃ m, m < n ∧ ∃ i H', Inv (X.blk s3 H3 scope ce fp) [] (L2.wipe σ (own.map (·.2))) H' s' ∧ tn i s'.heap ∧ (∀ b ∈ fp, H' b = none) ∧ W i m H' := fun {s' H'} i' nx => by
        obtain ⟨m', hm, w'⟩ := hNx H' nx
        have pin' : ∀ b ∈ fp, ∀ o, s7.heap.get? b = some o → s'.heap.get? b = some o ∧ H' b = none := fun b hb o e => by
          have z := i'.pin (b, o) (List.mem_append_right _ (List.mem_append_right _ (mem_pinsAt hb e)))
          exact ⟨z.1, z.2.1⟩
        have hl : (L2.wipe σ (own.map (·.2))).length = σ8.length := by rw [← hw8, wipe_length]
        refine ⟨m', hm, i + 1, H', (i'.unpinned (pins := [])).weak hl (fun j v e => ?_), T.keep _ _ _ st7 fun b hb o e => (pin' b hb o e).1, fun b hb => ?_, w'⟩
        · rw [← hw8] at e
          exact (wipe_some e).1
        · obtain ⟨o, e, _⟩ := T.obj _ _ st7 b hb
          exact (pin' b hb o e).2
      cases b with
      | false =>
        rw [if_neg (by decide)] at q9 ⊢
        exact fin iv9 q9
      | true =>
        rw [if_pos rfl] at q9 ⊢
        refine thnF (pe.run _ s9 σ8 H9 _ iv9 q9) fun z s10 ⟨yv, H10, iv10, r10, x', k, L, ey, hk, hD10, hL, few, nx⟩ => ?_
        subst ey
        cases (show z = Value.ref x' from r10)
        exact putT (X := X.blk s3 H3 scope ce fp) iv10 units hD10 hL hk few fun L' s11 c1 c2 iv11 => fin iv11 (nx L' c1 c2)
  exact PpSet.codeAny_compStart_set loop (T.self X.A 0 _ _ _ st4 loop)
end
end Mi
end

section
set_option maxHeartbeats 4000000
/-! MkB: sorted({.. for ..}) of pairs of numbers, as a function of data. -/
namespace Mi
open PySem PySem.Spec PyProof.Rows L2
open Evl (Ex)
def okP (d : PyData) : Bool := match d with
  | .tuple [.int a, .int b] => decide (0 ≤ a) && decide (a < 64) && decide (0 ≤ b) && decide (b < 64)
  | _ => false
def unP (d : PyData) : Lw.Ed := match d with
  | .tuple [.int a, .int b] => (a, b)
  | _ => (0, 0)
def bk2 (p : Lw.Ed) : List Int := [p.1, p.2]
def unB (k : List Int) : Lw.Ed := match k with
  | [a, b] => (a, b)
  | _ => (0, 0)
def uniS (acc : List Lw.Ed) (p : Lw.Ed) : List Lw.Ed := if p ∈ acc then acc else acc ++ [p]
/-- the members of a row, each once, ascending -/
def setS (ps : List Lw.Ed) : List Lw.Ed := (ps.foldl uniS []).mergeSort Lw.pLe
theorem uni_spec : ∀ (ps acc : List Lw.Ed), acc.Nodup → (ps.foldl uniS acc).Nodup ∧ (∀ q, q ∈ ps.foldl uniS acc ↔ q ∈ acc ∨ q ∈ ps) ∧ (ps.foldl uniS acc).length ≤ acc.length + ps.length
  | [], acc, h => ⟨h, fun q => by simp, by simp⟩
  | p :: ps, acc, h => by
    rw [List.foldl_cons]
    by_cases c : p ∈ acc
    · have e : uniS acc p = acc := if_pos c
      rw [e]
      obtain ⟨h1, h2, h3⟩ := uni_spec ps acc h
      refine ⟨h1, fun q => ?_, by rw [List.length_cons]; omega⟩
      rw [h2 q, List.mem_cons]
      constructor
      · rintro (m | m)
        · exact .inl m
        · exact .inr (.inr m)
      · rintro (m | rfl | m)
        · exact .inl m
        · exact .inl c
        · exact .inr m
    · have e : uniS acc p = acc ++ [p] := if_neg c
      rw [e]
      have hn : (acc ++ [p]).Nodup := by
        rw [List.nodup_append]
        refine ⟨h, by simp, fun a ha b hb => ?_⟩
        rw [List.mem_singleton] at hb
        subst hb
        rintro rfl
        exact c ha
      obtain ⟨h1, h2, h3⟩ := uni_spec ps _ hn
      refine ⟨h1, fun q => ?_, by rw [List.length_append] at h3; simp only [List.length_cons, List.length_nil] at *; omega⟩
      rw [h2 q, List.mem_append, List.mem_singleton, List.mem_cons, or_assoc]
theorem setS_mem {ps : List Lw.Ed} {q : Lw.Ed} : q ∈ setS ps ↔ q ∈ ps := by
  unfold setS
  rw [List.mem_mergeSort, (uni_spec ps [] List.nodup_nil).2.1 q]
  simp
theorem setS_asc (ps : List Lw.Ed) : (setS ps).Pairwise Lw.pLt := by
  have h1 : (setS ps).Pairwise (fun a b => Lw.pLe a b = true) := List.pairwise_mergeSort Lw.pLe_trans Lw.pLe_total _
  have h2 : (setS ps).Nodup := (List.mergeSort_perm _ _).nodup_iff.mpr (uni_spec ps [] List.nodup_nil).1
  exact (h1.and h2).imp fun h => Lw.pLt_of h.1 h.2
theorem setS_length (ps : List Lw.Ed) : (setS ps).length ≤ ps.length := by
  unfold setS
  rw [List.length_mergeSort]
  have := (uni_spec ps [] List.nodup_nil).2.2
  simpa using this
/-- such rows of pairs as the set can hold -/
def pairsIn (ys : List PyData) : Option (List Lw.Ed) := if ys.length < 63 ∧ ys.all okP = true then some (ys.map unP) else none
def lSrtS (it : MI) (gm : MG) (tt : MT) (te : ME) (vs : List Nat) : ML := fun s A => (it s A).bind fun xs A1 => (noX (compL (turnC gm tt te (wipeS s vs)) xs [] A1)).bind fun ys A2 => match pairsIn ys with
  | some ps => .ok (Lw.encE (setS ps)) A2
  | none => .bad
theorem compL_pre {step : PyData → Arn → Res (Option PyData)} : ∀ (xs acc : List PyData) (A A' : Arn) (ys : List PyData), compL step xs acc A = .ok ys A' → ∃ t, ys = acc ++ t
  | [], acc, A, A', ys, h => by
    cases h
    exact ⟨[], by simp⟩
  | x :: xs, acc, A, A', ys, h => by
    have h : ((step x A).bind fun o A1 => if acc.length < 100000 then compL step xs (match o with
      | some y => acc ++ [y]
      | none => acc) A1 else .bad) = .ok ys A' := h
    generalize step x A = r at h
    cases r with
    | bad => cases h
    | exn z A1 => cases h
    | ok o A1 =>
      by_cases c : acc.length < 100000
      · cases o with
        | none =>
          have h : (if acc.length < 100000 then compL step xs acc A1 else .bad) = .ok ys A' := h
          rw [if_pos c] at h
          exact compL_pre xs _ A1 A' ys h
        | some y =>
          have h : (if acc.length < 100000 then compL step xs (acc ++ [y]) A1 else .bad) = .ok ys A' := h
          rw [if_pos c] at h
          obtain ⟨t, ht⟩ := compL_pre xs _ A1 A' ys h
          exact ⟨y :: t, by rw [ht]; simp⟩
      · have h : (if acc.length < 100000 then _ else Res.bad) = .ok ys A' := h
        rw [if_neg c] at h
        cases h
structure SeR (K : PySem.W.Frag) (S : Hp) (L : List (Addr × List Int)) (acc : List PyData) : Prop where
  tup : ∀ p ∈ L, SqT K S p.1 (p.2.map V.int)
  from' : ∀ p ∈ L, ∃ d, d ∈ acc ∧ p.2 = bk2 (unP d)
  nd : (L.map (·.2)).Nodup
  all : ∀ d, d ∈ acc → bk2 (unP d) ∈ L.map (·.2)
  len : L.length ≤ acc.length
theorem SeR.mono {K : PySem.W.Frag} {S S' : Hp} {L : List (Addr × List Int)} {acc : List PyData} (h : SeR K S L acc) (e : Ex S S') : SeR K S' L acc :=
  ⟨fun p hp => Evl.ex_t e (h.tup p hp), h.from', h.nd, h.all, h.len⟩
theorem SeR.same {K : PySem.W.Frag} {S : Hp} {L : List (Addr × List Int)} {acc : List PyData} {d : PyData} (h : SeR K S L acc) (m : bk2 (unP d) ∈ L.map (·.2)) : SeR K S L (acc ++ [d]) where
  tup := h.tup
  from' := fun p hp => by
    obtain ⟨e, he, q⟩ := h.from' p hp
    exact ⟨e, List.mem_append_left _ he, q⟩
  nd := h.nd
  all := fun e he => by
    rcases List.mem_append.mp he with he | he
    · exact h.all e he
    · rw [List.mem_singleton] at he
      rw [he]
      exact m
  len := by
    have := h.len
    rw [List.length_append]
    omega
theorem SeR.more {K : PySem.W.Frag} {S : Hp} {L L' : List (Addr × List Int)} {acc : List PyData} {d : PyData} {x : Addr} (h : SeR K S L acc) (hx : SqT K S x ((bk2 (unP d)).map V.int)) (m : bk2 (unP d) ∉ L.map (·.2)) (pm : L'.Perm ((x, bk2 (unP d)) :: L)) : SeR K S L' (acc ++ [d]) where
  tup := fun p hp => by
    rcases List.mem_cons.mp (pm.mem_iff.mp hp) with rfl | hp
    · exact hx
    · exact h.tup p hp
  from' := fun p hp => by
    rcases List.mem_cons.mp (pm.mem_iff.mp hp) with rfl | hp
    · exact ⟨d, by simp, rfl⟩
    · obtain ⟨e, he, q⟩ := h.from' p hp
      exact ⟨e, List.mem_append_left _ he, q⟩
  nd := by
    rw [(pm.map (·.2)).nodup_iff, List.map_cons, List.nodup_cons]
    exact ⟨m, h.nd⟩
  all := fun e he => by
    rw [(pm.map (·.2)).mem_iff, List.map_cons, List.mem_cons]
    rcases List.mem_append.mp he with he | he
    · exact .inr (h.all e he)
    · rw [List.mem_singleton] at he
      rw [he]
      exact .inl rfl
  len := by
    have := h.len
    rw [pm.length_eq, List.length_append, List.length_cons, List.length_cons, List.length_nil]
    omega
theorem okP_tup {d : PyData} (h : okP d = true) : ∃ a b : Int, d = .tuple [.int a, .int b] ∧ 0 ≤ a ∧ a < 64 ∧ 0 ≤ b ∧ b < 64 := by
  unfold okP at h
  split at h
  · simp only [Bool.and_eq_true, decide_eq_true_eq] at h
    exact ⟨_, _, rfl, h.1.1.1, h.1.1.2, h.1.2, h.2⟩
  · cases h
section
variable {K : PySem.W.Frag} {W : WX} {F S S' H H' : Hp} {ρ ρ' : List Addr} {σ : L2.St} {A : Arn} {s : Slt} {P : Program} {w : World}
theorem tc_core {g : TG} {gm : MG} {is : List Nat} {tt : MT} {te : ME} {vs : List Nat} {J : It} {xs ys : List PyData} {S1 H1 : Hp} {ρ1 : List Addr} {A1 A9 : Arn} {Q : VK}
    (hg : GOk K g gm is) (hi : ∀ i ∈ is, i ∈ vs) (w1 : Wo K F S1 ρ1 H1 A1) (sr : SR K S1 ρ1 s σ) (itok : ItOk K J xs S1 F)
    (hr : compL (turnC gm tt te (wipeS s vs)) xs [] A1 = .ok ys A9) (hp : ys.length < 63 ∧ ys.all okP = true)
    (h : ∀ S' ρ' H' p L, Le S1 ρ1 S' ρ' → Wo K F S' ρ' H' A9 → Fresh F S' ρ' A9 p → H' p = some (SetTO P w p L) → SeR K S' L ys → Q (.ref p) H') :
    TcI K P w J g (tT K W0 tt) (tE K W0 te) vs σ H1 Q := by
  intro Dd hD
  generalize hst : turnC gm tt te (wipeS s vs) = step at hr
  have hfD : F Dd = none := none_sub w1.fsub hD
  refine ⟨fun i k H' => ∃ S' ρ' A' L acc, Le S1 ρ1 S' ρ' ∧ Wo K (upd F Dd (SetTO P w Dd L)) S' ρ' H' A' ∧ SeR K S' L acc ∧ compL step (xs.drop i) acc A' = .ok ys A9 ∧ k = xs.length - i ∧ i ≤ xs.length,
    ⟨xs.length, S1, ρ1, A1, [], [], Le.refl _ _, w1.frame0 hD, ⟨fun p m => by simp at m, fun p m => by simp at m, by simp, fun p m => by simp at m, by simp⟩, hr, rfl, Nat.zero_le _⟩, ?_⟩
  rintro i k H2 ⟨S2, ρ2, A2, L, acc, l2, w2, qa, hc, rfl, hi'⟩
  by_cases hlt : i < xs.length
  · right
    have ex : xs[i]? = some xs[i] := List.getElem?_eq_getElem hlt
    refine ⟨itok.go i H2 _ (l2.ex.trans w2.sub) ((Ex.new hfD).trans w2.fsub) ex, fun H' => ∃ S' ρ' A' L acc, Le S1 ρ1 S' ρ' ∧ Wo K (upd F Dd (SetTO P w Dd L)) S' ρ' H' A' ∧ SeR K S' L acc ∧ compL step (xs.drop (i + 1)) acc A' = .ok ys A9,
      fun H' ⟨S', ρ', A', b1, b2, a1, a2, a3, a4⟩ => ⟨xs.length - (i + 1), by omega, S', ρ', A', b1, b2, a1, a2, a3, a4, rfl, hlt⟩, fun x H' y => ?_⟩
    obtain ⟨S3, gr, q3⟩ := itok.yld i S2 H2 x H' xs[i] l2.ex w2.sub ((Ex.new hfD).trans w2.fsub) y ex
    have w3 := w2.grow gr
    have l3 : Le S1 ρ1 S3 ρ2 := l2.trans (gr.le ρ2)
    rw [List.drop_eq_getElem_cons hlt] at hc
    have hc : ((step xs[i] A2).bind fun o A1 => if acc.length < 100000 then compL step (xs.drop (i + 1)) (match o with
      | some y => acc ++ [y]
      | none => acc) A1 else .bad) = .ok ys A9 := hc
    cases eg : gm xs[i] (wipeS s vs) with
    | none =>
      have e1 : step xs[i] A2 = .bad := by
        rw [← hst]
        unfold turnC
        rw [eg]
      rw [e1] at hc
      cases hc
    | some s' =>
      have e1 : step xs[i] A2 = turnB tt te s' A2 := by
        rw [← hst]
        unfold turnC
        rw [eg]
      rw [e1] at hc
      unfold turnB at hc
      refine hg S3 ρ2 (wipeS s vs) s' (L2.wipe σ vs) H' x xs[i] _ w3.sub ((sr.mono l3).wipe vs) q3 eg fun σ2 r2 wz => ⟨?_, ?_⟩
      · rw [wz vs hi, wipe_idem]
      refine ⟨upd F Dd (SetTO P w Dd L), S3, ρ2, s', A2, w3, r2, ?_⟩
      cases et : tt s' A2 with
      | bad => rw [et] at hc; cases hc
      | exn x A3 => rw [et] at hc; cases hc
      | ok b A3 =>
        rw [et] at hc
        intro S4 ρ4 H4 b' l4 w4 eb
        subst eb
        cases b with
        | false =>
          refine iteF ⟨S4, ρ4, A3, L, acc, l3.trans l4, w4, qa.mono (gr.ex.trans l4.ex), ?_⟩
          have hc : (if acc.length < 100000 then compL step (xs.drop (i + 1)) acc A3 else .bad) = .ok ys A9 := hc
          by_cases ha : acc.length < 100000
          · rw [if_pos ha] at hc; exact hc
          · rw [if_neg ha] at hc; cases hc
        | true =>
          refine iteT ⟨upd F Dd (SetTO P w Dd L), S4, ρ4, s', A3, w4, r2.mono l4, ?_⟩
          have hc : ((noX (te s' A3)).bind fun d A2 => opt0 ((frz d A2).map fun y => (some y.1, y.2))).bind (fun o A1 => if acc.length < 100000 then compL step (xs.drop (i + 1)) (match o with
            | some y => acc ++ [y]
            | none => acc) A1 else .bad) = .ok ys A9 := hc
          cases ee : te s' A3 with
          | bad => rw [ee] at hc; cases hc
          | exn x A3 => rw [ee] at hc; cases hc
          | ok d A4 =>
            rw [ee] at hc
            intro S5 ρ5 H5 v l5 w5 r5
            have hc : (opt0 ((frz d A4).map fun y => (some y.1, y.2))).bind (fun o A1 => if acc.length < 100000 then compL step (xs.drop (i + 1)) (match o with
              | some y => acc ++ [y]
              | none => acc) A1 else .bad) = .ok ys A9 := hc
            cases ef : frz d A4 with
            | none => rw [ef] at hc; cases hc
            | some p =>
              obtain ⟨y, A5⟩ := p
              rw [ef] at hc
              have hc : (if acc.length < 100000 then compL step (xs.drop (i + 1)) (acc ++ [y]) A5 else .bad) = .ok ys A9 := hc
              by_cases ha : acc.length < 100000
              · rw [if_pos ha] at hc
                obtain ⟨S6, l6, w6, q6⟩ := frz_ok w5 r5 ef
                have qa6 := qa.mono (gr.ex.trans (l4.ex.trans (l5.ex.trans l6.ex)))
                obtain ⟨t, ht⟩ := compL_pre _ _ _ _ _ hc
                have hy : okP y = true := List.all_eq_true.mp hp.2 y (by rw [ht]; simp)
                have hl : acc.length + 1 < 63 := by
                  have := hp.1
                  rw [ht] at this
                  simp only [List.length_append, List.length_cons, List.length_nil] at this
                  omega
                obtain ⟨a, b, rfl, _⟩ := okP_tup hy
                cases q6 with
                | tup h6 h7 =>
                  have e7 := DqAll.unints (ns := [a, b]) h7
                  subst e7
                  rename_i ax
                  have hk : SqT K S6 ax ((bk2 (unP (.tuple [.int a, .int b]))).map V.int) := h6
                  have ll := qa6.len
                  refine ⟨ax, bk2 (unP (.tuple [.int a, .int b])), L, rfl, Evl.ex_t w6.sub hk, w5.fsub Dd _ upd_same, fun p hp => Evl.ex_t w6.sub (qa6.tup p hp), by omega, fun L' c1 c2 => ?_⟩
                  refine ⟨S6, ρ5, A5, L', acc ++ [.tuple [.int a, .int b]], l3.trans (l4.trans (l5.trans l6)), w6.frame, ?_, hc⟩
                  rcases Classical.em (bk2 (unP (.tuple [.int a, .int b])) ∈ L.map (·.2)) with m | m
                  · rw [c1 m]
                    exact qa6.same m
                  · exact qa6.more hk m (c2 m)
              · rw [if_neg ha] at hc; cases hc
  · left
    have hi2 : xs.length ≤ i := Nat.le_of_not_lt hlt
    rw [List.drop_of_length_le hi2] at hc
    have hc : Res.ok acc A2 = .ok ys A9 := hc
    cases hc
    obtain ⟨w4, fr, hq⟩ := w2.unframe hfD
    exact ⟨itok.stop i H2 (l2.ex.trans w2.sub) ((Ex.new hfD).trans w2.fsub) hi2, h S2 ρ2 H2 Dd L l2 w4 fr hq qa⟩
end
end Mi
end

section
set_option maxHeartbeats 4000000
/-! MkC: the row that sorted({.. for ..}) gives. -/
namespace Mi
open PySem PySem.Spec PyProof.Rows L2
open Evl (Ex)
theorem bk_un {p : Lw.Ed} : unB (bk2 p) = p := rfl
theorem un_inj {p q : Lw.Ed} (h : bk2 p = bk2 q) : p = q := by
  have := congrArg unB h
  exact this
section
variable {K : PySem.W.Frag} {S : Hp}
theorem dq_sorted {ys : List PyData} {L L' : List (Addr × List Int)} (r : SeR K S L ys) (ok : ∀ d, d ∈ ys → okP d = true) (pm : L'.Perm L) (nd : (L'.map (·.2)).Nodup)
    (up : L'.Pairwise (fun q r => TS.code 64 q.2 ≤ TS.code 64 r.2)) : DqAll K S (L'.map fun q => V.ref q.1) (Lw.encE (setS (ys.map unP))) := by
  have sh : ∀ p, p ∈ L' → ∃ d, d ∈ ys ∧ p.2 = bk2 (unP d) := fun p hp => r.from' p (pm.mem_iff.mp hp)
  have bd : ∀ p, p ∈ L' → ∃ a b : Int, p.2 = [a, b] ∧ 0 ≤ a ∧ a < 64 ∧ 0 ≤ b ∧ b < 64 := fun p hp => by
    obtain ⟨d, hd, e⟩ := sh p hp
    obtain ⟨a, b, rfl, h1, h2, h3, h4⟩ := okP_tup (ok d hd)
    exact ⟨a, b, e, h1, h2, h3, h4⟩
  have asc : (L'.map fun q => unB q.2).Pairwise Lw.pLt := by
    rw [List.pairwise_map]
    have nd2 : L'.Pairwise (fun q r => q.2 ≠ r.2) := by
      rw [List.nodup_iff_pairwise_ne, List.pairwise_map] at nd
      exact nd
    refine (up.and nd2).imp_of_mem fun {q r} hq hr h => ?_
    obtain ⟨a, b, e1, h1, h2, h3, h4⟩ := bd q hq
    obtain ⟨c, d, e2, k1, k2, k3, k4⟩ := bd r hr
    rw [e1, e2] at h ⊢
    exact pair_lt h.1 h.2 ⟨h1, h2⟩ ⟨h3, h4⟩ ⟨k1, k2⟩ ⟨k3, k4⟩
  have e : setS (ys.map unP) = L'.map fun q => unB q.2 := by
    refine Lw.asc_ext (setS_asc _) asc fun p => ?_
    rw [setS_mem, List.mem_map, List.mem_map]
    constructor
    · rintro ⟨d, hd, rfl⟩
      obtain ⟨q, hq, e⟩ := List.mem_map.mp (r.all d hd)
      exact ⟨q, pm.mem_iff.mpr hq, by rw [e]; rfl⟩
    · rintro ⟨q, hq, rfl⟩
      obtain ⟨d, hd, e⟩ := sh q hq
      exact ⟨d, hd, by rw [e]; rfl⟩
  rw [e]
  clear e asc up nd
  have tp : ∀ p, p ∈ L' → SqT K S p.1 (p.2.map V.int) := fun p hp => r.tup p (pm.mem_iff.mp hp)
  clear pm sh r
  induction L' with
  | nil => exact .nil
  | cons p L' ih =>
    obtain ⟨a, b, e, _⟩ := bd p List.mem_cons_self
    have h := tp p List.mem_cons_self
    rw [e] at h
    have hd : unB p.2 = (a, b) := by rw [e]; rfl
    show DqAll K S (V.ref p.1 :: _) (Lw.encP (unB p.2) :: _)
    rw [hd]
    exact .cons (.tup h (DqAll.ints [a, b])) (ih (fun q hq => bd q (List.mem_cons_of_mem _ hq)) fun q hq => tp q (List.mem_cons_of_mem _ hq))
end
section
variable {K : PySem.W.Frag} {W : WX} {P : Program} {w : World}
theorem t_srtS {it : MI} {g : TG} {gm : MG} {is : List Nat} {tt : MT} {te : ME} {vs : List Nat} (hg : GOk K g gm is) (hi : ∀ i ∈ is, i ∈ vs) : ∀ σ H Q, tL K W (lSrtS it gm tt te vs) σ H Q →
    tCB (rSortedT K P w) (tCons (fun σ H Q => tI K W it σ H fun J H1 => TcI K P w J g (tT K W0 tt) (tE K W0 te) vs σ H1 Q) tNil) σ H Q := fun σ H Q ⟨F, S, ρ, s, A, wo, sr, h⟩ => by
  refine ⟨F, S, ρ, s, A, wo, sr, ?_⟩
  unfold lSrtS at h
  cases e : it s A with
  | bad => rw [e] at h; exact h
  | exn x A1 => rw [e] at h; exact h
  | ok xs A1 =>
    rw [e] at h
    dsimp only [Res.bind] at h
    intro S1 ρ1 H1 J l1 w1 itok
    cases ec : compL (turnC gm tt te (wipeS s vs)) xs [] A1 with
    | bad => rw [ec] at h; exact h.elim
    | exn x A2 => rw [ec] at h; exact h.elim
    | ok ys A2 =>
      rw [ec] at h
      dsimp only [Res.bind, noX] at h
      by_cases c : ys.length < 63 ∧ ys.all okP = true
      · have ep : pairsIn ys = some (ys.map unP) := if_pos c
        rw [ep] at h
        refine tc_core hg hi w1 (sr.mono l1) (itok F) ec c fun S2 ρ2 H2 Dd L l2 w2 fr hD qa => ?_
        have okd : ∀ d, d ∈ ys → okP d = true := fun d hd => List.all_eq_true.mp c.2 d hd
        refine ⟨Dd, L, 2, 64, rfl, hD, fun p hp => Evl.ex_t w2.sub (qa.tup p hp), by omega, fun p hp => ?_, fun L' q pm nd lt up hq => ?_⟩
        · obtain ⟨d, hd, ed⟩ := qa.from' p hp
          obtain ⟨a, b, rfl, h1, h2, h3, h4⟩ := okP_tup (okd d hd)
          rw [ed]
          refine ⟨rfl, fun m hm => ?_⟩
          have hm : m ∈ [a, b] := hm
          rcases List.mem_cons.mp hm with rfl | hm
          · exact ⟨h1, h2⟩
          · rw [List.mem_singleton] at hm
            subst hm
            exact ⟨h3, h4⟩
        · have gr := Grow.side (o := HO.lst (L'.map fun q => V.ref q.1)) w2.sub hq
          have f2 := w2.fresh hq
          exact h S2 ρ2 _ q _ (l1.trans l2) (w2.grow gr) f2 upd_same (dq_sorted qa okd pm nd up)
      · have ep : pairsIn ys = none := if_neg c
        rw [ep] at h
        exact h.elim
end
section
variable {X : Cx} {W : WX} {p pos : Pos}
theorem xl_srtS {elt tg iter : Expr} {ifs : List Expr} {scope : Scope} {own : List (Str × Nat)} {pos2 : Pos} {it : MI} {g : TG} {gm : MG} {is : List Nat} {tt : MT} {te : ME}
    (hm : X.mg "sorted" = none) (hu : X.A.units + 65 < cLine) (hc : X.calm = true) (hg0 : Gl X "sorted") (hN : X.N.Nodup) (hi : PI X tg iter (tI X.K W it)) (ok : BlkOk X.N X.env.scope scope own) (hgo : GOk X.K g gm is) (his : ∀ i ∈ is, i ∈ own.map (·.2))
    (hg : Blks X scope fun Y => PG Y tg g) (ht : Blks X scope fun Y => PTs Y ifs (tT X.K W0 tt)) (he : Blks X scope fun Y => PE Y elt (tE X.K W0 te))
    (fold : ∀ x, foldedSetIterable iter X.env x = pure x := by intro _; rfl)
    (nb : starEach [Expr.SetComp elt [⟨tg, iter, ifs, 0⟩] scope pos2] X.env = (false, eval (.SetComp elt [⟨tg, iter, ifs, 0⟩] scope pos2) X.env) :: starEach [] X.env := by rfl) :
    PE X (.Call (.Name "sorted" p) [.SetComp elt [⟨tg, iter, ifs, 0⟩] scope pos2] [] pos) (tL X.K W (lSrtS it gm tt te (own.map (·.2)))) :=
  pe_imp (pe_callB (cr_sortedT hc) hg0 hm PyProof.Rows.boot_sorted (pa_cons (pe_tc hc (by omega) hN hi ok hg ht he fold) pa_nil nb) (by decide) (by decide) nb (by rfl)) (t_srtS hgo his)
end
section
variable {PL : List PyData → Arn → Prop} {s : Slt} {A : Arn}
theorem To_srtS (f : PyData → Option PyData) {it : MI} {gm : MG} {tt : MT} {te : ME} {vs : List Nat} (hi : (it s A).To fun xs A1 => A1 = A ∧ (∀ x, x ∈ xs → turnC gm tt te (wipeS s vs) x A = .ok (f x) A) ∧ xs.length ≤ 100000 ∧
    ∃ ps : List Lw.Ed, xs.filterMap f = Lw.encE ps ∧ ps.length < 63 ∧ (∀ p, p ∈ ps → 0 ≤ p.1 ∧ p.1 < 64 ∧ 0 ≤ p.2 ∧ p.2 < 64) ∧ PL (Lw.encE (setS ps)) A) : (lSrtS it gm tt te vs s A).To PL := by
  unfold lSrtS
  refine To_bind.mpr (hi.mono fun xs A1 => ?_)
  rintro ⟨rfl, h, hl, ps, e, lt, bd, q⟩
  rw [compL_pure xs [] h (by simpa using hl), e, List.nil_append]
  have hun : ∀ p : Lw.Ed, unP (Lw.encP p) = p := fun _ => rfl
  have hp : pairsIn (Lw.encE ps) = some ps := by
    unfold pairsIn
    rw [if_pos]
    · unfold Lw.encE
      rw [List.map_map]
      congr 1
      exact List.map_id' ps
    · refine ⟨by rw [Lw.encE_length]; exact lt, List.all_eq_true.mpr fun d hd => ?_⟩
      obtain ⟨p, hp, rfl⟩ := List.mem_map.mp hd
      have := bd p hp
      show (decide (0 ≤ p.1) && decide (p.1 < 64) && decide (0 ≤ p.2) && decide (p.2 < 64)) = true
      simp only [Bool.and_eq_true, decide_eq_true_eq]
      omega
  show Res.To ((Res.ok (Lw.encE ps) A1).bind fun ys A2 => match pairsIn ys with
    | some ps => Res.ok (Lw.encE (setS ps)) A2
    | none => .bad) PL
  rw [To_bind, To_ok, hp]
  exact To_ok.mpr q
end
end Mi
end

section
set_option maxHeartbeats 4000000
/-! MkD: the least and the greatest of a row, a list told some times, arguments by name in another order. -/
namespace Mi
open PySem PySem.Spec PyProof.Rows L2
open Evl (Ex)
/-! ### min(row), max(row) -/
def least1 (ns : List Int) : Option PyData := match ns with
  | n :: r => some (.int (r.foldl min n))
  | [] => none
def most1 (ns : List Int) : Option PyData := match ns with
  | n :: r => some (.int (r.foldl max n))
  | [] => none
def fMin1 (ds : List PyData) : Option PyData := match ds with
  | [.list xs] => (intsOf xs).bind least1
  | [.tuple xs] => (intsOf xs).bind least1
  | _ => none
def fMax1 (ds : List PyData) : Option PyData := match ds with
  | [.list xs] => (intsOf xs).bind most1
  | [.tuple xs] => (intsOf xs).bind most1
  | _ => none
theorem alike_ints (ns : List Int) : PySem.W.AlikeAll (ns.map PyData.int) := by
  refine ⟨fun a ha b hb => ?_, fun a ha e => ?_⟩
  · obtain ⟨i, _, rfl⟩ := List.mem_map.mp ha
    obtain ⟨j, _, rfl⟩ := List.mem_map.mp hb
    simp only [PySem.W.alike]
  · obtain ⟨i, _, rfl⟩ := List.mem_map.mp ha
    cases e
theorem depth_ints : ∀ ns : List Int, PyData.depthAll (ns.map PyData.int) = 0
  | [] => rfl
  | n :: r => by
    rw [List.map_cons, PyData.depthAll, depth_ints r]
    simp [PyData.depth]
theorem noDict_ints : ∀ ns : List Int, noDictAll (ns.map PyData.int) = true
  | [] => rfl
  | n :: r => by
    rw [List.map_cons, noDictAll, noDict_ints r]
    rfl
section
variable {X : Cx}
theorem reads_int {h : Heap} {v : Value} {i : Int} {as : List Addr} (r : Reads h v (.int i) as) : ∃ t, v = .int i t := by
  cases r
  exact ⟨_, rfl⟩
theorem c_min1 (hc : X.calm = true) (hu : X.A.units + 65 < cLine) : CallR X (.builtin "min") (rPN X.K fMin1) := by
  intro pins s σ H xs us Q I r ⟨S, ds, z, ex, va, hf, q⟩
  have fin : ∀ (n : Int) (ns : List Int), z = .int (ns.foldl min n) → ∀ (i : Nat) v h' tk bs, (∀ b o, s.heap.get? b = some o → h'.get? b = some o) → Reads h' v (PySem.W.minD (.int n) (ns.map .int)) bs → EP X pins σ Q v { s with heap := h', toks := tk } := by
    intro n ns ez i v h' tk bs hk hr
    rw [PySem.W.minD_ints] at hr
    obtain ⟨t, rfl⟩ := reads_int hr
    exact ⟨.int _, H, I.kept hk, ⟨t, rfl⟩, q.now ex (by rw [ez]; exact .int _)⟩
  unfold fMin1 at hf
  split at hf
  · rename_i ys
    cases e : intsOf ys with
    | none => rw [e] at hf; cases hf
    | some ns =>
      rw [e] at hf
      obtain rfl := intsOf_eq e
      cases ns with
      | nil => cases hf
      | cons n ns =>
        cases hf
        obtain ⟨v, rfl, v1⟩ := va.one
        cases r with
        | cons rv rr =>
          cases rr
          obtain ⟨as, rd, _⟩ := vw_reads I ex v1 (.inl (by rw [noDict]; exact noDict_ints _)) rv
          cases rd with
          | list h1 h2 h3 h4 =>
            exact PySem.W.min_list_data (I.ok.hd hc) ⟨_, h1, h2, _, h3⟩ h4 (alike_ints (n :: ns)) (by have := depth_ints (n :: ns); rw [List.map_cons] at this; rw [this]; omega) fun i v h' tk bs _ hr hk => fin n ns rfl i v h' tk bs hk hr
  · rename_i ys
    cases e : intsOf ys with
    | none => rw [e] at hf; cases hf
    | some ns =>
      rw [e] at hf
      obtain rfl := intsOf_eq e
      cases ns with
      | nil => cases hf
      | cons n ns =>
        cases hf
        obtain ⟨v, rfl, v1⟩ := va.one
        cases r with
        | cons rv rr =>
          cases rr
          obtain ⟨as, rd, _⟩ := vw_reads I ex v1 (.inl (by rw [noDict]; exact noDict_ints _)) rv
          cases rd with
          | tuple h1 h2 h3 h4 =>
            exact PySem.W.min_tuple_data (I.ok.hd hc) ⟨_, h1, h2, _, h3⟩ h4 (alike_ints (n :: ns)) (by have := depth_ints (n :: ns); rw [List.map_cons] at this; rw [this]; omega) fun i v h' tk bs _ hr hk => fin n ns rfl i v h' tk bs hk hr
  · cases hf
theorem c_max1 (hc : X.calm = true) (hu : X.A.units + 65 < cLine) : CallR X (.builtin "max") (rPN X.K fMax1) := by
  intro pins s σ H xs us Q I r ⟨S, ds, z, ex, va, hf, q⟩
  have fin : ∀ (n : Int) (ns : List Int), z = .int (ns.foldl max n) → ∀ (i : Nat) v h' tk bs, (∀ b o, s.heap.get? b = some o → h'.get? b = some o) → Reads h' v (PySem.W.maxD (.int n) (ns.map .int)) bs → EP X pins σ Q v { s with heap := h', toks := tk } := by
    intro n ns ez i v h' tk bs hk hr
    rw [PySem.W.maxD_ints] at hr
    obtain ⟨t, rfl⟩ := reads_int hr
    exact ⟨.int _, H, I.kept hk, ⟨t, rfl⟩, q.now ex (by rw [ez]; exact .int _)⟩
  unfold fMax1 at hf
  split at hf
  · rename_i ys
    cases e : intsOf ys with
    | none => rw [e] at hf; cases hf
    | some ns =>
      rw [e] at hf
      obtain rfl := intsOf_eq e
      cases ns with
      | nil => cases hf
      | cons n ns =>
        cases hf
        obtain ⟨v, rfl, v1⟩ := va.one
        cases r with
        | cons rv rr =>
          cases rr
          obtain ⟨as, rd, _⟩ := vw_reads I ex v1 (.inl (by rw [noDict]; exact noDict_ints _)) rv
          cases rd with
          | list h1 h2 h3 h4 =>
            exact PySem.W.max_list_data (I.ok.hd hc) ⟨_, h1, h2, _, h3⟩ h4 (alike_ints (n :: ns)) (by have := depth_ints (n :: ns); rw [List.map_cons] at this; rw [this]; omega) fun i v h' tk bs _ hr hk => fin n ns rfl i v h' tk bs hk hr
  · rename_i ys
    cases e : intsOf ys with
    | none => rw [e] at hf; cases hf
    | some ns =>
      rw [e] at hf
      obtain rfl := intsOf_eq e
      cases ns with
      | nil => cases hf
      | cons n ns =>
        cases hf
        obtain ⟨v, rfl, v1⟩ := va.one
        cases r with
        | cons rv rr =>
          cases rr
          obtain ⟨as, rd, _⟩ := vw_reads I ex v1 (.inl (by rw [noDict]; exact noDict_ints _)) rv
          cases rd with
          | tuple h1 h2 h3 h4 =>
            exact PySem.W.max_tuple_data (I.ok.hd hc) ⟨_, h1, h2, _, h3⟩ h4 (alike_ints (n :: ns)) (by have := depth_ints (n :: ns); rw [List.map_cons] at this; rw [this]; omega) fun i v h' tk bs _ hr hk => fin n ns rfl i v h' tk bs hk hr
  · cases hf
/-! ### a list told some times -/
def fRep (a b : PyData) : Option PyData := match a, b with
  | .list xs, .int k => if 0 ≤ k ∧ k ≤ 100 ∧ xs.length ≤ 1000 then some (.list (List.replicate k.toNat xs).flatten) else none
  | _, _ => none
theorem dq_rep {K : PySem.W.Frag} {S : Hp} {vs : List V} {xs : List PyData} (h : DqAll K S vs xs) : ∀ n : Nat, DqAll K S (List.replicate n vs).flatten (List.replicate n xs).flatten
  | 0 => .nil
  | n + 1 => by
    rw [List.replicate_succ, List.replicate_succ, List.flatten_cons, List.flatten_cons]
    exact h.append (dq_rep h n)
theorem o_rep : OpR X (binaryOp .Mult) (rO2 X.K fRep) := by
  intro pins s σ H x y v u Q I rx ry ⟨S, d, e, z, ex, v1, v2, hf, q⟩
  unfold fRep at hf
  split at hf
  · split at hf
    · rename_i xs k c
      cases hf
      obtain ⟨a, vs, rfl, h2, h3⟩ := v1.list ex
      have hb : xs.length * k.toNat ≤ 1000 * 100 := Nat.mul_le_mul c.2.2 (by omega)
      refine op_rep pins s σ H _ _ v u Q I rx ry ⟨a, k, vs, rfl, Vw.int (.inl v2), h2, by omega, by omega, small_line (by rw [DqAll.length h3]; omega), fun p hp => q.lst ex hp (dq_rep h3 _)⟩
    · cases hf
  · cases hf
end
/-! ### all by name, in another order -/
def permL {α : Type} (π : List Nat) (xs : List α) : List α := π.filterMap fun i => xs[i]?
def mPerm (π : List Nat) (m : MA) : MA := fun s A => (m s A).bind fun ds A1 => .ok (permL π ds) A1
theorem Paired.get {α β : Type} {R : α → β → Prop} : ∀ {xs : List α} {ys : List β}, Paired R xs ys → ∀ i : Nat, (xs[i]? = none ∧ ys[i]? = none) ∨ ∃ x y, xs[i]? = some x ∧ ys[i]? = some y ∧ R x y
  | _, _, .nil, i => .inl ⟨by simp, by simp⟩
  | _, _, .cons h q, 0 => .inr ⟨_, _, rfl, rfl, h⟩
  | _, _, .cons h q, i + 1 => by simpa using Paired.get q i
theorem Paired.perm {α β : Type} {R : α → β → Prop} {xs : List α} {ys : List β} (h : Paired R xs ys) : ∀ π : List Nat, Paired R (permL π xs) (permL π ys)
  | [] => .nil
  | i :: π => by
    have ih := Paired.perm h π
    unfold permL at ih ⊢
    rw [List.filterMap_cons, List.filterMap_cons]
    rcases Paired.get h i with ⟨e1, e2⟩ | ⟨x, y, e1, e2, r⟩
    · rw [e1, e2]
      exact ih
    · rw [e1, e2]
      exact .cons r ih
section
variable {X : Cx} {W : WX} {k : Nat} {f : Addr} {fd : FuncData} {ps ks : List Str} {n : Nat} {fm : MF} {x : Str} {p pos : Pos} {π : List Nat} {m : MA}
theorem alen_perm (h : ∀ {α : Type} (xs : List α), xs.length = n → (permL π xs).length = π.length) (hm : ALen m n) : ALen (mPerm π m) π.length := fun s A ds A' e => by
  unfold mPerm at e
  cases e1 : m s A with
  | bad => rw [e1] at e; cases e
  | exn x A1 => rw [e1] at e; cases e
  | ok ds2 A1 =>
    rw [e1] at e
    cases e
    exact h _ (hm _ _ _ _ e1)
def tCallP (π : List Nat) (N : Nat) (sp : Sp) (E : L2.St → XK) (t : TA) : TE := fun σ H Q => t σ H fun vs H1 => vs.length = N ∧ sp (permL π vs) H1 Q (E σ)
theorem t_callP {K : PySem.W.Frag} {N M : Nat} (fm : MF) (h0 : ALen (mPerm π m) N) (h9 : ALen m M) : ∀ σ H Q, tE K W (mCall fm (mPerm π m)) σ H Q → tCallP π M (spM K N fm) (WE W) (tA K W m) σ H Q := fun σ H Q ⟨F, S, ρ, s, A, w, sr, h⟩ => by
  refine ⟨F, S, ρ, s, A, w, sr, ?_⟩
  have hl := h0 s A
  unfold mCall mPerm at h
  unfold mPerm at hl
  cases e : m s A with
  | bad => rw [e] at h; exact h
  | exn x A1 => rw [e] at h; exact h
  | ok ds A1 =>
    rw [e] at h hl
    intro S1 ρ1 H1 xs l1 w1 r1
    refine ⟨by rw [← Paired.length r1]; exact h9 _ _ _ _ e, F, S1, ρ1, A1, permL π ds, hl _ _ rfl, Paired.perm r1 π, w1, ?_⟩
    have h : EndG K W F (RD K) S ρ σ Q (fm (permL π ds) A1) := h
    cases ef : fm (permL π ds) A1 with
    | bad => rw [ef] at h; exact h
    | exn x A2 => rw [ef] at h; exact fun S' ρ' H' c d l w' er => h S' ρ' H' c d (l1.trans l) w' er
    | ok v A2 => rw [ef] at h; exact fun S' ρ' H' x l w' er => h S' ρ' H' x (l1.trans l) w' er
def PBinds (K : PySem.W.Frag) (fd : FuncData) (ps ks : List Str) (π : List Nat) : Prop := ∀ (s : Shared) (us : List Value), K.In s.heap → us.length = ks.length → BindsTo s fd ⟨[], ks.zip us⟩ (ps.zip (permL π us))
theorem xe_callP {kws : List Keyword} (F : FnG X.prog X.w X.K X.mg X.base k f fd ps fm) (tk : Takes X W) (hgd : X.A.guards = some []) (hr : Room k X.A) (hg : Gl X x) (hm : X.mg x = some (.ref f)) (hk : PySem.W.keepIn X.K (.ref f) = true)
    (hb : PBinds X.K fd ps ks π) (hn : ALen (mPerm π m) ps.length) (hkl : ALen m ks.length)
    (ha : PK X kws (tA X.K W m)) (hall : (backToKw pos (keywordEach kws X.env)).all (·.1.isSome) = true := by rfl) (hks : (backToKw pos (keywordEach kws X.env)).filterMap (·.1) = ks := by rfl) (hdb : (x == ("__debug__" : Str)) = false := by decide)
    (hpl : ((backTo pos (starEach [] X.env)).any (·.1) || (backToKw pos (keywordEach kws X.env)).any (·.1.isNone)) = false := by rfl) :
    PE X (.Call (.Name x p) [] kws pos) (tE X.K W (mCall fm (mPerm π m))) := by
  refine ⟨fun pins s σ H Q I h => ?_⟩
  have h' := t_callP fm hn hkl σ H Q h
  refine wpAny_Call_Name_kw (ld_glob I hg hm ?_ hdb)
  refine PySem.W.callWith_KW0 (h₀ := X.base) I.ok.mod.kin hk hall (thn (ha.run pos pins s σ H _ I h') fun us s1 ⟨vs, H1, I1, r, hv, q⟩ => ⟨I1.kIn, wpAny_call ?_⟩) hpl
  rw [hks]
  have h2 : us.length = ks.length := by rw [← r.length]; exact hv
  exact run_own F tk hgd hr I1 (hb s1 us I1.kIn h2) (Paired.perm r π) q
@[simp] theorem To_perm {P : List D → Arn → Prop} {s : Slt} {A : Arn} : (mPerm π m s A).To P ↔ (m s A).To fun ds A1 => P (permL π ds) A1 := by
  unfold mPerm
  rw [To_bind]
  simp only [To_ok]
@[simp] theorem perm_10 {α : Type} {a b : α} : permL [1, 0] [a, b] = [b, a] := rfl
theorem permlen_10 {α : Type} (xs : List α) (h : xs.length = 2) : (permL [1, 0] xs).length = [1, 0].length := by
  match xs, h with
  | [a, b], _ => rfl
end
end Mi
end

section
set_option maxHeartbeats 4000000
/-! MkE: a block within a block. -/
namespace Mi
open PySem PySem.Spec PyProof.Rows L2
open Evl (Ex)
/-- the names of a block as they stand in it, by the names around it -/
def relSc (scope sc : Scope) : Scope :=
  { scope with names := scope.names.map fun q => match q with
    | (n, k) => if (k == .free && sc.kind == .function && sc.names.lookup n == some .cell) then (n, .cell) else (n, k) }
theorem relSc_eq (scope : Scope) (env : Env) : relabel scope env = relSc scope env.scope := rfl
theorem blkOk_in {N : List Str} {scope0 scope : Scope} {env : Env} {cl : List (Str × Addr)} {C : Addr} {own : List (Str × Nat)} (h : blkC N (relSc scope0 env.scope) scope own = true) :
    BlkOk N (compEnvC scope0 cl C env).scope scope own := by
  have e : (compEnvC scope0 cl C env).scope = relSc scope0 env.scope := relSc_eq scope0 env
  rw [e]
  exact blkOk_by h
end Mi
end

section
set_option maxHeartbeats 4000000
/-! MkF: starred things in a display, names told by a list. -/
namespace Mi
open PySem PySem.Spec PyProof.Rows L2
open Evl (Ex)
def starOf (d : D) : Option (List PyData) := match d with
  | .p (.list xs) => some xs
  | .p (.tuple xs) => some xs
  | _ => none
def aStar (m : ME) (k : MA) : MA := fun s A => (m s A).bind fun d A1 => match starOf d with
  | some xs => (k s A1).bind fun ds A2 => .ok (xs.map D.p ++ ds) A2
  | none => .bad
section
variable {K : PySem.W.Frag} {W : WX} {X : Cx}
theorem paired_p {S : Hp} {ρ : List Addr} : ∀ {vs : List V} {xs : List PyData}, DqAll K S vs xs → Paired (RD K S ρ) (xs.map D.p) vs
  | _, _, .nil => .nil
  | _, _, .cons h q => .cons h (paired_p q)
theorem Paired.app {α β : Type} {R : α → β → Prop} : ∀ {xs : List α} {ys : List β} {us : List α} {vs : List β}, Paired R xs ys → Paired R us vs → Paired R (xs ++ us) (ys ++ vs)
  | _, _, _, _, .nil, r => r
  | _, _, _, _, .cons h q, r => .cons h (Paired.app q r)
theorem t_star {m : ME} {k : MA} : ∀ σ H Q, tA K W (aStar m k) σ H Q → StX.tStar K (tE K W m) (tA K W k) σ H Q := fun σ H Q ⟨F, S, ρ, s, A, w, sr, h⟩ =>
  ⟨F, S, ρ, s, A, w, sr, (EndG.bind h).imp fun x H1 ⟨S1, ρ1, A1, a, l1, w1, r1, h1⟩ => by
    have fin : ∀ (xs : List PyData) (vs : List V), DqAll K S1 vs xs → EndG K W F (RDs K) S1 ρ1 σ Q ((k s A1).bind fun ds A2 => .ok (xs.map D.p ++ ds) A2) → tA K W k σ H1 fun ys H2 => Q (vs ++ ys) H2 := fun xs vs q h2 =>
      ⟨F, S1, ρ1, s, A1, w1, sr.mono l1, (EndG.bind h2).imp fun y H2 ⟨S2, ρ2, A2, b, l2, w2, r2, h3⟩ => EndG.ok h3 w2 (Paired.app (RDs.mono l2 (paired_p q)) r2)⟩
    cases a with
    | ref n => exact h1.elim
    | scr ns => exact h1.elim
    | p d =>
      cases d with
      | list xs =>
        cases r1 with
        | lst e q => exact ⟨_, _, rfl, .inr (.inl (.inl (w1.sub _ _ e))), fin xs _ q h1⟩
      | tuple xs =>
        cases r1 with
        | tup e q => exact ⟨_, _, rfl, .inl (Evl.ex_t w1.sub e), fin xs _ q h1⟩
      | none => exact h1.elim
      | int i => exact h1.elim
      | str x => exact h1.elim
      | bool x => exact h1.elim
      | dict x => exact h1.elim⟩
theorem xa_star {e : Expr} {es : List Expr} {p : Pos} {m : ME} {k : MA} (he : PE X e (tE X.K W m)) (hr : PA X es (tA X.K W k)) (hs : starEach (.Starred e p :: es) X.env = (true, eval e X.env) :: starEach es X.env := by rfl) :
    PA X (.Starred e p :: es) (tA X.K W (aStar m k)) := pa_imp (StX.pa_star he hr hs) t_star
/-! names told by a list -/
def gLs (r : List PyData → Slt → Option Slt) : MG := fun x s => match x with
  | .list xs => r xs s
  | _ => none
theorem gok_lst {gs : TGs} {ms : List PyData → Slt → Option Slt} {is : List Nat} {n : Nat} (h : GsOk K gs ms is) (hn : ∀ xs s s', ms xs s = some s' → xs.length = n) : GOk K (gUnl K n gs) (gLs ms) is := fun S ρ s s' σ H v x Q ex sr q e k => by
  cases q with
  | lst hq qa =>
    have e : ms _ s = some s' := e
    exact ⟨_, _, rfl, .inl (.inl (ex _ _ hq)), (DqAll.length qa).trans (hn _ _ _ e), h S ρ s s' σ H _ _ Q ex sr qa e k⟩
  | non => cases e
  | bl _ => cases e
  | int _ => cases e
  | str _ => cases e
  | tup _ _ => cases e
  | dic _ => cases e
@[simp] theorem gLs_ap {r : List PyData → Slt → Option Slt} {xs : List PyData} {s : Slt} : gLs r (.list xs) s = r xs s := rfl
@[simp] theorem To_star {m : ME} {k : MA} {s : Slt} {A : Arn} {P : List D → Arn → Prop} : (aStar m k s A).To P ↔ (m s A).To fun d A1 => ∃ xs, starOf d = some xs ∧ (k s A1).To fun ds A2 => P (xs.map D.p ++ ds) A2 := by
  unfold aStar
  rw [To_bind]
  refine iff_of_eq (congrArg _ (funext fun d => funext fun A1 => ?_))
  cases e : starOf d with
  | none => simp
  | some xs => simp
@[simp] theorem starOf_l {xs : List PyData} : starOf (.p (.list xs)) = some xs := rfl
@[simp] theorem starOf_t {xs : List PyData} : starOf (.p (.tuple xs)) = some xs := rfl
theorem frzs_ps : ∀ (xs : List PyData) (ds : List D) (A : Arn), frzs (xs.map D.p ++ ds) A = (frzs ds A).map fun z => (xs ++ z.1, z.2)
  | [], ds, A => by
    simp
  | x :: xs, ds, A => by
    rw [List.map_cons, List.cons_append, frzs_p, frzs_ps xs ds A]
    cases frzs ds A <;> simp
end
end Mi
end

section
set_option maxHeartbeats 4000000
/-! MkG: enumerate of a list or a tuple, from any count on. -/
namespace Mi
open PySem PySem.Spec PyProof.Rows L2
open Evl (Ex)
def SqB (K : PySem.W.Frag) (tp : Bool) (H : Hp) (a : Addr) (xs : List V) : Prop := if tp = true then SqT K H a xs else SqL K H a xs
def IsB (tp : Bool) (h : Heap) (a : Addr) (its : Array Value) : Prop := if tp = true then h.IsTuple a its else h.IsList a its
def ItB (tp : Bool) (h : Heap) (it a : Addr) (i : Nat) : Prop := if tp = true then h.IsTupleIter it a i else h.IsListIter it a i
section
variable {X : Cx} {pins : List (Addr × Obj)} {σ : L2.St} {H : Hp} {s : Shared}
theorem row_at_ {tp : Bool} {a : Addr} {xs : List V} (iv : Inv X pins σ H s) (h : SqB X.K tp H a xs) : ∃ its : List Value, Vals xs its ∧ IsB tp s.heap a its.toArray := by
  cases tp with
  | false =>
    obtain ⟨its, rv, p, _⟩ := iv.list h
    exact ⟨its, rv, p.isList⟩
  | true =>
    obtain ⟨its, rv, p, _⟩ := iv.tuple h
    exact ⟨its, rv, p⟩
theorem row_inj {tp : Bool} {a : Addr} {xs ys : List V} (iv : Inv X pins σ H s) (h : SqB X.K tp H a xs) (k : SqB X.K tp H a ys) : xs = ys := by
  cases tp with
  | false => exact iv.list_inj h k
  | true => exact iv.tuple_inj h k
theorem drawsB {P : Program} {w : World} {A : Around} (hh : A.handled = none) (tp : Bool) (it a : Addr) (hne : a ≠ it) (its : Array Value) :
    Draws P w A it [it, a] its.size (fun i v => its[i]? = some v) (fun i h => ItB tp h it a i ∧ IsB tp h a its) := by
  cases tp with
  | false => exact Draws.list hh it a hne its
  | true => exact Draws.tuple hh it a hne its
/-- the row at a, each item in a new pair behind its count -/
def Itn (K : PySem.W.Frag) (tp : Bool) (a : Addr) (k : Int) : It where
  go := fun i H => ∃ (xs : List V) (x : V), SqB K tp H a xs ∧ xs[i]? = some x
  yld := fun i H v H' => ∃ T x, v = .ref T ∧ H T = none ∧ H' = upd H T (.tup [.int (k + (i : Nat)), x]) ∧ ∀ xs, SqB K tp H a xs → xs[i]? = some x
  stop := fun i H => ∃ xs : List V, SqB K tp H a xs ∧ xs.length ≤ i
theorem iter_obj {tp : Bool} {h : Heap} {it a : Addr} {i : Nat} (st : ItB tp h it a i) : ∃ o, h.get? it = some o ∧ ∀ v, o.data ≠ .cell v := by
  cases tp with
  | false =>
    obtain ⟨o, ho, _, hd⟩ := st
    exact ⟨o, ho, fun v q => by rw [hd] at q; cases q⟩
  | true =>
    obtain ⟨o, ho, _, hd⟩ := st
    exact ⟨o, ho, fun v q => by rw [hd] at q; cases q⟩
theorem iter_keep {tp : Bool} {h h' : Heap} {it a : Addr} {i : Nat} (st : ItB tp h it a i) (k : ∀ o, h.get? it = some o → h'.get? it = some o) : ItB tp h' it a i := by
  cases tp with
  | false => exact Heap.IsListIter.at st k
  | true => exact Heap.IsTupleIter.at st k
theorem apart_it {tp : Bool} {h : Heap} {it a b : Addr} {i : Nat} {its : Array Value} (p : IsB tp h a its) (q : ItB tp h it b i) : a ≠ it := by
  rintro rfl
  cases tp with
  | false =>
    obtain ⟨o1, h1, hc1, n1, hd1⟩ := p
    obtain ⟨o2, h2, hc2, hd2⟩ := q
    rw [h1] at h2
    cases h2
    rw [hc1] at hc2
    injection hc2 with e
    exact absurd e (by decide)
  | true =>
    obtain ⟨o1, h1, hc1, n1, hd1⟩ := p
    obtain ⟨o2, h2, hc2, hd2⟩ := q
    rw [h1] at h2
    cases h2
    rw [hc1] at hc2
    injection hc2 with e
    exact absurd e (by decide)
theorem apart_en {tp : Bool} {h : Heap} {e it a : Addr} {c : Int} {old : Value} {its : Array Value} (p : IsB tp h a its) (q : IsEnum h e it c old) : e ≠ a := by
  rintro rfl
  cases tp with
  | false =>
    obtain ⟨o1, h1, hc1, n1, hd1⟩ := p
    rw [q] at h1
    cases h1
    injection hc1 with e
    exact absurd e (by decide)
  | true =>
    obtain ⟨o1, h1, hc1, n1, hd1⟩ := p
    rw [q] at h1
    cases h1
    injection hc1 with e
    exact absurd e (by decide)
theorem turn_n {P : Program} {w : World} {K : PySem.W.Frag} {elts : List Expr} {kk : Nat} {tpos : Pos} (tp : Bool) (k : Int) (a e it : Addr) :
    Turn P w K (.Tuple elts kk tpos) (Itn K tp a k) [e, it] e (fun i h => (∃ old, IsEnum h e it (k + (i : Nat)) old) ∧ ItB tp h it a i ∧ e ≠ it) where
  mem := by simp
  obj := fun i h st b hb => by
    obtain ⟨⟨old, he⟩, hi, _⟩ := st
    rcases (by simpa using hb : b = e ∨ b = it) with z | z
    · subst z
      exact ⟨_, he, fun v q => nomatch q⟩
    · subst z
      exact iter_obj hi
  keep := fun i h h' st q => by
    obtain ⟨⟨old, he⟩, hi, hne⟩ := st
    exact ⟨⟨old, q e (by simp) _ he⟩, iter_keep hi fun o z => q it (by simp) o z, hne⟩
  item := by
    intro X hP hw hK hc i pins s σ H E iv hf st hg
    subst hP hw hK
    obtain ⟨⟨old, he⟩, hit, hne⟩ := st
    obtain ⟨xs, x, hq, hx⟩ := hg
    obtain ⟨its, rv, p⟩ := row_at_ iv hq
    obtain ⟨u, hu, ru⟩ := rv.get hx
    have hel : e < s.heap.objs.size := Heap.lt_size he
    have hil : it < s.heap.objs.size := by
      obtain ⟨o, q, _⟩ := iter_obj hit
      exact Heap.lt_size q
    have hai := apart_it p hit
    have hae : e ∉ [it, a] := by
      have := apart_en p he
      simp [hne, this]
    have hi : i < its.toArray.size := by
      have := (List.getElem?_eq_some_iff.mp hu).1
      simpa using this
    refine wpAny_pyNext_enum_itemC (drawsB (A := X.A.in1) (show X.A.in1.handled = none from iv.ok.hd hc) tp it a hai its.toArray) he ⟨hit, p⟩ hi hne hae fun y h' tk hP ho hs' hT hsz hk => ?_
    have ey : y = u := by
      have : its.toArray[i]? = some u := by simpa using hu
      rw [this] at hP
      exact (Option.some.inj hP).symm
    subst ey
    refine ⟨_, rfl, wpAny_letOwnedTupleGo_enum (s := { s with heap := h', toks := tk + 1 }) ho fun h'' he' sb => ?_⟩
    have hT2 : h''.get? s.heap.objs.size = some { cls := .type "tuple", data := .seq #[.int (k + (i : Nat)) tk, y] } := (sb.2 _ (Nat.ne_of_gt hel)).trans hT
    have new : ObjOk X.prog X.w (upd H s.heap.objs.size (.tup [.int (k + (i : Nat)), x])) h'' s.heap.objs.size (.tup [.int (k + (i : Nat)), x]) :=
      ⟨by show 2 ≤ sizeLine; decide, [.int (k + (i : Nat)) tk, y], .cons ⟨_, rfl⟩ (.cons ru .nil), ⟨_, hT2, rfl, _, rfl⟩⟩
    have iv1 : Inv X pins σ (upd H s.heap.objs.size (.tup [.int (k + (i : Nat)), x])) { s with heap := h'', toks := tk + 1 } :=
      iv.turnedNew (ch := [e, it]) (fun b ob hb q => (sb.2 b (fun z => hb (by simp [z]))).trans (hk b ob (fun z => hb (by simp [z])) (fun z => hb (by simp [z])) q)) hf (Nat.le_refl _) new
    refine ⟨.ref s.heap.objs.size, _, iv1, rfl, ⟨_, x, rfl, iv.hok.fresh (Nat.le_refl _), rfl, fun ys hy => by rw [row_inj iv hy hq]; exact hx⟩, ⟨⟨y, ?_⟩, iter_keep hs'.1 fun o q => (sb.2 it (Ne.symm hne)).trans q, hne⟩, fun b hb => ?_⟩
    · have e1 : k + ((i + 1 : Nat) : Int) = k + (i : Int) + 1 := by omega
      rw [e1]
      exact he'
    · have hb' : b < s.heap.objs.size := by
        rcases (by simpa using hb : b = e ∨ b = it) with z | z
        · rw [z]; exact hel
        · rw [z]; exact hil
      rw [upd_ne (Nat.ne_of_lt hb')]
      exact (hf b hb).1
  done := by
    intro X hP hw hK hc i pins s σ H E iv hf st hg
    subst hP hw hK
    obtain ⟨⟨old, he⟩, hit, hne⟩ := st
    obtain ⟨xs, hq, hx⟩ := hg
    obtain ⟨its, rv, p⟩ := row_at_ iv hq
    obtain ⟨f0, f1, f2, f3, f4, f5⟩ := hf it (by simp)
    have hl := rv.length
    have hai := apart_it p hit
    have hd1 : X.A.in1.handled = none := iv.ok.hd hc
    have D : Draws X.prog X.w X.A.in1 it [it, a] i (fun _ _ => False) (fun j h => j = i ∧ ItB tp h it a i ∧ IsB tp h a its.toArray) := by
      refine ⟨fun j h st => ?_, fun j h h' st hk => ?_, fun j s Q E hj st _ => absurd st.1 (Nat.ne_of_lt hj), fun s Q E st hE => ?_⟩
      · obtain ⟨o, q, _⟩ := iter_obj st.2.1
        exact ⟨o, q⟩
      · exact ⟨st.1, (drawsB (P := X.prog) (w := X.w) hd1 tp it a hai its.toArray).frame _ _ _ st.2 hk⟩
      · cases tp with
        | false => exact wpAny_nextOf_list_end hd1 st.2.1 st.2.2 (by simp; omega) hE
        | true => exact wpAny_nextOf_tuple_end hd1 st.2.1 st.2.2 (by simp; omega) hE
    exact wpAny_pyNext_enum_endD D he ⟨rfl, hit, p⟩ fun h' eb => ⟨rfl, iv.turned (t' := s.toks) (fun b o hb q => eb b o hb q) f0 f1 f3 f4 f5⟩
  self := fun A i s Q E st h => by
    obtain ⟨⟨_, he⟩, _⟩ := st
    exact wpAny_pyIter_enum he h
end
end Mi
end

section
set_option maxHeartbeats 4000000
/-! MkH: for (i, x) in enumerate(row, start = k), as a function of data. -/
namespace Mi
open PySem PySem.Spec PyProof.Rows L2 PySem.W
open Evl (Ex)
def cnt (k : Int) (i : Nat) (xs : List PyData) : List PyData := match xs with
  | [] => []
  | x :: r => .tuple [.int (k + (i : Nat)), x] :: cnt k (i + 1) r
theorem cnt_length (k : Int) : ∀ (xs : List PyData) (i : Nat), (cnt k i xs).length = xs.length
  | [], _ => rfl
  | x :: r, i => by
    show (cnt k (i + 1) r).length + 1 = r.length + 1
    rw [cnt_length k r]
theorem cnt_get (k : Int) : ∀ (xs : List PyData) (i j : Nat), (cnt k i xs)[j]? = (xs[j]?).map fun x => .tuple [.int (k + ((i + j : Nat) : Int)), x]
  | [], _, _ => by simp [cnt]
  | x :: r, i, 0 => by simp [cnt]
  | x :: r, i, j + 1 => by
    show (cnt k (i + 1) r)[j]? = _
    rw [cnt_get k r (i + 1) j, List.getElem?_cons_succ]
    congr 1
    funext y
    congr 4
    omega
def rowOf (d : D) : Option (Bool × List PyData) := match d with
  | .p (.list xs) => some (false, xs)
  | .p (.tuple xs) => some (true, xs)
  | _ => none
/-- counted from k on -/
def iEnS (k : Int) (m : ME) : MI := fun s A => (m s A).bind fun d A1 => match rowOf d with
  | some (_, xs) => .ok (cnt k 0 xs) A1
  | none => .bad
section
variable {K : PySem.W.Frag} {W : WX} {X : Cx}
theorem itok_n {S0 F0 : Hp} {tp : Bool} {a : Addr} {vs : List V} {xs : List PyData} {k : Int} (h : SqB K tp S0 a vs) (q : DqAll K S0 vs xs) : ItOk K (Itn K tp a k) (cnt k 0 xs) S0 F0 where
  go := fun i H d ex _ e => by
    rw [cnt_get] at e
    cases ex0 : xs[i]? with
    | none => rw [ex0] at e; cases e
    | some x =>
      obtain ⟨v, h1, _⟩ := q.get ex0
      refine ⟨vs, v, ?_, h1⟩
      cases tp with
      | false => exact Evl.ex_l ex h
      | true => exact Evl.ex_t ex h
  yld := fun i S H x H' d es eh _ y e => by
    rw [cnt_get] at e
    cases ex0 : xs[i]? with
    | none => rw [ex0] at e; cases e
    | some z =>
      rw [ex0] at e
      cases e
      obtain ⟨v, h1, h2⟩ := q.get ex0
      obtain ⟨T, w, rfl, hT, rfl, hw⟩ := y
      have hrow : SqB K tp H a vs := by
        cases tp with
        | false => exact Evl.ex_l (es.trans eh) h
        | true => exact Evl.ex_t (es.trans eh) h
      have e2 := hw vs hrow
      rw [h1] at e2
      cases e2
      have hS : S T = none := none_sub eh hT
      refine ⟨upd S T (.tup [.int (k + (i : Nat)), v]), Grow.upd eh hT, ?_⟩
      have e3 : k + ((0 + i : Nat) : Int) = k + (i : Nat) := by rw [Nat.zero_add]
      rw [e3]
      refine .tup (.inl (.inl upd_same)) (.cons (.int _) (.cons (Dq.mono (es.trans (Ex.new hS)) _ _ h2) .nil))
  stop := fun i H ex _ hl => by
    rw [cnt_length] at hl
    refine ⟨vs, ?_, by rw [DqAll.length q]; exact hl⟩
    cases tp with
    | false => exact Evl.ex_l ex h
    | true => exact Evl.ex_t ex h
def iEnumS (K : PySem.W.Frag) (k : Int) (te : TE) : TI := fun σ H R => te σ H fun v H1 => ∃ tp a xs, v = .ref a ∧ SqB K tp H1 a xs ∧ R (Itn K tp a k) H1
theorem t_enS {k : Int} {m : ME} : ∀ σ H R, tI K W (iEnS k m) σ H R → iEnumS K k (tE K W m) σ H R := fun σ H R ⟨F, S, ρ, s, A, w, sr, h⟩ => by
  refine ⟨F, S, ρ, s, A, w, sr, ?_⟩
  unfold iEnS at h
  cases e : m s A with
  | bad => rw [e] at h; exact h
  | exn x A1 => rw [e] at h; exact h
  | ok d A1 =>
    rw [e] at h
    dsimp only [Res.bind] at h
    intro S1 ρ1 H1 v l1 w1 r1
    have go : ∀ (tp : Bool) (a : Addr) (vs : List V) (xs : List PyData), SqB K tp S1 a vs → DqAll K S1 vs xs → (match (Res.ok (cnt k 0 xs) A1 : Res (List PyData)) with
        | .ok xs A' => ∀ S' ρ' H' J, Le S ρ S' ρ' → Wo K F S' ρ' H' A' → (∀ F0, ItOk K J xs S' F0) → R J H'
        | .exn e A' => ∀ S' ρ' H' c d, Le S ρ S' ρ' → Wo K F S' ρ' H' A' → ER K S' e c d H' → W c d σ H'
        | .bad => False) → R (Itn K tp a k) H1 := fun tp a vs xs h1 q hh => hh S1 ρ1 H1 _ l1 w1 fun F0 => itok_n h1 q
    cases d with
    | ref n => exact h.elim
    | scr n => exact h.elim
    | p d =>
      cases d with
      | list xs =>
        cases r1 with
        | lst e q => exact ⟨false, _, _, rfl, Evl.ex_l w1.sub (.inl (.inl e)), go false _ _ xs (.inl (.inl e)) q h⟩
      | tuple xs =>
        cases r1 with
        | tup e q => exact ⟨true, _, _, rfl, Evl.ex_t w1.sub e, go true _ _ xs e q h⟩
      | none => exact h.elim
      | int i => exact h.elim
      | str x => exact h.elim
      | bool x => exact h.elim
      | dict x => exact h.elim
theorem pi_enS {e c : Expr} {te : TE} {p pos kpos tpos : Pos} {elts : List Expr} {kk : Nat} {k : Int} (calm : X.calm = true) (hm : X.mg "enumerate" = none) (hg : Gl X "enumerate") (hk : -(2 ^ 62) ≤ k ∧ k ≤ 1000000)
    (ha : PE X e te) (hc : PE X c (fun _ H Q => Q (.int k) H)) (he : starEach [e] X.env = (false, eval e X.env) :: starEach [] X.env := by rfl) (hall : (backToKw pos (keywordEach [⟨some "start", c, kpos⟩] X.env)).all (·.1.isSome) = true := by rfl)
    (hks : (backToKw pos (keywordEach [⟨some "start", c, kpos⟩] X.env)).filterMap (·.1) = [Str.ofString "start"] := by rfl)
    (hpl : ((backTo pos (starEach [e] X.env)).any (·.1) || (backToKw pos (keywordEach [⟨some "start", c, kpos⟩] X.env)).any (·.1.isNone)) = false := by rfl) :
    PI X (.Tuple elts kk tpos) (.Call (.Name "enumerate" p) [e] [⟨some "start", c, kpos⟩] pos) (iEnumS X.K k te) := by
  have pa : PA X [e] (tCons te tNil) := pa_cons ha pa_nil he
  have pk : PK X [⟨some "start", c, kpos⟩] (tCons (fun _ H Q => Q (.int k) H) tNil) := pk_cons hc pk_nil
  refine ⟨fun pins s σ H R iv h => ?_⟩
  refine wpAny_Call_Name_kw (ld_blt iv hg hm boot_enumerate ?_ (by decide) (by decide))
  refine callWith_of (P := fun _ => True) hpl (fun h _ => ⟨.machine, .inr (.inl rfl), fun A Q E s _ q => wpAny_pure q⟩) (evalArgs_kw2 hall (thn (pa.run pos pins s σ H (fun vs H1 => match vs with
    | [v] => ∃ tp a xs, v = .ref a ∧ SqB X.K tp H1 a xs ∧ R (Itn X.K tp a k) H1
    | _ => False) iv h) fun us s1 got => ?_) he)
  obtain ⟨vs, H1, iv1, r1, got⟩ := got
  cases r1 with
  | nil => exact got.elim
  | cons ru rr =>
    cases rr with
    | cons _ _ => exact got.elim
    | nil =>
      obtain ⟨tp, a, xs, rfl, hq, q⟩ := got
      cases ru
      refine thn (pk.run pos pins s1 σ H1 (fun zs H2 => zs = [.int k] ∧ H2 = H1) iv1 ⟨rfl, rfl⟩) fun ws s2 got2 => ?_
      obtain ⟨zs, H2, iv2, r2, rfl, rfl⟩ := got2
      refine ⟨trivial, ?_⟩
      rw [hks]
      cases r2 with
      | cons r3 r4 =>
        cases r4
        obtain ⟨tk, rfl⟩ := r3
        obtain ⟨its, rv, pl⟩ := row_at_ iv2 hq
        have fin : ∀ h', IsEnum h' (s2.heap.objs.size + 1) s2.heap.objs.size k .none → ItB tp h' s2.heap.objs.size a 0 → (∀ b o, s2.heap.get? b = some o → h'.get? b = some o) →
            wpAny (model X.prog X.w) X.A (pyIter (.ref (s2.heap.objs.size + 1))) (PIE X pins σ (.Tuple elts kk tpos) R) X.xe { s2 with heap := h' } := fun h' he hit hk => by
          refine wpAny_pyIter_enum he ?_
          have iv3 : Inv X pins σ H2 { s2 with heap := h' } := iv2.kept (t' := s2.toks) hk
          have e0 : k + ((0 : Nat) : Int) = k := by omega
          refine ⟨s2.heap.objs.size + 1, [s2.heap.objs.size + 1, s2.heap.objs.size], _, _, H2, rfl, iv3, turn_n tp k a (s2.heap.objs.size + 1) s2.heap.objs.size, ⟨⟨.none, by rw [e0]; exact he⟩, hit, Nat.succ_ne_self _⟩, fun b hb => ?_, q⟩
          have hle : s2.heap.objs.size ≤ b := by
            rcases (by simpa using hb : b = s2.heap.objs.size + 1 ∨ b = s2.heap.objs.size) with z | z
            · rw [z]; exact Nat.le_add_right _ _
            · rw [z]; exact Nat.le_refl _
          exact iv2.fpOk hle (iv2.hok.fresh hle)
        cases tp with
        | false => exact enum_begins_start (begins_list a its.toArray) pl (by omega) (by omega) fun h' he ho _ hk => fin h' he ⟨_, ho, rfl, rfl⟩ hk
        | true => exact enum_begins_start (begins_tuple a its.toArray) pl (by omega) (by omega) fun h' he ho _ hk => fin h' he ⟨_, ho, rfl, rfl⟩ hk
/-- for (i, x) in enumerate(row, start=k) -/
theorem xi_enS {e c : Expr} {m : ME} {p pos kpos tpos : Pos} {elts : List Expr} {kk : Nat} {k : Int} (calm : X.calm = true) (hm : X.mg "enumerate" = none) (hg : Gl X "enumerate") (hk : -(2 ^ 62) ≤ k ∧ k ≤ 1000000)
    (ha : PE X e (tE X.K W m)) (hc : PE X c (fun _ H Q => Q (.int k) H)) (he : starEach [e] X.env = (false, eval e X.env) :: starEach [] X.env := by rfl) (hall : (backToKw pos (keywordEach [⟨some "start", c, kpos⟩] X.env)).all (·.1.isSome) = true := by rfl)
    (hks : (backToKw pos (keywordEach [⟨some "start", c, kpos⟩] X.env)).filterMap (·.1) = [Str.ofString "start"] := by rfl)
    (hpl : ((backTo pos (starEach [e] X.env)).any (·.1) || (backToKw pos (keywordEach [⟨some "start", c, kpos⟩] X.env)).any (·.1.isNone)) = false := by rfl) :
    PI X (.Tuple elts kk tpos) (.Call (.Name "enumerate" p) [e] [⟨some "start", c, kpos⟩] pos) (tI X.K W (iEnS k m)) :=
  ⟨fun pins s σ H R iv h => (pi_enS calm hm hg hk ha hc he hall hks hpl).run pins s σ H R iv (t_enS σ H R h)⟩
end
end Mi
end

section
set_option maxHeartbeats 4000000
/-! MkI: written texts with values in them, join, endswith. -/
namespace Mi
open PySem PySem.Spec PyProof.Rows L2
open Evl (Ex)
/-! ### methods of texts with one argument -/
def mS1 (f : PyData → PyData → Option PyData) (m k : ME) : ME := fun s A => (m s A).bind fun a A1 => if isS a A1 = true then (k s A1).bind fun b A2 => opt1 (lift2 f a b A2) else .bad
section
variable {K : PySem.W.Frag} {W : WX} {X : Cx}
theorem t_S1 {f : PyData → PyData → Option PyData} {r : V → List V → Hp → VK → Prop} {m k : ME} (hr : ∀ S H x y d e z Q, Ex S H → Vw K S H x d → Vw K S H y e → f d e = some z → Gives K S H z Q → r x [y] H Q) :
    ∀ σ H Q, tE K W (mS1 f m k) σ H Q → tM1 r (tE K W m) (tE K W k) σ H Q := fun σ H Q ⟨F, S, ρ, s, A, w, sr, h⟩ =>
  ⟨F, S, ρ, s, A, w, sr, (EndG.bind h).imp fun x H1 ⟨S1, ρ1, A1, a, l1, w1, r1, h1⟩ => by
    by_cases c : isS a A1 = true
    · rw [if_pos c] at h1
      obtain ⟨z, hz⟩ : ∃ z, dataOf a A1 = some (.str z) := by
        unfold isS at c
        split at c
        · exact ⟨_, by assumption⟩
        · cases c
      have hx : x = .str z := (vw_of w1 r1 hz).str
      refine ⟨⟨z, hx⟩, F, S1, ρ1, s, A1, w1, sr.mono l1, (EndG.bind h1).imp fun y H2 ⟨S2, ρ2, A2, b, l2, w2, r2, h2⟩ => ?_⟩
      unfold lift2 at h2
      cases e3 : dataOf a A2 with
      | none => rw [e3] at h2; exact h2.elim
      | some da =>
        rw [e3] at h2
        dsimp only [Option.bind_some] at h2
        cases e4 : dataOf b A2 with
        | none => rw [e4] at h2; exact h2.elim
        | some db =>
          rw [e4] at h2
          dsimp only [Option.bind_some] at h2
          cases e5 : f da db with
          | none => rw [e5] at h2; exact h2.elim
          | some v =>
            rw [e5] at h2
            have va := vw_of w2 (r1.mono l2) e3
            have vb := vw_of w2 r2 e4
            refine hr S2 H2 x y da db v Q w2.sub va vb e5 fun S' H' u g q => ?_
            exact h2 S' ρ2 H' u (g.le ρ2) (w2.grow g) q
    · rw [if_neg c] at h1
      exact h1.elim⟩
def fEnds (a b : PyData) : Option PyData := match a, b with
  | .str a, .str b => some (.bool (Txt.endswith a b))
  | _, _ => none
def strsOf : List PyData → Option (List Str)
  | [] => some []
  | .str x :: r => (strsOf r).map fun xs => x :: xs
  | _ :: _ => none
theorem strsOf_eq : ∀ {ds : List PyData} {xs : List Str}, strsOf ds = some xs → ds = xs.map PyData.str
  | [], _, h => by cases h; rfl
  | .str x :: r, _, h => by
    unfold strsOf at h
    cases e : strsOf r with
    | none => rw [e] at h; cases h
    | some xs =>
      rw [e] at h
      cases h
      rw [strsOf_eq e]
      rfl
  | .none :: _, _, h => by cases h
  | .bool _ :: _, _, h => by cases h
  | .int _ :: _, _, h => by cases h
  | .list _ :: _, _, h => by cases h
  | .tuple _ :: _, _, h => by cases h
  | .dict _ :: _, _, h => by cases h
theorem strsOf_map : ∀ xs : List Str, strsOf (xs.map PyData.str) = some xs
  | [] => rfl
  | x :: r => by
    show (strsOf (r.map PyData.str)).map _ = _
    rw [strsOf_map r]
    rfl
def fJoin (a b : PyData) : Option PyData := match a, b with
  | .str a, .list ds => (strsOf ds).bind fun ys => if (ys.map (·.length)).sum + ys.length * a.length ≤ 100000 then some (.str (Txt.join a ys)) else none
  | _, _ => none
theorem xe_ends {o e : Expr} {m k : ME} {apos pos : Pos} (ho : PE X o (tE X.K W m)) (he : PE X e (tE X.K W k)) (hs : starEach [e] X.env = [(false, eval e X.env)] := by rfl) (hbase : attributeBase o "endswith" X.env (eval o X.env) = eval o X.env := by rfl) (hline : (apos.endLine == pos.line) = true := by rfl) :
    PE X (.Call (.Attribute o "endswith" apos) [e] [] pos) (tE X.K W (mS1 fEnds m k)) := pe_imp (pe_m1 F.slot_str_endswith F.type_str_endswith mt_endswith ho he hs hbase hline) (t_S1 fun S H x y d e z Q ex v1 v2 hf q => by
  unfold fEnds at hf
  split at hf
  · cases hf
    exact ⟨_, _, v1.str, by rw [v2.str], q.now ex (.bl _)⟩
  · cases hf)
theorem xe_join {o e : Expr} {m k : ME} {apos pos : Pos} (ho : PE X o (tE X.K W m)) (he : PE X e (tE X.K W k)) (hs : starEach [e] X.env = [(false, eval e X.env)] := by rfl) (hbase : attributeBase o "join" X.env (eval o X.env) = eval o X.env := by rfl) (hline : (apos.endLine == pos.line) = true := by rfl) :
    PE X (.Call (.Attribute o "join" apos) [e] [] pos) (tE X.K W (mS1 fJoin m k)) := pe_imp (pe_join ho he hs hbase hline) (t_S1 fun S H x y d e z Q ex v1 v2 hf q => by
  unfold fJoin at hf
  split at hf
  · rename_i a ds
    cases e0 : strsOf ds with
    | none => rw [e0] at hf; cases hf
    | some ys =>
      rw [e0] at hf
      dsimp only [Option.bind_some] at hf
      split at hf
      · rename_i c
        cases hf
        obtain rfl := strsOf_eq e0
        obtain ⟨p, vs, rfl, h1, h2⟩ := v2.list ex
        obtain rfl := DqAll.unstrs h2
        exact ⟨_, p, ys, v1.str, rfl, .inl h1, Nat.le_trans c (by decide), q.now ex (.str _)⟩
      · cases hf
  · cases hf)
/-! ### f'..' -/
def fFmt (d : PyData) : Option PyData := match d with
  | .int i => if i.natAbs.log2 < 1920 then some (.str (toString i)) else none
  | .str y => if y.length ≤ 100000 then some (.str y) else none
  | _ => none
def mFmt (m : ME) : ME := mOp1 (lift1 fFmt) m
theorem t_fmt {m : ME} : ∀ σ H Q, tE K W (mFmt m) σ H Q → tFmt (tE K W m) σ H Q := fun σ H Q ⟨F, S, ρ, s, A, w, sr, h⟩ =>
  ⟨F, S, ρ, s, A, w, sr, (EndG.bind h).imp fun x H1 ⟨S1, ρ1, A1, a, l1, w1, r1, h1⟩ => by
    unfold lift1 at h1
    cases e3 : dataOf a A1 with
    | none => rw [e3] at h1; exact h1.elim
    | some da =>
      rw [e3] at h1
      dsimp only [Option.bind_some] at h1
      have va := vw_of w1 r1 e3
      cases e5 : fFmt da with
      | none => rw [e5] at h1; exact h1.elim
      | some v =>
        rw [e5] at h1
        unfold fFmt at e5
        split at e5
        · split at e5
          · rename_i c
            cases e5
            exact .inr ⟨_, va.int, c, h1 S1 ρ1 H1 _ (Le.refl _ _) w1 (.str _)⟩
          · cases e5
        · split at e5
          · rename_i c
            cases e5
            exact .inl ⟨_, va.str, small_line c, h1 S1 ρ1 H1 _ (Le.refl _ _) w1 (.str _)⟩
          · cases e5
        · cases e5⟩
theorem xe_fmt {e : Expr} {m : ME} {pos : Pos} (he : PE X e (tE X.K W m)) : PE X (.FormattedValue e (-1) none pos) (tE X.K W (mFmt m)) := pe_imp (pe_fmt he) t_fmt
def mJs : List ME → Str → ME
  | [], acc => fun _ A => .ok (.p (.str acc)) A
  | m :: ms, acc => fun s A => (m s A).bind fun d A1 => match d with
    | .p (.str y) => if (acc ++ y).length ≤ 100000 then mJs ms (acc ++ y) s A1 else .bad
    | _ => .bad
theorem t_js : ∀ (ms : List ME) (acc : Str) (σ : L2.St) (H : Hp) (Q : VK), tE K W (mJs ms acc) σ H Q → tJs (ms.map (tE K W)) acc σ H fun out H1 => Q (.str out) H1
  | [], acc, σ, H, Q, ⟨F, S, ρ, s, A, w, sr, h⟩ => h S ρ H _ (Le.refl _ _) w (.str _)
  | m :: ms, acc, σ, H, Q, ⟨F, S, ρ, s, A, w, sr, h⟩ => ⟨F, S, ρ, s, A, w, sr, (EndG.bind h).imp fun x H1 ⟨S1, ρ1, A1, a, l1, w1, r1, h1⟩ => by
    cases a with
    | ref n => exact h1.elim
    | scr n => exact h1.elim
    | p d =>
      cases d with
      | str y =>
        cases r1
        dsimp only at h1
        by_cases c : (acc ++ y).length ≤ 100000
        · rw [if_pos c] at h1
          exact ⟨y, rfl, small_line c, t_js ms (acc ++ y) σ H1 Q ⟨F, S1, ρ1, s, A1, w1, sr.mono l1, h1⟩⟩
        · rw [if_neg c] at h1
          exact h1.elim
      | none => exact h1.elim
      | int i => exact h1.elim
      | bool x => exact h1.elim
      | list x => exact h1.elim
      | tuple x => exact h1.elim
      | dict x => exact h1.elim⟩
theorem xj_nil : PJ X [] (([] : List ME).map (tE X.K W)) := .nil
theorem xj_cons {e : Expr} {es : List Expr} {m : ME} {ms : List ME} (h : PE X e (tE X.K W m)) (r : PJ X es (ms.map (tE X.K W))) : PJ X (e :: es) ((m :: ms).map (tE X.K W)) := .cons h r
theorem xe_js {v1 v2 : Expr} {rest : List Expr} {ms : List ME} {pos : Pos} (h : PJ X (v1 :: v2 :: rest) (ms.map (tE X.K W))) : PE X (.JoinedStr (v1 :: v2 :: rest) pos) (tE X.K W (mJs ms Str.empty)) :=
  pe_imp (pe_joined h) fun σ H Q q => t_js ms Str.empty σ H Q q
/-! what they come to -/
@[simp] theorem To_S1 {f : PyData → PyData → Option PyData} {m k : ME} {s : Slt} {A : Arn} {P : D → Arn → Prop} : (mS1 f m k s A).To P ↔ (m s A).To fun a A1 => isS a A1 = true ∧ (k s A1).To fun b A2 => (opt1 (lift2 f a b A2)).To P := by
  unfold mS1
  rw [To_bind]
  refine iff_of_eq (congrArg _ (funext fun a => funext fun A1 => ?_))
  by_cases c : isS a A1 = true
  · rw [if_pos c]; simp [c]
  · rw [if_neg c]; simp [c]
@[simp] theorem To_fmt {m : ME} {s : Slt} {A : Arn} {P : D → Arn → Prop} : (mFmt m s A).To P ↔ (m s A).To fun a A1 => (opt1 (lift1 fFmt a A1)).To P := To_op1
@[simp] theorem To_js0 {acc : Str} {s : Slt} {A : Arn} {P : D → Arn → Prop} : (mJs [] acc s A).To P ↔ P (.p (.str acc)) A := To_ok
@[simp] theorem To_jsS {m : ME} {ms : List ME} {acc : Str} {s : Slt} {A : Arn} {P : D → Arn → Prop} : (mJs (m :: ms) acc s A).To P ↔ (m s A).To fun d A1 => ∃ y, d = .p (.str y) ∧ (acc ++ y).length ≤ 100000 ∧ (mJs ms (acc ++ y) s A1).To P := by
  show ((m s A).bind _).To P ↔ _
  rw [To_bind]
  refine iff_of_eq (congrArg _ (funext fun a => funext fun A1 => ?_))
  cases a with
  | ref n => simp
  | scr n => simp
  | p d =>
    cases d with
    | str y =>
      by_cases c : (acc ++ y).length ≤ 100000
      · simp [c]
      · simp [c]
    | none => simp
    | int i => simp
    | bool x => simp
    | list x => simp
    | tuple x => simp
    | dict x => simp
@[simp] theorem To_enS {k : Int} {m : ME} {s : Slt} {A : Arn} {P : List PyData → Arn → Prop} : (iEnS k m s A).To P ↔ (m s A).To fun d A1 => ∃ tp xs, rowOf d = some (tp, xs) ∧ P (cnt k 0 xs) A1 := by
  unfold iEnS
  rw [To_bind]
  refine iff_of_eq (congrArg _ (funext fun a => funext fun A1 => ?_))
  cases e : rowOf a with
  | none => simp
  | some z =>
    obtain ⟨tp, xs⟩ := z
    exact propext ⟨fun h => ⟨tp, xs, rfl, To_ok.mp h⟩, fun ⟨tp', xs', q, h⟩ => by cases q; exact To_ok.mpr h⟩
@[simp] theorem rowOf_l {xs : List PyData} : rowOf (.p (.list xs)) = some (false, xs) := rfl
@[simp] theorem rowOf_t {xs : List PyData} : rowOf (.p (.tuple xs)) = some (true, xs) := rfl
end
end Mi
end

section
set_option maxHeartbeats 4000000
/-! OiA: graphs without an edge, without a vertex, contracted: the program's defs and the laws' own, as they stand at ad97589. -/
namespace Lw
open PySem PySem.W Mi
def b_is_edge : MS :=
  (sRet (mAndV (mCall m_is_whole_row (aCons (mVar 1) (aCons (mC (.int 2)) aNil))) (mOp2 (lift2 fIn) (mVar 1) (mOp2 (lift2 fIx) (mVar 0) (mC (.int 1))))))
def m_is_edge : MF := defM 2 b_is_edge
def b__check_edge : MS :=
  (sIf (mNot (mTru (mCall m_is_edge (aCons (mVar 0) (aCons (mVar 1) aNil))))) sNever sSkip)
def m__check_edge : MF := defM 2 b__check_edge
def b_without_edge : MS :=
  (sSeq (sDrop (mCall m_check_graph (aCons (mVar 0) aNil)))
    (sSeq (sDrop (mCall m__check_edge (aCons (mVar 0) (aCons (mVar 1) aNil))))
    (sSeq (sAsg (mVar 0) (gTp (gMore (gN 2) (gMore (gN 3) gNone))))
    (sRet (mTup (aCons (mVar 2) (aCons (mOpN (liftN fTuple) (aCons (mFr (lComp (iS (mVar 3)) (gN 4) (mB (mOp2 (lift2 fNe) (mVar 4) (mVar 1))) (mVar 4) [4])) aNil)) aNil)))))))
def m_without_edge : MF := defM 5 b_without_edge
def b_is_vertex : MS :=
  (sRet (mAndV (mCall m_is_whole (aCons (mVar 1) aNil)) (mCh (mC (.int 0)) (mLink (lift2 (ordD gLe)) (mVar 1) (mLast (lift2 (ordD gLt)) (mOp2 (lift2 fIx) (mVar 0) (mC (.int 0))))))))
def m_is_vertex : MF := defM 2 b_is_vertex
def b__check_vertex : MS :=
  (sIf (mNot (mTru (mCall m_is_vertex (aCons (mVar 0) (aCons (mVar 1) aNil))))) sNever sSkip)
def m__check_vertex : MF := defM 2 b__check_vertex
def b__name_without : MS :=
  (sRet (mIfE (mB (mOp2 (lift2 (ordD gGt)) (mVar 0) (mVar 1))) (mOp2 (lift2 fSub) (mVar 0) (mC (.int 1))) (mVar 0)))
def m__name_without : MF := defM 2 b__name_without
def b__dropped : MS :=
  (sSeq (sAsg (mVar 0) (gTp (gMore (gN 3) (gMore (gN 4) gNone))))
    (sSeq (sLet 2 (mFr (lComp (iS (mVar 4)) (gN 5) (mB (mOp2 (lift2 fNotIn) (mVar 1) (mVar 5))) (mVar 5) [5])))
    (sRet (mTup (aCons (mOp2 (lift2 fSub) (mVar 3) (mC (.int 1))) (aCons (mOpN (liftN fTuple) (aCons (mFr (lComp (iS (mVar 2)) (gTp (gMore (gN 6) (gMore (gN 7) gNone))) mYes (mTup (aCons (mCall m__name_without (aCons (mVar 6) (aCons (mVar 1) aNil))) (aCons (mCall m__name_without (aCons (mVar 7) (aCons (mVar 1) aNil))) aNil))) [6, 7])) aNil)) aNil))))))
def m__dropped : MF := defM 8 b__dropped
def b_without_vertex : MS :=
  (sSeq (sDrop (mCall m_check_graph (aCons (mVar 0) aNil)))
    (sSeq (sDrop (mCall m__check_vertex (aCons (mVar 0) (aCons (mVar 1) aNil))))
    (sSeq (sIf (mB (mOp2 (lift2 fEq) (mOp2 (lift2 fIx) (mVar 0) (mC (.int 0))) (mC (.int 1)))) sNever sSkip)
    (sRet (mCall m__dropped (aCons (mVar 0) (aCons (mVar 1) aNil)))))))
def m_without_vertex : MF := defM 2 b_without_vertex
def b__edges_of : MS :=
  (sRet (mOpN (liftN fTuple) (aCons (mFr (lSrtS (iS (mVar 0)) (gN 1) (mB (mOp2 (lift2 fNe) (mOp2 (lift2 fIx) (mVar 1) (mC (.int 0))) (mOp2 (lift2 fIx) (mVar 1) (mC (.int 1))))) (mTup (aCons (mOpN (liftN fMin1) (aCons (mVar 1) aNil)) (aCons (mOpN (liftN fMax1) (aCons (mVar 1) aNil)) aNil))) [1])) aNil)))
def m__edges_of : MF := defM 2 b__edges_of
def b_contracted : MS :=
  (sSeq (sDrop (mCall m_check_graph (aCons (mVar 0) aNil)))
    (sSeq (sDrop (mCall m__check_edge (aCons (mVar 0) (aCons (mVar 1) aNil))))
    (sSeq (sAsg (mVar 0) (gTp (gMore (gN 3) (gMore (gN 4) gNone))))
    (sSeq (sAsg (mVar 1) (gTp (gMore (gN 5) (gMore (gN 6) gNone))))
    (sSeq (sLet 2 (mFr (lComp (iS (mVar 4)) (gN 7) mYes (mFr (lComp (iS (mVar 7)) (gN 8) mYes (mIfE (mB (mOp2 (lift2 fEq) (mVar 8) (mVar 6))) (mVar 5) (mVar 8)) [8])) [7])))
    (sRet (mCall m__dropped (aCons (mTup (aCons (mVar 3) (aCons (mCall m__edges_of (aCons (mVar 2) aNil)) aNil))) (aCons (mVar 6) aNil)))))))))
def m_contracted : MF := defM 9 b_contracted
def b__law_without_edge : MS :=
  (sRet (mTup (aCons (mOp2 (lift2 fIx) (mVar 0) (mC (.int 0))) (aCons (mOpN (liftN fTuple) (aCons (mFr (lComp (iS (mOp2 (lift2 fIx) (mVar 0) (mC (.int 1)))) (gN 2) (mB (mOp2 (lift2 fNe) (mVar 2) (mVar 1))) (mVar 2) [2])) aNil)) aNil))))
def m__law_without_edge : MF := defM 3 b__law_without_edge
def b__law_down : MS :=
  (sRet (mIfE (mB (mOp2 (lift2 (ordD gGt)) (mVar 0) (mVar 1))) (mOp2 (lift2 fSub) (mVar 0) (mC (.int 1))) (mVar 0)))
def m__law_down : MF := defM 2 b__law_down
def b__law_without_vertex : MS :=
  (sSeq (sLet 2 (mFr (lComp (iS (mOp2 (lift2 fIx) (mVar 0) (mC (.int 1)))) (gN 3) (mB (mOp2 (lift2 fNotIn) (mVar 1) (mVar 3))) (mVar 3) [3])))
    (sRet (mCall m__law_kept (aCons (mOp2 (lift2 fSub) (mOp2 (lift2 fIx) (mVar 0) (mC (.int 0))) (mC (.int 1))) (aCons (mFr (lComp (iS (mVar 2)) (gTp (gMore (gN 4) (gMore (gN 5) gNone))) mYes (mTup (aCons (mCall m__law_down (aCons (mVar 4) (aCons (mVar 1) aNil))) (aCons (mCall m__law_down (aCons (mVar 5) (aCons (mVar 1) aNil))) aNil))) [4, 5])) aNil)))))
def m__law_without_vertex : MF := defM 6 b__law_without_vertex
def b__law_contracted : MS :=
  (sSeq (sAsg (mVar 1) (gTp (gMore (gN 3) (gMore (gN 4) gNone))))
    (sSeq (sLet 2 (mFr (lComp (iS (mOp2 (lift2 fIx) (mVar 0) (mC (.int 1)))) (gTp (gMore (gN 5) (gMore (gN 6) gNone))) mYes (mTup (aCons (mIfE (mB (mOp2 (lift2 fEq) (mVar 5) (mVar 4))) (mVar 3) (mVar 5)) (aCons (mIfE (mB (mOp2 (lift2 fEq) (mVar 6) (mVar 4))) (mVar 3) (mVar 6)) aNil))) [5, 6])))
    (sRet (mCall m__law_kept (aCons (mOp2 (lift2 fSub) (mOp2 (lift2 fIx) (mVar 0) (mC (.int 0))) (mC (.int 1))) (aCons (mFr (lComp (iS (mVar 2)) (gTp (gMore (gN 5) (gMore (gN 6) gNone))) mYes (mTup (aCons (mCall m__law_down (aCons (mVar 5) (aCons (mVar 4) aNil))) (aCons (mCall m__law_down (aCons (mVar 6) (aCons (mVar 4) aNil))) aNil))) [5, 6])) aNil))))))
def m__law_contracted : MF := defM 7 b__law_contracted/-! ### edges and vertices -/
theorem in_pt {p : Ed} {es : List Ed} : fIn (encP p) (.tuple (encE es)) = some (.bool (decide (p ∈ es))) := by
  unfold fIn
  dsimp only
  rw [if_pos ⟨shP p, shT es⟩, any_pp]
theorem GOkay.lenB {v : Int} {es : List Ed} (ok : GOkay v es) : Lw.lenB (encG v es) = true :=
  (th_G (by have := ok.lo; have := ok.hi; omega) ok.lo_ (by have := ok.len; omega)).len
theorem lenB_P (p : Ed) : lenB (encP p) = true := rfl
section
variable {A : Arn} {v x : Int} {es : List Ed} {e : Ed}
theorem is_edge (hp : plain A) : (m_is_edge [.p (encG v es), .p (encP e)] A).To fun r A' => r = .p (.bool (decide (e ∈ es))) ∧ A' = A := by
  unfold m_is_edge
  refine To_def ?_
  unfold b_is_edge
  simp
  refine (is_whole_row hp (lenB_P e)).mono ?_
  rintro r A' ⟨rfl, rfl⟩
  have : isWR (encP e) = true := rfl
  simp [this, in_pt, hp]
theorem check_edge (hp : plain A) (h : e ∈ es) : (m__check_edge [.p (encG v es), .p (encP e)] A).To fun r A' => r = .p .none ∧ A' = A := by
  unfold m__check_edge
  refine To_def ?_
  unfold b__check_edge
  simp
  refine (is_edge hp).mono ?_
  rintro r A' ⟨rfl, rfl⟩
  simp [h, hp, below_all hp]
theorem is_vertex (hp : plain A) : (m_is_vertex [.p (encG v es), .p (.int x)] A).To fun r A' => r = .p (.bool (decide (0 ≤ x ∧ x < v))) ∧ A' = A := by
  unfold m_is_vertex
  refine To_def ?_
  unfold b_is_vertex
  simp
  refine (is_whole hp).mono ?_
  rintro r A' ⟨rfl, rfl⟩
  have : isIntD (.int x) = true := rfl
  by_cases c1 : 0 ≤ x
  · have c1' : ¬ x < 0 := by omega
    by_cases c2 : x < v
    · have c2' : ¬ v ≤ x := by omega
      simp [this, c1, c2, c1', c2', hp]
    · have c2' : v ≤ x := by omega
      simp [this, c1, c2, c1', c2', hp]
  · have c1' : x < 0 := by omega
    simp [this, c1, c1', hp]
theorem check_vertex (hp : plain A) (h0 : 0 ≤ x) (h1 : x < v) : (m__check_vertex [.p (encG v es), .p (.int x)] A).To fun r A' => r = .p .none ∧ A' = A := by
  unfold m__check_vertex
  refine To_def ?_
  unfold b__check_vertex
  simp
  refine (is_vertex hp).mono ?_
  rintro r A' ⟨rfl, rfl⟩
  simp [h0, h1, hp, below_all hp]
def wE (es : List Ed) (e : Ed) : List Ed := es.filter fun q => !decide (q = e)
theorem without_edge (hp : plain A) (ok : GOkay v es) (h : e ∈ es) : (m_without_edge [.p (encG v es), .p (encP e)] A).To fun r A' => r = .p (encG v (wE es e)) ∧ A' = A := by
  have hl := ok.len
  unfold m_without_edge
  refine To_def ?_
  unfold b_without_edge
  simp
  refine (check_graph hp ok).mono ?_
  rintro _ _ ⟨rfl, rfl⟩
  refine (check_edge hp h).mono ?_
  rintro _ _ ⟨rfl, rfl⟩
  unfold encG
  simp
  refine To_comp (neF e) ?_
  simp
  refine ⟨by rw [encE_length]; omega, fun y hy => ?_, ?_⟩
  · obtain ⟨q, _, rfl⟩ := List.mem_map.mp hy
    refine turn_of (f := neF e) ⟨_, rfl, ?_⟩
    simp [wipeS, ne_pp, neF_P]
    by_cases c : q = e <;> simp [c]
  · have ft : fTuple [.list (encE (wE es e))] = some (.tuple (encE (wE es e))) := rfl
    rw [neF_map]
    show _
    unfold wE at ft ⊢
    simp [ft, hp]
theorem law_without_edge (hp : plain A) (ok : GOkay v es) : (m__law_without_edge [.p (encG v es), .p (encP e)] A).To fun r A' => r = .p (encG v (wE es e)) ∧ A' = A := by
  have hl := ok.len
  unfold m__law_without_edge
  refine To_def ?_
  unfold b__law_without_edge
  simp
  refine To_comp (neF e) ?_
  simp
  refine ⟨by rw [encE_length]; omega, fun y hy => ?_, ?_⟩
  · obtain ⟨q, _, rfl⟩ := List.mem_map.mp hy
    refine turn_of (f := neF e) ⟨_, rfl, ?_⟩
    simp [wipeS, ne_pp, neF_P]
    by_cases c : q = e <;> simp [c]
  · have ft : fTuple [.list (encE (wE es e))] = some (.tuple (encE (wE es e))) := rfl
    rw [neF_map]
    unfold wE at ft ⊢
    unfold encG
    simp [ft, hp]
end
end Lw
end

section
set_option maxHeartbeats 4000000
/-! OiB: vertices deleted, edges contracted. -/
namespace Lw
open PySem PySem.W Mi
def dn (g x : Int) : Int := if x > g then x - 1 else x
def dnP (g : Int) (p : Ed) : Ed := (dn g p.1, dn g p.2)
def offV (g : Int) (p : Ed) : Bool := !(decide (p.1 = g) || decide (p.2 = g))
def dropE (es : List Ed) (g : Int) : List Ed := (es.filter (offV g)).map (dnP g)
def offF (g : Int) (x : PyData) : Option PyData := match x with
  | .tuple [.int a, .int b] => if a = g ∨ b = g then none else some (.tuple [.int a, .int b])
  | _ => none
def dnF (g : Int) (x : PyData) : Option PyData := match x with
  | .tuple [.int a, .int b] => some (.tuple [.int (dn g a), .int (dn g b)])
  | _ => none
theorem offF_map (g : Int) : ∀ es : List Ed, (encE es).filterMap (offF g) = encE (es.filter (offV g))
  | [] => rfl
  | p :: es => by
    show List.filterMap (offF g) (encP p :: encE es) = _
    have hf : offF g (encP p) = if p.1 = g ∨ p.2 = g then none else some (encP p) := rfl
    rw [List.filterMap_cons, offF_map g es, hf, List.filter_cons]
    unfold offV
    by_cases c1 : p.1 = g
    · simp [c1]
    · by_cases c2 : p.2 = g
      · simp [c2]
      · simp [c1, c2]
        rfl
theorem dnF_map (g : Int) : ∀ es : List Ed, (encE es).filterMap (dnF g) = encE (es.map (dnP g))
  | [] => rfl
  | p :: es => by
    show List.filterMap (dnF g) (encP p :: encE es) = _
    have hf : dnF g (encP p) = some (encP (dnP g p)) := rfl
    rw [List.filterMap_cons, dnF_map g es, hf]
    rfl
section
variable {A : Arn} {v x g : Int} {es : List Ed} {e : Ed}
theorem name_without (hp : plain A) : (m__name_without [.p (.int x), .p (.int g)] A).To fun r A' => r = .p (.int (dn g x)) ∧ A' = A := by
  unfold m__name_without
  refine To_def ?_
  unfold b__name_without dn
  by_cases c : x > g
  · have c' : ¬ x ≤ g := by omega
    simp [c, c', hp]
  · have c' : x ≤ g := by omega
    have c2 : ¬ g < x := by omega
    simp [c, c', c2, hp]
theorem law_down (hp : plain A) : (m__law_down [.p (.int x), .p (.int g)] A).To fun r A' => r = .p (.int (dn g x)) ∧ A' = A := by
  unfold m__law_down
  refine To_def ?_
  unfold b__law_down dn
  by_cases c : x > g
  · have c' : ¬ x ≤ g := by omega
    simp [c, c', hp]
  · have c' : x ≤ g := by omega
    have c2 : ¬ g < x := by omega
    simp [c, c', c2, hp]
theorem notIn_2 {a b : Int} : fNotIn (.int x) (.tuple [.int a, .int b]) = some (.bool (!decide (a = x ∨ b = x))) := by
  unfold fNotIn
  dsimp only
  rw [if_pos ⟨shI x, sh2 a b⟩]
  simp only [List.any_cons, List.any_nil, PyData.eqv, Bool.or_false]
  congr 2
  rw [Bool.eq_iff_iff]
  simp
theorem dropped (hp : plain A) (hl : es.length ≤ 100) : (m__dropped [.p (encG v es), .p (.int g)] A).To fun r A' => r = .p (encG (v - 1) (dropE es g)) ∧ A' = A := by
  unfold m__dropped
  refine To_def ?_
  unfold b__dropped encG
  simp
  refine To_comp (offF g) ?_
  simp
  refine ⟨by rw [encE_length]; omega, fun y hy => ?_, ?_⟩
  · obtain ⟨q, _, rfl⟩ := List.mem_map.mp hy
    refine turn_of (f := offF g) ⟨_, rfl, ?_⟩
    have hf : offF g (encP q) = if q.1 = g ∨ q.2 = g then none else some (encP q) := rfl
    have hn : fNotIn (.int g) (encP q) = some (.bool (!decide (q.1 = g ∨ q.2 = g))) := notIn_2
    simp [wipeS, hn, hf]
    by_cases c1 : q.1 = g
    · simp [c1]
    · by_cases c2 : q.2 = g
      · simp [c2]
      · simp [c1, c2]
  · rw [offF_map]
    refine To_comp (dnF g) ?_
    simp
    have hl2 := List.length_filter_le (offV g) es
    refine ⟨by rw [encE_length]; omega, fun y hy => ?_, ?_⟩
    · obtain ⟨q, _, rfl⟩ := List.mem_map.mp hy
      refine turn_of (f := dnF g) ⟨_, rfl, ?_⟩
      have hf : dnF g (encP q) = some (encP (dnP g q)) := rfl
      rw [hf]
      simp [wipeS]
      refine (name_without hp).mono ?_
      rintro _ _ ⟨rfl, rfl⟩
      simp
      refine (name_without hp).mono ?_
      rintro _ _ ⟨rfl, rfl⟩
      simp [encP, dnP]
    · rw [dnF_map]
      have ft : fTuple [.list (encE (dropE es g))] = some (.tuple (encE (dropE es g))) := rfl
      unfold dropE at ft ⊢
      simp [ft, hp]
theorem without_vertex (hp : plain A) (ok : GOkay v es) (h0 : 0 ≤ x) (h1 : x < v) (h2 : v ≠ 1) : (m_without_vertex [.p (encG v es), .p (.int x)] A).To fun r A' => r = .p (encG (v - 1) (dropE es x)) ∧ A' = A := by
  have hl := ok.len
  unfold m_without_vertex
  refine To_def ?_
  unfold b_without_vertex
  simp
  refine (check_graph hp ok).mono ?_
  rintro _ _ ⟨rfl, rfl⟩
  refine (check_vertex hp h0 h1).mono ?_
  rintro _ _ ⟨rfl, rfl⟩
  simp [h2]
  refine (dropped hp (by omega)).mono ?_
  rintro _ _ ⟨rfl, rfl⟩
  simp [hp]
theorem law_without_vertex (hp : plain A) (hl : es.length ≤ 100) : (m__law_without_vertex [.p (encG v es), .p (.int g)] A).To fun r A' => r = .p (encG (v - 1) (keptE (dropE es g))) ∧ A' = A := by
  unfold m__law_without_vertex
  refine To_def ?_
  unfold b__law_without_vertex
  simp
  refine To_comp (offF g) ?_
  simp
  refine ⟨by rw [encE_length]; omega, fun y hy => ?_, ?_⟩
  · obtain ⟨q, _, rfl⟩ := List.mem_map.mp hy
    refine turn_of (f := offF g) ⟨_, rfl, ?_⟩
    have hf : offF g (encP q) = if q.1 = g ∨ q.2 = g then none else some (encP q) := rfl
    have hn : fNotIn (.int g) (encP q) = some (.bool (!decide (q.1 = g ∨ q.2 = g))) := notIn_2
    simp [wipeS, hn, hf]
    by_cases c1 : q.1 = g
    · simp [c1]
    · by_cases c2 : q.2 = g
      · simp [c2]
      · simp [c1, c2]
  · rw [offF_map]
    refine To_comp (dnF g) ?_
    simp
    have hl2 := List.length_filter_le (offV g) es
    refine ⟨by rw [encE_length]; omega, fun y hy => ?_, ?_⟩
    · obtain ⟨q, _, rfl⟩ := List.mem_map.mp hy
      refine turn_of (f := dnF g) ⟨_, rfl, ?_⟩
      have hf : dnF g (encP q) = some (encP (dnP g q)) := rfl
      rw [hf]
      simp [wipeS]
      refine (law_down hp).mono ?_
      rintro _ _ ⟨rfl, rfl⟩
      simp
      refine (law_down hp).mono ?_
      rintro _ _ ⟨rfl, rfl⟩
      simp [encP, dnP]
    · rw [dnF_map]
      refine (kept (es := dropE es g) hp (.inl rfl) (by unfold dropE; rw [List.length_map]; omega)).mono ?_
      rintro _ _ ⟨rfl, rfl⟩
      simp [hp, encG]
/-! ### contracting -/
def mv (k g x : Int) : Int := if x = g then k else x
def mvP (k g : Int) (p : Ed) : Ed := (mv k g p.1, mv k g p.2)
def encL (p : Ed) : PyData := .list [.int p.1, .int p.2]
def mvF (k g : Int) (x : PyData) : Option PyData := match x with
  | .tuple [.int a, .int b] => some (.list [.int (mv k g a), .int (mv k g b)])
  | _ => none
def mv1 (k g : Int) (x : PyData) : Option PyData := match x with
  | .int a => some (.int (mv k g a))
  | _ => none
theorem mvF_map (k g : Int) : ∀ es : List Ed, (encE es).filterMap (mvF k g) = (es.map (mvP k g)).map encL
  | [] => rfl
  | p :: es => by
    show List.filterMap (mvF k g) (encP p :: encE es) = _
    have hf : mvF k g (encP p) = some (encL (mvP k g p)) := rfl
    rw [List.filterMap_cons, mvF_map k g es, hf]
    rfl
def mm (p : Ed) : Ed := (min p.1 p.2, max p.1 p.2)
def neP (p : Ed) : Bool := !decide (p.1 = p.2)
def edF (x : PyData) : Option PyData := match x with
  | .list [.int a, .int b] => if a = b then none else some (encP (mm (a, b)))
  | .tuple [.int a, .int b] => if a = b then none else some (encP (mm (a, b)))
  | _ => none
theorem edF_L : ∀ ps : List Ed, (ps.map encL).filterMap edF = encE ((ps.filter neP).map mm)
  | [] => rfl
  | p :: ps => by
    have hf : edF (encL p) = if p.1 = p.2 then none else some (encP (mm p)) := rfl
    rw [List.map_cons, List.filterMap_cons, edF_L ps, hf, List.filter_cons]
    unfold neP
    by_cases c : p.1 = p.2
    · simp [c]
    · simp [c]
      rfl
theorem edF_P : ∀ ps : List Ed, (encE ps).filterMap edF = encE ((ps.filter neP).map mm)
  | [] => rfl
  | p :: ps => by
    have hf : edF (encP p) = if p.1 = p.2 then none else some (encP (mm p)) := rfl
    show List.filterMap edF (encP p :: encE ps) = _
    rw [List.filterMap_cons, edF_P ps, hf, List.filter_cons]
    unfold neP
    by_cases c : p.1 = p.2
    · simp [c]
    · simp [c]
      rfl
theorem mm_nrm {p : Ed} (h : p.1 ≠ p.2) : mm p = nrm p := by
  unfold mm nrm
  by_cases c : p.1 < p.2
  · rw [if_pos c, Int.min_eq_left (by omega), Int.max_eq_right (by omega)]
  · rw [if_neg c, Int.min_eq_right (by omega), Int.max_eq_left (by omega)]
theorem setS_kept (ps : List Ed) : setS ((ps.filter neP).map mm) = keptE ps := by
  refine asc_ext (setS_asc _) (kept_asc _) fun q => ?_
  rw [setS_mem, kept_mem, List.mem_map]
  constructor
  · rintro ⟨p, hp, rfl⟩
    obtain ⟨h1, h2⟩ := List.mem_filter.mp hp
    have hne : p.1 ≠ p.2 := by unfold neP at h2; simpa using h2
    exact ⟨p, h1, hne, (mm_nrm hne).symm⟩
  · rintro ⟨p, h1, hne, rfl⟩
    exact ⟨p, List.mem_filter.mpr ⟨h1, by unfold neP; simpa using hne⟩, mm_nrm hne⟩
theorem min_L {a b : Int} : fMin1 [.list [.int a, .int b]] = some (.int (min a b)) := rfl
theorem min_T {a b : Int} : fMin1 [.tuple [.int a, .int b]] = some (.int (min a b)) := rfl
theorem max_L {a b : Int} : fMax1 [.list [.int a, .int b]] = some (.int (max a b)) := rfl
theorem max_T {a b : Int} : fMax1 [.tuple [.int a, .int b]] = some (.int (max a b)) := rfl
theorem edges_ofP (hp : plain A) {ps : List Ed} {c : PyData} {xs : List PyData} (hc : itemsOf c = some xs) (hx : xs = ps.map encL ∨ xs = encE ps) (hl : ps.length < 63) (h : ∀ p, p ∈ ps → 0 ≤ p.1 ∧ p.1 < 64 ∧ 0 ≤ p.2 ∧ p.2 < 64) :
    (m__edges_of [.p c] A).To fun r A' => r = .p (.tuple (encE (keptE ps))) ∧ A' = A := by
  unfold m__edges_of
  refine To_def ?_
  unfold b__edges_of
  simp
  refine To_srtS edF ?_
  simp [hc]
  have hlen : xs.length = ps.length := by
    rcases hx with rfl | rfl
    · rw [List.length_map]
    · rw [encE_length]
  have e : xs.filterMap edF = encE ((ps.filter neP).map mm) := by
    rcases hx with rfl | rfl
    · exact edF_L ps
    · exact edF_P ps
  refine ⟨fun y hy => ?_, by omega, (ps.filter neP).map mm, e, ?_, ?_, ?_⟩
  · refine turn_of (f := edF) ⟨_, rfl, ?_⟩
    rcases hx with rfl | rfl
    · obtain ⟨q, _, rfl⟩ := List.mem_map.mp hy
      have hf : edF (encL q) = if q.1 = q.2 then none else some (encP (mm q)) := rfl
      rw [hf]
      unfold encL
      simp [wipeS, min_L, max_L]
      by_cases c : q.1 = q.2
      · simp [c]
      · simp [c, encP, mm]
    · obtain ⟨q, _, rfl⟩ := List.mem_map.mp hy
      have hf : edF (encP q) = if q.1 = q.2 then none else some (encP (mm q)) := rfl
      rw [hf]
      unfold encP
      simp [wipeS, min_T, max_T]
      by_cases c : q.1 = q.2
      · simp [c]
      · simp [c, mm]
  · rw [List.length_map]
    have := List.length_filter_le neP ps
    omega
  · intro a b hab
    obtain ⟨p, hp2, e2⟩ := List.mem_map.mp hab
    have := h p (List.mem_filter.mp hp2).1
    have e3 : a = min p.1 p.2 := by rw [show a = (a, b).1 from rfl, ← e2]; rfl
    have e4 : b = max p.1 p.2 := by rw [show b = (a, b).2 from rfl, ← e2]; rfl
    omega
  · rw [setS_kept]
    have ft : fTuple [.list (encE (keptE ps))] = some (.tuple (encE (keptE ps))) := rfl
    simp [ft, hp]
end
end Lw
end

section
set_option maxHeartbeats 4000000
/-! OiC: contracted graphs; that the two ways tell the same. -/
namespace Lw
open PySem PySem.W Mi
section
variable {A : Arn} {v x g : Int} {es : List Ed} {e : Ed}
def conE (es : List Ed) (e : Ed) : List Ed := dropE (keptE (es.map (mvP e.1 e.2))) e.2
def conL (es : List Ed) (e : Ed) : List Ed := keptE ((es.map (mvP e.1 e.2)).map (dnP e.2))
theorem contracted (hp : plain A) (ok : GOkay v es) (h : e ∈ es) : (m_contracted [.p (encG v es), .p (encP e)] A).To fun r A' => r = .p (encG (v - 1) (conE es e)) ∧ A' = A := by
  have hl := ok.len
  have hv := ok.hi
  have he := ok.inn e h
  unfold m_contracted
  refine To_def ?_
  unfold b_contracted
  simp
  refine (check_graph hp ok).mono ?_
  rintro _ _ ⟨rfl, rfl⟩
  refine (check_edge hp h).mono ?_
  rintro _ A2 ⟨rfl, rfl⟩
  unfold encG
  simp
  refine To_comp (mvF e.1 e.2) ?_
  simp
  refine ⟨by rw [encE_length]; omega, fun y hy => ?_, ?_⟩
  · obtain ⟨q, _, rfl⟩ := List.mem_map.mp hy
    refine turn_of (f := mvF e.1 e.2) ⟨_, rfl, ?_⟩
    have hf : mvF e.1 e.2 (encP q) = some (encL (mvP e.1 e.2 q)) := rfl
    rw [hf]
    simp [wipeS]
    refine To_comp (mv1 e.1 e.2) ?_
    unfold encP
    simp
    have one : ∀ (z : Int) (y6 : Option D), turnC (gN 8) mYes (mIfE (mB (mOp2 (lift2 fEq) (mVar 8) (mVar 6))) (mVar 5) (mVar 8)) (wipeS [some (.p (.tuple [.int v, .tuple (encE es)])), some (.p (.tuple [.int e.1, .int e.2])), none, some (.p (.int v)), some (.p (.tuple (encE es))), some (.p (.int e.1)), some (.p (.int e.2)), some (.p (.tuple [.int q.1, .int q.2])), none] [8]) (.int z) A2 = .ok (mv1 e.1 e.2 (.int z)) A2 := fun z _ => by
      refine turn_of (f := mv1 e.1 e.2) ⟨_, rfl, ?_⟩
      have hf : mv1 e.1 e.2 (.int z) = some (.int (mv e.1 e.2 z)) := rfl
      rw [hf]
      unfold mv
      by_cases c : z = e.2
      · simp [wipeS, c]
      · simp [wipeS, c]
    refine ⟨⟨one _ none, one _ none⟩, ?_⟩
    simp [mv1, encL, mvP]
  · rw [mvF_map]
    refine (edges_ofP (c := .list ((es.map (mvP e.1 e.2)).map encL)) hp rfl (.inl rfl) (by rw [List.length_map]; omega) ?_).mono ?_
    · intro p hp2
      obtain ⟨q, hq, rfl⟩ := List.mem_map.mp hp2
      have := ok.inn q hq
      unfold mvP mv
      dsimp only
      constructor
      · split <;> omega
      · constructor
        · split <;> omega
        · constructor <;> (split <;> omega)
    rintro _ _ ⟨rfl, rfl⟩
    simp
    have hk := kept_length (es.map (mvP e.1 e.2))
    rw [List.length_map] at hk
    refine (dropped (v := v) (es := keptE (es.map (mvP e.1 e.2))) (g := e.2) hp (by omega)).mono ?_
    rintro _ _ ⟨rfl, rfl⟩
    simp [hp, encG, conE]
def mvT (k g : Int) (x : PyData) : Option PyData := match x with
  | .tuple [.int a, .int b] => some (.tuple [.int (mv k g a), .int (mv k g b)])
  | _ => none
theorem mvT_map (k g : Int) : ∀ es : List Ed, (encE es).filterMap (mvT k g) = encE (es.map (mvP k g))
  | [] => rfl
  | p :: es => by
    show List.filterMap (mvT k g) (encP p :: encE es) = _
    have hf : mvT k g (encP p) = some (encP (mvP k g p)) := rfl
    rw [List.filterMap_cons, mvT_map k g es, hf]
    rfl
theorem law_contracted (hp : plain A) (hl : es.length ≤ 100) : (m__law_contracted [.p (encG v es), .p (encP e)] A).To fun r A' => r = .p (encG (v - 1) (conL es e)) ∧ A' = A := by
  unfold m__law_contracted
  refine To_def ?_
  unfold b__law_contracted
  simp
  refine To_comp (mvT e.1 e.2) ?_
  simp
  refine ⟨by rw [encE_length]; omega, fun y hy => ?_, ?_⟩
  · obtain ⟨q, _, rfl⟩ := List.mem_map.mp hy
    refine turn_of (f := mvT e.1 e.2) ⟨_, rfl, ?_⟩
    have hf : mvT e.1 e.2 (encP q) = some (encP (mvP e.1 e.2 q)) := rfl
    rw [hf]
    unfold mvP mv
    by_cases c1 : q.1 = e.2
    · by_cases c2 : q.2 = e.2
      · simp [wipeS, c1, c2, encP]
      · simp [wipeS, c1, c2, encP]
    · by_cases c2 : q.2 = e.2
      · simp [wipeS, c1, c2, encP]
      · simp [wipeS, c1, c2, encP]
  · rw [mvT_map]
    refine To_comp (dnF e.2) ?_
    simp
    refine ⟨by rw [encE_length, List.length_map]; omega, fun y hy => ?_, ?_⟩
    · obtain ⟨q, _, rfl⟩ := List.mem_map.mp hy
      refine turn_of (f := dnF e.2) ⟨_, rfl, ?_⟩
      have hf : dnF e.2 (encP q) = some (encP (dnP e.2 q)) := rfl
      rw [hf]
      simp [wipeS]
      refine (law_down hp).mono ?_
      rintro _ _ ⟨rfl, rfl⟩
      simp
      refine (law_down hp).mono ?_
      rintro _ _ ⟨rfl, rfl⟩
      simp [encP, dnP]
    · rw [dnF_map]
      refine (kept (es := (es.map (mvP e.1 e.2)).map (dnP e.2)) hp (.inl rfl) (by rw [List.length_map, List.length_map]; omega)).mono ?_
      rintro _ _ ⟨rfl, rfl⟩
      simp [hp, encG, conL]
end
/-! ### the two ways -/
theorem kept_id {es : List Ed} (asc : es.Pairwise pLt) (h : ∀ p, p ∈ es → p.1 < p.2) : keptE es = es := by
  refine asc_ext (kept_asc _) asc fun q => ?_
  rw [kept_mem]
  constructor
  · rintro ⟨p, hp, _, rfl⟩
    have := h p hp
    unfold nrm
    rw [if_pos this]
    exact hp
  · intro hq
    have := h q hq
    exact ⟨q, hq, by omega, by unfold nrm; rw [if_pos this]⟩
theorem offV_iff {g : Int} {p : Ed} : offV g p = true ↔ p.1 ≠ g ∧ p.2 ≠ g := by
  unfold offV
  by_cases c1 : p.1 = g <;> by_cases c2 : p.2 = g <;> simp [c1, c2]
theorem mem_drop {es : List Ed} {g : Int} {q : Ed} : q ∈ dropE es g ↔ ∃ p, p ∈ es ∧ p.1 ≠ g ∧ p.2 ≠ g ∧ dnP g p = q := by
  unfold dropE
  rw [List.mem_map]
  constructor
  · rintro ⟨p, hp, e⟩
    obtain ⟨h1, h2⟩ := List.mem_filter.mp hp
    obtain ⟨h3, h4⟩ := offV_iff.mp h2
    exact ⟨p, h1, h3, h4, e⟩
  · rintro ⟨p, h1, h3, h4, e⟩
    exact ⟨p, List.mem_filter.mpr ⟨h1, offV_iff.mpr ⟨h3, h4⟩⟩, e⟩
theorem dn_lt {g x y : Int} (hx : x ≠ g) (hy : y ≠ g) (h : x < y) : dn g x < dn g y := by
  unfold dn
  split <;> split <;> omega
theorem dn_inj {g x y : Int} (hx : x ≠ g) (hy : y ≠ g) (h : dn g x = dn g y) : x = y := by
  unfold dn at h
  split at h <;> split at h <;> omega
theorem drop_asc {es : List Ed} {g : Int} (asc : es.Pairwise pLt) : (dropE es g).Pairwise pLt := by
  unfold dropE
  rw [List.pairwise_map]
  refine (asc.filter _).imp_of_mem fun {p q} hp hq h => ?_
  obtain ⟨a1, a2⟩ := offV_iff.mp (List.mem_filter.mp hp).2
  obtain ⟨b1, b2⟩ := offV_iff.mp (List.mem_filter.mp hq).2
  unfold pLt dnP at *
  rcases h with h | ⟨h1, h2⟩
  · exact .inl (dn_lt a1 b1 h)
  · exact .inr ⟨by dsimp only; rw [h1], dn_lt a2 b2 h2⟩
theorem drop_lt {es : List Ed} {g : Int} (h : ∀ p, p ∈ es → p.1 < p.2) : ∀ p, p ∈ dropE es g → p.1 < p.2 := fun q hq => by
  obtain ⟨p, hp, h1, h2, rfl⟩ := mem_drop.mp hq
  exact dn_lt h1 h2 (h p hp)
theorem drop_kept {v : Int} {es : List Ed} {g : Int} (ok : GOkay v es) : keptE (dropE es g) = dropE es g :=
  kept_id (drop_asc ok.asc) (drop_lt fun p hp => (ok.inn p hp).2.1)
theorem nrm_dn {g : Int} {p : Ed} (h1 : p.1 ≠ g) (h2 : p.2 ≠ g) (hne : p.1 ≠ p.2) : nrm (dnP g p) = dnP g (nrm p) := by
  unfold nrm dnP
  by_cases c : p.1 < p.2
  · have := dn_lt h1 h2 c
    simp only [c, this, if_true]
  · have c' : p.2 < p.1 := by omega
    have := dn_lt h2 h1 c'
    have t : ¬ dn g p.1 < dn g p.2 := by omega
    simp only [c, t, if_false]
theorem nrm_off {g : Int} {p : Ed} : ((nrm p).1 ≠ g ∧ (nrm p).2 ≠ g) ↔ (p.1 ≠ g ∧ p.2 ≠ g) := by
  unfold nrm
  split
  · exact Iff.rfl
  · exact And.comm
/-- dropping g behind keeping, as long as none that stays has g -/
theorem drop_keptE {ps : List Ed} {g : Int} : dropE (keptE ps) g = keptE ((ps.filter (offV g)).map (dnP g)) := by
  refine asc_ext (drop_asc (kept_asc _)) (kept_asc _) fun q => ?_
  rw [mem_drop, kept_mem]
  constructor
  · rintro ⟨r, hr, h1, h2, rfl⟩
    obtain ⟨p, hp, hne, rfl⟩ := kept_mem.mp hr
    obtain ⟨o1, o2⟩ := nrm_off.mp ⟨h1, h2⟩
    refine ⟨dnP g p, List.mem_map.mpr ⟨p, List.mem_filter.mpr ⟨hp, offV_iff.mpr ⟨o1, o2⟩⟩, rfl⟩, fun e => hne (dn_inj o1 o2 e), nrm_dn o1 o2 hne⟩
  · rintro ⟨r, hr, hne, rfl⟩
    obtain ⟨p, hp, rfl⟩ := List.mem_map.mp hr
    obtain ⟨hp, ho⟩ := List.mem_filter.mp hp
    obtain ⟨o1, o2⟩ := offV_iff.mp ho
    have hne' : p.1 ≠ p.2 := fun e => hne (by unfold dnP; dsimp only; rw [e])
    obtain ⟨n1, n2⟩ := nrm_off.mpr ⟨o1, o2⟩
    exact ⟨nrm p, kept_mem.mpr ⟨p, hp, hne', rfl⟩, n1, n2, (nrm_dn o1 o2 hne').symm⟩
theorem con_eq {v : Int} {es : List Ed} {e : Ed} (ok : GOkay v es) (he : e ∈ es) : conE es e = conL es e := by
  have hlt := (ok.inn e he).2.1
  unfold conE conL
  rw [drop_keptE]
  have : (es.map (mvP e.1 e.2)).filter (offV e.2) = es.map (mvP e.1 e.2) := by
    rw [List.filter_eq_self]
    intro q hq
    obtain ⟨p, _, rfl⟩ := List.mem_map.mp hq
    refine offV_iff.mpr ⟨?_, ?_⟩
    · unfold mvP mv; dsimp only; split <;> omega
    · unfold mvP mv; dsimp only; split <;> omega
  rw [this]
/-- the other way: all of the second end's neighbours joined to the first one, the second end deleted -/
def wideE (es : List Ed) (e : Ed) : List Ed := keptE (es ++ (srtI (nb es e.2)).map fun w => (e.1, w))
theorem wide_eq {v : Int} {es : List Ed} {e : Ed} (ok : GOkay v es) (he : e ∈ es) : dropE (wideE es e) e.2 = conL es e := by
  have hlt := (ok.inn e he).2.1
  unfold wideE conL
  rw [drop_keptE]
  refine asc_ext (kept_asc _) (kept_asc _) fun q => ?_
  rw [kept_mem, kept_mem]
  constructor
  · rintro ⟨r, hr, hne, rfl⟩
    obtain ⟨p, hp, rfl⟩ := List.mem_map.mp hr
    obtain ⟨hp, ho⟩ := List.mem_filter.mp hp
    obtain ⟨o1, o2⟩ := offV_iff.mp ho
    rcases List.mem_append.mp hp with hp | hp
    · refine ⟨dnP e.2 (mvP e.1 e.2 p), List.mem_map.mpr ⟨_, List.mem_map.mpr ⟨p, hp, rfl⟩, rfl⟩, ?_, ?_⟩
      · unfold mvP mv; rw [if_neg o1, if_neg o2]; exact hne
      · unfold mvP mv; rw [if_neg o1, if_neg o2]
    · obtain ⟨w, hw, rfl⟩ := List.mem_map.mp hp
      have ha := mem_nb.mp (mem_srtI.mp hw)
      have hwe : w ≠ e.2 := o2
      rcases ha with ha | ha
      · refine ⟨dnP e.2 (mvP e.1 e.2 (e.2, w)), List.mem_map.mpr ⟨_, List.mem_map.mpr ⟨_, ha, rfl⟩, rfl⟩, ?_, ?_⟩
        · unfold mvP mv; rw [if_pos rfl, if_neg hwe]; exact hne
        · unfold mvP mv; rw [if_pos rfl, if_neg hwe]
      · have hsw : ∀ p : Ed, p.1 ≠ p.2 → nrm (p.2, p.1) = nrm p := fun p hn => by
          unfold nrm
          by_cases c : p.1 < p.2
          · have c' : ¬ p.2 < p.1 := by omega
            simp only [c, c', if_true, if_false]
          · have c' : p.2 < p.1 := by omega
            simp only [c, c', if_true, if_false]
        refine ⟨dnP e.2 (mvP e.1 e.2 (w, e.2)), List.mem_map.mpr ⟨_, List.mem_map.mpr ⟨_, ha, rfl⟩, rfl⟩, ?_, ?_⟩
        · unfold mvP mv; rw [if_pos rfl, if_neg hwe]; exact fun q => hne q.symm
        · unfold mvP mv; rw [if_pos rfl, if_neg hwe]; exact hsw (dnP e.2 (e.1, w)) hne
  · rintro ⟨r, hr, hne, rfl⟩
    obtain ⟨p2, hp2, rfl⟩ := List.mem_map.mp hr
    obtain ⟨p, hp, rfl⟩ := List.mem_map.mp hp2
    have pl := (ok.inn p hp).2.1
    by_cases c1 : p.1 = e.2
    · have c2 : p.2 ≠ e.2 := by omega
      have hm : mvP e.1 e.2 p = (e.1, p.2) := by unfold mvP mv; rw [if_pos c1, if_neg c2]
      rw [hm] at hne ⊢
      have hn : p.2 ∈ srtI (nb es e.2) := mem_srtI.mpr (mem_nb.mpr (.inl (by rw [← c1]; exact hp)))
      exact ⟨dnP e.2 (e.1, p.2), List.mem_map.mpr ⟨_, List.mem_filter.mpr ⟨List.mem_append_right _ (List.mem_map.mpr ⟨_, hn, rfl⟩), offV_iff.mpr ⟨by dsimp only; omega, c2⟩⟩, rfl⟩, hne, rfl⟩
    · by_cases c2 : p.2 = e.2
      · have hm : mvP e.1 e.2 p = (p.1, e.1) := by unfold mvP mv; rw [if_neg c1, if_pos c2]
        rw [hm] at hne ⊢
        have hn : p.1 ∈ srtI (nb es e.2) := mem_srtI.mpr (mem_nb.mpr (.inr (by rw [← c2]; exact hp)))
        have hsw : ∀ p : Ed, p.1 ≠ p.2 → nrm (p.2, p.1) = nrm p := fun p hn => by
          unfold nrm
          by_cases c : p.1 < p.2
          · have c' : ¬ p.2 < p.1 := by omega
            simp only [c, c', if_true, if_false]
          · have c' : p.2 < p.1 := by omega
            simp only [c, c', if_true, if_false]
        exact ⟨dnP e.2 (e.1, p.1), List.mem_map.mpr ⟨_, List.mem_filter.mpr ⟨List.mem_append_right _ (List.mem_map.mpr ⟨_, hn, rfl⟩), offV_iff.mpr ⟨by dsimp only; omega, c1⟩⟩, rfl⟩, fun q => hne q.symm, hsw (dnP e.2 (p.1, e.1)) hne⟩
      · have hm : mvP e.1 e.2 p = p := by unfold mvP mv; rw [if_neg c1, if_neg c2]
        rw [hm] at hne ⊢
        exact ⟨dnP e.2 p, List.mem_map.mpr ⟨_, List.mem_filter.mpr ⟨List.mem_append_left _ hp, offV_iff.mpr ⟨c1, c2⟩⟩, rfl⟩, hne, rfl⟩
theorem wE_comm (es : List Ed) (e o : Ed) : wE (wE es e) o = wE (wE es o) e := by
  unfold wE
  rw [List.filter_filter, List.filter_filter]
  refine congrArg (fun f => es.filter f) (funext fun q => ?_)
  rw [Bool.and_comm]
end Lw
end

section
set_option maxHeartbeats 4000000
/-! OiD0: sizes of graphs, words compared. -/
namespace Lw
open PySem PySem.W Mi
theorem sm_G {v : Int} {es : List Ed} (hv : -20 ≤ v ∧ v ≤ 20) (h : ∀ p, p ∈ es → Lo p) (hl : es.length ≤ 100) : Sm 3 2700 (encG v es) ∧ Mi.noDict (encG v es) = true := by
  have a : ∀ x, x ∈ [PyData.int v, .tuple (encE es)] → Sm 2 1300 x ∧ Mi.noDict x = true := fun x hx => by
    rcases List.mem_cons.mp hx with rfl | hx
    · exact sm_I hv
    · rw [List.mem_singleton] at hx
      rw [hx]
      exact sm_E h hl
  refine ⟨(sm_tup (fun x hx => (a x hx).1) (by simp)).mono (by omega) (by simp), ?_⟩
  unfold encG
  rw [Mi.noDict]
  exact nd_all fun x hx => (a x hx).2
theorem th_GG {v : Int} {es : List Ed} (hv : -20 ≤ v ∧ v ≤ 20) (h : ∀ p, p ∈ es → Lo p) (hl : es.length ≤ 100) : Th (.list [encG v es, encG v es]) :=
  th_lst (k := 3) (w := 2700) (fun x hx => by
    simp only [List.mem_cons, List.not_mem_nil, or_false, or_self] at hx
    rw [hx]
    exact sm_G hv h hl) (by omega) (by simp) (by omega)
theorem ne_nilT {es : List Ed} : fNe (.tuple (encE es)) (.tuple []) = some (.bool (decide (es ≠ []))) := by
  unfold fNe
  dsimp only
  rw [if_pos ⟨shT es, shT []⟩, PyData.eqv]
  cases es with
  | nil => rfl
  | cons a b => rfl
@[simp] theorem ne_str {a b : Str} : fNe (.str a) (.str b) = some (.bool (!decide (a = b))) := rfl
theorem ne_nil0 : fNe (.tuple []) (.tuple []) = some (.bool false) := ne_nilT (es := [])
theorem lo_of {p : Ed} (h : -20 ≤ p.1 ∧ p.1 ≤ 20 ∧ -20 ≤ p.2 ∧ p.2 ≤ 20) : Lo p := by
  unfold Lo
  omega
end Lw
end

section
set_option maxHeartbeats 4000000
/-! TeA: the signs of texts of graphs. -/
namespace Lw
open PySem PySem.W Mi TL
/-! ### cutting at blanks -/
def cutL (s : Nat) : List Nat → List Nat → List (List Nat)
  | acc, [] => [acc]
  | acc, c :: r => if c = s then acc :: cutL s [] r else cutL s (acc ++ [c]) r
theorem spl_cut (s : Nat) : ∀ (l acc : List Nat), spl [s] 0 acc l = cutL s acc l
  | [], acc => spl_nil _ _ _
  | c :: r, acc => by
    by_cases h : c = s
    · subst h
      have hp : pre [c] (c :: r) = true := by simp [pre]
      rw [spl_hit hp]
      show acc :: spl [c] 0 [] r = _
      rw [spl_cut c r []]
      unfold cutL
      rw [if_pos rfl]
      cases r <;> rfl
    · have hp : pre [s] (c :: r) = false := by simp [pre, h]
      rw [spl_miss hp, spl_cut s r]
      conv => rhs; unfold cutL
      rw [if_neg h]
def wrds (l : List Nat) : List (List Nat) := (cutL 32 [] l).filter fun w => !w.isEmpty
theorem cutL_nil (s : Nat) (acc : List Nat) : cutL s acc [] = [acc] := rfl
theorem cutL_cons (s c : Nat) (acc r : List Nat) : cutL s acc (c :: r) = if c = s then acc :: cutL s [] r else cutL s (acc ++ [c]) r := rfl
theorem cut_app (s : Nat) (m : List Nat) : ∀ (l acc : List Nat), cutL s acc (l ++ s :: m) = cutL s acc l ++ cutL s [] m
  | [], acc => by
    rw [List.nil_append, cutL_cons, if_pos rfl, cutL_nil]
    rfl
  | c :: r, acc => by
    rw [List.cons_append, cutL_cons, cutL_cons]
    by_cases h : c = s
    · rw [if_pos h, if_pos h, cut_app s m r []]
      rfl
    · rw [if_neg h, if_neg h, cut_app s m r (acc ++ [c])]
theorem wrds_app (l m : List Nat) : wrds (l ++ 32 :: m) = wrds l ++ wrds m := by
  unfold wrds
  rw [cut_app, List.filter_append]
theorem wrds_nil : wrds [] = [] := rfl
theorem cut_word (s : Nat) : ∀ (w acc : List Nat), s ∉ w → cutL s acc w = [acc ++ w]
  | [], acc, _ => by simp [cutL]
  | c :: r, acc, h => by
    unfold cutL
    rw [List.mem_cons, not_or] at h
    rw [if_neg (fun e => h.1 e.symm), cut_word s r _ h.2]
    simp
theorem wrds_word {w : List Nat} (h : 32 ∉ w) (hne : w ≠ []) : wrds w = [w] := by
  unfold wrds
  rw [cut_word 32 w [] h]
  cases w with
  | nil => exact absurd rfl hne
  | cons a b => rfl
theorem wrds_blank (m : List Nat) : wrds (32 :: m) = wrds m := by
  have := wrds_app [] m
  rw [wrds_nil, List.nil_append, List.nil_append] at this
  exact this
theorem wrds_blanks : ∀ (k : Nat) (m : List Nat), wrds (List.replicate k 32 ++ m) = wrds m
  | 0, m => rfl
  | k + 1, m => by
    rw [List.replicate_succ, List.cons_append, wrds_blank, wrds_blanks k m]
/-! ### words of graphs -/
def wV (v : Nat) : List Nat := numL v ++ [58]
def wP (p : Ed) : List Nat := [48 + p.1.toNat, 45, 48 + p.2.toNat]
theorem wV_free {v s : Nat} (h : s < 48 ∨ 58 < s) : s ∉ wV v := by
  unfold wV
  rw [List.mem_append, not_or]
  exact ⟨numL_free (by omega), by simp; omega⟩
theorem wV_ne (v : Nat) : wV v ≠ [] := by
  unfold wV
  simp
theorem wV_inj {v w : Nat} (h : wV v = wV w) : v = w := by
  unfold wV at h
  exact numL_inj (List.append_cancel_right h)
def Fig (p : Ed) : Prop := 0 ≤ p.1 ∧ p.1 < 10 ∧ 0 ≤ p.2 ∧ p.2 < 10
theorem wP_free {p : Ed} (h : Fig p) : 32 ∉ wP p := by
  unfold wP Fig at *
  simp
  omega
theorem wP_ne (p : Ed) : wP p ≠ [] := by
  unfold wP
  simp
theorem wP_inj {p q : Ed} (hp : Fig p) (hq : Fig q) (h : wP p = wP q) : p = q := by
  unfold wP Fig at *
  injection h with h1 h2
  injection h2 with h2 h3
  injection h3 with h3 h4
  exact Prod.ext (by omega) (by omega)
/-- the text's signs, shown -/
def txt (v : Nat) (es : List Ed) : List Nat := wV v ++ es.flatMap fun p => 32 :: wP p
theorem txt_snoc (v : Nat) (es : List Ed) (p : Ed) : txt v (es ++ [p]) = txt v es ++ 32 :: wP p := by
  unfold txt
  rw [List.flatMap_append, List.append_assoc]
  simp
theorem snoc_ind {α : Type} {P : List α → Prop} (h0 : P []) (hs : ∀ xs x, P xs → P (xs ++ [x])) (xs : List α) : P xs := by
  have : ∀ ys : List α, P ys.reverse := fun ys => by
    induction ys with
    | nil => exact h0
    | cons y ys ih => rw [List.reverse_cons]; exact hs _ _ ih
  have h := this xs.reverse
  rwa [List.reverse_reverse] at h
theorem wrds_txt (v : Nat) (es : List Ed) : (∀ p, p ∈ es → Fig p) → wrds (txt v es) = wV v :: es.map wP := by
  refine snoc_ind (P := fun es => (∀ p, p ∈ es → Fig p) → wrds (txt v es) = wV v :: es.map wP) (fun _ => ?_) (fun xs x ih h => ?_) es
  · unfold txt
    rw [List.flatMap_nil, List.append_nil]
    exact wrds_word (wV_free (by omega)) (wV_ne v)
  · rw [txt_snoc, wrds_app, ih fun p hp => h p (List.mem_append_left _ hp), wrds_word (wP_free (h x (by simp))) (wP_ne x)]
    simp
theorem map_wP_inj : ∀ {es fs : List Ed}, (∀ p, p ∈ es → Fig p) → (∀ p, p ∈ fs → Fig p) → es.map wP = fs.map wP → es = fs
  | [], [], _, _, _ => rfl
  | [], _ :: _, _, _, h => by simp at h
  | _ :: _, [], _, _, h => by simp at h
  | p :: es, q :: fs, h1, h2, h => by
    rw [List.map_cons, List.map_cons] at h
    injection h with ha hb
    rw [wP_inj (h1 p List.mem_cons_self) (h2 q List.mem_cons_self) ha, map_wP_inj (fun r hr => h1 r (List.mem_cons_of_mem _ hr)) (fun r hr => h2 r (List.mem_cons_of_mem _ hr)) hb]
theorem txt_inj {v w : Nat} {es fs : List Ed} (h1 : ∀ p, p ∈ es → Fig p) (h2 : ∀ p, p ∈ fs → Fig p) (h : txt v es = txt w fs) : v = w ∧ es = fs := by
  have e := congrArg wrds h
  rw [wrds_txt v es h1, wrds_txt w fs h2] at e
  injection e with ha hb
  exact ⟨wV_inj ha, map_wP_inj h1 h2 hb⟩
theorem joinL_txt (v : Nat) : ∀ es : List Ed, joinL [32] (wV v :: es.map wP) = txt v es := by
  have key : ∀ (es : List Ed) (w : List Nat), joinL [32] (w :: es.map wP) = w ++ es.flatMap fun p => 32 :: wP p := fun es => by
    induction es with
    | nil => intro w; simp [joinL]
    | cons p es ih =>
      intro w
      show w ++ ([32] ++ joinL [32] (wP p :: es.map wP)) = _
      rw [ih, List.flatMap_cons]
      simp
  exact fun es => key es (wV v)
theorem GOkay.fig {v : Int} {es : List Ed} (ok : GOkay v es) : ∀ p, p ∈ es → Fig p := fun p hp => by
  have := ok.inn p hp
  have := ok.hi
  unfold Fig
  omega
theorem txt_length {v : Nat} {es : List Ed} (hv : v ≤ 10) : (txt v es).length ≤ 4 + 4 * es.length := by
  unfold txt
  rw [List.length_append]
  have h1 : (wV v).length ≤ 4 := by
    unfold wV
    rw [List.length_append]
    have := numL_len (n := v) (k := 3) (by omega) (by omega)
    simp
    omega
  have h2 : (es.flatMap fun p => 32 :: wP p).length = 4 * es.length := by
    induction es with
    | nil => rfl
    | cons p es ih =>
      rw [List.flatMap_cons, List.length_append, ih]
      simp [wP]
      omega
  omega
/-! ### numbers as texts -/
theorem tl_int (n : Nat) : tl (toString ((n : Nat) : Int) : String) = numL n := tl_num n
end Lw
end

section
set_option maxHeartbeats 4000000
/-! TeB: texts of graphs, shown and read: the program's defs and the laws' own, as they stand at ad97589. -/
namespace Lw
open PySem PySem.W Mi TL
def b_show_graph : MS :=
  (sSeq (sDrop (mCall m_check_graph (aCons (mVar 0) aNil)))
    (sSeq (sAsg (mVar 0) (gTp (gMore (gN 1) (gMore (gN 2) gNone))))
    (sRet (mS1 fJoin (mC (.str " ")) (mOp2 (lift2o fAdd) (mFr (lDisp (aCons (mJs [(mFmt (mVar 1)), (mC (.str ":"))] Str.empty) aNil))) (mFr (lComp (iS (mVar 2)) (gTp (gMore (gN 3) (gMore (gN 4) gNone))) mYes (mJs [(mFmt (mVar 3)), (mC (.str "-")), (mFmt (mVar 4))] Str.empty) [3, 4])))))))
def m_show_graph : MF := defM 5 b_show_graph
def b__number_told : MS :=
  (sSeq (sFor (iR2 (aCons (mVar 1) (aCons (mOp2 (lift2o fAdd) (mVar 2) (mC (.int 1))) aNil))) (gN 3) (sIf (mB (mOp2 (lift2 fEq) (mOpN (liftN fStr) (aCons (mVar 3) aNil)) (mVar 0))) (sRet (mVar 3)) sSkip))
    (sRet (mC .none)))
def m__number_told : MF := defM 4 b__number_told
def b__vertices_told : MS :=
  (sSeq (sIf (mOr (mNot (mTru (mVar 0))) (mNot (mTru (mS1 fEnds (mOp2 (lift2 fIx) (mVar 0) (mC (.int 0))) (mC (.str ":")))))) (sRet (mC .none)) sSkip)
    (sRet (mCall m__number_told (aCons (mSlA (mOp2 (lift2 fIx) (mVar 0) (mC (.int 0))) pNo (pSome (mOp1 (lift1 fNeg) (mC (.int 1))))) (aCons (mC (.int 1)) (aCons (mC (.int 10)) aNil))))))
def m__vertices_told : MF := defM 1 b__vertices_told
def b__edge_told : MS :=
  (sSeq (sLet 2 (mFr (lComp (iS (mFr (lCut (mVar 0) (mC (.str "-"))))) (gN 3) mYes (mCall m__number_told (aCons (mVar 3) (aCons (mC (.int 0)) (aCons (mOp2 (lift2 fSub) (mVar 1) (mC (.int 1))) aNil)))) [3])))
    (sSeq (sIf (mOr (mB (mOp2 (lift2 fNe) (mOpN (liftN fLen) (aCons (mVar 2) aNil)) (mC (.int 2)))) (mOr (mB (mOp2 (lift2 fIn) (mC .none) (mVar 2))) (mB (mOp2 (lift2 fEq) (mOp2 (lift2 fIx) (mVar 2) (mC (.int 0))) (mOp2 (lift2 fIx) (mVar 2) (mC (.int 1))))))) (sRet (mC .none)) sSkip)
    (sRet (mTup (aCons (mOpN (liftN fMin1) (aCons (mVar 2) aNil)) (aCons (mOpN (liftN fMax1) (aCons (mVar 2) aNil)) aNil))))))
def m__edge_told : MF := defM 4 b__edge_told
def b_read_graph : MS :=
  (sSeq (sIf (mB (mTyIs "str" true (mVar 0))) sNever sSkip)
    (sSeq (sLet 1 (mFr (lComp (iS (mFr (lCut (mVar 0) (mC (.str " "))))) (gN 5) (mTru (mVar 5)) (mVar 5) [5])))
    (sSeq (sLet 2 (mCall m__vertices_told (aCons (mVar 1) aNil)))
    (sSeq (sIf (mB (mIsN false (mVar 2))) sNever sSkip)
    (sSeq (sLet 3 (mAl (lDisp aNil)))
    (sSeq (sFor (iEnS 1 (mSlA (mVar 1) (pSome (mC (.int 1))) pNo)) (gTp (gMore (gN 4) (gMore (gN 5) gNone))) (sSeq (sLet 6 (mCall m__edge_told (aCons (mVar 5) (aCons (mVar 2) aNil))))
    (sSeq (sIf (mOr (mB (mIsN false (mVar 6))) (mOr (mB (mOp2 (lift2 fIn) (mVar 6) (mVar 3))) (mB (mOp2 (lift2 fEq) (mOpN (liftN fLen) (aCons (mVar 3) aNil)) (mC (.int 24)))))) sNever sSkip)
    (sDrop (mMt isL fAppend (mVar 3) (aCons (mVar 6) aNil))))))
    (sRet (mTup (aCons (mVar 2) (aCons (mOpN (liftN fTuple) (aCons (mFr (lOpN lfSorted (aCons (mVar 3) aNil))) aNil)) aNil))))))))))
def m_read_graph : MF := defM 7 b_read_graph
def b__law_text : MS :=
  (sSeq (sLet 1 (mOp2 (lift2o fAdd) (mOpN (liftN fStr) (aCons (mOp2 (lift2 fIx) (mVar 0) (mC (.int 0))) aNil)) (mC (.str ":"))))
    (sSeq (sFor (iS (mOp2 (lift2 fIx) (mVar 0) (mC (.int 1)))) (gTp (gMore (gN 2) (gMore (gN 3) gNone))) (sLet 1 (mOp2 (lift2o fAdd) (mOp2 (lift2o fAdd) (mOp2 (lift2o fAdd) (mOp2 (lift2o fAdd) (mVar 1) (mC (.str " "))) (mOpN (liftN fStr) (aCons (mVar 2) aNil))) (mC (.str "-"))) (mOpN (liftN fStr) (aCons (mVar 3) aNil)))))
    (sRet (mVar 1))))
def m__law_text : MF := defM 4 b__law_text
def b__law_blanks : MS :=
  (sRet (mCall m__law_pick (aCons (mVar 0) (aCons (mTup (aCons (mC (.str "")) (aCons (mC (.str "")) (aCons (mC (.str " ")) (aCons (mC (.str "   ")) aNil))))) aNil))))
def m__law_blanks : MF := defM 1 b__law_blanks
def b__law_other_text : MS :=
  (sSeq (sLet 2 (mOp2 (lift2o fAdd) (mOp2 (lift2o fAdd) (mCall m__law_blanks (aCons (mVar 0) aNil)) (mOpN (liftN fStr) (aCons (mOp2 (lift2 fIx) (mVar 1) (mC (.int 0))) aNil))) (mC (.str ":"))))
    (sSeq (sFor (iS (mCall m__law_order (aCons (mVar 0) (aCons (mOpN (liftN fLen) (aCons (mOp2 (lift2 fIx) (mVar 1) (mC (.int 1))) aNil)) aNil)))) (gN 3) (sSeq (sAsg (mOp2 (lift2 fIx) (mOp2 (lift2 fIx) (mVar 1) (mC (.int 1))) (mVar 3)) (gTp (gMore (gN 4) (gMore (gN 5) gNone))))
    (sSeq (sAsg (mIfE (mB (mOp2 (lift2 fEq) (mCall m__law_draw (aCons (mVar 0) (aCons (mC (.int 2)) aNil))) (mC (.int 0)))) (mTup (aCons (mVar 5) (aCons (mVar 4) aNil))) (mTup (aCons (mVar 4) (aCons (mVar 5) aNil)))) (gTp (gMore (gN 4) (gMore (gN 5) gNone))))
    (sLet 2 (mOp2 (lift2o fAdd) (mOp2 (lift2o fAdd) (mOp2 (lift2o fAdd) (mOp2 (lift2o fAdd) (mOp2 (lift2o fAdd) (mVar 2) (mC (.str " "))) (mCall m__law_blanks (aCons (mVar 0) aNil))) (mOpN (liftN fStr) (aCons (mVar 4) aNil))) (mC (.str "-"))) (mOpN (liftN fStr) (aCons (mVar 5) aNil)))))))
    (sRet (mOp2 (lift2o fAdd) (mVar 2) (mCall m__law_blanks (aCons (mVar 0) aNil))))))
def m__law_other_text : MF := defM 6 b__law_other_text
/-! ### small facts -/
def nS (n : Nat) : Str := Str.ofString (toString ((n : Nat) : Int))
theorem tl_nS (n : Nat) : tl (nS n) = numL n := tl_num n
theorem str_n {n : Nat} (h : n ≤ 100) : fStr [.int (n : Int)] = some (.str (nS n)) := by
  have : (n : Int).natAbs.log2 < 1920 := by
    have := Nat.log2_le_self n
    have e : (n : Int).natAbs = n := Int.natAbs_natCast n
    rw [e]
    omega
  show (if (n : Int).natAbs.log2 < 1920 then some _ else none) = _
  rw [if_pos this]
  rfl
theorem fmt_n {n : Nat} (h : n ≤ 100) : fFmt (.int (n : Int)) = some (.str (nS n)) := by
  have : (n : Int).natAbs.log2 < 1920 := by
    have := Nat.log2_le_self n
    have e : (n : Int).natAbs = n := Int.natAbs_natCast n
    rw [e]
    omega
  show (if (n : Int).natAbs.log2 < 1920 then some _ else none) = _
  rw [if_pos this]
  rfl
theorem sh_s {x : Str} (h : PyData.strOk x = true) : SeqAt.shaped (.str x) = true := by
  unfold SeqAt.shaped
  simp [PyData.canLay0, PyData.depth, h]
theorem eq_ss {a b : Str} (ha : PyData.strOk a = true) (hb : PyData.strOk b = true) : fEq (.str a) (.str b) = some (.bool (decide (a = b))) := by
  unfold fEq
  rw [if_pos ⟨sh_s ha, sh_s hb⟩, PyData.eqv]
  rfl
theorem ok_tl {x : Str} (h : ∀ c, c ∈ tl x → c < 1114112) : PyData.strOk x = true := by
  unfold PyData.strOk
  rw [← Array.all_toList, List.all_eq_true]
  intro c hc
  exact decide_eq_true (h c hc)
theorem ok_num {x : Str} {n : Nat} (h : tl x = numL n) : PyData.strOk x = true := ok_tl fun c hc => by
  rw [h] at hc
  have := numL_digits n c hc
  omega
theorem nS_eq {n m : Nat} {w : Str} (h : tl w = numL n) : nS m = w ↔ m = n := by
  constructor
  · intro e
    have := congrArg tl e
    rw [tl_nS, h] at this
    exact numL_inj this
  · rintro rfl
    exact ext_tl ((tl_nS m).trans h.symm)
section
variable {A : Arn}
theorem number_told (hp : plain A) {w : Str} {n lo hi : Nat} (hw : tl w = numL n) (h0 : lo ≤ n) (h1 : n ≤ hi) (h2 : hi ≤ 10) :
    (m__number_told [.p (.str w), .p (.int lo), .p (.int hi)] A).To fun r A' => r = .p (.int n) ∧ A' = A := by
  unfold m__number_told
  refine To_def ?_
  unfold b__number_told
  simp
  refine To_iR2 ?_
  simp
  refine ⟨_, _, ⟨rfl, rfl⟩, by unfold small; omega, by unfold small; omega, ?_⟩
  have en : ((hi : Int) + 1 - (lo : Int)).toNat = hi + 1 - lo := by omega
  rw [en]
  refine forL_to (fun i s C => (∃ y, s = [some (.p (.str w)), some (.p (.int lo)), some (.p (.int hi)), y]) ∧ C = A ∧ lo + i ≤ n) ?_ ⟨⟨none, rfl⟩, rfl, h0⟩ ?_
  · rintro i x s C hx ⟨⟨y, rfl⟩, rfl, hle⟩
    unfold rangeD at hx
    rw [List.getElem?_map] at hx
    have hi2 : i < hi + 1 - lo := by
      by_cases c : i < hi + 1 - lo
      · exact c
      · rw [List.getElem?_eq_none (by simp; omega)] at hx
        cases hx
    rw [List.getElem?_range hi2] at hx
    cases hx
    have ei : (lo : Int) + (i : Int) = ((lo + i : Nat) : Int) := by omega
    show (turnF _ _ (PyData.int ((lo : Int) + (i : Int))) _ _).To _ _
    rw [ei]
    have hs := str_n (n := lo + i) (by omega)
    have he := eq_ss (ok_num (tl_nS (lo + i))) (ok_num hw)
    have hq : nS (lo + i) = w ↔ lo + i = n := nS_eq hw
    generalize hm : lo + i = m at *
    by_cases c : m = n
    · subst c
      simp [hs, he, hq, hp]
    · simp [hs, he, hq, c]
      omega
  · rintro s C ⟨⟨y, rfl⟩, rfl, hle⟩
    have : (rangeD (lo : Int) (hi + 1 - lo)).length = hi + 1 - lo := by unfold rangeD; rw [List.length_map, List.length_range]
    rw [this] at hle
    omega
/-! ### an edge told -/
def figF (x : PyData) : Option PyData := match x with
  | .str s => some (.int (((tl s).headD 48 : Nat) - 48 : Int))
  | _ => none
theorem split_P {w : Str} {p : Ed} (h : Fig p) (hw : tl w = wP p) : ∃ x y : Str, Txt.split w "-" = [x, y] ∧ tl x = numL p.1.toNat ∧ tl y = numL p.2.toNat := by
  have e := split_spl w "-" (by decide +kernel) (kind_ok (by decide +kernel))
  have e45 : tl ("-" : Str) = [45] := by decide +kernel
  rw [e45, spl_cut, hw] at e
  have h1 : numL p.1.toNat = [48 + p.1.toNat] := numL_lt (by unfold Fig at h; omega)
  have h2 : numL p.2.toNat = [48 + p.2.toNat] := numL_lt (by unfold Fig at h; omega)
  have hc : cutL 45 [] (wP p) = [[48 + p.1.toNat], [48 + p.2.toNat]] := by
    have n1 : ¬ 48 + p.1.toNat = 45 := by omega
    have n2 : ¬ 48 + p.2.toNat = 45 := by omega
    unfold wP
    rw [cutL_cons, if_neg n1, cutL_cons, if_pos rfl, cutL_cons, if_neg n2, cutL_nil]
    rfl
  rw [hc] at e
  have el := congrArg List.length e
  rw [List.length_map] at el
  obtain ⟨x, y, hL⟩ : ∃ x y, Txt.split w "-" = [x, y] := by
    generalize Txt.split w "-" = L at el
    match L, el with
    | [x, y], _ => exact ⟨x, y, rfl⟩
  rw [hL, List.map_cons, List.map_cons, List.map_nil] at e
  rw [List.cons.injEq, List.cons.injEq] at e
  exact ⟨x, y, hL, by rw [h1]; exact e.1, by rw [h2]; exact e.2.1⟩
theorem lfCut_P {w : Str} {p : Ed} (h : Fig p) (hw : tl w = wP p) : ∃ x y : Str, lfCut (.str w) (.str "-") = some [.str x, .str y] ∧ tl x = numL p.1.toNat ∧ tl y = numL p.2.toNat := by
  obtain ⟨x, y, e, hx, hy⟩ := split_P h hw
  refine ⟨x, y, ?_, hx, hy⟩
  have hl : w.length ≤ 100000 := by
    rw [len_tl, hw]
    simp [wP]
  unfold lfCut
  dsimp only
  rw [if_pos ⟨by decide +kernel, hl⟩, e]
  rfl
theorem in_none2 {a b : Int} : fIn .none (.list [.int a, .int b]) = some (.bool false) := by
  unfold fIn
  dsimp only
  rw [if_pos ⟨by decide, shIs [a, b]⟩]
  simp [PyData.eqv]
theorem edge_told (hp : plain A) {w : Str} {p : Ed} {v : Nat} (hv : v ≤ 10) (h : Fig p) (hw : tl w = wP p) (hne : p.1 ≠ p.2) (h1 : p.1 < v) (h2 : p.2 < v) :
    (m__edge_told [.p (.str w), .p (.int v)] A).To fun r A' => r = .p (encP (nrm p)) ∧ A' = A := by
  obtain ⟨x, y, hc, hx, hy⟩ := lfCut_P h hw
  have hf := h
  unfold Fig at hf
  unfold m__edge_told
  refine To_def ?_
  unfold b__edge_told
  simp
  refine To_comp figF ?_
  simp [isS, hc]
  have fx : figF (.str x) = some (.int p.1) := by
    unfold figF
    dsimp only
    rw [hx, numL_lt (by omega)]
    simp
    omega
  have fy : figF (.str y) = some (.int p.2) := by
    unfold figF
    dsimp only
    rw [hy, numL_lt (by omega)]
    simp
    omega
  have one : ∀ (z : Str) (n : Nat), tl z = numL n → n < v → figF (.str z) = some (.int n) → turnC (gN 3) mYes (mCall m__number_told (aCons (mVar 3) (aCons (mC (.int 0)) (aCons (mOp2 (lift2 fSub) (mVar 1) (mC (.int 1))) aNil)))) (wipeS [some (.p (.str w)), some (.p (.int v)), none, none] [3]) (.str z) A = .ok (figF (.str z)) A := fun z n hz hn hfz => by
    refine turn_of (f := figF) ⟨_, rfl, ?_⟩
    rw [hfz]
    simp [wipeS]
    have e1 : (v : Int) - 1 = ((v - 1 : Nat) : Int) := by omega
    rw [e1]
    refine (number_told (lo := 0) (hi := v - 1) hp hz (by omega) (by omega) (by omega)).mono ?_
    rintro _ _ ⟨rfl, rfl⟩
    simp
  have ex : ((p.1.toNat : Nat) : Int) = p.1 := by omega
  have ey : ((p.2.toNat : Nat) : Int) = p.2 := by omega
  refine ⟨⟨one x p.1.toNat hx (by omega) (by rw [ex]; exact fx), one y p.2.toNat hy (by omega) (by rw [ey]; exact fy)⟩, ?_⟩
  have hm : List.filterMap figF [.str x, .str y] = [.int p.1, .int p.2] := by
    simp [fx, fy]
  rw [hm]
  have hl : fLen [.list [.int p.1, .int p.2]] = some (.int 2) := rfl
  simp [hl, in_none2, hne, min_L, max_L, hp]
  have := mm_nrm hne
  unfold mm at this
  rw [← this]
  rfl
/-! ### the vertices told -/
theorem ends_V {w : Str} {v : Nat} (hw : tl w = wV v) : Txt.endswith w ":" = true := by
  have e58 : tl (":" : Str) = [58] := by decide +kernel
  unfold Txt.endswith
  have hl : (":" : Str).length = 1 := by decide +kernel
  have hwl : w.length = (numL v).length + 1 := by
    rw [len_tl, hw]
    simp [wV]
  rw [Bool.and_eq_true, decide_eq_true_eq]
  refine ⟨by omega, ?_⟩
  rw [PySem.StrLaws.subAt_eq, hl, hwl]
  show (((tl w).drop _).take 1 == tl (":" : Str)) = true
  rw [hw, e58]
  unfold wV
  simp
theorem cut_V {w : Str} {v : Nat} (hw : tl w = wV v) : tl (L2.cutS w none (some (-1))) = numL v := by
  have hwl : w.length = (numL v).length + 1 := by
    rw [len_tl, hw]
    simp [wV]
  unfold L2.cutS
  rw [tl_mk]
  show ((tl w).drop _).take _ = _
  rw [hw]
  have e1 : HT.sIx w.length 0 none = 0 := rfl
  have e2 : HT.sIx w.length w.length (some (-1)) = (numL v).length := by
    unfold HT.sIx
    dsimp only
    rw [if_pos (by decide)]
    omega
  rw [e1, e2]
  unfold wV
  simp
theorem vertices_told (hp : plain A) {w : Str} {ws : List Str} {v : Nat} (hv : v ≤ 10) (h1 : 1 ≤ v) (hw : tl w = wV v) :
    (m__vertices_told [.p (.list ((w :: ws).map .str))] A).To fun r A' => r = .p (.int v) ∧ A' = A := by
  have hl : w.length ≤ 100000 := by
    rw [len_tl, hw]
    unfold wV
    rw [List.length_append]
    have := numL_len (n := v) (k := 3) (by omega) (by omega)
    simp
    omega
  have hs : fSlA (.str w) none (some (-1)) = some (.str (L2.cutS w none (some (-1)))) := by
    show fSl (.str w) none (some (-1)) = _
    unfold fSl
    dsimp only
    rw [if_pos hl]
  have he : fEnds (.str w) (.str ":") = some (.bool true) := by
    unfold fEnds
    dsimp only
    rw [ends_V hw]
  have ht : ∀ A : Arn, truthD (.p (.list (.str w :: ws.map .str))) A = some true := fun _ => rfl
  have hix : L2.atI (PyData.str w :: ws.map .str) 0 = some (.str w) := at_nat (i := 0) rfl
  unfold m__vertices_told
  refine To_def ?_
  unfold b__vertices_told
  simp [ht, isS, he, hs, hix]
  refine (number_told (lo := 1) (hi := 10) hp (cut_V hw) h1 hv (by omega)).mono ?_
  rintro _ _ ⟨rfl, rfl⟩
  simp [hp]
end
end Lw
end

section
set_option maxHeartbeats 4000000
/-! TeC: texts shown, and read. -/
namespace Mi
@[simp] theorem To_isN {neg : Bool} {m : ME} {s : Slt} {A : Arn} {P : D → Arn → Prop} : (mIsN neg m s A).To P ↔ (m s A).To fun d A1 => match d with
    | .p .none => P (.p (.bool (!neg))) A1
    | _ => P (.p (.bool neg)) A1 := by
  unfold mIsN
  rw [To_bind]
  refine iff_of_eq (congrArg _ (funext fun a => funext fun A1 => ?_))
  cases a with
  | ref n => cases neg <;> simp
  | scr n => cases neg <;> simp
  | p d => cases d <;> cases neg <;> simp
end Mi
namespace Lw
open PySem PySem.W Mi TL
def mkS (l : List Nat) : Str := ⟨l.toArray⟩
theorem tl_mkS (l : List Nat) : tl (mkS l) = l := rfl
def tS (v : Nat) (es : List Ed) : Str := mkS (txt v es)
theorem tl_tS (v : Nat) (es : List Ed) : tl (tS v es) = txt v es := rfl
theorem of_tS {v : Nat} {es : List Ed} {x : Str} (h : tl x = txt v es) : x = tS v es := ext_tl h
theorem tl32 : tl (" " : Str) = [32] := by decide +kernel
theorem tl45 : tl ("-" : Str) = [45] := by decide +kernel
theorem tl58 : tl (":" : Str) = [58] := by decide +kernel
theorem add_ss {a b : Str} (h : (tl a).length + (tl b).length ≤ 100000) : fAdd (.str a) (.str b) = some (.str (a ++ b)) := by
  show (if a.length + b.length ≤ 100000 then _ else _) = _
  rw [if_pos (by rw [len_tl, len_tl]; exact h)]
theorem fig_num {i : Int} (h0 : 0 ≤ i) (h1 : i < 10) : numL i.toNat = [48 + i.toNat] := numL_lt (by omega)
theorem str_i {i : Int} (h0 : 0 ≤ i) (h1 : i ≤ 10) : fStr [.int i] = some (.str (nS i.toNat)) := by
  have e : ((i.toNat : Nat) : Int) = i := by omega
  have := str_n (n := i.toNat) (by omega)
  rw [e] at this
  exact this
theorem fmt_i {i : Int} (h0 : 0 ≤ i) (h1 : i ≤ 10) : fFmt (.int i) = some (.str (nS i.toNat)) := by
  have e : ((i.toNat : Nat) : Int) = i := by omega
  have := fmt_n (n := i.toNat) (by omega)
  rw [e] at this
  exact this
section
variable {A : Arn} {es : List Ed}
theorem law_text {v : Nat} (hp : plain A) (ok : GOkay v es) : (m__law_text [.p (encG v es)] A).To fun r A' => r = .p (.str (tS v es)) ∧ A' = A := by
  have hv := ok.hi
  have hl := ok.len
  have hs := str_n (n := v) (by omega)
  have l0 : (numL v).length ≤ 3 := numL_len (by omega) (by omega)
  have a0 := add_ss (a := nS v) (b := ":") (by rw [tl_nS, tl58]; simp; omega)
  unfold m__law_text
  refine To_def ?_
  unfold b__law_text
  simp [hs, a0]
  refine forL_to (fun i s C => (∃ (x : Str) (y2 y3 : Option D), s = [some (.p (encG v es)), some (.p (.str x)), y2, y3] ∧ tl x = txt v (es.take i)) ∧ C = A) ?_ ⟨⟨_, none, none, rfl, ?_⟩, rfl⟩ ?_
  · rintro i x s C hx ⟨⟨z, y2, y3, rfl, hz⟩, rfl⟩
    obtain ⟨p, hp2, rfl⟩ := getE hx
    have hpm := List.mem_of_getElem? hp2
    have hin := ok.inn p hpm
    have hil : i < es.length := (List.getElem?_eq_some_iff.mp hp2).1
    have hzl : (tl z).length ≤ 110 := by
      rw [hz]
      have := txt_length (v := v) (es := es.take i) (by omega)
      rw [List.length_take] at this
      omega
    have hz2 : z.cps.size ≤ 110 := by rw [← Array.length_toList]; exact hzl
    have n1 := str_i (i := p.1) (by omega) (by omega)
    have n2 := str_i (i := p.2) (by omega) (by omega)
    have f1 := fig_num (i := p.1) (by omega) (by omega)
    have f2 := fig_num (i := p.2) (by omega) (by omega)
    have b1 := add_ss (a := z) (b := " ") (by rw [tl32]; simp; omega)
    have b2 := add_ss (a := z ++ " ") (b := nS p.1.toNat) (by rw [tl_append, tl32, tl_nS, f1]; simp; omega)
    have b3 := add_ss (a := z ++ " " ++ nS p.1.toNat) (b := "-") (by rw [tl_append, tl_append, tl32, tl_nS, f1, tl45]; simp; omega)
    have b4 := add_ss (a := z ++ " " ++ nS p.1.toNat ++ "-") (b := nS p.2.toNat) (by rw [tl_append, tl_append, tl_append, tl32, tl_nS, tl_nS, f1, f2, tl45]; simp; omega)
    simp [n1, n2, b1, b2, b3, b4]
    rw [List.take_succ, hp2]
    show _ = txt v (es.take i ++ [p])
    rw [txt_snoc, ← hz, tl_append, tl_append, tl_append, tl_append, tl32, tl_nS, tl_nS, f1, f2, tl45]
    simp [wP]
  · rw [tl_append, tl_nS, tl58]
    simp [txt, wV]
  · rintro s C ⟨⟨x, y2, y3, rfl, hx⟩, rfl⟩
    rw [encE_length, List.take_length] at hx
    simp [hp, of_tS hx]
def wS (p : Ed) : Str := mkS (wP p)
def jsF (x : PyData) : Option PyData := match x with
  | .tuple [.int a, .int b] => some (.str (wS (a, b)))
  | _ => none
theorem jsF_map : ∀ es : List Ed, (encE es).filterMap jsF = (es.map wS).map .str
  | [] => rfl
  | p :: es => by
    have hf : jsF (encP p) = some (.str (wS p)) := rfl
    show List.filterMap jsF (encP p :: encE es) = _
    rw [List.filterMap_cons, jsF_map es, hf]
    rfl
theorem sum_le {n : Nat} : ∀ xs : List Nat, (∀ x, x ∈ xs → x ≤ n) → xs.sum ≤ xs.length * n
  | [], _ => by simp
  | x :: xs, h => by
    rw [List.sum_cons, List.length_cons, Nat.succ_mul]
    have := sum_le xs fun y hy => h y (List.mem_cons_of_mem _ hy)
    have := h x List.mem_cons_self
    omega
theorem show_graph {v : Nat} (hp : plain A) (ok : GOkay v es) : (m_show_graph [.p (encG v es)] A).To fun r A' => r = .p (.str (tS v es)) ∧ A' = A := by
  have hv := ok.hi
  have hl := ok.len
  have l0 : (numL v).length ≤ 3 := numL_len (by omega) (by omega)
  have hvs := fmt_n (n := v) (by omega)
  unfold m_show_graph
  refine To_def ?_
  unfold b_show_graph
  simp
  refine (check_graph hp ok).mono ?_
  rintro _ A1 ⟨rfl, rfl⟩
  unfold encG
  have lv : (nS v).length ≤ 3 := by rw [len_tl, tl_nS]; exact l0
  have le0 : ∀ y : Str, (Str.empty ++ y).length = y.length := fun y => by rw [len_tl, tl_append, len_tl]; rfl
  have lc : (Str.empty ++ nS v ++ (":" : Str)).length ≤ 100000 := by
    rw [len_tl, tl_append, tl_append, tl_nS, tl58]
    show ([] ++ numL v ++ [58]).length ≤ 100000
    simp
    omega
  simp [isS, hvs, le0, lc]
  refine ⟨by omega, ?_⟩
  refine To_comp jsF ?_
  simp
  refine ⟨by rw [encE_length]; omega, fun y hy => ?_, ?_⟩
  · obtain ⟨p, hpm, rfl⟩ := List.mem_map.mp hy
    have hin := ok.inn p hpm
    have n1 := fmt_i (i := p.1) (by omega) (by omega)
    have n2 := fmt_i (i := p.2) (by omega) (by omega)
    have f1 := fig_num (i := p.1) (by omega) (by omega)
    have f2 := fig_num (i := p.2) (by omega) (by omega)
    refine turn_of (f := jsF) ⟨_, rfl, ?_⟩
    have hf : jsF (encP p) = some (.str (wS p)) := rfl
    rw [hf]
    have k1 : (nS p.1.toNat).length ≤ 100000 := by rw [len_tl, tl_nS, f1]; show 1 ≤ 100000; decide
    have k2 : (Str.empty ++ nS p.1.toNat ++ ("-" : Str)).length ≤ 100000 := by
      rw [len_tl, tl_append, tl_append, tl_nS, tl45, f1]
      show 2 ≤ 100000
      decide
    have k3 : (Str.empty ++ nS p.1.toNat ++ ("-" : Str) ++ nS p.2.toNat).length ≤ 100000 := by
      rw [len_tl, tl_append, tl_append, tl_append, tl_nS, tl_nS, tl45, f1, f2]
      show 3 ≤ 100000
      decide
    have es : Str.empty ++ nS p.1.toNat ++ ("-" : Str) ++ nS p.2.toNat = wS p := ext_tl (by
      rw [tl_append, tl_append, tl_append, tl_nS, tl_nS, tl45, f1, f2]
      rfl)
    rw [es] at k3
    simp [wipeS, n1, n2, le0, k1, k2, k3, es]
  · rw [jsF_map]
    have hadd : fAdd (.list [.str (Str.empty ++ nS v ++ (":" : Str))]) (.list ((es.map wS).map .str)) = some (.list (((Str.empty ++ nS v ++ (":" : Str)) :: es.map wS).map .str)) := by
      show (if 1 + ((es.map wS).map PyData.str).length ≤ 100000 then some (PyData.list ([PyData.str _] ++ _)) else none) = _
      rw [if_pos (by rw [List.length_map, List.length_map]; omega)]
      rfl
    have hwl : ∀ p : Ed, (wS p).length = 3 := fun p => by rw [len_tl]; rfl
    have hj : fJoin (.str " ") (.list (((Str.empty ++ nS v ++ (":" : Str)) :: es.map wS).map .str)) = some (.str (tS v es)) := by
      unfold fJoin
      dsimp only
      rw [strsOf_map]
      dsimp only [Option.bind_some]
      have hlen1 : (" " : Str).length = 1 := by decide +kernel
      have hsum : (((Str.empty ++ nS v ++ (":" : Str)) :: es.map wS).map (·.length)).sum ≤ ((Str.empty ++ nS v ++ (":" : Str)) :: es.map wS).length * 4 := by
        have := sum_le (n := 4) (((Str.empty ++ nS v ++ (":" : Str)) :: es.map wS).map (·.length)) (fun x hx => by
          obtain ⟨y, hy, rfl⟩ := List.mem_map.mp hx
          rcases List.mem_cons.mp hy with rfl | hy
          · rw [len_tl, tl_append, tl_append, tl_nS, tl58]
            show ([] ++ numL v ++ [58]).length ≤ 4
            simp
            omega
          · obtain ⟨p, _, rfl⟩ := List.mem_map.mp hy
            rw [hwl]
            omega)
        rw [List.length_map] at this
        exact this
      rw [List.length_cons, List.length_map] at hsum
      rw [if_pos (by rw [hlen1, List.length_cons, List.length_map]; omega)]
      congr 2
      refine of_tS ?_
      rw [join_eq, tl_join, tl32, ← joinL_txt]
      congr 1
      rw [List.map_cons, List.map_map]
      congr 1
      rw [tl_append, tl_append, tl_nS, tl58]
      rfl
    simp only [List.map_cons, List.map_map] at hadd hj
    simp [hadd, hj, hp]
end
end Lw
end

section
set_option maxHeartbeats 4000000
/-! TeD: a text read. -/
namespace Lw
open PySem PySem.W Mi TL
def neS (s : Str) : Bool := !(tl s).isEmpty
def wF (x : PyData) : Option PyData := match x with
  | .str s => if neS s = true then some (.str s) else none
  | _ => none
theorem wF_map : ∀ L : List Str, (L.map PyData.str).filterMap wF = (L.filter neS).map .str
  | [] => rfl
  | s :: L => by
    have hf : wF (.str s) = if neS s = true then some (.str s) else none := rfl
    rw [List.map_cons, List.filterMap_cons, wF_map L, hf, List.filter_cons]
    by_cases c : neS s = true <;> simp [c]
theorem cut_len_le (s : Nat) : ∀ (l acc w : List Nat), w ∈ cutL s acc l → w.length ≤ acc.length + l.length
  | [], acc, w, h => by
    rw [cutL_nil, List.mem_singleton] at h
    rw [h]
    simp
  | c :: r, acc, w, h => by
    rw [cutL_cons] at h
    by_cases k : c = s
    · rw [if_pos k] at h
      rcases List.mem_cons.mp h with rfl | h
      · simp
      · have := cut_len_le s r [] w h
        simp at this
        simp
        omega
    · rw [if_neg k] at h
      have := cut_len_le s r _ w h
      simp at this
      simp
      omega
theorem cut_count (s : Nat) : ∀ (l acc : List Nat), (cutL s acc l).length ≤ l.length + 1
  | [], acc => by rw [cutL_nil]; simp
  | c :: r, acc => by
    rw [cutL_cons]
    by_cases k : c = s
    · rw [if_pos k, List.length_cons, List.length_cons]
      have := cut_count s r []
      omega
    · rw [if_neg k, List.length_cons]
      have := cut_count s r (acc ++ [c])
      omega
theorem split32 (x : Str) : (Txt.split x " ").map tl = cutL 32 [] (tl x) := by
  have e := split_spl x " " (by decide +kernel) (kind_ok (by decide +kernel))
  rw [tl32, spl_cut] at e
  exact e
theorem wrds_split (x : Str) : ((Txt.split x " ").filter neS).map tl = wrds (tl x) := by
  unfold wrds
  rw [← split32]
  generalize Txt.split x " " = L
  induction L with
  | nil => rfl
  | cons s L ih =>
    rw [List.map_cons, List.filter_cons, List.filter_cons]
    unfold neS
    by_cases c : (!(tl s).isEmpty) = true
    · rw [if_pos c, if_pos c, List.map_cons, ← ih]
      rfl
    · rw [if_neg c, if_neg c, ← ih]
      rfl
/-- a text that can be read -/
structure Rd (x : Str) (v : Nat) (qs : List Ed) : Prop where
  wd : wrds (tl x) = wV v :: qs.map wP
  len : (tl x).length ≤ 2000
  lo : 1 ≤ v
  hi : v ≤ 10
  inn : ∀ q, q ∈ qs → Fig q ∧ q.1 ≠ q.2 ∧ q.1 < v ∧ q.2 < v
  nd : (qs.map nrm).Nodup
  cnt : qs.length ≤ 24
theorem truth_s {s : Str} {A : Arn} (h : s.length ≤ 100000) : truthD (.p (.str s)) A = some (neS s) := by
  show (if s.length ≤ 100000 then some (s.length != 0) else none) = _
  rw [if_pos h, len_tl]
  unfold neS
  cases tl s <;> rfl
theorem map_get {α β : Type} {f : α → β} {g : List β} {xs : List α} (h : xs.map f = g) {i : Nat} {x : α} (hx : xs[i]? = some x) : g[i]? = some (f x) := by
  rw [← h, List.getElem?_map, hx]
  rfl
def RdI (x : Str) (W : List PyData) (v L : Nat) (A : Arn) (ns : List Ed) (i : Nat) (s : Slt) (C : Arn) : Prop :=
  ∃ y4 y5 y6 : Option D, s = [some (.p (.str x)), some (.p (.list W)), some (.p (.int v)), some (.ref L), y4, y5, y6] ∧ C = A ++ [.lst (encE (ns.take i))]
theorem read_graph {A : Arn} {x : Str} {v : Nat} {qs : List Ed} (hp : plain A) (r : Rd x v qs) : (m_read_graph [.p (.str x)] A).To fun d A' => d = .p (encG v ((qs.map nrm).mergeSort pLe)) ∧ A' = A := by
  have hv := r.hi
  have h1 := r.lo
  have hc := r.cnt
  have hxl : x.length ≤ 100000 := by rw [len_tl]; have := r.len; omega
  have e0 := wrds_split x
  rw [r.wd] at e0
  obtain ⟨w, ws, hW, hw, hws⟩ : ∃ w ws, (Txt.split x " ").filter neS = w :: ws ∧ tl w = wV v ∧ ws.map tl = qs.map wP := by
    generalize (Txt.split x " ").filter neS = L at e0
    cases L with
    | nil => cases e0
    | cons w ws =>
      rw [List.map_cons, List.cons.injEq] at e0
      exact ⟨w, ws, rfl, e0.1, e0.2⟩
  have hcut : lfCut (.str x) (.str " ") = some ((Txt.split x " ").map .str) := by
    unfold lfCut
    dsimp only
    rw [if_pos ⟨by decide +kernel, hxl⟩]
  have hwl : ws.length = qs.length := by
    have := congrArg List.length hws
    simpa using this
  unfold m_read_graph
  refine To_def ?_
  unfold b_read_graph
  simp [tyName]
  refine To_comp wF ?_
  simp [isS, hcut]
  refine ⟨?_, fun s hs => ?_, ?_⟩
  · have := congrArg List.length (split32 x)
    rw [List.length_map] at this
    have h2 := cut_count 32 (tl x) []
    have := r.len
    omega
  · refine turn_of (f := wF) ⟨_, rfl, ?_⟩
    have hsl : s.length ≤ 100000 := by
      have hm : tl s ∈ cutL 32 [] (tl x) := by
        rw [← split32]
        exact List.mem_map.mpr ⟨s, hs, rfl⟩
      have := cut_len_le 32 _ _ _ hm
      have := r.len
      rw [len_tl]
      simp at *
      all_goals omega
    simp [wipeS, truth_s hsl, wF]
  have hfm : (List.map PyData.str (Txt.split x " ")).filterMap wF = (w :: ws).map .str := by rw [wF_map, hW]
  have hfm2 : List.filterMap (wF ∘ PyData.str) (Txt.split x " ") = (w :: ws).map .str := by
    rw [← hfm, List.filterMap_map]
  first
    | rw [hfm]
    | rw [hfm2]
  refine (vertices_told hp hv h1 hw).mono ?_
  rintro _ A1 ⟨rfl, rfl⟩
  simp [cut_tail]
  have hlst : ∀ xs : List PyData, lst (A1 ++ [.lst xs]) A1.length = some xs := fun xs => lst_new
  refine forL_to (fun i s C => RdI x ((w :: ws).map .str) v A1.length A1 (qs.map nrm) i s C) ?_ ⟨_, _, _, rfl, rfl⟩ ?_
  · rintro i z s C hz ⟨y4, y5, y6, rfl, rfl⟩
    rw [cnt_get] at hz
    cases hwi : (ws.map PyData.str)[i]? with
    | none => rw [hwi] at hz; cases hz
    | some u =>
      rw [hwi] at hz
      cases hz
      rw [List.getElem?_map] at hwi
      cases hwi2 : ws[i]? with
      | none => rw [hwi2] at hwi; cases hwi
      | some t =>
        rw [hwi2] at hwi
        cases hwi
        have hg := map_get hws hwi2
        rw [List.getElem?_map] at hg
        cases hqi : qs[i]? with
        | none => rw [hqi] at hg; cases hg
        | some q =>
          rw [hqi] at hg
          have ht : tl t = wP q := (Option.some.inj hg).symm
          have hqm := List.mem_of_getElem? hqi
          obtain ⟨i1, i2, i3, i4⟩ := r.inn q hqm
          have hil : i < qs.length := (List.getElem?_eq_some_iff.mp hqi).1
          have hni : (qs.map nrm)[i]? = some (nrm q) := by rw [List.getElem?_map, hqi]; rfl
          have nd := r.nd
          have hnl : (qs.map nrm).length = qs.length := List.length_map ..
          generalize hns : qs.map nrm = ns at *
          have hsplit : ns = ns.take i ++ nrm q :: ns.drop (i + 1) := by
            have h := List.take_append_drop i ns
            have hin : i < ns.length := by omega
            rw [List.drop_eq_getElem_cons hin] at h
            rw [(List.getElem?_eq_some_iff.mp hni).2] at h
            exact h.symm
          have hp1 : plain (A1 ++ [.lst (encE (ns.take i))]) := plain_snoc hp
          simp
          refine (edge_told hp1 hv i1 ht i2 i3 i4).mono ?_
          rintro _ A2 ⟨rfl, rfl⟩
          have hnot : nrm q ∉ ns.take i := fun hm => by
            rw [hsplit, List.nodup_append] at nd
            exact nd.2.2 _ hm _ List.mem_cons_self rfl
          have hlen : fLen [.list (encE (ns.take i))] = some (.int i) := by
            rw [len_E (by rw [List.length_take]; omega), List.length_take, Nat.min_eq_left (by omega)]
          have hin := in_pp (p := nrm q) (es := ns.take i)
          have hne : ¬ (i : Int) = 24 := by omega
          have hll : (encE (ns.take i)).length < 100000 := by rw [encE_length, List.length_take]; omega
          unfold encP at hin ⊢
          simp only [hnot, decide_false] at hin
          simp [hlst, hin, hlen, hne, hll]
          refine ⟨_, _, _, rfl, ?_⟩
          rw [List.take_succ, hni]
          show _ = A1 ++ [.lst (encE (ns.take i ++ [nrm q]))]
          rw [← encE_app]
          rfl
  · rintro s C ⟨y4, y5, y6, rfl, rfl⟩
    rw [cnt_length, List.length_map, hwl, List.take_of_length_le (by rw [List.length_map]; exact Nat.le_refl _)]
    have hs := sorted_pp (es := qs.map nrm) (by rw [List.length_map]; omega)
    simp [hlst, hs, fTuple, hp, encG]
end Lw
end

section
set_option maxHeartbeats 4000000
/-! TeE: all texts of a graph are read as it. -/
namespace Lw
open PySem PySem.W Mi TL
theorem nrm_same {p : Ed} (h : p.1 < p.2) : nrm p = p := by
  unfold nrm
  rw [if_pos h]
theorem srt_perm {ns es : List Ed} (nd : ns.Nodup) (h : ∀ q, q ∈ ns ↔ q ∈ es) (asc : es.Pairwise pLt) : ns.mergeSort pLe = es := by
  refine asc_ext ?_ asc fun q => by rw [List.mem_mergeSort]; exact h q
  have h1 : (ns.mergeSort pLe).Pairwise (fun a b => pLe a b = true) := List.pairwise_mergeSort pLe_trans pLe_total _
  have h2 : (ns.mergeSort pLe).Nodup := (List.mergeSort_perm _ _).nodup_iff.mpr nd
  exact (h1.and h2).imp fun h => pLt_of h.1 h.2
theorem asc_nodup {es : List Ed} (asc : es.Pairwise pLt) : es.Nodup := by
  rw [List.nodup_iff_pairwise_ne]
  refine asc.imp fun {p q} h e => ?_
  subst e
  unfold pLt at h
  omega
theorem rd_shown {v : Nat} {es : List Ed} (ok : GOkay v es) : Rd (tS v es) v es ∧ (es.map nrm).mergeSort pLe = es := by
  have hm : es.map nrm = es := by
    have : ∀ p, p ∈ es → nrm p = id p := fun p hp => nrm_same (ok.inn p hp).2.1
    rw [List.map_congr_left this, List.map_id]
  have hl := ok.len
  have hv := ok.hi
  refine ⟨⟨wrds_txt v es ok.fig, ?_, by have := ok.lo; omega, by omega, fun q hq => ⟨ok.fig q hq, ?_⟩, by rw [hm]; exact asc_nodup ok.asc, hl⟩, by rw [hm]; exact srt_perm (asc_nodup ok.asc) (fun q => Iff.rfl) ok.asc⟩
  · rw [tl_tS]
    have := txt_length (v := v) (es := es) (by omega)
    omega
  · have := ok.inn q hq
    omega
section
variable {A : Arn} {n : Nat}
theorem blanks (hw : Wl A n) (hp : plain A) : (m__law_blanks [.ref n] A).To fun d A' => (∃ (b : Str) (k : Nat), d = .p (.str b) ∧ tl b = List.replicate k 32 ∧ k ≤ 3) ∧ Wup A n A' := by
  unfold m__law_blanks
  refine To_def ?_
  unfold b__law_blanks
  simp
  refine (pick (c := .tuple [.str "", .str "", .str " ", .str "   "]) hw hp (by simp) (by simp) (.inl rfl)).mono ?_
  rintro _ A1 ⟨⟨x, rfl, hx⟩, u⟩
  have e3 : tl ("   " : Str) = List.replicate 3 32 := by decide +kernel
  have e0 : tl ("" : Str) = List.replicate 0 32 := by decide +kernel
  have e1 : tl (" " : Str) = List.replicate 1 32 := tl32
  have ht : A1.take A.length = A1 := List.take_of_length_le (Nat.le_of_eq u.length)
  simp [u.plain hp, ht]
  refine ⟨?_, u⟩
  simp at hx
  rcases hx with rfl | rfl | rfl
  · exact ⟨_, rfl, 0, e0, by omega⟩
  · exact ⟨_, rfl, 1, e1, by omega⟩
  · exact ⟨_, rfl, 3, e3, by omega⟩
theorem wrds_tail (l : List Nat) : ∀ k : Nat, wrds (l ++ List.replicate k 32) = wrds l
  | 0 => by rw [List.replicate_zero, List.append_nil]
  | k + 1 => by
    rw [List.replicate_succ, wrds_app]
    have := wrds_blanks k []
    rw [List.append_nil, wrds_nil] at this
    rw [this, List.append_nil]
def Pick (v : Nat) (es : List Ed) (os : List Int) (qs : List Ed) (i : Nat) : Prop := qs.map nrm = (os.take i).map (fun k => es.getD k.toNat (0, 0)) ∧ ∀ q, q ∈ qs → Fig q ∧ q.1 ≠ q.2 ∧ q.1 < v ∧ q.2 < v
def OtI (A : Arn) (n v : Nat) (es : List Ed) (os : List Int) (i : Nat) (s : Slt) (C : Arn) : Prop := ∃ (z : Str) (qs : List Ed) (y3 y4 y5 : Option D), s = [some (.ref n), some (.p (encG v es)), some (.p (.str z)), y3, y4, y5] ∧ Lg A n C ∧ Pick v es os qs i ∧ wrds (tl z) = wV v :: qs.map wP ∧ (tl z).length ≤ 10 + 10 * i
theorem other_text {v : Nat} {es : List Ed} (hw : Wl A n) (hp : plain A) (ok : GOkay v es) : (m__law_other_text [.ref n, .p (encG v es)] A).To fun d A' => (∃ (x : Str) (qs : List Ed), d = .p (.str x) ∧ Rd x v qs ∧ (qs.map nrm).mergeSort pLe = es) ∧ Wup A n A' := by
  have hv := ok.hi
  have hl := ok.len
  have h1 := ok.lo
  have hlt := hw.lt
  have l0 : (numL v).length ≤ 3 := numL_len (by omega) (by omega)
  have hs := str_n (n := v) (by omega)
  unfold m__law_other_text
  refine To_def ?_
  unfold b__law_other_text
  simp
  refine (blanks hw hp).mono ?_
  rintro _ A1 ⟨⟨b, k, rfl, hb, hk⟩, u1⟩
  have hA1 := (Lg.refl hw).draw hw u1
  have hbl : b.cps.size = k := by
    have := congrArg List.length hb
    simpa using this
  have c1 := add_ss (a := b) (b := nS v) (by rw [tl_nS, hb]; simp; omega)
  have c2 := add_ss (a := b ++ nS v) (b := ":") (by rw [tl_append, tl_nS, hb, tl58]; simp; omega)
  have hlen := len_T (es := es) (by omega)
  simp [hs, c1, c2, hlen]
  refine (order (k := es.length) (hA1.wl hw) (hA1.plain hp) (by omega)).mono ?_
  rintro _ A2 ⟨⟨os, rfl, ol, ond, omem⟩, u2⟩
  have hA2 := hA1.draw hw u2
  simp
  refine forL_to (fun i s C => OtI A n v es os i s C) ?_ ⟨_, [], _, _, _, rfl, hA2, ⟨rfl, fun q hq => by simp at hq⟩, ?_, ?_⟩ ?_
  · rintro i x s C hx ⟨z, qs, y3, y4, y5, rfl, hC, ⟨pk, hin⟩, hz, hzl⟩
    obtain ⟨o, ho, rfl⟩ := getI hx
    have hoi : i < os.length := (List.getElem?_eq_some_iff.mp ho).1
    have hom := (omem o).mp (List.mem_of_getElem? ho)
    obtain ⟨j, rfl⟩ := Int.eq_ofNat_of_zero_le hom.1
    have hj : j < es.length := by omega
    have hat := at_E (es := es) (k := j) hj
    have hpm : es.getD j (0, 0) ∈ es := by
      have : es.getD j (0, 0) = es[j] := by simp [List.getD, hj]
      rw [this]
      exact List.getElem_mem hj
    generalize hpp : es.getD j (0, 0) = p at *
    have hpi := ok.inn p hpm
    simp [hat]
    refine (draw (hC.wl hw) (hC.plain hp) (k := 2) (by omega) (by omega)).mono ?_
    rintro _ C1 ⟨⟨r, rfl, _, _⟩, w1⟩
    have hC1 := hC.draw hw w1
    -- the rest, for the ends in either order
    have rest : ∀ q : Ed, (q = p ∨ q = (p.2, p.1)) → ∀ y3 : Option D, ((sLet 2 (mOp2 (lift2o fAdd) (mOp2 (lift2o fAdd) (mOp2 (lift2o fAdd) (mOp2 (lift2o fAdd) (mOp2 (lift2o fAdd) (mVar 2) (mC (.str " "))) (mCall m__law_blanks (aCons (mVar 0) aNil))) (mOpN (liftN fStr) (aCons (mVar 4) aNil))) (mC (.str "-"))) (mOpN (liftN fStr) (aCons (mVar 5) aNil))))
        [some (.ref n), some (.p (encG v es)), some (.p (.str z)), y3, some (.p (.int q.1)), some (.p (.int q.2))] C1).To (fun s C => OtI A n v es os (i + 1) s C) (fun d A' => (closeV A.length d A').To fun d A' => (∃ (x : Str) (qs : List Ed), d = .p (.str x) ∧ Rd x v qs ∧ (qs.map nrm).mergeSort pLe = es) ∧ Wup A n A') := fun q hq y3 => by
      have fq : Fig q ∧ q.1 ≠ q.2 ∧ q.1 < v ∧ q.2 < v ∧ nrm q = p := by
        unfold Fig
        rcases hq with rfl | rfl
        · exact ⟨by omega, by omega, by omega, by omega, nrm_same hpi.2.1⟩
        · refine ⟨by dsimp only; omega, by dsimp only; omega, by dsimp only; omega, by dsimp only; omega, ?_⟩
          unfold nrm
          have : ¬ p.2 < p.1 := by omega
          simp only [this, if_false]
      obtain ⟨f1, f2, f3, f4, f5⟩ := fq
      have f1' := f1
      unfold Fig at f1'
      have hz2 : z.cps.size = (tl z).length := by rw [← Array.length_toList]
      have a1 := add_ss (a := z) (b := " ") (by rw [tl32]; simp; omega)
      simp [a1]
      refine (blanks (hC1.wl hw) (hC1.plain hp)).mono ?_
      rintro _ C2 ⟨⟨bb, kk, rfl, hbb, hkk⟩, w2⟩
      have hC2 := hC1.draw hw w2
      have n1 := str_i (i := q.1) (by omega) (by omega)
      have n2 := str_i (i := q.2) (by omega) (by omega)
      have g1 := fig_num (i := q.1) (by omega) (by omega)
      have g2 := fig_num (i := q.2) (by omega) (by omega)
      have b1 := add_ss (a := z ++ " ") (b := bb) (by rw [tl_append, tl32, hbb]; simp; omega)
      have b2 := add_ss (a := z ++ " " ++ bb) (b := nS q.1.toNat) (by rw [tl_append, tl_append, tl32, hbb, tl_nS, g1]; simp; omega)
      have b3 := add_ss (a := z ++ " " ++ bb ++ nS q.1.toNat) (b := "-") (by rw [tl_append, tl_append, tl_append, tl32, hbb, tl_nS, g1, tl45]; simp; omega)
      have b4 := add_ss (a := z ++ " " ++ bb ++ nS q.1.toNat ++ "-") (b := nS q.2.toNat) (by rw [tl_append, tl_append, tl_append, tl_append, tl32, hbb, tl_nS, tl_nS, g1, g2, tl45]; simp; omega)
      have ez : tl (z ++ " " ++ bb ++ nS q.1.toNat ++ "-" ++ nS q.2.toNat) = tl z ++ 32 :: (List.replicate kk 32 ++ wP q) := by
        rw [tl_append, tl_append, tl_append, tl_append, tl_append, tl32, hbb, tl_nS, tl_nS, g1, g2, tl45]
        simp [wP]
      simp [n1, n2, b1, b2, b3, b4]
      refine ⟨_, qs ++ [q], _, _, _, rfl, hC2, ⟨?_, fun q' hq' => ?_⟩, ?_, ?_⟩
      · rw [List.take_succ, ho, List.map_append, pk, List.map_append]
        show _ ++ [nrm q] = _ ++ [es.getD (j : Int).toNat (0, 0)]
        rw [f5, Int.toNat_natCast, hpp]
      · rcases List.mem_append.mp hq' with hq' | hq'
        · exact hin q' hq'
        · rw [List.mem_singleton] at hq'
          rw [hq']
          exact ⟨f1, f2, f3, f4⟩
      · rw [ez, wrds_app, hz, wrds_blanks, wrds_word (wP_free f1) (wP_ne q)]
        simp
      · rw [ez, List.length_append, List.length_cons, List.length_append, List.length_replicate]
        show (tl z).length + (kk + 3 + 1) ≤ _
        omega
    by_cases c0 : r = 0
    · have := rest (p.2, p.1) (.inr rfl) (some (.p (.int j)))
      simp [c0]
      simp at this
      exact this
    · have := rest p (.inl rfl) (some (.p (.int j)))
      simp [c0]
      simp at this
      exact this
  · rw [tl_append, tl_append, hb, tl_nS, tl58, List.append_assoc, wrds_blanks]
    exact wrds_word (wV_free (by omega)) (wV_ne v)
  · rw [tl_append, tl_append, hb, tl_nS, tl58]
    simp
    omega
  · rintro s C ⟨z, qs, y3, y4, y5, rfl, hC, ⟨pk, hin⟩, hz, hzl⟩
    rw [encI_length, ol] at pk hzl
    rw [List.take_of_length_le (by omega)] at pk
    simp
    refine (blanks (hC.wl hw) (hC.plain hp)).mono ?_
    rintro _ C1 ⟨⟨bb, kk, rfl, hbb, hkk⟩, w1⟩
    have hC1 := hC.draw hw w1
    have hz2 : z.cps.size = (tl z).length := by rw [← Array.length_toList]
    have a1 := add_ss (a := z) (b := bb) (by rw [hbb]; simp; omega)
    have g_at : ∀ a : Int, a ∈ os → ∃ h : a.toNat < es.length, es.getD a.toNat (0, 0) = es[a.toNat] := fun a ha => by
      have := (omem a).mp ha
      have h : a.toNat < es.length := by omega
      exact ⟨h, by simp [List.getD, h]⟩
    have nd : (os.map fun k => es.getD k.toNat (0, 0)).Nodup := by
      rw [List.nodup_iff_pairwise_ne, List.pairwise_map]
      rw [List.nodup_iff_pairwise_ne] at ond
      refine ond.imp_of_mem fun {a b} ha hb hne e => ?_
      obtain ⟨h1, e1⟩ := g_at a ha
      obtain ⟨h2, e2⟩ := g_at b hb
      rw [e1, e2] at e
      have ma := (omem a).mp ha
      have mb := (omem b).mp hb
      have asc := List.pairwise_iff_getElem.mp ok.asc
      have irr : ∀ p q : Ed, pLt p q → p ≠ q := fun p q h e => by
        subst e
        unfold pLt at h
        omega
      rcases Nat.lt_trichotomy a.toNat b.toNat with c | c | c
      · exact irr _ _ (asc _ _ h1 h2 c) e
      · exact hne (by omega)
      · exact irr _ _ (asc _ _ h2 h1 c) e.symm
    have mem : ∀ q, q ∈ os.map (fun k => es.getD k.toNat (0, 0)) ↔ q ∈ es := fun q => by
      rw [List.mem_map]
      constructor
      · rintro ⟨a, ha, rfl⟩
        obtain ⟨h1, e1⟩ := g_at a ha
        rw [e1]
        exact List.getElem_mem h1
      · intro hq
        obtain ⟨j, hj, e⟩ := List.getElem_of_mem hq
        refine ⟨(j : Int), (omem _).mpr ⟨by omega, by omega⟩, ?_⟩
        rw [Int.toNat_natCast, ← e]
        simp [List.getD, hj]
    simp [a1]
    refine hC1.close hp ⟨⟨z ++ bb, rfl, qs, ⟨by rw [tl_append, hbb, wrds_tail]; exact hz, by rw [tl_append, hbb, List.length_append, List.length_replicate]; omega, by omega, by omega, hin, by rw [pk]; exact nd, ?_⟩, ?_⟩, hC1.take⟩
    · have := congrArg List.length pk
      rw [List.length_map, List.length_map, ol] at this
      omega
    · rw [pk]
      exact srt_perm nd mem ok.asc
end
end Lw
end

section
set_option maxHeartbeats 4000000
/-! TeH: what laws of texts share. -/
namespace Lw
open PySem PySem.W Mi TL
theorem fullG {A : Arn} {n : Nat} {e : Nat} (hw : Wl A n) (hp : plain A) (he : e ≤ 24) : (m__law_full [.ref n, .p (.int e)] A).To fun d A' => (∃ es, d = .p (encG ((10 : Nat) : Int) es) ∧ GOkay ((10 : Nat) : Int) es) ∧ Wup A n A' := by
  have hlt := hw.lt
  unfold m__law_full
  refine To_def ?_
  unfold b__law_full
  simp
  have hB := (Lg.refl hw).snoc []
  refine (order (k := 45) (hB.wl hw) (hB.plain hp) (by omega)).mono ?_
  rintro d B ⟨⟨os, rfl, ol, ond, omem⟩, u⟩
  have hB1 := hB.draw hw u
  have hl1 : lst B A.length = some (encE []) := by
    rw [u.lst (by omega)]
    exact lst_snoc
  simp
  refine forL_to (fun i s C => ∃ (es : List Ed) (y : Option D), s = [some (.ref n), some (.p (.int e)), some (.ref A.length), y] ∧ Lg A n C ∧ lst C A.length = some (encE es) ∧ es.length = i ∧ ∀ p, p ∈ es → In 10 p) ?_ ⟨[], none, rfl, hB1, hl1, rfl, fun p hp => by simp at hp⟩ ?_
  · rintro i x s C hx ⟨es, y, rfl, hC, hl, hle, hin⟩
    have hx2 := cut_mem (List.mem_of_getElem? hx)
    have hlc : i < (cutD' (encI os) none (some (e : Int))).length := (List.getElem?_eq_some_iff.mp hx).1
    have hlc2 : (cutD' (encI os) none (some (e : Int))).length ≤ (encI os).length := by
      unfold cutD'
      rw [List.length_take, List.length_drop]
      omega
    rw [encI_length, ol] at hlc2
    obtain ⟨k, hk, rfl⟩ := List.mem_map.mp hx2
    have hk2 := (omem k).mp hk
    simp [hl]
    refine (pairs_of (v := 10) (hC.plain hp) (by omega)).mono ?_
    rintro d _ ⟨rfl, rfl⟩
    have hpl : (pairsTo 10 10).length = 45 := by decide +kernel
    obtain ⟨j, rfl⟩ := Int.eq_ofNat_of_zero_le hk2.1
    have e1 := at_E (es := pairsTo 10 10) (k := j) (by omega)
    have hpm : (pairsTo 10 10).getD j (0, 0) ∈ pairsTo 10 10 := by
      have hj : j < (pairsTo 10 10).length := by omega
      have : (pairsTo 10 10).getD j (0, 0) = (pairsTo 10 10)[j] := by simp [List.getD, hj]
      rw [this]
      exact List.getElem_mem hj
    have hpi := pairsTo_In hpm
    generalize (pairsTo 10 10).getD j (0, 0) = pp at *
    have e100 : es.length < 100000 := by omega
    simp [e1, hl, encE_length, e100]
    refine ⟨hC.set (Nat.le_refl _) _, es ++ [pp], ?_, ?_, fun a b hq => ?_⟩
    · rw [lst_set (lst_lt hl), encE_snoc]
    · rw [List.length_append, List.length_cons, List.length_nil]; omega
    · rcases List.mem_append.mp hq with hq | hq
      · exact hin _ hq
      · rw [List.mem_singleton] at hq
        rw [hq]
        exact hpi
  · rintro s C ⟨es, y, rfl, hC, hl, hle, hin⟩
    have hlc2 : (cutD' (encI os) none (some (e : Int))).length ≤ (encI os).length := by
      unfold cutD'
      rw [List.length_take, List.length_drop]
      omega
    rw [encI_length, ol] at hlc2
    simp
    refine (keptR (es := es) (hC.plain hp) hl (by omega)).mono ?_
    rintro d C1 ⟨rfl, rfl⟩
    have hg := hC.gone (m := A.length) (Nat.le_refl _)
    have hcl : (cutD' (encI os) none (some (e : Int))).length ≤ e := by
      unfold cutD'
      rw [List.length_take]
      have : HT.sIx (encI os).length (encI os).length (some (e : Int)) = min e (encI os).length := HT.sIx_nat _ _ _
      rw [this]
      omega
    refine hg.close hp ⟨⟨keptE es, rfl, kept_ok (by omega) (by omega) (by omega) fun p hp2 => ?_⟩, hg.take⟩
    exact hin p hp2
theorem sm_str {x : Str} (h : ∀ c, c ∈ tl x → c < 1000) (hl : (tl x).length ≤ 1000) : Sm 3 2700 (.str x) ∧ Mi.noDict (.str x) = true := by
  refine ⟨⟨by simp [PyData.showable], ?_, rfl, by simp [PyData.depth], ?_⟩, rfl⟩
  · rw [PyData.leavesShort, List.all_eq_true]
    intro c hc
    have := h c hc
    exact decide_eq_true (by omega)
  · rw [PyData.weight, ← Array.length_toList]
    show (tl x).length ≤ 2700
    omega
theorem txt_lt {v : Nat} {es : List Ed} (h : ∀ p, p ∈ es → Fig p) : ∀ c, c ∈ txt v es → c < 1000 := fun c hc => by
  unfold txt wV at hc
  rcases List.mem_append.mp hc with hc | hc
  · rcases List.mem_append.mp hc with hc | hc
    · have := numL_digits v c hc
      omega
    · rw [List.mem_singleton] at hc
      omega
  · obtain ⟨p, hp, hc⟩ := List.mem_flatMap.mp hc
    have := h p hp
    unfold Fig at this
    unfold wP at hc
    simp at hc
    omega
theorem tS_sm {v : Nat} {es : List Ed} (ok : GOkay v es) : Sm 3 2700 (.str (tS v es)) ∧ Mi.noDict (.str (tS v es)) = true := by
  refine sm_str (txt_lt ok.fig) ?_
  rw [tl_tS]
  have := txt_length (v := v) (es := es) (by have := ok.hi; omega)
  have := ok.len
  omega
theorem th_SS {x : Str} (h : Sm 3 2700 (.str x) ∧ Mi.noDict (.str x) = true) : Th (.list [.str x, .str x]) :=
  th_lst (k := 3) (w := 2700) (fun y hy => by
    simp only [List.mem_cons, List.not_mem_nil, or_false, or_self] at hy
    rw [hy]
    exact h) (by omega) (by simp) (by omega)
theorem th_G3 {v : Int} {es : List Ed} (h : Sm 3 2700 (encG v es) ∧ Mi.noDict (encG v es) = true) : Th (.list [encG v es, encG v es, encG v es]) :=
  th_lst (k := 3) (w := 2700) (fun y hy => by
    simp only [List.mem_cons, List.not_mem_nil, or_false, or_self] at hy
    rw [hy]
    exact h) (by omega) (by simp) (by omega)
theorem eqvEs : ∀ es fs : List Ed, PyData.eqvAll (encE es) (encE fs) = decide (es = fs)
  | [], [] => by simp [PyData.eqvAll]
  | [], q :: fs => by
    show PyData.eqvAll [] (encP q :: encE fs) = _
    rw [PyData.eqvAll]
    simp
    all_goals simp
  | p :: es, [] => by
    show PyData.eqvAll (encP p :: encE es) [] = _
    rw [PyData.eqvAll]
    simp
    all_goals simp
  | p :: es, q :: fs => by
    show PyData.eqvAll (encP p :: encE es) (encP q :: encE fs) = _
    rw [PyData.eqvAll, eqvP, eqvEs es fs]
    simp
theorem eqvG {v w : Int} {es fs : List Ed} : PyData.eqv (encG v es) (encG w fs) = decide (v = w ∧ es = fs) := by
  unfold encG
  rw [PyData.eqv, PyData.eqvAll, PyData.eqvAll, PyData.eqvAll, PyData.eqv, PyData.eqv, eqvEs]
  by_cases h1 : v = w <;> by_cases h2 : es = fs <;> simp [h1, h2]
theorem shG (v : Int) (es : List Ed) : SeqAt.shaped (encG v es) = true := by
  unfold SeqAt.shaped encG
  have := depthP es
  have l := layP es
  simp [PyData.canLay0, PyData.canLayAll0, l, PyData.depth, PyData.depthAll]
  omega
theorem eq_gg {v w : Int} {es fs : List Ed} : fEq (encG v es) (encG w fs) = some (.bool (decide (v = w ∧ es = fs))) := by
  unfold fEq
  rw [if_pos ⟨shG v es, shG w fs⟩, eqvG]
theorem ne_bb {a b : Bool} : fNe (.bool a) (.bool b) = some (.bool (!(a == b))) := by
  cases a <;> cases b <;> rfl
theorem tS_inj {v w : Nat} {es fs : List Ed} (h1 : ∀ p, p ∈ es → Fig p) (h2 : ∀ p, p ∈ fs → Fig p) : tS v es = tS w fs ↔ ((v : Int) = (w : Int) ∧ es = fs) := by
  constructor
  · intro h
    obtain ⟨a, b⟩ := txt_inj h1 h2 (congrArg tl h)
    exact ⟨by omega, b⟩
  · rintro ⟨a, rfl⟩
    have : v = w := by omega
    rw [this]
theorem tS_ok {v : Nat} {es : List Ed} (h : ∀ p, p ∈ es → Fig p) : PyData.strOk (tS v es) = true := ok_tl fun c hc => by
  have := txt_lt h c hc
  omega
@[simp] theorem ne_str6 {a b : Str} : fNe (.str a) (.str b) = some (.bool (!decide (a = b))) := rfl
end Lw
end

section
set_option maxHeartbeats 4000000
/-! ErA: an error class whose __init__ hands a text up and then keeps one thing: from the call to the made error. -/
namespace Er
open PySem PySem.W PySem.Calls PyProof.Rows PySem.HandSPX

/-- what stands in such an __init__ -/
def IsRows (fld : Str) (body : List Stmt) : Prop := ∃ (msg : Str) (p0 p1 p2 p3 p4 p5 q1 q2 q3 q4 : Pos) (j : Nat),
  (p2.endLine == p4.line) = true ∧ body = [.Expr (.Call (.Attribute (.Call (.Name "super" p0) [] [] p1) "__init__" p2) [.Constant (.str msg) j p3] [] p4) p5, .Assign [.Attribute (.Name "self" q1) fld q2] (.Name fld q3) q4]
def IsHead (fld : Str) (ps : Arguments) : Prop := ∃ p1 p2 : Pos, ps = { posonlyargs := [], args := [{ arg := "self", annotation := none, pos := p1 }, { arg := fld, annotation := none, pos := p2 }], vararg := none, kwonlyargs := [], kw_defaults := [], kwarg := none, defaults := [] }
def IsNames (fld : Str) (sc : Scope) : Prop := sc.kind = .function ∧ sc.isCoroutine = false ∧ sc.isGenerator = false ∧ (∀ x ∈ sc.names, x.2 ≠ .cell) ∧ sc.names.lookup ("self" : Str) = some .local ∧ sc.names.lookup fld = some .local ∧
  sc.names.lookup ("super" : Str) = some .globalImplicit ∧ sc.names.lookup ("__class__" : Str) = some .free
/-- the facts of the class at C, of its __init__ at fI -/
structure Txt (prog : Program) (K : Frag) (mg : Str → Option Value) (nm fld : Str) (C fI : Addr) : Prop where
  gC : mg nm = some (.ref C)
  cls : ∃ nm q N bs bm sn sub ab col dd k0 k1 k2 k3 k5, K.lookup C = some (excClassObj nm q C N bs bm true sn sub ab col dd k0 k1 k2 k3 k5 "ValueError.__new__") ∧ refsVE bm = true
  sa : findIn K (.ref C) "__setattr__" = some (some (.builtin "object.__setattr__"))
  xf : L2.XfC K C
  no : findIn K (.ref C) fld = some none
  iC : findIn K (.ref C) "__init__" = some (some (.ref fI))
  tC : typeIn K (.ref fI) = some (.type "function")
  kC : keepIn K (.ref C) = true
  tyC : typeIn K (.ref C) = some (.type "type")
  te : exmOne K (.ref C) (.ref C) = some true
  sup : ks_superIn K C C "__init__" = some (some (.builtin "ValueError.__init__"))
  inV : subIn K (.ref C) (.type "ValueError") = some true
  inC : mroIn K C (.ref C) = some true
  opq : nsIn K cStatics "thirdparty.any" = some none
  gS : mg "super" = none
  top : (prog.main.scope.names.lookup ("super" : Str)).isSome = false
  fk : fld = "given" ∨ fld = "index"
  fn : ∃ (oc : Value) (od : Option Addr) (qual : Str) (params : Arguments) (body : List Stmt) (scope : Scope) (doc pm : Value) (an : Option Addr) (cda cc : Addr) (ct : Value) (osl : Array (Option Value)) (ccl cl : Value) (cdd cld : Option Addr) (vs : Array Value) (file : Str) (tf : Tok) (ccs csl : Array (Option Value)),
    K.lookup fI = some ⟨oc, od, .func (ksFn "__init__" qual params body scope .none .none doc pm an (.ref cda) ct cc), osl⟩ ∧ codeIn K (.ref cda) qual = true ∧ K.lookup cda = some ⟨ccl, cdd, .fields vs, ccs⟩ ∧ vs[2]? = some (.str file tf) ∧ ((prog.main.file : Str) == file) = true ∧
      K.lookup cc = some ⟨cl, cld, .cell (some (.ref C)), csl⟩ ∧ IsRows fld body ∧ IsHead fld params ∧ IsNames fld scope

theorem one_fits (v : Value) : [v].length ≤ sizeLine := by
  rw [sizeLine_eq]
  exact (by decide : 1 ≤ 16777216)
/-- what is left of a fresh error at x behind its __init__ -/
structure Left (h h' : Heap) (x C dx t1 : Addr) (fld : Str) (v : Value) : Prop where
  keep : ∀ b o, b ≠ x → h.get? b = some o → h'.get? b = some o
  obj : h'.get? x = some { cls := .ref C, dict := some dx, data := .fields #[.ref t1, .none, .none, .none, .bool false, .none] }
  big : h.objs.size ≤ dx
  ne : dx ≠ x
  ns : h'.Ns1 dx (fun y => if y = fld then some v else none)
/-- a made error -/
structure Made (h h' : Heap) (e C d : Addr) (fld : Str) (v : Value) : Prop where
  keep : ∀ b o, h.get? b = some o → h'.get? b = some o
  new : h.objs.size ≤ e
  obj : ∃ oe vs, h'.get? e = some oe ∧ oe.cls = .ref C ∧ oe.dict = some d ∧ oe.data = .fields vs ∧ vs[1]? = some .none
  big : h.objs.size ≤ d
  ne : d ≠ e
  ns : h'.Ns1 d (fun y => if y = fld then some v else none)
section
variable {prog : Program} {w : World} {A : Around} {E : Value → Shared → Prop} {R : Result → Shared → Prop} {s : Shared} {K : Frag} {mg : Str → Option Value} {nm fld : Str} {C fI : Addr}
theorem fk_self (h : fld = "given" ∨ fld = "index") : (("self" : Str) == fld) = false := by
  rcases h with rfl | rfl <;> decide
theorem fk_dbg (h : fld = "given" ∨ fld = "index") : (fld == ("__debug__" : Str)) = false := by
  rcases h with rfl | rfl <;> decide
theorem call_form {env : Env} {o : Expr} {name : Str} {apos pos ap : Pos} {c : Const} {j : Nat} (h : (apos.endLine == pos.line) = true) :
    eval (.Call (.Attribute o name apos) [.Constant c j ap] [] pos) env = (do
      let ov ← attributeBase o name env (eval o env)
      standAt apos.atName
      let (f, first) ← holding [ov] (getMethod ov name (do return (← importBound o env).getD true))
      callWith pos f first (backTo pos (starEach [.Constant c j ap] env)) []) := by
  show (do
      let ov ← attributeBase o name env (eval o env)
      standAt apos.atName
      methodCall o name apos pos env ov 1 (backTo pos (starEach [.Constant c j ap] env)) (backToKw pos (keywordEach [] env))) = _
  have e : methodCallPos true o env apos pos = pure pos := by
    unfold methodCallPos
    rw [if_pos (by rw [h]; rfl)]
  unfold methodCall
  have f : methodCallForm 1 (backTo pos (starEach [.Constant c j ap] env)) (backToKw pos (keywordEach [] env)) = true := rfl
  rw [f, e]
  rfl
theorem init_run (T : Txt prog K mg nm fld C fI) {x t0 : Addr} {v : Value} (X : K.In s.heap) (G : s.heap.Ns mainGlobals mg) (B : ∃ mb, s.heap.Ns builtinsNs mb ∧ ∀ y : Str, y ≠ "__name__" → mb y = bootBuiltins y) (lim : s.heap.NoLimit)
    (hx : s.heap.get? x = some (excO C t0)) (hnx : K.lookup x = none) (deep : A.depth < recursionLimit)
    (hq : ∀ h' tk dx t1, Left s.heap h' x C dx t1 fld v → R (.ok (.ret .none)) { s with heap := h', toks := tk }) :
    codeAny (model prog w) A (.call (.ref fI) ⟨[.ref x, v], []⟩) R s := by
  obtain ⟨oc, od, qual, params, body, scope, doc, pm, an, cda, cc, ct, osl, ccl, cl, cdd, cld, vs, file, tf, ccs, csl, ho, hcd, hcode, hvs, hfile, hcell, hb, hh, hn⟩ := T.fn
  obtain ⟨msg, p0, p1, p2, p3, p4, p5, q1, q2, q3, q4, j, hpos, rfl⟩ := hb
  obtain ⟨a1, a2, rfl⟩ := hh
  obtain ⟨n1, n2, n3, n4, n5, n6, n7, n8⟩ := hn
  obtain ⟨cn, q, N, bs, bm, sn, sub, ab, col, dd, k0, k1, k2, k3, k5, hC, hbm⟩ := T.cls
  have hcl : clsIn K C = some { name := cn, bases := bs, mro := .ref C :: bm, ns := N, qualname := q, hasDict := true, slotNames := sn, subclasses := sub, abstract := ab, collection := col, hasDel := false } := by unfold clsIn; rw [hC] <;> rfl
  have fs := fk_self T.fk
  refine ks_codeAny_call_defAt (fd := ksFn "__init__" qual _ _ scope .none .none doc pm an (.ref cda) ct cc) (binds := [("self", .ref x), (fld, v)]) deep (X _ _ ho) rfl lim (codeRec_of X hcd) rfl
    (BindsTo.of_eq (by rcases T.fk with h | h <;> subst h <;> first | rfl | with_unfolding_all rfl)) n4 (fun y hy => ?_) (fun h₁ hns k => ?_) n2 n3 n1
  · rcases List.mem_cons.mp hy with rfl | hy
    · exact n5
    · rcases List.mem_cons.mp hy with rfl | hy
      · exact n6
      · cases hy
  have mself : (fun y => ([("self", Value.ref x), (fld, v)] : List (Str × Value)).reverse.lookup y) "self" = some (.ref x) := by
    show List.lookup ("self" : Str) [(fld, v), ("self", Value.ref x)] = _
    simp [List.lookup, fs]
  have mfld : (fun y => ([("self", Value.ref x), (fld, v)] : List (Str × Value)).reverse.lookup y) fld = some v := by
    show List.lookup fld [(fld, v), ("self", Value.ref x)] = _
    simp [List.lookup]
  have X1 : K.In h₁ := X.keeps k
  have hx1 := k _ _ hx
  have I1 : InstAt h₁ x (excO C t0) C none := ⟨hx1, rfl, rfl, trivial⟩
  have noI : ∀ (sc : Scope) (e : Env), sc.kind = .function → e.scope = sc → interactive e = false := fun sc e h1 h2 => by
    unfold interactive
    rw [h2, h1]
    rfl
  obtain ⟨mb, B1, B2⟩ := B
  refine ks_wpAt_execs_cons (ks_wpAt_Expr_any (ks_wpAt_MethodCall ?_ (call_form hpos)) (noI scope _ n1 rfl) rfl)
  refine ks_wpAt_super_base n7 n8 (by decide) rfl (k _ _ (X _ _ ho)) rfl rfl rfl (k _ _ (X _ _ hcode)) rfl hvs hfile T.top ?_
  refine ks_loadName_global n1 n7 (loadGlobal_builtin (mb := mb) (G.keeps k) T.gS (B1.keeps k) ((B2 "super" (by decide)).trans (by decide +kernel)) ⟨rfl, ?_⟩)
  refine wpAny_loadName_free n1 n8 rfl ⟨_, k _ _ (X _ _ hcell), rfl⟩ ?_
  refine wpAny_loadName_local n1 n5 hns mself ?_
  refine ks_wpAny_isType_cls (k _ _ (X _ _ hC)) rfl ⟨rfl, ?_⟩
  obtain ⟨hp, g, dr, tk, os⟩ := s
  refine ks_wpAny_call_super (k _ _ (X _ _ hC)) rfl hx1 rfl (fun c e => nomatch e) (looks_mroIn X1 T.inC) (fun h2 e2 k2 => ?_)
  have X2 : K.In h2 := X1.keeps k2
  have I2 : InstAt h2 x (excO C t0) C none := ⟨k2 _ _ hx1, rfl, rfl, trivial⟩
  have hsup := T.sup
  unfold ks_superIn at hsup
  rw [hcl] at hsup
  refine kxs_getMethod kxs_ValueError e2 (looks_opaque X2 T.opq) (l₀ := .ref C :: bm) (fun A Q E s k q => wpAny_bind ((looks_clsIn X2 hcl) A _ E s k (wpAny_pure q))) rfl X2 hsup (I2.type.andThen (looks_subIn X2 T.inV)) (ks_ne X2 I2 hcl) (by decide) ?_
  have e3 : (h2.push (kxs_mw "ValueError.__init__" x)).get? h2.objs.size = some (kxs_mw "ValueError.__init__" x) := Heap.get?_push_size _ rfl
  have k3 : ∀ b o, h2.get? b = some o → (h2.push (kxs_mw "ValueError.__init__" x)).get? b = some o := fun b o e => Heap.get?_push_of_some _ e
  generalize h2.push (kxs_mw "ValueError.__init__" x) = h3 at e3 k3
  refine kxs_callWith (i := "ValueError.__init__") (x := x) rfl (evalArgs_plain ?_)
  show wpAny _ _ (spliced ((false, eval (.Constant (.str msg) j p3) _) :: [])) _ _ _
  refine spliced_cons (wpAny_Constant_str (spliced_nil ⟨e3, ?_⟩))
  have X3 : K.In h3 := X2.keeps k3
  have hx3 := k3 _ _ (k2 _ _ hx1)
  refine wpAny_call (codeAny_of_tree ?_)
  show wpAny _ _ (callAny (.ref h2.objs.size) ⟨[] ++ [Value.str msg _], []⟩) _ _ _
  simp only [callAny]
  refine wpAny_bind (wpAny_load e3 ?_)
  have y : (Value.type "method-wrapper" == Value.type "method" || Value.type "method-wrapper" == Value.type "builtin_function_or_method" || Value.type "method-wrapper" == Value.type "method-wrapper") = true := by decide
  simp only [y, if_true]
  refine KFB.if_so (by decide) ?_
  refine wpAny_bind (check_bound_init F.excBase_ValueError.toExcCallFacts (X3 _ _ hC) hx3 rfl ?_)
  refine wpAny_bind (wpAny_pure (wpAny_pure ?_))
  refine ⟨plainId_quiet F.excBase_ValueError.init.plain _, codeAny_builtin F.excBase_ValueError.initEntry ?_⟩
  refine exc_init_tree (cls := .ref C) (t0 := t0) (dv := none) (c2 := .none) (c3 := .none) (b4 := .bool false) hx3 (one_fits _) fun h5 k5 x5 _ => ?_
  have X5 : K.In h5 := fun b o e => k5 b o (fun z => by rw [z, hnx] at e; cases e) (X3 b o e)
  obtain ⟨oL, es, ep, hL, hr⟩ := hns
  have nL : hp.objs.size ≠ x := Nat.ne_of_gt (Heap.lt_size hx)
  have k15 : ∀ b o, b ≠ x → h₁.get? b = some o → h5.get? b = some o := fun b o n e => k5 b o n (k3 b o (k2 b o e))
  have hns5 : h5.Ns hp.objs.size (fun y => ([("self", Value.ref x), (fld, v)] : List (Str × Value)).reverse.lookup y) := ⟨oL, es, ep, k15 _ _ nL hL, hr⟩
  show PySem.wpAt _ _ _ (execs _ _) _ _ _
  refine ks_wpAt_execs_cons (ks_wpAt_Assign_Attr (wpAt_of_wpAny (wpAny_Name (wpAny_loadName_local n1 n6 hns5 mfld (wpAny_Name (wpAny_loadName_local n1 n5 hns5 mself ?_) (by decide))) (fk_dbg T.fk))))
  refine set_plain X5 (ox := excO C h3.objs.size) (od := none) ⟨x5, rfl, rfl, trivial⟩ T.sa ?_
  refine exc_osa X5 x5 hcl (show refsVE (.ref C :: bm) = true from hbm) rfl T.no (fun h6 tk6 dx k6 dn dne hx6 hn6 => ?_)
  show PySem.wpAt _ _ _ (execs _ _) _ _ _
  refine wpAt_of_wpAny (wpAny_execs_nil (hq h6 tk6 dx h3.objs.size ⟨fun b o hb e => k6 b o hb (k15 b o hb (k b o e)), hx6, ?_, dne, hn6⟩))
  exact Nat.le_trans (Nat.le_of_lt (Heap.lt_size (k15 _ _ nL hL))) dn
/-- the class called with one thing -/
theorem made (T : Txt prog K mg nm fld C fI) {v : Value} (X : K.In s.heap) (G : s.heap.Ns mainGlobals mg) (B : ∃ mb, s.heap.Ns builtinsNs mb ∧ ∀ y : Str, y ≠ "__name__" → mb y = bootBuiltins y) (lim : s.heap.NoLimit) (deep : A.depth + 1 < recursionLimit)
    (hq : ∀ h' tk e d, Made s.heap h' e C d fld v → R (.ok (.ret (.ref e))) { s with heap := h', toks := tk }) :
    codeAny (model prog w) A (.call (.ref C) ⟨[v], []⟩) R s := by
  obtain ⟨cn, q, N, bs, bm, sn, sub, ab, col, dd, k0, k1, k2, k3, k5, hC, hbm⟩ := T.cls
  obtain ⟨hp, g, dr, tk, os⟩ := s
  have k : ∀ b o, hp.get? b = some o → ((hp.push (kdv_tup [v])).push (excO C hp.objs.size)).get? b = some o := fun b o e => Heap.get?_push_of_some _ (Heap.get?_push_of_some _ e)
  have at_ : ((hp.push (kdv_tup [v])).push (excO C hp.objs.size)).get? (hp.objs.size + 1) = some (excO C hp.objs.size) := by heap_get
  have free : K.lookup (hp.objs.size + 1) = none := by
    cases e : K.lookup (hp.objs.size + 1) with
    | none => rfl
    | some o => exact absurd (Nat.lt_of_succ_lt (Heap.lt_size (show hp.get? (hp.objs.size + 1) = some o from X _ _ e))) (Nat.lt_irrefl _)
  obtain ⟨mb, B1, B2⟩ := B
  refine call_own F.excBase_ValueError (fun X => refsVE_contains X bm hbm) (X _ _ hC) (looks_findIn X T.iC) (fun self => bind_fn X self T.tC) (one_fits v) ?_
  refine init_run (s := ⟨(hp.push (kdv_tup [v])).push (excO C hp.objs.size), g, dr, tk, os⟩) T (X.keeps k) (G.keeps k) ⟨mb, B1.keeps k, B2⟩ (lim.keeps k) at_ free deep fun h' tk' dx t1 ⟨k', hx, dn, dne, hns⟩ => ?_
  have old : ∀ b o, hp.get? b = some o → h'.get? b = some o := fun b o e => k' b o (Nat.ne_of_lt (Nat.lt_succ_of_lt (Heap.lt_size e))) (k b o e)
  have z : hp.objs.size + 1 + 1 ≤ dx := by
    have q := dn
    rw [Heap.size_push, Heap.size_push] at q
    exact q
  exact ⟨rfl, hq h' tk' (hp.objs.size + 1) dx ⟨old, Nat.le_succ _, ⟨_, _, hx, rfl, rfl, rfl, rfl⟩, Nat.le_trans (Nat.le_trans (Nat.le_succ _) (Nat.le_succ _)) z, dne, hns⟩⟩
end
end Er
namespace L2
open PySem PySem.Spec PyProof.Rows
theorem er_lookup {fld : Str} {v : V} {v' : Value} (r : RelV v v') (f : Str) : RelO (List.lookup f [(fld, v)]) (if f = fld then some v' else none) := by
  by_cases h : f = fld
  · subst h
    have q : List.lookup f [(f, v)] = some v := by simp [List.lookup]
    rw [if_pos rfl, q]
    exact r
  · have e : (f == fld) = false := by simpa using h
    rw [if_neg h]
    simp [List.lookup, e, RelO]
section
variable {X : Cx} {C fI : Addr} {nm fld : Str}
/-- the making of an error by one thing -/
def tEr (C : Addr) (fld : Str) (ta : TA) : St → Hp → XK → Prop := fun σ H Q => ta σ H fun vs H1 => ∃ v, vs = [v] ∧ ∀ d, H1 d = none → Q (.ref C) (some d) (upd H1 d (.xd [(fld, v)]))
theorem pmk_er {a : Expr} {ta : TA} {p pos : Pos} {k : Nat} (T : Er.Txt X.prog X.K X.mg nm fld C fI) (hr : Room k X.A) (ha : PA X [a] ta) (hg : Gl X nm) (hd : (nm == ("__debug__" : Str)) = false := by decide)
    (he : starEach (a :: []) X.env = (false, eval a X.env) :: starEach [] X.env := by rfl) (hpl : (backTo pos (starEach [] X.env)).any (·.1) = false := by rfl) :
    PMk X (.Call (.Name nm p) [a] [] pos) (tEr C fld ta) := by
  intro pins s σ H Q I h
  refine wpAny_Call_Name_kw (ld_glob I hg T.gC ?_ hd)
  refine PySem.W.callWith_K (h₀ := X.base) I.ok.mod.kin T.kC (thn (ha.run pos pins s σ H _ I h) fun us s1 hh => ?_) he hpl
  obtain ⟨vs, H1, I1, r1, v, ev, q1⟩ := hh
  subst ev
  refine ⟨I1.kIn, ?_⟩
  cases r1 with
  | @cons _ v' _ us' rv rn =>
    cases rn
    show wpAny _ _ (call (.ref C) [v']) _ _ _
    have lim := I1.nolimit
    obtain ⟨mb, B1, B2⟩ := I1.mod.blt
    have bk := I1.bk
    have gl := I1.mod.glob.keeps bk
    have bl : ∃ mb, s1.heap.Ns builtinsNs mb ∧ ∀ y : Str, y ≠ "__name__" → mb y = bootBuiltins y := ⟨mb, B1.keeps bk, B2⟩
    obtain ⟨hp, g, dr, tk, os⟩ := s1
    refine wpAny_call (Er.made T I1.kIn gl bl lim (by have := hr.dp; omega) fun h' tk' e d M => ?_)
    show MkP X pins σ Q (.ref e) ⟨h', g, dr, tk', os⟩
    obtain ⟨oe, fv, hoe, hc, hdd, hdat, h1⟩ := M.obj
    obtain ⟨G', g1, g2⟩ := restrict h' fun b => decide (b ≠ e)
    have gk : ∀ b, b ≠ e → G'.get? b = h'.get? b := fun b hb => g1 b (decide_eq_true hb)
    have ge : G'.get? e = none := g2 e (by simp)
    have old : ∀ b o, hp.get? b = some o → G'.get? b = some o := fun b o q => (gk b (Nat.ne_of_lt (Nat.lt_of_lt_of_le (Heap.lt_size q) M.new))).trans (M.keep b o q)
    have ob : ObjOk X.prog X.w (upd H1 d (.xd [(fld, v)])) G' d (.xd [(fld, v)]) := ⟨_, M.ns.at (fun o q => (gk d M.ne).trans q), fun f => er_lookup rv f⟩
    have J : Inv X pins σ (upd H1 d (.xd [(fld, v)])) ⟨G', g, dr, tk', os⟩ := I1.laid (t' := tk') old M.big ob
    refine ⟨e, oe, fv, ⟨G', g, dr, tk', os⟩, _, .ref C, some d, rfl, J, fun b o q => ?_, ge, hoe, ⟨hc, hdd⟩, hdat, h1, ?_, rfl, I1.bare, raises_own T.xf.exC T.tyC, q1 d (I1.hok.fresh M.big)⟩
    · by_cases hb : b = e
      · have q' : G'.get? b = some o := q
        rw [hb, ge] at q'
        cases q'
      · exact (gk b hb).symm.trans q
    · rw [upd_ne (Ne.symm M.ne)]
      exact I1.hok.fresh M.new
end
end L2
end

section
set_option maxHeartbeats 4000000
/-! ErB: a try with several clauses, with a name or without; isinstance of a caught error that has its dict. -/
namespace L2
open PySem PySem.Spec PyProof.Rows

abbrev TSx := Addr → Value → Option Addr → TS
def dset (i : Nat) (D : Ends) : Ends := ⟨fun σ H => D.nx (σ.set i none) H, D.rt, fun σ H => D.bk (σ.set i none) H, fun σ H => D.ct (σ.set i none) H⟩
abbrev Clause := Value × Option Nat × TSx
/-- what a clause's suite is to do -/
def goHd (D : Ends) (o : Option Nat) (ts : TSx) (cls : Value) (d : Option Addr) (σ : St) (H : Hp) : Prop := ∀ a, H a = none → match o with
  | some i => ts a cls d (dset i D) (σ.set i (some (.ref a))) H
  | none => ts a cls d D σ H
def wHd (K : PySem.W.Frag) (Wout : WX) (D : Ends) : List Clause → WX
  | [] => Wout
  | (c, o, ts) :: r => fun cls d σ H => ∃ b, PySem.W.exmOne K cls c = some b ∧ (b = true → goHd D o ts cls d σ H) ∧ (b = false → wHd K Wout D r cls d σ H)
/-- the wish of a try: told only of slots as many as there are names -/
def wTr (n : Nat) (K : PySem.W.Frag) (Wout : WX) (D : Ends) (l : List Clause) : WX := fun cls d σ H => σ.length = n → wHd K Wout D l cls d σ H
def SuiteOk (X : Cx) (sts : List Stmt) (ts : TSx) : Prop := ∀ (a : Addr) (oe : Obj) (cls : Value) (d : Option Addr) (pn : List (Addr × Obj)), Zc cls d oe → (∃ vs, oe.data = .fields vs) → PSs (X.suite a ((a, oe) :: pn)) sts (ts a cls d)
inductive Hds (X : Cx) : List ExceptHandler → List Clause → Prop
  | nil : Hds X [] []
  | anon {x : Str} {c : Value} {ts : TSx} {b : Stmt} {rest : List Stmt} {p q : Pos} {hds : List ExceptHandler} {l : List Clause} (hc : Names X x c) (hs : SuiteOk X (b :: rest) ts) (r : Hds X hds l) : Hds X (.ExceptHandler (some (.Name x p)) none (b :: rest) q :: hds) ((c, none, ts) :: l)
  | as_ {x n : Str} {c : Value} {i : Nat} {ts : TSx} {b : Stmt} {rest : List Stmt} {p q : Pos} {hds : List ExceptHandler} {l : List Clause} (hi : X.N[i]? = some n) (hn : X.env.kindOf n = some .local) (hc : Names X x c) (hs : SuiteOk X (b :: rest) ts) (r : Hds X hds l) :
      Hds X (.ExceptHandler (some (.Name x p)) (some n) (b :: rest) q :: hds) ((c, some i, ts) :: l)
section
variable {X : Cx} {body : List Stmt} {h₀ : ExceptHandler} {hds : List ExceptHandler} {l : List Clause} {pos : Pos} {tb : WX → TS} {Wout : WX}
theorem ps_trys (eS : X.stack = X.env :: X.outer) (eF : X.env.frame = some X.env.locals) (nd : X.N.Nodup) (tk : Takes X Wout)
    (hb : ∀ (W : WX) (pn : List (Addr × Obj)) (xe : Value → Shared → Prop), Takes (X.tr pn xe) W → PassesOwn (model X.prog X.w) X.A X.env xe → PSs (X.tr pn xe) body (tb W)) (hh : Hds X (h₀ :: hds) l) :
    PS X (.Try body (h₀ :: hds) [] [] pos) (fun D σ H => tb (wTr X.N.length X.K Wout D l) D σ H) := by
  refine ⟨fun pins s σ H D I h => ?_⟩
  have k := I.ok
  have frs_ : X.A.frames = some (X.env :: X.outer) := by rw [k.frames, eS]
  refine wpAny_Try_except (wpAny_mono ((hb (wTr X.N.length X.K Wout D l) (X.pn ++ pins) (fun e t1 => wpAny (model X.prog X.w) X.A (noteFrame e X.env) (fun _ t2 => wpAny (model X.prog X.w) X.A (setFlight e none) (fun _ t3 =>
    wpAny (model X.prog X.w) X.A (handleBy e X.env (h₀ :: hds)) (SP X pins D) X.xe t3) X.xe t2) X.xe t1) (fun u z zz => ?_) PassesOwn.looking).run [] s σ H D (I.toTry _) h) (fun f z hz => ?_) (fun e z he => he))
  · obtain ⟨a, B, sI, pins', τ, G, cls, d, rfl, J', nb, up, sky, na, os, ag, w⟩ := zz
    have J : Inv X pins τ G sI := J'.ofTry k
    have w := w J.len
    have sk2 : Sky B (X.env :: X.outer) a (Zc cls d) X.env.locals z.heap := by rw [← eS]; exact sky
    show wpAny (model X.prog X.w) X.A (noteFrame (.ref a) X.env) _ _ _
    refine Sky.land Zc.steady frs_ eF sk2 fun g1 f1 u1 => ?_
    have J1 : Inv X pins τ G { z with heap := g1 } := J.landed nb f1.1 (up.trans u1) os ag
    obtain ⟨o1, vs1, a1, z1, d1⟩ := f1.there
    have far : a ∉ frs (X.env :: X.outer) := fun hm => by
      obtain ⟨_, o', e', hnf⟩ := f1.2.2.1.mem hm
      rw [a1] at e'
      cases e'
      exact hnf _ d1
    have nL : a ≠ X.env.locals := fun y => far (List.mem_filterMap.mpr ⟨X.env, List.mem_cons_self, by rw [eF, y]⟩)
    have nF : a ∉ X.fs := fun hm => by
      obtain ⟨e, he, q⟩ := List.mem_filterMap.mp hm
      exact far (List.mem_filterMap.mpr ⟨e, List.mem_cons_of_mem _ he, q⟩)
    have S1 := J1.suite a1 d1 na nL nF
    have looks : ∀ {c : Value} {b : Bool}, PySem.W.exmOne X.K cls c = some b → _ := fun {c b} hb1 => PySem.W.exm_one (M := model X.prog X.w) (b := b) J1.kIn (fun A Q E s k q => wpAny_typeOf_ref (k _ _ a1) (by rw [z1.1]; exact q)) hb1
    have named : ∀ {x : Str} {c : Value} {p : Pos} {Q : Value → Shared → Prop} {E : Value → Shared → Prop}, Names X x c → Q c { z with heap := g1 } → wpAny (model X.prog X.w) (X.A.mark (some (.ref a))) (eval (.Name x p) X.env) Q E { z with heap := g1 } := fun {x c p Q E} hc q => by
      obtain ⟨hg, hdbg, hm | ⟨hm, hv, hnn⟩⟩ := hc
      · exact ld_glob (X := X.suite a ((a, o1) :: (X.pn ++ pins))) S1 hg hm q hdbg
      · exact ld_blt (X := X.suite a ((a, o1) :: (X.pn ++ pins))) S1 hg hm hv q hnn hdbg
    have go : ∀ {hs2 : List ExceptHandler} {l2 : List Clause}, Hds X hs2 l2 → wHd X.K Wout D l2 cls d τ G → wpAny (model X.prog X.w) X.A (handleBy (.ref a) X.env hs2) (SP X pins D) X.xe { z with heap := g1 } := by
      intro hs2 l2 hk
      induction hk with
      | nil =>
        intro w
        refine wpAny_handleBy_nil ?_
        obtain ⟨_, _, _, oe, vs, T, oT, ts, he, _, hd, h1, _⟩ := id f1
        unfold PySem.passOn
        refine wpAny_bind (wpAny_field he hd h1 ?_)
        rw [if_neg (show ¬ ((Value.ref T == Value.none) = true) from by simp)]
        have fin : wpAny (model X.prog X.w) X.A (setFlight (.ref a) X.env.frame) (fun _ t4 => wpAny (model X.prog X.w) X.A (throw (.ref a) : Sem Flow) (SP X pins D) X.xe t4) X.xe { z with heap := g1 } := by
          rw [eF]
          refine HandSPX.setFlight_upZ f1 fun g2 f2 u2 => wpAny_throw (tk _ _ ⟨a, B, sI, pins, τ, G, cls, d, rfl, J, nb, (up.trans u1).trans u2, .inr (.inr (by rw [eS]; exact f2)), na, os, ag, w⟩)
        first
          | exact wpAny_bind (wpAny_pure (wpAny_bind fin))
          | exact wpAny_bind fin
      | @anon x c ts b rest p q hds3 l3 hc hs r ih =>
        rintro ⟨b1, e1, yes, no⟩
        refine wpAny_handleBy_cons (codeAny_handlers_test (named hc ((looks e1).here ?_))) (by intro y; cases y)
        cases b1 with
        | false => exact ih (no rfl)
        | true =>
          refine codeAny_handlers_suite (HandSPX.lands_againZ f1 fun g2 f2 u2 => ?_)
          have J2 : Inv X pins τ G { z with heap := g2 } := J.landed nb f2.1 ((up.trans u1).trans u2) os ag
          obtain ⟨o2, vs2, a2, z2, d2⟩ := f2.there
          have S2 := J2.suite a2 d2 na nL nF
          have g := yes rfl a na
          refine wpAny_mono ((hs a o2 cls d (X.pn ++ pins) z2 ⟨_, d2⟩).run [] _ _ G _ S2 g) (fun f t6 y => ?_) (fun _ _ y => False.elim y)
          cases f with
          | ret u =>
            obtain ⟨v6, σ6, H6, S6, r6, q6⟩ := y
            exact ⟨_, _, _, S6.unsuite k, r6, q6⟩
          | next =>
            obtain ⟨σ6, H6, S6, q6⟩ := y
            exact ⟨_, _, S6.unsuite k, q6⟩
          | brk =>
            obtain ⟨σ6, H6, S6, q6⟩ := y
            exact ⟨_, _, S6.unsuite k, q6⟩
          | cont =>
            obtain ⟨σ6, H6, S6, q6⟩ := y
            exact ⟨_, _, S6.unsuite k, q6⟩
      | @as_ x n c i ts b rest p q hds3 l3 hi hn hc hs r ih =>
        rintro ⟨b1, e1, yes, no⟩
        refine wpAny_handleBy_cons (codeAny_handlers_test (named hc ((looks e1).here ?_))) (by intro y; cases y)
        cases b1 with
        | false => exact ih (no rfl)
        | true =>
          refine codeAny_handlers_suite_as (HandSPX.lands_againZ f1 fun g2 f2 u2 => ?_)
          have J2 : Inv X pins τ G { z with heap := g2 } := J.landed nb f2.1 ((up.trans u1).trans u2) os ag
          obtain ⟨o2, vs2, a2, z2, d2⟩ := f2.there
          have S2 := J2.suite a2 d2 na nL nF
          have g : ts a cls d (dset i D) (τ.set i (some (.ref a))) G := yes rfl a na
          refine store_ok (X := X.suite a ((a, o2) :: (X.pn ++ pins))) (v := .ref a) S2 nd hi (.inl hn) rfl (fun t5 S5 => ?_) (.inr hn)
          refine wpAny_mono ((hs a o2 cls d (X.pn ++ pins) z2 ⟨_, d2⟩).run [] t5 _ G _ S5 g) (fun f t6 y => ?_) (fun _ _ y => False.elim y)
          have out : ∀ {σ6 : St} {H6 : Hp} {Q : Shared → Prop}, Inv (X.suite a ((a, o2) :: (X.pn ++ pins))) [] σ6 H6 t6 → (∀ t7, Inv X pins (σ6.set i none) H6 t7 → Q t7) →
              wpAny (model X.prog X.w) X.A (do bindName X.env n .none; unbindBehindTheSuite X.env n q) (fun _ t7 => Q t7) X.xe t6 := fun S6 hq => gone_ok (S6.unsuite k) nd hi hn hq
          cases f with
          | ret u =>
            obtain ⟨v6, σ6, H6, S6, r6, q6⟩ := y
            exact out S6 fun t7 J7 => ⟨_, _, _, J7, r6, q6⟩
          | next =>
            obtain ⟨σ6, H6, S6, q6⟩ := y
            exact out S6 fun t7 J7 => ⟨_, _, J7, q6⟩
          | brk =>
            obtain ⟨σ6, H6, S6, q6⟩ := y
            exact out S6 fun t7 J7 => ⟨_, _, J7, q6⟩
          | cont =>
            obtain ⟨σ6, H6, S6, q6⟩ := y
            exact out S6 fun t7 J7 => ⟨_, _, J7, q6⟩
    exact go hh w
  · cases f with
    | ret u =>
      obtain ⟨v, τ, G, J, r, q⟩ := hz
      exact ⟨v, τ, G, J.ofTry k, r, q⟩
    | next =>
      obtain ⟨τ, G, J, q⟩ := hz
      exact wpAny_execs_nil ⟨τ, G, J.ofTry k, q⟩
    | brk =>
      obtain ⟨τ, G, J, q⟩ := hz
      exact ⟨τ, G, J.ofTry k, q⟩
    | cont =>
      obtain ⟨τ, G, J, q⟩ := hz
      exact ⟨τ, G, J.ofTry k, q⟩
end

/-! ### isinstance of the caught error -/
structure IsC (K : PySem.W.Frag) (C : Addr) : Prop where
  xf : XfC K C
  cl : (PySem.W.clsIn K C).isSome = true
  ha : PySem.W.findIn K (.ref C) "__class__" = some (some (.builtin "object.__class__"))
  hn : PySem.W.specialIn K (.builtin "object.__class__") "__get__" = some (some (.builtin "getset_descriptor.__get__"))
  ht : PySem.W.takesIn K (.builtin "object.__class__") = some true
  hm : PySem.W.mroIn K C (.type "object") = some true
def rIsD (K : PySem.W.Frag) (cls : Value) (d : Option Addr) (a : Addr) : List V → Hp → VK → Prop := fun xs H Q => ∃ (C : Addr) (c : V) (cv : Value) (b : Bool) (dd : Addr) (fs : List (Str × V)), xs = [.ref a, c] ∧ cls = .ref C ∧ d = some dd ∧ IsC K C ∧ H dd = some (.xd fs) ∧ (∀ u, RelV c u → u = cv) ∧ PySem.W.kitOne K (.ref C) cv = some b ∧ Q (.bl b) H
theorem call_isD {X : Cx} {a : Addr} {cls : Value} {d : Option Addr} {oe : Obj} {pn : List (Addr × Obj)} (hz : Zc cls d oe) (hf : ∃ vs, oe.data = .fields vs) : CallR (X.suite a ((a, oe) :: pn)) (.builtin "isinstance") (rIsD X.K cls d a) := by
  intro pins s σ H xs us Q I r h
  obtain ⟨C, c, cv, b, dd, fs, rfl, rfl, rfl, T, ea, hcv, e, q⟩ := h
  cases r with
  | cons rx rr =>
    cases rr with
    | cons rt rr =>
      cases rr
      cases rx
      obtain rfl := hcv _ rt
      obtain ⟨hget, _⟩ := I.pin (a, oe) (List.mem_append.mpr (.inl List.mem_cons_self))
      obtain ⟨vs, hv⟩ := hf
      have hx : ObjOk X.prog X.w H s.heap dd (.xd fs) := I.hok dd _ ea
      obtain ⟨mA, hns, _⟩ := hx
      obtain ⟨od, ho, _⟩ := lookIn_ns hns
      have J : PySem.W.InstAt s.heap a oe C (some od) := ⟨hget, hz.1, by unfold PySem.W.notCls; rw [hv] <;> rfl, by rw [hz.2]; exact ho⟩
      exact PySem.W.kia_one (PySem.W.kitx_exc T.cl T.xf.ga T.xf.gg T.xf.exC T.ha T.hn T.ht T.hm) I.kIn J e (fun z => nomatch z) fun tk => ⟨.bl b, H, I.kept (t' := tk) fun _ _ z => z, rfl, q⟩
end L2
end

section
set_option maxHeartbeats 4000000
/-! ErC: raise as a statement of data; a lambda handed to a def, its code object kept in the arena's table. -/
namespace Mi
open PySem PySem.Spec PyProof.Rows L2
open Evl (Ex)

/-! ### raise -/
def sRaise (cls fld : Str) (m : ME) : MS := fun s A => fromR (m s A) fun d A1 => match frz d A1 with
  | some (x, A2) => .exn ⟨cls, fld, x⟩ A2
  | none => .bad
section
variable {X : Cx} {W : WX}
theorem xs_raise {nm fld : Str} {C fI : Addr} {a : Expr} {m : ME} {k : Nat} {p pos pos2 : Pos} (hc : X.calm = true) (T : Er.Txt X.prog X.K X.mg nm fld C fI) (gK : PySem.W.nsIn X.K mainGlobals nm = some (some (.ref C))) (hr : Room k X.A) (tk : Takes X W) (ha : PE X a (tE X.K W m)) (hg : Gl X nm) (hd : (nm == ("__debug__" : Str)) = false := by decide)
    (he : starEach (a :: []) X.env = (false, eval a X.env) :: starEach [] X.env := by rfl) (hpl : (backTo pos (starEach [] X.env)).any (·.1) = false := by rfl) :
    PS X (.Raise (some (.Call (.Name nm p) [a] [] pos)) none pos2) (tS X.K W (sRaise nm fld m)) :=
  ps_imp (ps_raise hc tk (pmk_er T hr (pa_cons ha pa_nil (hs := he)) hg hd he hpl)) fun D σ H ⟨F, S, ρ, s, A, w, sr, h⟩ => ⟨F, S, ρ, s, A, w, sr, (EndS.from h).imp fun x H1 ⟨S1, ρ1, A1, d, l1, w1, r1, h1⟩ => by
    cases e : frz d A1 with
    | none => rw [e] at h1; exact h1.elim
    | some z =>
      obtain ⟨y, A2⟩ := z
      rw [e] at h1
      obtain ⟨S2, l2, w2, q⟩ := frz_ok w1 r1 e
      exact ⟨x, rfl, fun dd hd => h1 S2 ρ1 _ σ (.ref C) (some dd) l2 (w2.grow (Grow.side w2.sub hd)) ⟨⟨C, rfl, gK⟩, dd, x, rfl, upd_same, q⟩⟩⟩
end

/-! ### the table of the arena -/
theorem code_head {K : PySem.W.Frag} {c P P' : Addr} (h1 : PySem.W.codeHdIn K c P = true) (h2 : PySem.W.codeHdIn K c P' = true) : P = P' := by
  unfold PySem.W.codeHdIn at h1 h2
  split at h1
  · rename_i vs _ hk
    rw [hk] at h2
    simp only [Bool.and_eq_true] at h1 h2
    obtain ⟨⟨⟨⟨⟨e1, _⟩, _⟩, _⟩, _⟩, _⟩ := h1
    obtain ⟨⟨⟨⟨⟨e2, _⟩, _⟩, _⟩, _⟩, _⟩ := h2
    split at e1
    · rename_i Q hQ
      rw [hQ] at e2
      dsimp only at e2
      exact (beq_iff_eq.mp e1).symm.trans (beq_iff_eq.mp e2)
    · cases e1
  · cases h1
theorem TabAt.uniq {K : PySem.W.Frag} {q : Str} {P P' : Addr} (h1 : TabAt K q P) (h2 : TabAt K q P') : P = P' := by
  obtain ⟨f, o, fd, c, a1, a2, a3, a4, a5⟩ := h1
  obtain ⟨f', o', fd', c', b1, b2, b3, b4, b5⟩ := h2
  rw [a1] at b1
  cases b1
  rw [a2] at b2
  cases b2
  rw [a3] at b3
  cases b3
  rw [a4] at b4
  cases b4
  exact code_head a5 b5
section
variable {K : PySem.W.Frag} {F S S1 H H1 : Hp} {ρ : List Addr} {A : Arn} {n : Nat} {q : Str} {P : Addr}
theorem Wo.tabbed (w : Wo K F S ρ H A) (e : A[n]? = some (.tab q)) (ha : ρ[n]? = some P) (kp : ∀ b o, b ≠ P → H b = some o → H1 b = some o) (ex : Ex S S1) (sub : Ex S1 H1) (new : ∀ a, S1 a ≠ none → S a ≠ none ∨ H a = none) (t : TabIn S1 H1 q P) : Wo K F S1 ρ H1 A := by
  obtain ⟨P', h1, h2, _, ps, hP, _⟩ := w.tab n q e
  rw [ha] at h1
  cases h1
  have fP : F P = none := w.flive n _ P e (by simp) ha
  have off : ∀ {a : Addr} {o : HO}, S a = none → H a = some o → S1 a = none := fun {a o} s h => by
    cases z : S1 a with
    | none => rfl
    | some u =>
      rcases new a (by rw [z]; simp) with y | y
      · exact absurd s y
      · rw [h] at y; cases y
  have ne : ∀ {a : Addr} {o : HO}, H a = some o → (∀ ps, o ≠ .tbl ps) → a ≠ P := fun {a o} h d z => by
    rw [z, hP] at h
    exact d _ (Option.some.inj h).symm
  refine ⟨sub, fun b o z => kp b o (by rintro rfl; rw [fP] at z; cases z) (w.fsub b o z), fun a z => ?_, w.flive, w.len, fun m xs z => ?_, fun m ns z => ?_, fun m ks z => ?_, fun m q' z => ?_, w.inj⟩
  · cases y : F a with
    | none => exact absurd y z
    | some o => exact off (w.fdis a z) (w.fsub a o y)
  · obtain ⟨a, vs, g1, g2, g3, g4⟩ := w.lst m xs z
    exact ⟨a, vs, g1, off g2 g3, kp _ _ (ne g3 fun ps y => by cases y) g3, DqAll.mono ex _ _ g4⟩
  · obtain ⟨a, vs, g1, g2, g3, g4⟩ := w.refs m ns z
    exact ⟨a, vs, g1, off g2 g3, kp _ _ (ne g3 fun ps y => by cases y) g3, g4⟩
  · obtain ⟨a, vs, g1, g2, g3, g4⟩ := w.dct m ks z
    exact ⟨a, vs, g1, off g2 g3, kp _ _ (ne g3 fun ps y => by cases y) g3, g4.mono ex⟩
  · obtain ⟨a, g1, g2, g3, g4⟩ := w.tab m q' z
    obtain ⟨ps', g5, _⟩ := id g4
    by_cases hm : a = P
    · subst hm
      have : m = n := w.inj m n _ _ a z e (by simp) (by simp) g1 ha
      subst this
      rw [z] at e
      cases e
      exact ⟨a, g1, off g2 g5, g3, t⟩
    · exact ⟨a, g1, off g2 g5, g3, g4.map (fun ps y => kp _ _ hm y) ex⟩
end

/-! ### a lambda is made -/
section
variable {X : Cx} {pins : List (Addr × Obj)} {σ : L2.St} {H : Hp} {s : Shared}
theorem lam_new {c P : Addr} {q : Str} {params : Arguments} {body : Expr} {scope : Scope} {pos : Pos} {S : Hp} {E : Value → Shared → Prop} {Q : Value → Shared → Prop} (I : L2.Inv X pins σ H s) (TB : LamX.TabB X.base X.mg c P) (hcode : X.env.code = .ref c) (eq : X.env.qual ++ "<lambda>" = lamq q)
    (hT : TabIn S H q P) (sub : Ex S H) (nS : S P = none) (hdef : defaultsOf params X.env = ([], [])) (hfree : ∀ y ∈ scope.names, y.2 = .free → ∃ c, X.env.cells.lookup y.1 = some c)
    (h : ∀ (f c' : Addr) (pm ctv : Value) (H1 S1 : Hp) (z : Shared), L2.Inv X pins σ H1 z → (∀ b o, b ≠ P → H b = some o → H1 b = some o) → Ex S S1 → Ex S1 H1 → (∀ a, S1 a ≠ none → S a ≠ none ∨ H a = none) → TabIn S1 H1 q P →
      z.heap.get? f = some (PySem.W.kla_obj "<lambda>" (X.env.qual ++ "<lambda>") params body scope (cloFrom X.env.cells scope.names []) pm c' ctv) → H1 f = none → f ∉ frs X.stack → S1 c' = some (LamX.CodeO c' (X.env.qual ++ "<lambda>")) → Q (.ref f) z) :
    wpAny (model X.prog X.w) X.A (eval (.Lambda params body scope pos) X.env) Q E s := by
  obtain ⟨ps, hP, ok3, known⟩ := hT
  refine PySem.W.kla_eval hdef ?_
  have atP : s.heap.get? P = some { cls := .none, data := .fields ps } := I.hok P _ hP
  have out : ∀ f, s.heap.objs.size ≤ f → f ∉ frs X.stack := fun f hf z => by
    rcases List.mem_cons.mp (I.stkSub _ z) with e | e
    · rw [e] at hf
      exact absurd I.lt (Nat.not_lt.mpr hf)
    · exact I.nofs hf e
  cases hc : codeAmong pos ps.toList with
  | some cv =>
    obtain ⟨c', rfl, hco⟩ := known pos cv hc
    refine PySem.W.kla_makeFunctionHit (mg := X.mg) (c := c) (P := P) (ps := ps) (closure_ok hfree) I.ok.glob (I.mod.glob.keeps I.bk) hcode (TB.code.keeps I.bk) atP ok3 hc (TB.bm.keeps I.bk) fun ctv h' tk hx hsz => ?_
    exact h _ c' ((X.mg "__name__").getD .none) ctv H S _ (I.kept fun b o e => Heap.get?_push_of_some _ (hx b o e)) (fun b o _ e => e) (Ex.refl S) sub (fun a z => .inl z) ⟨ps, hP, ok3, known⟩ (Heap.get?_push_size _ rfl) (I.hok.fresh hsz) (out _ hsz) (by rw [eq]; exact hco)
  | none =>
    refine PySem.W.kla_makeFunction (mg := X.mg) (c := c) (P := P) (ps := ps) (closure_ok hfree) I.ok.glob (I.mod.glob.keeps I.bk) hcode (TB.code.keeps I.bk) atP ok3 hc TB.gP (TB.bm.keeps I.bk) fun c' ctv h' tk hx hge hlt hrec htb => ?_
    obtain ⟨c2, oc, vs, t, e2, hoc, hd, hv⟩ := hrec
    cases e2
    have hsz : s.heap.objs.size ≤ h'.objs.size := by omega
    have nC : H c' = none := I.hok.fresh hge
    have nP : P ≠ c' := ne_of_none hP nC
    have J := LamX.inv_table (t' := tk) (q := X.env.qual ++ "<lambda>") (more := #[rawInt pos.line, rawInt pos.col, .ref c']) (h' := h'.push (PySem.W.kla_obj "<lambda>" (X.env.qual ++ "<lambda>") params body scope (cloFrom X.env.cells scope.names []) ((X.mg "__name__").getD .none) c' ctv)) I hP
      (fun b o hb e => Heap.get?_push_of_some _ (hx b o hb e)) (Heap.get?_push_of_some _ htb) hge ⟨oc, vs, t, Heap.get?_push_of_some _ hoc, hd, hv⟩
    have eL : (ps ++ #[rawInt pos.line, rawInt pos.col, .ref c']).toList = ps.toList ++ [rawInt pos.line, rawInt pos.col, .ref c'] := by simp
    have sC : S c' = none := none_sub sub nC
    have ex : Ex S (L2.upd S c' (LamX.CodeO c' (X.env.qual ++ "<lambda>"))) := Ex.new sC
    refine h _ c' ((X.mg "__name__").getD .none) ctv _ (L2.upd S c' (LamX.CodeO c' (X.env.qual ++ "<lambda>"))) _ J (fun b o hb e => ?_) ex (fun b o e => ?_) (fun a z => ?_) ⟨ps ++ #[rawInt pos.line, rawInt pos.col, .ref c'], ?_, ?_, fun p' cv hcv => ?_⟩ (Heap.get?_push_size _ rfl) ?_ (out _ hsz) upd_same
    · rw [upd_ne (ne_of_none e nC), upd_ne hb]
      exact e
    · by_cases hb : b = c'
      · subst hb
        rw [upd_same] at e ⊢
        exact e
      · rw [upd_ne hb] at e
        rw [upd_ne hb, upd_ne (by rintro rfl; rw [nS] at e; cases e)]
        exact sub b o e
    · by_cases ha : a = c'
      · subst ha; exact .inr nC
      · rw [upd_ne ha] at z; exact .inl z
    · rw [upd_ne nP, upd_same]
    · rw [eL]
      exact PySem.TriplesOk_snoc _ _ _ _ ok3
    · rw [eL] at hcv
      rcases LamX.among_app _ ok3 hcv with z | z
      · obtain ⟨c0, e1, e2⟩ := known p' cv z
        exact ⟨c0, e1, ex _ _ e2⟩
      · exact ⟨c', z, by rw [upd_same, eq]⟩
    · rw [upd_ne (show h'.objs.size ≠ c' by omega), upd_ne (Nat.ne_of_gt (Nat.lt_of_lt_of_le (Heap.lt_size atP) hsz))]
      exact I.hok.fresh hsz
end

/-! ### a lambda is called by the def that got it -/
section
variable {X : Cx} {pins : List (Addr × Obj)} {σ : L2.St} {H : Hp} {s : Shared}
theorem lam_act {CXg : CXT} {Eg : XK} {Ng : List Str} {qg : Str} {sg : Scope} {g f c' : Addr} {cdg pm ctv : Value} {params : Arguments} {body : Expr} {scope : Scope} {k i : Nat} {a : Str} {pn : List (Addr × Obj)} {xe : Value → Shared → Prop} {W : WX} {E : XK} {tb : TE} {p1 p2 : Pos}
    (I : L2.Inv X pins σ H s) (gd : X.A.guards = some []) (L : LamX.LamS X.env.scope scope) (hf : s.heap.get? f = some (PySem.W.kla_obj "<lambda>" (X.env.qual ++ "<lambda>") params body scope (cloFrom X.env.cells scope.names []) pm c' ctv)) (hfn : H f = none) (hfr : f ∉ frs X.stack)
    (hbind : bindArgs (PySem.W.kla_fn "<lambda>" (X.env.qual ++ "<lambda>") params body scope (cloFrom X.env.cells scope.names []) pm (.ref c') ctv) ⟨[], []⟩ = pure [])
    (tk : Takes ((cxOf CXg X.prog X.w X.K X.mg X.base Ng qg sg g cdg X.A X.stack s H Eg).tr pn xe) W) (hW : ∀ cls d σ' H', E cls d H' → W cls d σ' H') (hr : Room (k + 1) (X.A.deeper (envOfC qg sg s.heap.objs.size g cdg)))
    (hbody : ∀ (A : Around) (outer : List Env) (s : Shared) (H : Hp), A.guards = some [] → Room k (A.deeper (LamX.lamEnv X scope s.heap.objs.size f c')) → PE (LamX.lamCx X A outer s H E scope f c') body tb)
    (hN : Ng[i]? = some a) (hv : Vis sg a) (hd : (a == ("__debug__" : Str)) = false) (hcd : (a == ("__classdict__" : Str)) = false) :
    PE ((cxOf CXg X.prog X.w X.K X.mg X.base Ng qg sg g cdg X.A X.stack s H Eg).tr pn xe) (.Call (.Name a p1) [] [] p2)
      (fun τ G Q => τ[i]? = some (some (.ref f)) ∧ G c' = some (LamX.CodeO c' (X.env.qual ++ "<lambda>")) ∧ tb σ G Q) := by
  refine ⟨fun pinsZ z τ G Q IZ ⟨hs, hc, ht⟩ => ?_⟩
  refine wpAny_Call_Name_kw (thn ((pe_var (pos := p1) (i := i) hN hv hd hcd).run pinsZ z τ G (fun v H1 => v = .ref f ∧ H1 = G) IZ ⟨.ref f, hs, rfl, rfl⟩) fun u t1 ⟨v, H1, I1, r1, ev, eH⟩ => ?_)
  subst ev
  rw [eH] at I1
  obtain rfl : u = Value.ref f := r1
  have of1 : t1.heap.get? f = some (PySem.W.kla_obj "<lambda>" (X.env.qual ++ "<lambda>") params body scope (cloFrom X.env.cells scope.names []) pm c' ctv) := I1.base.keep f _ hf hfn hfr (fun y => nomatch (show f ∈ ([] : List Addr) from y))
  refine PySem.W.callWith_F0 ⟨_, _, _, _, of1⟩ ?_
  have un : Un (frs X.stack) [] H G s.heap t1.heap := I1.base
  obtain ⟨⟨oc, vs, t, hoc, hdc, hvc⟩, _, _⟩ := I1.hok c' _ hc
  have ran : codeAny (model X.prog X.w) (X.A.deeper (envOfC qg sg s.heap.objs.size g cdg)) (.call (.ref f) ⟨[], []⟩) (CR (L2.CX X.prog X.w) (envOfC qg sg s.heap.objs.size g cdg :: X.stack) X.prog X.w G t1 Q E) t1 := by
    refine PySem.W.kla_callFunE hr.depth of1 rfl L.co L.gen rfl ⟨c', oc, vs, t, rfl, hoc, hdc, hvc⟩ ?_
    rw [hbind]
    refine wpAny_pure (wpAny_newFunctionEnv (fun y hy => (L.own y hy).2) (fun y hy => absurd hy (by simp)) (fun h₁ hns hsb => ⟨I1.nolimit.fresh _ hsb, ?_⟩) L.kind)
    show codeAny _ _ (.expr body (LamX.lamEnv X scope t1.heap.objs.size f c')) _ _
    have J : L2.Inv (LamX.lamCx X (X.A.deeper (envOfC qg sg s.heap.objs.size g cdg)) (envOfC qg sg s.heap.objs.size g cdg :: X.stack) t1 G E scope f c') [] σ G { t1 with heap := h₁, toks := t1.toks + ([] : List (Str × Value)).length } :=
      LamX.lam_start2 I L I1.env0 hr.hd un hns (fun b o e => hsb.extBut b o (Nat.ne_of_lt (Heap.lt_size e)) (Heap.get?_push_of_some _ e))
    refine PySem.W.kla_codeExpr (wpAny_mono ((hbody (X.A.deeper (envOfC qg sg s.heap.objs.size g cdg)) _ t1 G gd (hr.deeper _)).run [] _ _ G Q J ht) (fun v z' hq => ?_) fun e z' hq => hq)
    obtain ⟨w', H', J', rv, q⟩ := hq
    exact ⟨w', H', J'.os, J'.bare, J'.base, J'.hok, rv, q⟩
  have hx : Passes (L2.CX X.prog X.w) ((cxOf CXg X.prog X.w X.K X.mg X.base Ng qg sg g cdg X.A X.stack s H Eg).tr pn xe) E := passes_call tk hW
  refine wpAny_call (codeAny_mono ran fun r z' hq => ?_)
  cases r with
  | error e => exact hx pinsZ τ G t1 e z' I1 hq
  | ok fl =>
    cases fl with
    | ret u => exact I1.after hq
    | next => exact False.elim hq
    | brk => exact False.elim hq
    | cont => exact False.elim hq
end

/-! ### x(lambda: body) as data -/
abbrev Thunk := Arn → Res D
abbrev MGd := Thunk → Arn → Res D
def isTab (A : Arn) (n : Nat) (q : Str) : Bool := match A[n]? with
  | some (.tab q') => decide (q' = q)
  | _ => false
theorem isTab_ok {A : Arn} {n : Nat} {q : Str} (h : isTab A n q = true) : A[n]? = some (.tab q) := by
  unfold isTab at h
  split at h
  · rename_i q' e
    rw [e, of_decide_eq_true h]
  · cases h
def mGuard (n : Nat) (q : Str) (G : MGd) (m : ME) : ME := fun s A => if isTab A n q = true then noX (G (fun A' => m s A') A) else .bad
abbrev WK (E : XK) : WX := fun c d _ H => E c d H
theorem EndG.slot {α β : Type} {K : PySem.W.Frag} {E : XK} {F S : Hp} {ρ : List Addr} {σ τ : L2.St} {rel : Rl α β} {Q : β → Hp → Prop} {r : Res α} (h : EndG K (WK E) F rel S ρ σ Q r) : EndG K (WK E) F rel S ρ τ Q r := by
  cases r with
  | ok a A => exact h
  | exn e A => exact h
  | bad => exact h
/-- what the def that gets a lambda makes of its reading -/
def TTm (K : PySem.W.Frag) (G : MGd) : (XK → Hp → VK → Prop) → Hp → VK → Prop := fun tl H Q => ∃ (F S : Hp) (ρ : List Addr) (A : Arn) (th : Thunk), Wo K F S ρ H A ∧
  (∀ (E : XK) (S' : Hp) (ρ' : List Addr) (H' : Hp) (A' : Arn) (Q' : VK), Le S ρ S' ρ' → Wo K F S' ρ' H' A' → EndG K (WK E) F (RD K) S' ρ' [] Q' (th A') → tl E H' Q') ∧
  (match G th A with
    | .ok v A' => ∀ S' ρ' H' x, Le S ρ S' ρ' → Wo K F S' ρ' H' A' → RD K S' ρ' v x → Q x H'
    | _ => False)
/-- the def g, which calls what it gets, does what G does -/
structure GdOk (P : Program) (w : World) (K : PySem.W.Frag) (mg : Str → Option Value) (base : Heap) (x a : Str) (g : Addr) (G : MGd) : Prop where
  ex : ∃ (oc : Value) (od : Option Addr) (pg : Arguments) (bg : List Stmt) (sg : Scope) (dV kV doc pm cdv ct : Value) (an : Option Addr) (osl : Array (Option Value)) (Ng : List Str), K.lookup g = some ⟨oc, od, .func (PySem.W.fnOf x x pg bg sg dV kV doc pm an cdv ct), osl⟩ ∧ PySem.W.codeIn K cdv x = true ∧
    L2.Binds K (PySem.W.fnOf x x pg bg sg dV kV doc pm an cdv ct) [a] [] ∧ FnScope Ng [a] sg ∧ Ng[0]? = some a ∧ Vis sg a ∧
    ∀ (X : Cx) (q : Str), X.prog = P → X.w = w → X.K = K → X.mg = mg → X.base = base → X.A.guards = some [] → Room 2 X.A → LamX.GivesTo X Ng x sg g cdv bg a q (TTm X.K G)
theorem takes_lam {X : Cx} {A : Around} {outer : List Env} {s : Shared} {H : Hp} {E : XK} {scope : Scope} {f c' : Addr} : Takes (LamX.lamCx X A outer s H E scope f c') (WK E) := takes_of rfl rfl rfl rfl
theorem xe_lam {X : Cx} {W : WX} {n k : Nat} {q x a : Str} {G : MGd} {m : ME} {g c P : Addr} {params : Arguments} {body : Expr} {scope : Scope} {p lpos pos : Pos} (hg : Gl X x) (hm : X.mg x = some (.ref g)) (hk : PySem.W.keepIn X.K (.ref g) = true) (hG : GdOk X.prog X.w X.K X.mg X.base x a g G)
    (gd : X.A.guards = some []) (TB : LamX.TabB X.base X.mg c P) (TA : TabAt X.K q P) (hcode : X.env.code = .ref c) (eq : X.env.qual ++ "<lambda>" = lamq q) (hr : Room (k + 2) X.A) (L : LamX.LamS X.env.scope scope) (hdef : defaultsOf params X.env = ([], []))
    (hbind : ∀ (q : Str) (cl : List (Str × Addr)) (pm cv ctv : Value), bindArgs (PySem.W.kla_fn "<lambda>" q params body scope cl pm cv ctv) ⟨[], []⟩ = pure [])
    (hbody : ∀ (A : Around) (outer : List Env) (s : Shared) (H : Hp) (E : XK) (f c' : Addr), A.guards = some [] → Room k (A.deeper (LamX.lamEnv X scope s.heap.objs.size f c')) → PE (LamX.lamCx X A outer s H E scope f c') body (tE X.K (WK E) m))
    (hdb : (x == ("__debug__" : Str)) = false := by decide) (hd : (a == ("__debug__" : Str)) = false := by decide) (hcd : (a == ("__classdict__" : Str)) = false := by decide) :
    PE X (.Call (.Name x p) [.Lambda params body scope lpos] [] pos) (tE X.K W (mGuard n q G m)) := by
  refine ⟨fun pins s σ H Q I ⟨F, S, ρ, sl, A, w, sr, h⟩ => ?_⟩
  unfold mGuard at h
  by_cases ht : isTab A n q = true
  · rw [if_pos ht] at h
    obtain ⟨P', e1, e2, e3, e4⟩ := w.tab n q (isTab_ok ht)
    obtain rfl : P' = P := e3.uniq TA
    obtain ⟨oc, od, pg, bg, sg, dV, kV, doc, pm, cdv, ct, an, osl, Ng, lk, hcg, hb, Sg, hNg, hva, gives⟩ := hG.ex
    refine wpAny_Call_Name_kw (ld_glob I hg hm ?_ hdb)
    refine PySem.W.callWith_K (h₀ := X.base) I.ok.mod.kin hk ?_ (by rfl) (by rfl)
    show wpAny _ _ (spliced ((false, eval (.Lambda params body scope lpos) X.env) :: backTo pos (starEach [] X.env))) _ _ s
    refine Calls.spliced_cons (lam_new I TB hcode eq e4 w.sub e2 hdef (L.has I.ok) fun f c' pm' ctv H1 S1 z I1 kp ex1 sub1 new1 t1 hf hfn hfr hco => ?_)
    refine Calls.spliced_nil ⟨I1.kIn, ?_⟩
    have w1 : Wo X.K F S1 ρ H1 A := w.tabbed (isTab_ok ht) e1 kp ex1 sub1 new1 t1
    have l1 : Le S ρ S1 ρ := ⟨ex1, Pre.refl ρ⟩
    have rc : codeAny (model X.prog X.w) X.A (.call (.ref g) ⟨[.ref f], []⟩) (CR C8.CX0 X.stack X.prog X.w H1 z Q C8.E0) z := by
      refine LamX.run_ofS (N := Ng) (ps := [a]) (us := [.ref f]) (vs := [.ref f]) (k := k + 1) lk hcg Sg hr I1.env0 (hb z [.ref f] I1.kIn rfl) (.cons rfl .nil) rfl fun hr' => ?_
      have tt : TTm X.K G (fun E H' Q' => tE X.K (WK E) m σ H' Q') H1 Q := by
        refine ⟨F, S1, ρ, A, fun A' => m sl A', w1, fun E S' ρ' H' A' Q' l' w' e => ⟨F, S', ρ', sl, A', w', sr.mono (l1.trans l'), e.slot⟩, ?_⟩
        cases eG : G (fun A' => m sl A') A with
        | bad => rw [eG] at h; exact h
        | exn e A' => rw [eG] at h; exact h
        | ok v A' => rw [eG] at h; exact fun S' ρ' H' x l' w' r => h S' ρ' H' x (l1.trans l') w' r
      obtain ⟨t', ht', hq'⟩ := gives X (X.env.qual ++ "<lambda>") rfl rfl rfl rfl rfl gd (hr.mono (by omega)) f c' z H1 Q (fun E H' Q' => tE X.K (WK E) m σ H' Q')
        (fun W pn xe E p1 p2 tk hW => lam_act (i := 0) I1 gd L hf hfn hfr (hbind _ _ _ _ _) tk hW hr' (fun A outer s H gd2 hr2 => hbody A outer s H E f c' gd2 hr2) hNg hva hd hcd) (sub1 _ _ hco) tt
      first
        | exact ⟨t', ht'.nox, hq'⟩
        | exact ⟨t', ht', hq'⟩
    refine wpAny_call (codeAny_mono rc fun r s2 hq => ?_)
    cases r with
    | error e => exact (show False from hq).elim
    | ok fl =>
      cases fl with
      | ret u => exact I1.after hq
      | next => exact False.elim hq
      | brk => exact False.elim hq
      | cont => exact False.elim hq
  · rw [if_neg ht] at h
    exact h.elim
end Mi
end

section
set_option maxHeartbeats 4000000
/-! ErD: the end of a law whose defs make lambdas: tables of code objects stand in the arena from the start. -/
namespace Mi
open PySem PySem.Spec PyProof.Rows L2
open Evl (Ex)

/-- tables: the def's name, the table's address -/
abbrev Tbs := List (Str × Addr)
structure TbsOk (K : PySem.W.Frag) (h : Heap) (ts : Tbs) : Prop where
  at_ : ∀ p ∈ ts, h.get? p.2 = some { cls := .none, data := .fields #[] }
  out : ∀ p ∈ ts, K.lookup p.2 = none
  def_ : ∀ p ∈ ts, TabAt K p.1 p.2
  nd : (ts.map (·.2)).Nodup
def TbsAt (mg : Str → Option Value) (base : Heap) (ts : Tbs) : Prop := ∀ p ∈ ts, base.BuiltinsAt mg p.2 ∧ mainGlobals ≠ p.2
theorem TbsAt.tabB {K : PySem.W.Frag} {mg : Str → Option Value} {base : Heap} {ts : Tbs} (h : TbsAt mg base ts) (hin : K.In base) {p : Str × Addr} (hp : p ∈ ts) {c : Addr} (hc : PySem.W.codeHdIn K c p.2 = true) : LamX.TabB base mg c p.2 := ⟨PySem.W.codeHd_of_K hin hc, (h p hp).1, (h p hp).2⟩
theorem law_endT {P : Program} {w : World} {K : PySem.W.Frag} {mg mb : Str → Option Value} {k : Nat} {fa a : Addr} {fd : FuncData} {x : Str} {fm : MF} {s₁ : Shared} {vs : List Value} {ns : List Int} {ts : Tbs}
    (KX : K.In s₁.heap) (hns : s₁.heap.Ns mainGlobals mg) (hb : s₁.heap.Ns builtinsNs mb) (hbb : ∀ x : Str, x ≠ "__name__" → mb x = bootBuiltins x) (hlim : s₁.heap.NoLimit) (hg : s₁.gens = #[]) (hT : TbsOk K s₁.heap ts)
    (hbm : ∃ (bm : Addr) (ob : Obj), mg "__builtins__" = some (.ref bm) ∧ bm ≠ builtinsNs ∧ s₁.heap.get? bm = some ob ∧ ob.cls = .type "module" ∧ ob.dict = some builtinsNs ∧ ob.data = .plain)
    (ha : s₁.heap.get? a = some { cls := .type "list", data := .seq vs.toArray }) (hi : IntsAre vs ns) (hl : ns.length ≤ sizeLine) (hr : Room k callerA)
    (F : ∀ base : Heap, K.In base → base.Ns mainGlobals mg → TbsAt mg base ts → FnG P w K mg base k fa fd [x] fm) (hbind : ∀ (s : Shared) (u : Value), BindsTo s fd ⟨[u], []⟩ [(x, u)])
    (hm : ∃ A', fm [.scr ns] (ts.map fun p => O.tab p.1) = .ok (.p (.bool true)) A') :
    codeAny (model P w) callerA (.call (.ref fa) ⟨[.ref a], []⟩) (fun r s' => r = .ok (.ret (.bool true)) ∧ PySem.OldK s₁.heap s'.heap ∧ s'.os = s₁.os ∧ AllBare s'.gens) s₁ := by
  have rv : Vals (ns.map V.int) vs := vals_ints hi
  have isT : ∀ b, b ∈ ts.map (·.2) → s₁.heap.get? b = some { cls := .none, data := .fields #[] } := fun b hb => by
    obtain ⟨p, hp, e⟩ := List.mem_map.mp hb
    rw [← e]
    exact hT.at_ p hp
  have aT : a ∉ ts.map (·.2) := fun z => by
    have q := isT a z
    rw [ha] at q
    have z' : Data.seq vs.toArray _ = Data.fields #[] := congrArg Obj.data (Option.some.inj q)
    cases z'
  have go : ∀ H : Hp, (∀ b o, H b = some o → (b = a ∧ o = .frz { cls := .type "list", data := .seq vs.toArray } (.lst (ns.map V.int))) ∨ (b ∈ ts.map (·.2) ∧ o = .tbl #[])) → (∀ b ∈ ts.map (·.2), H b = some (.tbl #[])) → SqL K H a (ns.map V.int) → (H a ≠ none → K.lookup a = none) →
      codeAny (model P w) callerA (.call (.ref fa) ⟨[.ref a], []⟩) (fun r s' => r = .ok (.ret (.bool true)) ∧ PySem.OldK s₁.heap s'.heap ∧ s'.os = s₁.os ∧ AllBare s'.gens) s₁ := by
    intro H only hTH hS hK
    have out : ∀ {b : Addr}, b ≠ a → b ∉ ts.map (·.2) → H b = none := fun {b} hne hnt => by
      cases q : H b with
      | none => rfl
      | some o =>
        rcases only b o q with ⟨z, _⟩ | ⟨z, _⟩
        · exact absurd z hne
        · exact absurd z hnt
    have kept : ∀ {b : Addr} {o : Obj}, s₁.heap.get? b = some o → H b = none → (hidT s₁.heap H).get? b = some o := fun e n => hidT_get e n
    have free : ∀ {b : Addr} {o : Obj}, s₁.heap.get? b = some o → (∀ xs n, o.data ≠ .seq xs n) → o.data ≠ .fields #[] → H b = none := fun {b o} e n1 n2 => out (by
      rintro rfl
      rw [ha] at e
      cases e
      exact n1 _ _ rfl) fun z => by
        rw [isT b z] at e
        cases e
        exact n2 rfl
    have ndict : ∀ {b : Addr} {o : Obj} {es : Array DictEntry} {ep : Nat}, s₁.heap.get? b = some o → o.data = .dict es ep → H b = none := fun {b o es ep} e d => free e (fun xs n z => by rw [d] at z; cases z) (fun z => by rw [d] at z; cases z)
    have nsK : ∀ {b : Addr} {m : Str → Option Value}, s₁.heap.Ns b m → (hidT s₁.heap H).Ns b m := fun {b m} ⟨o, es, ep, e, d, r⟩ => ⟨o, es, ep, kept e (ndict e d), d, r⟩
    have inB : K.In (hidT s₁.heap H) := fun b o e => kept (KX b o e) (by
      cases q : H b with
      | none => rfl
      | some u =>
        rcases only b u q with ⟨rfl, _⟩ | ⟨z, _⟩
        · rw [hK (by rw [q]; simp)] at e
          cases e
        · obtain ⟨p, hp, ep⟩ := List.mem_map.mp z
          rw [← ep, hT.out p hp] at e
          cases e)
    have hok : HOk P w H s₁.heap := fun b o e => by
      rcases only b o e with ⟨rfl, rfl⟩ | ⟨z, rfl⟩
      · exact ⟨ha, by rw [List.length_map]; exact hl, vs, _, rv, ha⟩
      · exact isT b z
    have nl : (hidT s₁.heap H).NoLimit := by
      obtain ⟨mc, h1, h2⟩ := hlim
      exact ⟨mc, nsK h1, h2⟩
    have tbs : TbsAt mg (hidT s₁.heap H) ts := fun p hp => by
      refine ⟨?_, fun z => ?_⟩
      · obtain ⟨bm, ob, b1, b2, b3, b4, b5, b6⟩ := hbm
        refine ⟨bm, ob, b1, b2, fun z => ?_, fun z => ?_, kept b3 (free b3 (fun xs n z => by rw [b6] at z; cases z) (fun z => by rw [b6] at z; cases z)), b4, b5, b6⟩
        · obtain ⟨o, es, ep, e, d, _⟩ := hns
          rw [z, e] at b3
          cases b3
          rw [d] at b6
          cases b6
        · rw [z, hT.at_ p hp] at b3
          cases b3
          cases b6
      · obtain ⟨o, es, ep, e, d, _⟩ := hns
        rw [z, hT.at_ p hp] at e
        cases e
        cases d
    have e0 : Env0 P w K mg (hidT s₁.heap H) callerA [] s₁ H := ⟨rfl, ⟨inB, nsK hns, ⟨mb, nsK hb, hbb⟩, nl⟩, fun b o e => of_hidT e, Nat.le_of_eq (hidT_size _ _), trivial, fun b hb => (by cases hb), hok, AllBare.of_eq hg⟩
    obtain ⟨A', hfm⟩ := hm
    -- the script stands for others, the tables stand in the arena
    have hsp : spM K 1 fm [.ref a] H (fun v _ => v = .bl true) (fun _ _ _ => False) := by
      have get : ∀ {n : Nat} {o : O}, (ts.map fun p => O.tab p.1)[n]? = some o → ∃ p, ts[n]? = some p ∧ p ∈ ts ∧ o = .tab p.1 ∧ (ts.map (·.2))[n]? = some p.2 := fun {n o} e => by
        rw [List.getElem?_map] at e
        cases q : ts[n]? with
        | none => rw [q] at e; cases e
        | some p =>
          rw [q] at e
          exact ⟨p, rfl, List.mem_of_getElem? q, by simpa using e.symm, by rw [List.getElem?_map, q]; rfl⟩
      let S : Hp := fun b => if b ∈ ts.map (·.2) then none else H b
      have subS : Ex S H := fun b o e => by
        by_cases hb : b ∈ ts.map (·.2)
        · have : S b = none := if_pos hb
          rw [this] at e
          cases e
        · have : S b = H b := if_neg hb
          rw [← this]
          exact e
      have sa : S a = H a := if_neg aT
      have hS2 : SqL K S a (ns.map V.int) := by
        rcases hS with (z | ⟨o, z⟩) | z
        · exact .inl (.inl (by rw [sa]; exact z))
        · exact .inl (.inr ⟨o, by rw [sa]; exact z⟩)
        · exact .inr z
      refine ⟨fun _ => none, S, ts.map (·.2), ts.map fun p => O.tab p.1, [.scr ns], rfl, .cons ⟨a, rfl, hS2⟩ .nil, ⟨subS, fun b o e => (by cases e), fun b e => absurd rfl e, fun n o b e ne g => rfl, by simp, fun n xs e => ?_, fun n xs e => ?_, fun n xs e => ?_, fun n q e => ?_, fun n m o u b e1 e2 n1 n2 g1 g2 => ?_⟩, ?_⟩
      · obtain ⟨p, _, _, z, _⟩ := get e; cases z
      · obtain ⟨p, _, _, z, _⟩ := get e; cases z
      · obtain ⟨p, _, _, z, _⟩ := get e; cases z
      · obtain ⟨p, _, hp, z, g⟩ := get e
        cases z
        have hm2 : p.2 ∈ ts.map (·.2) := List.mem_map.mpr ⟨p, hp, rfl⟩
        exact ⟨p.2, g, if_pos hm2, hT.def_ p hp, #[], hTH _ hm2, True.intro, fun pos cv hc => by
          have z : codeAmong pos [] = some cv := hc
          simp [codeAmong] at z⟩
      · have hn := (List.getElem?_eq_some_iff.mp g1).1
        exact (List.getElem?_inj hn hT.nd).mp (g1.trans g2.symm)
      · rw [hfm]
        intro S' ρ' H' x l w' r
        cases (show Dq K S' x (.bool true) from r)
        rfl
    refine codeAny_mono ((F _ inB (nsK hns) tbs).run callerA [] s₁ H ⟨[.ref a], []⟩ [.ref a] [.ref a] _ _ rfl hr e0 (hbind s₁ (.ref a)) (.cons rfl .nil) hsp) fun r s' h => ?_
    cases r with
    | error e =>
      exfalso
      obtain ⟨_, _, _, _, _, _, _, _, _, _, _, _, z⟩ := h
      exact z.elim
    | ok fl =>
      cases fl with
      | next => exact False.elim h
      | brk => exact False.elim h
      | cont => exact False.elim h
      | ret u =>
        obtain ⟨v, H', os, bare, un, hok', r', q⟩ := h
        obtain rfl : v = .bl true := q
        obtain rfl : u = Value.bool true := r'
        have key : ∀ b o, b ∉ ts.map (·.2) → s₁.heap.get? b = some o → s'.heap.get? b = some o := fun b o nb e => by
          cases q : H b with
          | none => exact un.keep b o e q (fun z => by cases z) (fun z => by cases z)
          | some u =>
            rcases only b u q with ⟨rfl, rfl⟩ | ⟨z, _⟩
            · obtain ⟨e1, _⟩ := hok b _ q
              obtain ⟨e2, _⟩ := hok' b _ (un.frzs b _ _ q)
              rw [e] at e1
              rw [e1]
              exact e2
            · exact absurd z nb
        have grown : ∀ p ∈ ts, ∃ more : Array Value, s'.heap.get? p.2 = some { cls := .none, data := .fields more } := fun p hp => by
          obtain ⟨more, z⟩ := un.tbls p.2 #[] (hTH _ (List.mem_map.mpr ⟨p, hp, rfl⟩))
          exact ⟨_, hok' p.2 _ z⟩
        refine ⟨rfl, ⟨fun b o e => ?_, fun b o e => ?_⟩, os, bare⟩
        · by_cases hb : b ∈ ts.map (·.2)
          · obtain ⟨p, hp, ep⟩ := List.mem_map.mp hb
            obtain ⟨more, hmo⟩ := grown p hp
            obtain ⟨f, of, fd', c, _, _, _, _, hh⟩ := hT.def_ p hp
            rw [← ep] at e ⊢
            rw [hT.at_ p hp] at e
            cases e
            exact .inr (.inl ⟨((PySem.W.codeHd_of_K KX hh).tab (hT.at_ p hp)).isCodeTable, rfl, #[], more, rfl, by rw [Array.empty_append]; exact hmo⟩)
          · exact .inl (key b o hb e)
        · by_cases hb : b ∈ ts.map (·.2)
          · obtain ⟨p, hp, ep⟩ := List.mem_map.mp hb
            obtain ⟨more, hmo⟩ := grown p hp
            rw [← ep]
            exact ⟨_, hmo⟩
          · exact ⟨o, key b o hb e⟩
  cases hk : K.lookup a with
  | some o =>
    have e := KX a o hk
    rw [ha] at e
    cases e
    refine go (fun b => if b ∈ ts.map (·.2) then some (.tbl #[]) else none) (fun b o e => ?_) (fun b hb => if_pos hb) (.inr ⟨_, vs.toArray, _, hk, rfl, rfl, rfl, by rw [List.size_toArray, hi.length]; exact hl, by simpa using rv⟩) fun z => absurd (if_neg aT) z
    by_cases hb : b ∈ ts.map (·.2)
    · have z := (if_pos hb).symm.trans e
      cases z
      exact .inr ⟨hb, rfl⟩
    · have z := (if_neg hb).symm.trans e
      cases z
  | none =>
    refine go (fun b => if b = a then some (.frz { cls := .type "list", data := .seq vs.toArray } (.lst (ns.map V.int))) else if b ∈ ts.map (·.2) then some (.tbl #[]) else none) (fun b o e => ?_) (fun b hb => (if_neg (show ¬ b = a from fun z => aT (by rw [← z]; exact hb))).trans (if_pos hb)) (.inl (.inr ⟨{ cls := .type "list", data := .seq vs.toArray }, if_pos rfl⟩)) fun _ => hk
    by_cases hb : b = a
    · have z := (if_pos hb).symm.trans e
      cases z
      exact .inl ⟨hb, rfl⟩
    · have z := (if_neg hb).symm.trans e
      by_cases hb2 : b ∈ ts.map (·.2)
      · have z := (if_pos hb2).symm.trans z
        cases z
        exact .inr ⟨hb2, rfl⟩
      · have z := (if_neg hb2).symm.trans z
        cases z
theorem law_ofT {l : PySem.W.OpenLaw} {n k : Nat} {q : Program} {loose : List Str} {XP : (Str → Option Value) → Heap → Prop} {YP : World → Heap → Prop} {d : PySem.DefRec} {K : PySem.Params → PySem.W.Frag} {x : Str} {fm : MF} {qs : List Str}
    (hn : l.most = some n) (hn2 : n ≤ sizeLine) (hdf : d.params.defaults = []) (hr : Room k callerA) (hY : ∀ (w : World) (h : Heap), YP w h → (K w.params).In h)
    (F : ∀ (w : World) (mg : Str → Option Value) (fa : Addr) (h : Heap), YP w h → (K w.params).In h → h.Ns mainGlobals mg → mg d.name = some (.ref fa) →
      ∃ (fd : FuncData) (ts : Tbs), ts.map (·.1) = qs ∧ TbsOk (K w.params) h ts ∧ (∀ (s : Shared) (u : Value), BindsTo s fd ⟨[u], []⟩ [(x, u)]) ∧ ∀ base : Heap, (K w.params).In base → base.Ns mainGlobals mg → TbsAt mg base ts → FnG l.prog w (K w.params) mg base k fa fd [x] fm)
    (hm : ∀ ns : List Int, ns.length ≤ n → ∃ A', fm [.scr ns] (qs.map O.tab) = .ok (.p (.bool true)) A') : PySem.W.WalkO q loose XP YP l.row.toRowW d [] (fun f vs => PySem.call f vs) := by
  refine Att.attach_call hn hdf fun w s₀ s₁ mg mb fa o pm cd doc a vs ns G Y ho hd hcd hmg hobj hints hlen hg => ?_
  have KX := hY w _ Y
  obtain ⟨fd, ts, hqs, hT, hb, hF⟩ := F w mg fa _ Y KX G.T.g hmg
  refine law_endT KX G.T.g G.T.b G.T.builtins G.T.nolimit hg hT G.T.bmain hobj hints (Nat.le_trans hlen hn2) hr hF hb ?_
  have e : (ts.map fun p => O.tab p.1) = qs.map O.tab := by rw [← hqs, List.map_map]; rfl
  rw [e]
  exact hm ns hlen
end Mi
end

section
set_option maxHeartbeats 4000000
/-! ErE: defs that call what they get, in a try, and tell what came. -/
namespace Mi
open PySem PySem.Spec PyProof.Rows L2
open Evl (Ex)

/-- the facts of an error class for raise, except and isinstance against a base -/
structure ErF (P : Program) (K : PySem.W.Frag) (mg : Str → Option Value) (nm fld : Str) (C fI : Addr) : Prop where
  t : Er.Txt P K mg nm fld C fI
  k : PySem.W.nsIn K mainGlobals nm = some (some (.ref C))
  i : IsC K C
theorem lookup_one {f : Str} {v : V} : List.lookup f [(f, v)] = some v := by simp [List.lookup]
theorem set_at {α : Type} {l : List α} {i n : Nat} {x : α} (h : l.length = n) (hi : i < n) : (l.set i x)[i]? = some x := by
  rw [List.getElem?_set_self (by rw [h]; exact hi)]
section
variable {K : PySem.W.Frag} {F S H : Hp} {ρ : List Addr} {A : Arn}
theorem Wo.newL (w : Wo K F S ρ H A) {p : Addr} (hp : H p = none) {vs : List V} {xs : List PyData} (q : DqAll K S vs xs) : Wo K F (L2.upd S p (.lst vs)) ρ (L2.upd H p (.lst vs)) A ∧ Le S ρ (L2.upd S p (.lst vs)) ρ ∧ Dq K (L2.upd S p (.lst vs)) (.ref p) (.list xs) := by
  have g := Grow.upd (o := HO.lst vs) w.sub hp
  exact ⟨w.grow g, g.le ρ, .lst upd_same (DqAll.mono g.ex _ _ q)⟩
theorem Wo.newT (w : Wo K F S ρ H A) {p : Addr} (hp : H p = none) {vs : List V} {xs : List PyData} (q : DqAll K S vs xs) : Wo K F (L2.upd S p (.tup vs)) ρ (L2.upd H p (.tup vs)) A ∧ Le S ρ (L2.upd S p (.tup vs)) ρ ∧ Dq K (L2.upd S p (.tup vs)) (.ref p) (.tuple xs) := by
  have g := Grow.upd (o := HO.tup vs) w.sub hp
  exact ⟨w.grow g, g.le ρ, .tup (.inl (.inl upd_same)) (DqAll.mono g.ex _ _ q)⟩
end

/-! ### try: return [call(), -1] / except E as e: return [(), e.f if isinstance(e, B) else ..] -/
def gRead (nm fld : Str) : MGd := fun th A => match th A with
  | .ok v A1 => match frz v A1 with
    | some (x, A2) => .ok (.p (.list [x, .int (-1)])) A2
    | none => .bad
  | .exn e A1 => if e.cls = nm ∧ e.fld = fld then .ok (.p (.list [.tuple [], e.val])) A1 else .bad
  | .bad => .bad
def IsReadBody (nm fld bs : Str) (body : List Stmt) : Prop := ∃ (j1 j2 : Nat) (els : Str) (a1 a2 a3 a4 a5 a6 a7 b1 b2 b3 b4 b5 b6 b7 b8 b9 b10 b11 b12 b13 : Pos),
  body = [.Try [.Return (some (.List [.Call (.Name "call" a1) [] [] a2, .UnaryOp .USub (.Constant (.int 1) j1 a3) a4] a5)) a6]
    [.ExceptHandler (some (.Name nm b1)) (some "e") [.Return (some (.List [.Tuple [] 0 b2, .IfExp (.Call (.Name "isinstance" b3) [.Name "e" b4, .Name bs b5] [] b6) (.Attribute (.Name "e" b7) fld b8) (.Constant (.str els) j2 b9) b10] b11)) b12] b13] [] [] a7]
theorem gd_read {P : Program} {w : World} {K : PySem.W.Frag} {mg : Str → Option Value} {base : Heap} {x nm fld bs : Str} {st : Stmt} {g C fI CB : Addr} {fd : FuncData} (Fu : Fun K x x st g fd) (Sc : FnScope ["call", "e"] ["call"] (defScope st)) (bi : L2.Binds K fd ["call"] [])
    (hb : IsReadBody nm fld bs (defBody st)) (T : ErF P K mg nm fld C fI) (gB : mg bs = some (.ref CB)) (kb : PySem.W.kitOne K (.ref C) (.ref CB) = some true) (nI : mg "isinstance" = none)
    (s1 : (defScope st).names.lookup nm = some .globalImplicit) (s2 : (defScope st).names.lookup ("isinstance" : Str) = some .globalImplicit) (s3 : (defScope st).names.lookup bs = some .globalImplicit) (s4 : (defScope st).names.lookup ("e" : Str) = some .local) (s5 : (defScope st).names.lookup ("call" : Str) = some .local)
    (d1 : (nm == ("__debug__" : Str)) = false) (d2 : (bs == ("__debug__" : Str)) = false) : GdOk P w K mg base x "call" g (gRead nm fld) := by
  obtain ⟨oc, od, kV, doc, pm, an, cdv, ct, osl, rfl, lk, hcd⟩ := Fu.ex
  refine ⟨oc, od, defArgs st, defBody st, defScope st, .none, kV, doc, pm, cdv, ct, an, osl, ["call", "e"], lk, hcd, bi, Sc, rfl, .inl s5, fun X q hP hw hK hmg hbase gd hr => ?_⟩
  subst hP hw hK hmg hbase
  intro f c' s H Q tl act hc tt
  obtain ⟨F, S, ρ, A, th, wo, hth, hG⟩ := tt
  obtain ⟨j1, j2, els, a1, a2, a3, a4, a5, a6, a7, b1, b2, b3, b4, b5, b6, b7, b8, b9, b10, b11, b12, b13, hb⟩ := hb
  rw [hb]
  have nd : (["call", "e"] : List Str).Nodup := Sc.nd
  refine ⟨_, pss_one (ps_trys (X := (cxOf C8.CX0 X.prog X.w X.K X.mg X.base ["call", "e"] x (defScope st) g cdv X.A X.stack s H C8.E0).nox)
      (tb := fun W D σ H => ∃ E : XK, (∀ cls d σ' H', E cls d H' → W cls d σ' H') ∧ σ[0]? = some (some (.ref f)) ∧ H c' = some (LamX.CodeO c' q) ∧ tl E H fun v H1 => tCons (tUn (rU fun i => .int (-i)) (tC (.int 1))) tNil σ H1 fun xs H2 => (v :: xs).length ≤ sizeLine ∧ ∀ p, H2 p = none → D.rt (.ref p) (L2.upd H2 p (.lst (v :: xs))))
      rfl rfl nd LamX.takes0 (fun W pn xe tk _ => ⟨fun pins s' σ H' D I h => ?_⟩)
      (.as_ (i := 1) rfl s4 ⟨s1, d1, .inl T.t.gC⟩ (fun a oe cls d pn hz hf => pss_one (ps_ret (pe_lst (pa_cons (pe_tup pa_nil) (pa_cons (pe_ifExp
        (pt_val (pe_callB (call_isD hz hf) s2 nI boot_isinstance (pa_cons (pe_var (i := 1) rfl (.inl s4)) (pa_cons (pe_glob (v := .ref CB) s3 gB rfl d2) pa_nil))) (fun _ => rfl))
        (pe_xf T.t.xf T.t.no hz hf (pe_var (i := 1) rfl (.inl s4))) pe_str) pa_nil))))) .nil)), ?_⟩
  · obtain ⟨E, hW, h1, h2, h3⟩ := h
    have hp := act W pn xe E a1 a2 tk hW
    refine (pss_one (ps_ret (pos := a6) (pe_lst (pos := a5) (pa_cons hp (pa_cons (pe_un un_neg pe_int) pa_nil))))).run pins s' σ H' D I ?_
    exact ⟨h1, h2, h3⟩
  · have two : ∀ n : Nat, n ≤ 2 → n ≤ sizeLine := fun n h => by rw [sizeLine_eq]; omega
    refine ⟨fun cls d H' => ∀ σ : L2.St, σ.length = 2 → _, fun cls d σ' H' e hl => e σ' hl, rfl, hc, hth _ S ρ H A _ (Le.refl _ _) wo ?_⟩
    unfold gRead at hG
    cases eT : th A with
    | bad => rw [eT] at hG; exact hG
    | ok v A1 =>
      rw [eT] at hG
      dsimp only at hG
      cases ef : frz v A1 with
      | none => rw [ef] at hG; exact hG.elim
      | some z =>
        obtain ⟨y, A2⟩ := z
        rw [ef] at hG
        intro S' ρ' H' u l' w' r'
        obtain ⟨S2, l2, w2, q2⟩ := frz_ok w' r' ef
        refine ⟨1, rfl, two 2 (by omega), fun p hp => ?_⟩
        obtain ⟨w3, l3, q3⟩ := w2.newL hp (DqAll.cons q2 (.cons (.int (-1)) .nil))
        exact hG _ _ _ _ (l'.trans (l2.trans l3)) w3 q3
    | exn e A1 =>
      rw [eT] at hG
      dsimp only at hG
      by_cases hc2 : e.cls = nm ∧ e.fld = fld
      · rw [if_pos hc2] at hG
        intro S' ρ' H' cls d l' w' er σ hl
        obtain ⟨⟨C', rfl, g'⟩, dd, v, rfl, hd, hq⟩ := er
        rw [hc2.1, T.k] at g'
        cases g'
        rw [hc2.2] at hd
        refine ⟨true, T.t.te, fun _ a ha => ?_, fun z => nomatch z⟩
        refine ⟨two 0 (by omega), fun p hp => ?_⟩
        have nd2 : dd ≠ p := fun z => by rw [z, hp] at hd; cases hd
        have hd2 : L2.upd H' p (.tup []) dd = some (.xd [(fld, v)]) := by rw [upd_ne nd2]; exact hd
        obtain ⟨w2, l2, q2⟩ := w'.newT hp DqAll.nil
        have sl := set_at (x := some (V.ref a)) hl (by omega : 1 < 2)
        refine ⟨.ref a, sl, ⟨C, .ref CB, .ref CB, true, dd, [(fld, v)], rfl, rfl, rfl, T.i, hd2, fun u hu => hu, kb, ?_⟩⟩
        refine ⟨true, rfl, ?_⟩
        refine ⟨.ref a, sl, rfl, rfl, dd, [(fld, v)], v, rfl, hd2, lookup_one, two 2 (by omega), fun p2 hp2 => ?_⟩
        obtain ⟨w3, l3, q3⟩ := w2.newL hp2 (DqAll.cons q2 (.cons (Dq.mono l2.ex _ _ hq) .nil))
        exact hG _ _ _ _ (l'.trans (l2.trans l3)) w3 q3
      · rw [if_neg hc2] at hG
        exact hG.elim
end Mi
end

section
set_option maxHeartbeats 4000000
/-! ErF: a def that knows its own code object. -/
namespace Mi
open PySem PySem.Spec PyProof.Rows L2
open Evl (Ex)
section
variable {P : Program} {w : World} {K : PySem.W.Frag} {mg : Str → Option Value} {base : Heap}
theorem def_okL {x qual : Str} {st : Stmt} {f : Addr} {fd : FuncData} {N ps : List Str} {k : Nat} {body : MS} (Fu : Fun K x qual st f fd) (Sc : FnScope N ps (defScope st))
    (hbody : ∀ (cdv : Value) (A : Around) (outer : List Env) (s : Shared) (H : Hp) (E : XK), fd.code = cdv → A.guards = some [] → Room k (A.deeper (envOfC qual (defScope st) s.heap.objs.size f cdv)) →
      PSs (cxOf (L2.CX P w) P w K mg base N qual (defScope st) f cdv A outer s H E) (defBody st) (tS K (fun c d _ H => E c d H) body)) :
    FnG P w K mg base (k + 1) f fd ps (defM N.length body) := by
  obtain ⟨oc, od, kV, doc, pm, an, cdv, ct, osl, rfl, lk, hcd⟩ := Fu.ex
  refine ⟨fun A outer s H args us vs Q E gd hr e0 hb r hsp => ?_⟩
  have room := hr.deeper (envOfC qual (defScope st) s.heap.objs.size f cdv)
  have bs : ∀ b o, base.get? b = some o → s.heap.get? b = some o := fun b o e => (e0.bs b o e).1
  have hin : K.In s.heap := e0.mod.kin.keeps bs
  have nolim : s.heap.NoLimit := e0.mod.nolimit.keeps bs
  refine codeAny_call_function hr.depth (hin _ _ lk) rfl Sc.co Sc.gen rfl (PySem.W.codeRec_of hin hcd) (hb _ _ _ _ (wpAny_newFunctionEnv_cells Sc.kind ?_ ?_))
  · rintro ⟨y, v⟩ hy
    have hy' := (List.of_mem_zip hy).1
    exact (Sc.par y hy').imp id fun q => ⟨q, PySem.W.cellsFrom_some _ _ _ (.inl q)⟩
  · rintro env he s1 x
    subst he
    refine ⟨nolim.keeps x.toInCall.keep, codeAny_func ?_⟩
    have I := inv_start (CX := L2.CX P w) (E := E) Sc hr.hd e0 (spM_len vs H Q E hsp) r x
    refine wpAny_mono ((hbody cdv A outer s H E rfl gd room).run [] s1 (start N vs) H _ I (def_body Sc hsp)) (fun fl s' hs => ?_) fun _ _ q => q
    cases fl with
    | ret u =>
      obtain ⟨v, _, H', J, rv, q⟩ := hs
      exact ⟨v, H', J.os, J.bare, J.base, J.hok, rv, q⟩
    | next =>
      obtain ⟨_, H', J, q⟩ := hs
      exact ⟨.non, H', J.os, J.bare, J.base, J.hok, rfl, q⟩
    | brk =>
      obtain ⟨_, _, _, q⟩ := hs
      exact q.elim
    | cont =>
      obtain ⟨_, _, _, q⟩ := hs
      exact q.elim
end
end Mi
end

section
set_option maxHeartbeats 4000000
/-! XnA: what functions of data come to, where they may raise. -/
namespace Mi
open PySem

@[irreducible] def Res.Wp {α : Type} (r : Res α) (P : α → Arn → Prop) (E : Exn → Arn → Prop) : Prop := match r with
  | .ok a A => P a A
  | .exn e A => E e A
  | .bad => False
@[irreducible] def Out.Wp (o : Out) (N : Slt → Arn → Prop) (R : D → Arn → Prop) (E : Exn → Arn → Prop) : Prop := match o with
  | .nx s A => N s A
  | .rt d A => R d A
  | .exn e A => E e A
  | _ => False
section
variable {α β : Type} {r : Res α} {P Q : α → Arn → Prop} {o : Out} {N N' : Slt → Arn → Prop} {R R' : D → Arn → Prop} {E E' : Exn → Arn → Prop} {s : Slt} {A : Arn}
theorem Res.Wp.mono (h : r.Wp P E) (k : ∀ a A, P a A → Q a A) (l : ∀ e A, E e A → E' e A) : r.Wp Q E' := by
  with_unfolding_all
    cases r with
    | ok a A => exact k _ _ h
    | exn e A => exact l _ _ h
    | bad => exact h
theorem Out.Wp.mono (h : o.Wp N R E) (k : ∀ s A, N s A → N' s A) (l : ∀ d A, R d A → R' d A) (m : ∀ e A, E e A → E' e A) : o.Wp N' R' E' := by
  with_unfolding_all
    cases o with
    | nx s A => exact k _ _ h
    | rt d A => exact l _ _ h
    | bk s A => exact h
    | ct s A => exact h
    | exn e A => exact m _ _ h
    | bad => exact h
theorem Res.To.wp (h : r.To P) : r.Wp P E := by
  with_unfolding_all
    cases r with
    | ok a A => exact h
    | exn e A => exact h.elim
    | bad => exact h
theorem Out.To.wp (h : o.To N R) : o.Wp N R E := by
  with_unfolding_all
    cases o with
    | nx s A => exact h
    | rt d A => exact h
    | bk s A => exact h
    | ct s A => exact h
    | exn e A => exact h.elim
    | bad => exact h
theorem Res.Wp.to (h : r.Wp P fun _ _ => False) : r.To P := by
  with_unfolding_all
    cases r with
    | ok a A => exact h
    | exn e A => exact h.elim
    | bad => exact h
theorem Res.Wp.raised (h : r.Wp (fun _ _ => False) E) : ∃ e A, r = .exn e A ∧ E e A := by
  with_unfolding_all
    cases r with
    | ok a A => exact h.elim
    | exn e A => exact ⟨e, A, rfl, h⟩
    | bad => exact h.elim
theorem Wp_ok {a : α} : (Res.ok a A).Wp P E ↔ P a A := by with_unfolding_all exact Iff.rfl
theorem Wp_exn {e : Exn} : (Res.exn e A : Res α).Wp P E ↔ E e A := by with_unfolding_all exact Iff.rfl
theorem Wp_bind {f : α → Arn → Res β} {P : β → Arn → Prop} : (r.bind f).Wp P E ↔ r.Wp (fun a A => (f a A).Wp P E) E := by
  with_unfolding_all
    cases r with
    | ok a A => exact Iff.rfl
    | exn e A => exact Iff.rfl
    | bad => exact Iff.rfl
theorem Wp_from {f : α → Arn → Out} : (fromR r f).Wp N R E ↔ r.Wp (fun a A => (f a A).Wp N R E) E := by
  with_unfolding_all
    cases r with
    | ok a A => exact Iff.rfl
    | exn e A => exact Iff.rfl
    | bad => exact Iff.rfl
theorem Wp_nx : (Out.nx s A).Wp N R E ↔ N s A := by with_unfolding_all exact Iff.rfl
theorem Wp_rt {d : D} : (Out.rt d A).Wp N R E ↔ R d A := by with_unfolding_all exact Iff.rfl
theorem Wp_ex {e : Exn} : (Out.exn e A).Wp N R E ↔ E e A := by with_unfolding_all exact Iff.rfl
theorem Wp_seq {m k : MS} (h : (m s A).Wp (fun s' A' => (k s' A').Wp N R E) R E) : (sSeq m k s A).Wp N R E := by
  with_unfolding_all
    unfold sSeq
    cases e : m s A <;> (rw [e] at h; exact h)
theorem Wp_if {c : MT} {m k : MS} (h : (c s A).To fun b A1 => (b = true → (m s A1).Wp N R E) ∧ (b = false → (k s A1).Wp N R E)) : (sIf c m k s A).Wp N R E := by
  with_unfolding_all
    unfold sIf
    rw [Wp_from]
    refine h.wp.mono (fun b A1 h => ?_) fun _ _ h => h
    cases b with
    | true => exact h.1 rfl
    | false => exact h.2 rfl
theorem Wp_skip (h : N s A) : (sSkip s A).Wp N R E := Wp_nx.mpr h
theorem Wp_let {i : Nat} {m : ME} (h : (m s A).Wp (fun d A1 => N (s.set i (some d)) A1) E) : (sLet i m s A).Wp N R E := Wp_from.mpr (h.mono (fun _ _ h => Wp_nx.mpr h) fun _ _ h => h)
theorem Wp_drop {m : ME} (h : (m s A).Wp (fun _ A1 => N s A1) E) : (sDrop m s A).Wp N R E := Wp_from.mpr (h.mono (fun _ _ h => Wp_nx.mpr h) fun _ _ h => h)
theorem Wp_ret {m : ME} (h : (m s A).Wp R E) : (sRet m s A).Wp N R E := Wp_from.mpr (h.mono (fun _ _ h => Wp_rt.mpr h) fun _ _ h => h)
theorem Wp_raise {cls fld : Str} {m : ME} (h : (m s A).To fun d A1 => ∃ x A2, frz d A1 = some (x, A2) ∧ E ⟨cls, fld, x⟩ A2) : (sRaise cls fld m s A).Wp N R E := by
  unfold sRaise
  refine Wp_from.mpr (h.wp.mono (fun d A1 ⟨x, A2, e, h⟩ => ?_) fun _ _ h => h)
  rw [e]
  exact Wp_ex.mpr h
theorem Wp_call {f : MF} {m : MA} {P : D → Arn → Prop} (h : (m s A).To fun ds A1 => (f ds A1).Wp P E) : (mCall f m s A).Wp P E := by
  unfold mCall
  exact Wp_bind.mpr (h.wp.mono (fun _ _ h => h) fun _ _ h => h)
theorem Wp_def {names : Nat} {body : MS} {ds : List D} {P : D → Arn → Prop} (hp : plain A)
    (h : (body (ds.map some ++ List.replicate (names - ds.length) none) A).Wp (fun _ A' => (closeV A.length (.p .none) A').To P) (fun d A' => (closeV A.length d A').To P) (fun e A' => plain A' ∧ E e (A'.take A.length))) : (defM names body ds A).Wp P E := by
  unfold defM
  generalize body (ds.map some ++ List.replicate (names - ds.length) none) A = o at h
  unfold finish
  cases o with
  | nx s' A' => exact (Wp_nx.mp h).wp
  | rt d A' => exact (Wp_rt.mp h).wp
  | exn e A' =>
    obtain ⟨h1, h2⟩ := Wp_ex.mp h
    dsimp only
    rw [if_pos (plain_below h1 _ _)]
    exact Wp_exn.mpr h2
  | bk s' A' => with_unfolding_all exact h
  | ct s' A' => with_unfolding_all exact h
  | bad => with_unfolding_all exact h
theorem forL_wp (step : PyData → MS) : ∀ (xs : List PyData) (I : Nat → Slt → Arn → Prop) (s : Slt) (A : Arn), (∀ i x s A, xs[i]? = some x → I i s A → (step x s A).Wp (I (i + 1)) R E) → I 0 s A → (forL step xs s A).Wp (I xs.length) R E
  | [], I, s, A, _, h0 => by
    show (Out.nx s A).Wp (I 0) R E
    exact Wp_nx.mpr h0
  | x :: xs, I, s, A, h, h0 => by
    have h1 := h 0 x s A rfl h0
    show ((step x s A).turn (forL step xs)).Wp (I (xs.length + 1)) R E
    cases e : step x s A with
    | nx s' A' =>
      rw [e, Wp_nx] at h1
      show (forL step xs s' A').Wp (I (xs.length + 1)) R E
      exact forL_wp step xs (fun i => I (i + 1)) s' A' (fun i y t B hy => h (i + 1) y t B (by simpa using hy)) h1
    | rt d A' =>
      rw [e, Wp_rt] at h1
      show (Out.rt d A').Wp _ R E
      exact Wp_rt.mpr h1
    | exn x A' =>
      rw [e, Wp_ex] at h1
      show (Out.exn x A').Wp _ R E
      exact Wp_ex.mpr h1
    | bk s' A' => rw [e] at h1; exact absurd h1 (by with_unfolding_all exact id)
    | ct s' A' => rw [e] at h1; exact absurd h1 (by with_unfolding_all exact id)
    | bad => rw [e] at h1; exact absurd h1 (by with_unfolding_all exact id)
theorem Wp_for {m : MI} {g : MG} {b : MS} (I : Nat → Slt → Arn → Prop) {xs : List PyData} (hm : (m s A).To fun ys A1 => ys = xs ∧ I 0 s A1) (h : ∀ i x s A, xs[i]? = some x → I i s A → (turnF g b x s A).Wp (I (i + 1)) R E) (hN : ∀ s A, I xs.length s A → N s A) : (sFor m g b s A).Wp N R E := by
  unfold sFor
  refine Wp_from.mpr (hm.wp.mono (fun ys A1 ⟨e, h0⟩ => ?_) fun _ _ h => h)
  subst e
  exact (forL_wp _ ys I s A1 h h0).mono hN (fun _ _ h => h) fun _ _ h => h
theorem Wp_turn {g : MG} {b : MS} {x : PyData} {s' : Slt} (h : g x s = some s') (k : (b s' A).Wp N R E) : (turnF g b x s A).Wp N R E := by
  unfold turnF
  rw [h]
  exact k
end
end Mi
end

section
set_option maxHeartbeats 4000000
/-! TxA: words, numbers and ends that texts tell: any text. -/
namespace Lx
open PySem PySem.W Mi TL Lw
def b_words_of : MS :=
  (sRet (mFr (lComp (iS (mFr (lCut (mVar 0) (mC (.str " "))))) (gN 1) (mTru (mVar 1)) (mVar 1) [1])))
def m_words_of : MF := defM 2 b_words_of
def b_number_told : MS :=
  (sSeq (sFor (iR2 (aCons (mVar 1) (aCons (mOp2 (lift2o fAdd) (mVar 2) (mC (.int 1))) aNil))) (gN 3) (sIf (mB (mOp2 (lift2 fEq) (mOpN (liftN fStr) (aCons (mVar 3) aNil)) (mVar 0))) (sRet (mVar 3)) sSkip))
    (sRet (mC .none)))
def m_number_told : MF := defM 4 b_number_told
def b_ends_told : MS :=
  (sSeq (sLet 2 (mFr (lComp (iS (mFr (lCut (mVar 0) (mC (.str "-"))))) (gN 3) mYes (mCall m_number_told (aCons (mVar 3) (aCons (mC (.int 0)) (aCons (mVar 1) aNil)))) [3])))
    (sSeq (sIf (mOr (mB (mOp2 (lift2 fNe) (mOpN (liftN fLen) (aCons (mVar 2) aNil)) (mC (.int 2)))) (mOr (mB (mOp2 (lift2 fIn) (mC .none) (mVar 2))) (mB (mOp2 (lift2 fEq) (mOp2 (lift2 fIx) (mVar 2) (mC (.int 0))) (mOp2 (lift2 fIx) (mVar 2) (mC (.int 1))))))) (sRet (mC .none)) sSkip)
    (sRet (mOpN (liftN fTuple) (aCons (mVar 2) aNil)))))
def m_ends_told : MF := defM 4 b_ends_told

/-! ### numbers -/
def numIn (lo top : Nat) (l : List Nat) : Option Nat := (List.range top).find? fun n => decide (lo ≤ n) && decide (l = numL n)
theorem numIn_some {lo top n : Nat} {l : List Nat} : numIn lo top l = some n ↔ lo ≤ n ∧ n < top ∧ l = numL n := by
  unfold numIn
  constructor
  · intro h
    have h1 := List.find?_some h
    have h2 := List.mem_of_find?_eq_some h
    simp at h1 h2
    exact ⟨h1.1, h2, h1.2⟩
  · rintro ⟨h1, h2, h3⟩
    cases e : (List.range top).find? fun n => decide (lo ≤ n) && decide (l = numL n) with
    | none =>
      have := List.find?_eq_none.mp e n (List.mem_range.mpr h2)
      simp [h1, h3] at this
    | some m =>
      have g := List.find?_some e
      simp at g
      rw [numL_inj (g.2.symm.trans h3)]
theorem numIn_none {lo top : Nat} {l : List Nat} : numIn lo top l = none ↔ ∀ n, lo ≤ n → n < top → l ≠ numL n := by
  constructor
  · intro h n h1 h2 h3
    rw [numIn_some.mpr ⟨h1, h2, h3⟩] at h
    cases h
  · intro h
    cases e : numIn lo top l with
    | none => rfl
    | some n =>
      obtain ⟨h1, h2, h3⟩ := numIn_some.mp e
      exact absurd h3 (h n h1 h2)
def oI : Option Nat → PyData
  | none => .none
  | some n => .int n
section
variable {A : Arn}
theorem nS_is {n : Nat} {w : Str} : nS n = w ↔ tl w = numL n := by
  constructor
  · rintro rfl
    exact tl_nS n
  · intro h
    exact ext_tl ((tl_nS n).trans h.symm)
theorem ok_nS (n : Nat) : PyData.strOk (nS n) = true := ok_num (tl_nS n)
theorem number_told (hp : plain A) {w : Str} {lo top : Nat} {hi : Int} (hw : PyData.strOk w = true) (ht : hi + 1 = (top : Int)) (h2 : top ≤ 101) (h1 : lo ≤ 101) :
    (m_number_told [.p (.str w), .p (.int lo), .p (.int hi)] A).To fun r A' => r = .p (oI (numIn lo top (tl w))) ∧ A' = A := by
  unfold m_number_told
  refine To_def ?_
  unfold b_number_told
  simp
  refine To_iR2 ?_
  simp
  refine ⟨_, _, ⟨rfl, rfl⟩, by unfold small; omega, by unfold small; omega, ?_⟩
  have en : (hi + 1 - (lo : Int)).toNat = top - lo := by omega
  rw [en]
  refine forL_to (fun i s C => (∃ y, s = [some (.p (.str w)), some (.p (.int lo)), some (.p (.int hi)), y]) ∧ C = A ∧ ∀ n, lo ≤ n → n < lo + i → tl w ≠ numL n) ?_ ⟨⟨none, rfl⟩, rfl, fun n h1 h2 => by omega⟩ ?_
  · rintro i x s C hx ⟨⟨y, rfl⟩, rfl, hno⟩
    unfold rangeD at hx
    rw [List.getElem?_map] at hx
    have hi2 : i < top - lo := by
      by_cases c : i < top - lo
      · exact c
      · rw [List.getElem?_eq_none (by simp; omega)] at hx
        cases hx
    rw [List.getElem?_range hi2] at hx
    cases hx
    have ei : (lo : Int) + (i : Int) = ((lo + i : Nat) : Int) := by omega
    show (turnF _ _ (PyData.int ((lo : Int) + (i : Int))) _ _).To _ _
    rw [ei]
    have hs := str_n (n := lo + i) (by omega)
    have he := eq_ss (ok_nS (lo + i)) hw
    have hq : nS (lo + i) = w ↔ tl w = numL (lo + i) := nS_is
    generalize hm : lo + i = m at *
    by_cases c : tl w = numL m
    · have : numIn lo top (tl w) = some m := numIn_some.mpr ⟨by omega, by omega, c⟩
      simp [hs, he, hq, c, hp]
      rw [← c, this]
      rfl
    · simp [hs, he, hq, c]
      intro n h1 h2
      by_cases e : n = m
      · rw [e]; exact c
      · exact hno n h1 (by omega)
  · rintro s C ⟨⟨y, rfl⟩, rfl, hno⟩
    have hl : (rangeD (lo : Int) (top - lo)).length = top - lo := by unfold rangeD; rw [List.length_map, List.length_range]
    rw [hl] at hno
    have : numIn lo top (tl w) = none := numIn_none.mpr fun n h1 h2 => hno n h1 (by omega)
    simp [this, hp, oI]
/-! ### pieces -/
theorem cut_sub (s : Nat) : ∀ (l acc w : List Nat), w ∈ cutL s acc l → ∀ c, c ∈ w → c ∈ acc ∨ c ∈ l
  | [], acc, w, h, c, hc => by
    rw [cutL_nil, List.mem_singleton] at h
    rw [h] at hc
    exact .inl hc
  | d :: r, acc, w, h, c, hc => by
    rw [cutL_cons] at h
    by_cases k : d = s
    · rw [if_pos k] at h
      rcases List.mem_cons.mp h with rfl | h
      · exact .inl hc
      · rcases cut_sub s r [] w h c hc with z | z
        · cases z
        · exact .inr (List.mem_cons_of_mem _ z)
    · rw [if_neg k] at h
      rcases cut_sub s r _ w h c hc with z | z
      · rcases List.mem_append.mp z with z | z
        · exact .inl z
        · rw [List.mem_singleton] at z
          rw [z]
          exact .inr List.mem_cons_self
      · exact .inr (List.mem_cons_of_mem _ z)
theorem ok_mem {x : Str} (h : PyData.strOk x = true) : ∀ c, c ∈ tl x → c < 1114112 := fun c hc => by
  unfold PyData.strOk at h
  rw [← Array.all_toList, List.all_eq_true] at h
  exact of_decide_eq_true (h c hc)
theorem split45 (x : Str) : (Txt.split x "-").map tl = cutL 45 [] (tl x) := by
  have e := split_spl x "-" (by decide +kernel) (kind_ok (by decide +kernel))
  rw [tl45, spl_cut] at e
  exact e
theorem piece_ok {s : Nat} {x : Str} {L : List Str} (e : L.map tl = cutL s [] (tl x)) (hx : PyData.strOk x = true) {w : Str} (hw : w ∈ L) : PyData.strOk w = true ∧ w.length ≤ x.length := by
  have hm : tl w ∈ cutL s [] (tl x) := by
    rw [← e]
    exact List.mem_map.mpr ⟨w, hw, rfl⟩
  refine ⟨ok_tl fun c hc => ?_, ?_⟩
  · rcases cut_sub s _ _ _ hm c hc with z | z
    · cases z
    · exact ok_mem hx c z
  · have := cut_len_le s _ _ _ hm
    rw [len_tl, len_tl]
    simpa using this
theorem pieces_len {s : Nat} {x : Str} {L : List Str} (e : L.map tl = cutL s [] (tl x)) : L.length ≤ x.length + 1 := by
  have := congrArg List.length e
  rw [List.length_map] at this
  have h2 := cut_count s (tl x) []
  rw [len_tl]
  omega
theorem cut32 {x : Str} (h : x.length ≤ 90000) : lfCut (.str x) (.str " ") = some ((Txt.split x " ").map .str) := by
  unfold lfCut
  dsimp only
  rw [if_pos ⟨by decide +kernel, by omega⟩]
theorem cut45 {x : Str} (h : x.length ≤ 90000) : lfCut (.str x) (.str "-") = some ((Txt.split x "-").map .str) := by
  unfold lfCut
  dsimp only
  rw [if_pos ⟨by decide +kernel, by omega⟩]
/-! ### words -/
def wordsOf (x : Str) : List Str := (Txt.split x " ").filter neS
theorem words_of (hp : plain A) {x : Str} (hx : PyData.strOk x = true) (hl : x.length ≤ 90000) : (m_words_of [.p (.str x)] A).To fun r A' => r = .p (.list ((wordsOf x).map .str)) ∧ A' = A := by
  have hcut := cut32 hl
  have hn := pieces_len (split32 x)
  unfold m_words_of
  refine To_def ?_
  unfold b_words_of
  simp
  refine To_comp wF ?_
  simp [isS, hcut]
  refine ⟨by omega, fun s hs => ?_, ?_⟩
  · refine turn_of (f := wF) ⟨_, rfl, ?_⟩
    have hsl : s.length ≤ 100000 := by have := (piece_ok (split32 x) hx hs).2; omega
    simp [wipeS, truth_s hsl, wF]
  · have hfm : (List.map PyData.str (Txt.split x " ")).filterMap wF = (wordsOf x).map .str := wF_map _
    have hfm2 : List.filterMap (wF ∘ PyData.str) (Txt.split x " ") = (wordsOf x).map .str := by
      rw [← hfm, List.filterMap_map]
    first
      | rw [hfm]
      | rw [hfm2]
    simp [hp]
/-! ### ends -/
def nF (top : Nat) (x : PyData) : Option PyData := match x with
  | .str s => some (oI (numIn 0 top (tl s)))
  | _ => none
theorem nF_map (top : Nat) : ∀ L : List Str, (L.map PyData.str).filterMap (nF top) = (L.map fun s => numIn 0 top (tl s)).map oI
  | [] => rfl
  | s :: L => by
    have hf : nF top (.str s) = some (oI (numIn 0 top (tl s))) := rfl
    rw [List.map_cons, List.filterMap_cons, nF_map top L, hf]
    rfl
theorem sh_o2 (a b : Option Nat) : SeqAt.shaped (.list [oI a, oI b]) = true := by
  unfold SeqAt.shaped
  cases a <;> cases b <;> simp [oI, PyData.canLay0, PyData.canLayAll0, PyData.depth, PyData.depthAll]
theorem in_o2 (a b : Option Nat) : fIn .none (.list [oI a, oI b]) = some (.bool (decide (a = none) || decide (b = none))) := by
  unfold fIn
  dsimp only
  rw [if_pos ⟨by decide, sh_o2 a b⟩]
  cases a <;> cases b <;> simp [oI, PyData.eqv]
def endsIn (top : Nat) (ns : List (Option Nat)) : Option Ed := match ns with
  | [some a, some b] => if a = b then none else some ((a : Int), (b : Int))
  | _ => none
def endsOf (top : Nat) (w : Str) : Option Ed := endsIn top ((Txt.split w "-").map fun s => numIn 0 top (tl s))
def oE : Option Ed → PyData
  | none => .none
  | some p => encP p
theorem ends_told (hp : plain A) {w : Str} {top : Nat} {hi : Int} (hw : PyData.strOk w = true) (hl : w.length ≤ 90000) (ht : hi + 1 = (top : Int)) (h2 : top ≤ 101) :
    (m_ends_told [.p (.str w), .p (.int hi)] A).To fun r A' => r = .p (oE (endsOf top w)) ∧ A' = A := by
  have hcut := cut45 hl
  have hn := pieces_len (split45 w)
  unfold m_ends_told
  refine To_def ?_
  unfold b_ends_told
  simp
  refine To_comp (nF top) ?_
  simp [isS, hcut]
  refine ⟨by omega, fun s hs => ?_, ?_⟩
  · refine turn_of (f := nF top) ⟨_, rfl, ?_⟩
    simp [wipeS]
    refine (number_told (lo := 0) hp (piece_ok (split45 w) hw hs).1 ht h2 (by omega)).mono ?_
    rintro _ _ ⟨rfl, rfl⟩
    simp [nF]
  · have hfm : (List.map PyData.str (Txt.split w "-")).filterMap (nF top) = ((Txt.split w "-").map fun s => numIn 0 top (tl s)).map oI := nF_map top _
    have hfm2 : List.filterMap (nF top ∘ PyData.str) (Txt.split w "-") = ((Txt.split w "-").map fun s => numIn 0 top (tl s)).map oI := by
      rw [← hfm, List.filterMap_map]
    first
      | rw [hfm]
      | rw [hfm2]
    unfold endsOf
    have hnl : ((Txt.split w "-").map fun s => numIn 0 top (tl s)).length ≤ 90001 := by rw [List.length_map]; omega
    generalize (Txt.split w "-").map (fun s => numIn 0 top (tl s)) = ns at *
    have hlen : fLen [.list (ns.map oI)] = some (.int ns.length) := by
      unfold fLen
      dsimp only
      rw [if_pos (by rw [List.length_map]; omega), List.length_map]
    by_cases c2 : ns.length = 2
    · match ns, c2 with
      | [a, b], _ =>
        have hin := in_o2 a b
        have hl2 : fLen [.list [oI a, oI b]] = some (.int 2) := rfl
        cases a with
        | none => simp [hl2, hin, endsIn, oE, hp]
        | some a =>
          cases b with
          | none => simp [hl2, hin, endsIn, oE, hp]
          | some b =>
            have hl3 : fLen [.list [.int (a : Int), .int (b : Int)]] = some (.int 2) := rfl
            by_cases c : a = b
            · subst c
              simp [oI] at hin
              simp [hl3, hin, endsIn, oE, oI, hp]
            · simp [oI] at hin
              have c4 : ¬ (a : Int) = (b : Int) := by omega
              simp [hl3, hin, endsIn, oE, oI, hp, c, c4, fTuple, encP]
    · have e : endsIn top ns = none := by
        unfold endsIn
        split
        · exact absurd rfl c2
        · rfl
      have c3 : ¬ (ns.length : Int) = 2 := by omega
      simp [hlen, c3, e, oE, hp]
end
end Lx
end

section
set_option maxHeartbeats 4000000
/-! TxB: edges, vertices and graphs that texts tell: any text. -/
namespace Lx
open PySem PySem.W Mi TL Lw
def b__vertices_told : MS :=
  (sSeq (sIf (mOr (mNot (mTru (mVar 0))) (mNot (mTru (mS1 fEnds (mOp2 (lift2 fIx) (mVar 0) (mC (.int 0))) (mC (.str ":")))))) (sRet (mC .none)) sSkip)
    (sRet (mCall m_number_told (aCons (mSlA (mOp2 (lift2 fIx) (mVar 0) (mC (.int 0))) pNo (pSome (mOp1 (lift1 fNeg) (mC (.int 1))))) (aCons (mC (.int 1)) (aCons (mC (.int 10)) aNil))))))
def m__vertices_told : MF := defM 1 b__vertices_told
def b__edge_told : MS :=
  (sSeq (sLet 2 (mCall m_ends_told (aCons (mVar 0) (aCons (mOp2 (lift2 fSub) (mVar 1) (mC (.int 1))) aNil))))
    (sRet (mIfE (mB (mIsN false (mVar 2))) (mC .none) (mOpN (liftN fTuple) (aCons (mFr (lOpN lfSorted (aCons (mVar 2) aNil))) aNil)))))
def m__edge_told : MF := defM 3 b__edge_told
def b_read_graph : MS :=
  (sSeq (sIf (mB (mTyIs "str" true (mVar 0))) (sRaise "InvalidText" "index" (mC .none)) sSkip)
    (sSeq (sLet 1 (mCall m_words_of (aCons (mVar 0) aNil)))
    (sSeq (sLet 2 (mCall m__vertices_told (aCons (mVar 1) aNil)))
    (sSeq (sIf (mB (mIsN false (mVar 2))) (sRaise "InvalidText" "index" (mC (.int 0))) sSkip)
    (sSeq (sLet 3 (mAl (lDisp aNil)))
    (sSeq (sFor (iEnS 1 (mSlA (mVar 1) (pSome (mC (.int 1))) pNo)) (gTp (gMore (gN 4) (gMore (gN 5) gNone))) (sSeq (sLet 6 (mCall m__edge_told (aCons (mVar 5) (aCons (mVar 2) aNil))))
    (sSeq (sIf (mOr (mB (mIsN false (mVar 6))) (mOr (mB (mOp2 (lift2 fIn) (mVar 6) (mVar 3))) (mB (mOp2 (lift2 fEq) (mOpN (liftN fLen) (aCons (mVar 3) aNil)) (mC (.int 24)))))) (sRaise "InvalidText" "index" (mVar 4)) sSkip)
    (sDrop (mMt isL fAppend (mVar 3) (aCons (mVar 6) aNil))))))
    (sRet (mTup (aCons (mVar 2) (aCons (mOpN (liftN fTuple) (aCons (mFr (lOpN lfSorted (aCons (mVar 3) aNil))) aNil)) aNil))))))))))
def m_read_graph : MF := defM 7 b_read_graph
def edgeOf (v : Nat) (w : Str) : Option Ed := (endsOf v w).map nrm
theorem srt2 (a b : Int) : lfSorted [.tuple [.int a, .int b]] = some (if a ≤ b then [.int a, .int b] else [.int b, .int a]) := by
  unfold lfSorted
  dsimp only
  rw [if_pos]
  · unfold srt
    have h : PySem.W.dataLe false id (.int a) (.int b) = decide (a ≤ b) := congrFun (congrFun (PySem.W.dataLe_int (β := Int) id) a) b
    simp [List.mergeSort, List.MergeSort.Internal.splitInTwo, List.merge, h]
  · exact ⟨rfl, rfl, by simp, by simp [PyData.depthAll, PyData.depth]⟩
theorem ends_in {v : Nat} {w : Str} {p : Ed} (h : endsOf v w = some p) : 0 ≤ p.1 ∧ p.1 < v ∧ 0 ≤ p.2 ∧ p.2 < v ∧ p.1 ≠ p.2 := by
  unfold endsOf endsIn at h
  split at h
  · rename_i a b e
    by_cases c : a = b
    · rw [if_pos c] at h; cases h
    · rw [if_neg c] at h
      cases h
      have ha : some a ∈ (Txt.split w "-").map fun s => numIn 0 v (tl s) := by rw [e]; simp
      have hb : some b ∈ (Txt.split w "-").map fun s => numIn 0 v (tl s) := by rw [e]; simp
      obtain ⟨x, _, hx⟩ := List.mem_map.mp ha
      obtain ⟨y, _, hy⟩ := List.mem_map.mp hb
      have hx := (numIn_some.mp hx).2.1
      have hy := (numIn_some.mp hy).2.1
      dsimp only
      omega
  · cases h
theorem edge_in {v : Nat} {w : Str} {p : Ed} (h : edgeOf v w = some p) : 0 ≤ p.1 ∧ p.1 < p.2 ∧ p.2 < v := by
  unfold edgeOf at h
  cases e : endsOf v w with
  | none => rw [e] at h; cases h
  | some q =>
    rw [e] at h
    cases h
    have := ends_in e
    unfold nrm
    split <;> (try dsimp only) <;> omega
section
variable {A : Arn}
theorem edge_told (hp : plain A) {w : Str} {v : Nat} (hw : PyData.strOk w = true) (hl : w.length ≤ 90000) (h2 : v ≤ 101) :
    (m__edge_told [.p (.str w), .p (.int v)] A).To fun r A' => r = .p (oE (edgeOf v w)) ∧ A' = A := by
  unfold m__edge_told
  refine To_def ?_
  unfold b__edge_told
  simp
  refine (ends_told (top := v) (hi := (v : Int) - 1) hp hw hl (by omega) h2).mono ?_
  rintro _ _ ⟨rfl, rfl⟩
  unfold edgeOf
  cases e : endsOf v w with
  | none => simp [oE, hp]
  | some p =>
    have hs := srt2 p.1 p.2
    have hne := (ends_in e).2.2.2.2
    by_cases c : p.1 ≤ p.2
    · have c2 : p.1 < p.2 := by omega
      simp [oE, encP, hs, c, fTuple, hp, nrm, c2]
    · have c2 : ¬ p.1 < p.2 := by omega
      simp [oE, encP, hs, c, fTuple, hp, nrm, c2]
/-! ### vertices -/
def vertW (w : Str) : Option Nat := if Txt.endswith w ":" = true then numIn 1 11 (tl (L2.cutS w none (some (-1)))) else none
def vertOf : List Str → Option Nat
  | [] => none
  | w :: _ => vertW w
theorem cutS_ok {w : Str} {lo hi : Option Int} (h : PyData.strOk w = true) : PyData.strOk (L2.cutS w lo hi) = true := by
  refine ok_tl fun c hc => ok_mem h c ?_
  unfold L2.cutS at hc
  rw [tl_mk] at hc
  exact List.mem_of_mem_drop (List.mem_of_mem_take hc)
theorem vert_in {W : List Str} {v : Nat} (h : vertOf W = some v) : 1 ≤ v ∧ v ≤ 10 := by
  unfold vertOf at h
  split at h
  · cases h
  · unfold vertW at h
    split at h
    · have := numIn_some.mp h
      omega
    · cases h
theorem vertices_told (hp : plain A) {W : List Str} (hW : ∀ w, w ∈ W → PyData.strOk w = true ∧ w.length ≤ 90000) :
    (m__vertices_told [.p (.list (W.map .str))] A).To fun r A' => r = .p (oI (vertOf W)) ∧ A' = A := by
  unfold m__vertices_told
  refine To_def ?_
  unfold b__vertices_told
  cases W with
  | nil =>
    have ht : ∀ A : Arn, truthD (.p (.list [])) A = some false := fun _ => rfl
    simp [ht, vertOf, oI, hp]
  | cons w ws =>
    obtain ⟨h1, h2⟩ := hW w List.mem_cons_self
    have ht : ∀ A : Arn, truthD (.p (.list (.str w :: ws.map .str))) A = some true := fun _ => rfl
    have hix : L2.atI (PyData.str w :: ws.map .str) 0 = some (.str w) := at_nat (i := 0) rfl
    have hs : fSlA (.str w) none (some (-1)) = some (.str (L2.cutS w none (some (-1)))) := by
      show fSl (.str w) none (some (-1)) = _
      unfold fSl
      dsimp only
      rw [if_pos (by omega)]
    have he : fEnds (.str w) (.str ":") = some (.bool (Txt.endswith w ":")) := rfl
    show _
    unfold vertOf vertW
    by_cases c : Txt.endswith w ":" = true
    · simp [ht, isS, he, hs, hix, c]
      refine (number_told (lo := 1) (top := 11) (hi := 10) hp (cutS_ok h1) (by omega) (by omega) (by omega)).mono ?_
      rintro _ _ ⟨rfl, rfl⟩
      simp [hp]
    · have c2 : Txt.endswith w ":" = false := by simpa using c
      simp [ht, isS, he, hs, hix, c2, hp, oI]
/-! ### a graph -/
def rdGo (v : Nat) : Nat → List Ed → List Str → Except Nat (List Ed)
  | _, acc, [] => .ok acc
  | i, acc, w :: W => match edgeOf v w with
    | none => .error i
    | some p => if p ∈ acc ∨ acc.length = 24 then .error i else rdGo v (i + 1) (acc ++ [p]) W
theorem rdGo_cons (v i : Nat) (acc : List Ed) (w : Str) (W : List Str) : rdGo v i acc (w :: W) = match edgeOf v w with
    | none => .error i
    | some p => if p ∈ acc ∨ acc.length = 24 then .error i else rdGo v (i + 1) (acc ++ [p]) W := rfl
def rdAll (W : List Str) : Except Nat (Nat × List Ed) := match vertOf W with
  | none => .error 0
  | some v => match rdGo v 1 [] W.tail with
    | .error i => .error i
    | .ok es => .ok (v, es)
/-- edges read so far -/
structure Acc (v : Nat) (acc : List Ed) : Prop where
  inn : ∀ p, p ∈ acc → 0 ≤ p.1 ∧ p.1 < p.2 ∧ p.2 < v
  nd : acc.Nodup
  len : acc.length ≤ 24
theorem Acc.snoc {v : Nat} {acc : List Ed} {p : Ed} {w : Str} (h : Acc v acc) (e : edgeOf v w = some p) (n : ¬ (p ∈ acc ∨ acc.length = 24)) : Acc v (acc ++ [p]) := by
  refine ⟨fun q hq => ?_, ?_, ?_⟩
  · rcases List.mem_append.mp hq with hq | hq
    · exact h.inn q hq
    · rw [List.mem_singleton] at hq
      rw [hq]
      exact edge_in e
  · rw [List.nodup_append]
    refine ⟨h.nd, by simp, fun a ha b hb => ?_⟩
    rw [List.mem_singleton] at hb
    rw [hb]
    rintro rfl
    exact n (.inl ha)
  · have := h.len
    rw [List.length_append, List.length_cons, List.length_nil]
    have : acc.length ≠ 24 := fun e => n (.inr e)
    omega
theorem rdGo_acc {v : Nat} : ∀ {W : List Str} {i : Nat} {acc es : List Ed}, Acc v acc → rdGo v i acc W = .ok es → Acc v es
  | [], i, acc, es, h, e => by
    cases e
    exact h
  | w :: W, i, acc, es, h, e => by
    unfold rdGo at e
    split at e
    · cases e
    · rename_i p hp
      split at e
      · cases e
      · rename_i n
        exact rdGo_acc (h.snoc hp n) e
theorem rdAll_acc {W : List Str} {v : Nat} {es : List Ed} (h : rdAll W = .ok (v, es)) : 1 ≤ v ∧ v ≤ 10 ∧ Acc v es := by
  unfold rdAll at h
  split at h
  · cases h
  · rename_i u hu
    split at h
    · cases h
    · rename_i fs hf
      cases h
      have := vert_in hu
      exact ⟨this.1, this.2, rdGo_acc ⟨fun p hp => by simp at hp, List.nodup_nil, by simp⟩ hf⟩
def RxI (x : Str) (W T : List Str) (v L : Nat) (A : Arn) (i : Nat) (s : Slt) (C : Arn) : Prop :=
  ∃ (acc : List Ed) (y4 y5 y6 : Option D), s = [some (.p (.str x)), some (.p (.list (W.map .str))), some (.p (.int v)), some (.ref L), y4, y5, y6] ∧ C = A ++ [.lst (encE acc)] ∧ Acc v acc ∧ rdGo v 1 [] T = rdGo v (1 + i) acc (T.drop i)
theorem read_graph (hp : plain A) {x : Str} (hx : PyData.strOk x = true) (hl : x.length ≤ 90000) : (m_read_graph [.p (.str x)] A).Wp (fun d A' => (∃ v es, rdAll (wordsOf x) = .ok (v, es) ∧ d = .p (encG (v : Int) (es.mergeSort pLe))) ∧ A' = A)
    fun e A' => (∃ i : Nat, rdAll (wordsOf x) = .error i ∧ e = ⟨"InvalidText", "index", .int i⟩) ∧ A' = A := by
  have hW : ∀ w, w ∈ wordsOf x → PyData.strOk w = true ∧ w.length ≤ 90000 := fun w hw => by
    unfold wordsOf at hw
    have := piece_ok (split32 x) hx (List.mem_filter.mp hw).1
    exact ⟨this.1, by omega⟩
  unfold m_read_graph
  refine Wp_def hp ?_
  unfold b_read_graph
  refine Wp_seq (Wp_if ?_)
  simp [tyName]
  refine Wp_skip ?_
  refine Wp_seq (Wp_let (Res.To.wp ?_))
  simp
  refine (words_of hp hx hl).mono ?_
  rintro _ _ ⟨rfl, rfl⟩
  refine Wp_seq (Wp_let (Res.To.wp ?_))
  simp
  refine (vertices_told hp hW).mono ?_
  rintro _ _ ⟨rfl, rfl⟩
  refine Wp_seq (Wp_if ?_)
  cases hv : vertOf (wordsOf x) with
  | none =>
    simp [oI]
    refine Wp_raise ?_
    simp [frz, hp]
    exact ⟨_, _, ⟨rfl, rfl⟩, hp, ⟨0, by unfold rdAll; rw [hv], rfl⟩, List.take_length⟩
  | some v =>
    have hvb := vert_in hv
    simp [oI]
    refine Wp_skip ?_
    refine Wp_seq (Wp_let (Res.To.wp ?_))
    simp
    rename_i A
    refine Wp_seq (Wp_for (xs := cnt 1 0 ((wordsOf x).tail.map .str)) (fun i s C => RxI x (wordsOf x) (wordsOf x).tail v A.length A i s C) ?_ ?_ ?_)
    · simp
      have h1 : cutD' (List.map PyData.str (wordsOf x)) (some 1) none = (List.map PyData.str (wordsOf x)).tail := by
        cases wordsOf x with
        | nil => rfl
        | cons w ws => exact cut_tail
      rw [h1]
      exact ⟨rfl, [], _, _, _, rfl, rfl, ⟨fun p hp => by simp at hp, List.nodup_nil, by simp⟩, rfl⟩
    · rintro i z s C hz ⟨acc, y4, y5, y6, rfl, rfl, ha, hgo⟩
      rw [cnt_get, List.getElem?_map] at hz
      cases hwi : (wordsOf x).tail[i]? with
      | none => rw [hwi] at hz; cases hz
      | some t =>
        rw [hwi] at hz
        cases hz
        have htm : t ∈ wordsOf x := List.mem_of_mem_tail (List.mem_of_getElem? hwi)
        obtain ⟨t1, t2⟩ := hW t htm
        have hp1 : plain (A ++ [.lst (encE acc)]) := plain_snoc hp
        have hd : (wordsOf x).tail.drop i = t :: (wordsOf x).tail.drop (i + 1) := by
          have := List.getElem?_eq_some_iff.mp hwi
          rw [List.drop_eq_getElem_cons this.1, this.2]
        rw [hd] at hgo
        have ei : (1 : Int) + ((0 + i : Nat) : Int) = ((1 + i : Nat) : Int) := by omega
        rw [ei]
        generalize hj : 1 + i = j at *
        refine Wp_turn rfl ?_
        simp
        refine Wp_seq (Wp_let (Res.To.wp ?_))
        simp
        refine (edge_told hp1 t1 t2 (v := v) (by omega)).mono ?_
        rintro _ _ ⟨rfl, rfl⟩
        refine Wp_seq (Wp_if ?_)
        have al := ha.len
        have hlst : ∀ xs : List PyData, lst (A ++ [.lst xs]) A.length = some xs := fun xs => lst_new
        have hlen : fLen [.list (encE acc)] = some (.int acc.length) := len_E (by omega)
        have out : rdGo v 1 [] (wordsOf x).tail = .error j → ∃ x_1 A2, ((PyData.int j : PyData) = x_1 ∧ A ++ [.lst (encE acc)] = A2) ∧ plain A2 ∧ (∃ i : Nat, rdAll (wordsOf x) = Except.error i ∧ x_1 = PyData.int i) ∧ List.take (List.length A) A2 = A := fun h =>
          ⟨_, _, ⟨rfl, rfl⟩, hp1, ⟨j, by unfold rdAll; rw [hv]; dsimp only; rw [h], rfl⟩, by simp⟩
        rw [rdGo_cons] at hgo
        cases he : edgeOf v t with
        | none =>
          rw [he] at hgo
          simp [oE]
          refine Wp_raise ?_
          simp [frz]
          exact out hgo
        | some p =>
          rw [he] at hgo
          dsimp only at hgo
          have hin := in_pp (p := p) (es := acc)
          unfold encP at hin
          simp [oE, encP, hlst, hin, hlen]
          by_cases c1 : p ∈ acc
          · rw [if_pos (.inl c1)] at hgo
            simp [c1]
            refine Wp_raise ?_
            simp [frz]
            exact out hgo
          · by_cases c2 : acc.length = 24
            · rw [if_pos (.inr c2)] at hgo
              have c3 : (acc.length : Int) = 24 := by omega
              simp [c1, c3]
              refine Wp_raise ?_
              simp [frz]
              exact out hgo
            · rw [if_neg (by rintro (h | h); exact c1 h; exact c2 h)] at hgo
              have c3 : ¬ (acc.length : Int) = 24 := by omega
              simp [c1, c3]
              refine Wp_skip ?_
              refine Wp_drop (Res.To.wp ?_)
              have hll : (encE acc).length < 100000 := by rw [encE_length]; omega
              simp [hlst, hll]
              refine ⟨acc ++ [p], _, _, _, rfl, ?_, ha.snoc he (by rintro (h | h); exact c1 h; exact c2 h), ?_⟩
              · rw [← encE_snoc]; rfl
              · rw [hgo, ← hj, Nat.add_assoc]
    · rintro s C ⟨acc, y4, y5, y6, rfl, rfl, ha, hgo⟩
      refine Wp_ret (Res.To.wp ?_)
      rw [cnt_length, List.length_map, List.drop_length] at hgo
      have hlst : ∀ xs : List PyData, lst (A ++ [.lst xs]) A.length = some xs := fun xs => lst_new
      have al := ha.len
      have hs := sorted_pp (es := acc) (by omega)
      simp [hlst, hs, fTuple, hp, encG]
      exact ⟨v, acc, by unfold rdAll; rw [hv]; dsimp only; rw [hgo]; rfl, rfl, rfl⟩
end
end Lx
end

section
set_option maxHeartbeats 4000000
/-! TxG: texts shown, and texts of graphs read (k06). -/
namespace Lx
open PySem PySem.W Mi TL Lw
def b_check_graph : MS :=
  (sIf (mNot (mTru (mCall m_is_graph (aCons (mVar 0) aNil)))) (sRaise "InvalidGraph" "given" (mVar 0)) sSkip)
def m_check_graph : MF := defM 1 b_check_graph
def b_joined_up : MS :=
  (sRet (mS1 fJoin (mC (.str "-")) (mFr (lComp (iS (mVar 0)) (gN 1) mYes (mOpN (liftN fStr) (aCons (mVar 1) aNil)) [1]))))
def m_joined_up : MF := defM 2 b_joined_up
def b_show_graph : MS :=
  (sSeq (sDrop (mCall m_check_graph (aCons (mVar 0) aNil)))
    (sSeq (sAsg (mVar 0) (gTp (gMore (gN 1) (gMore (gN 2) gNone))))
    (sRet (mS1 fJoin (mC (.str " ")) (mOp2 (lift2o fAdd) (mFr (lDisp (aCons (mJs [(mFmt (mVar 1)), (mC (.str ":"))] Str.empty) aNil))) (mFr (lComp (iS (mVar 2)) (gN 3) mYes (mCall m_joined_up (aCons (mVar 3) aNil)) [3])))))))
def m_show_graph : MF := defM 4 b_show_graph
section
variable {A : Arn}
theorem check_graph {v : Int} {es : List Ed} (hp : plain A) (ok : GOkay v es) : (m_check_graph [.p (encG v es)] A).To fun r A' => r = .p .none ∧ A' = A := by
  have hl : lenB (encG v es) = true := (th_G (by have := ok.lo; have := ok.hi; omega) ok.lo_ (by have := ok.len; omega)).len
  unfold m_check_graph
  refine To_def ?_
  unfold b_check_graph
  simp
  refine (is_graph hp hl).mono ?_
  rintro r A' ⟨rfl, rfl⟩
  simp [ok.isG, hp, below_all hp]
def nmF (x : PyData) : Option PyData := match x with
  | .int i => some (.str (nS i.toNat))
  | _ => none
theorem joined_up (hp : plain A) {p : Ed} (h : Fig p) : (m_joined_up [.p (encP p)] A).To fun r A' => r = .p (.str (wS p)) ∧ A' = A := by
  unfold Fig at h
  have n1 := str_i (i := p.1) (by omega) (by omega)
  have n2 := str_i (i := p.2) (by omega) (by omega)
  have f1 := fig_num (i := p.1) (by omega) (by omega)
  have f2 := fig_num (i := p.2) (by omega) (by omega)
  unfold m_joined_up
  refine To_def ?_
  unfold b_joined_up
  simp
  refine ⟨rfl, ?_⟩
  refine To_comp nmF ?_
  simp [encP]
  refine ⟨⟨turn_of (f := nmF) ⟨_, rfl, ?_⟩, turn_of (f := nmF) ⟨_, rfl, ?_⟩⟩, ?_⟩
  · simp [wipeS, n1, nmF]
  · simp [wipeS, n2, nmF]
  · have hj : fJoin (.str "-") (.list [.str (nS p.1.toNat), .str (nS p.2.toNat)]) = some (.str (wS p)) := by
      have hL : [PyData.str (nS p.1.toNat), PyData.str (nS p.2.toNat)] = [nS p.1.toNat, nS p.2.toNat].map PyData.str := rfl
      rw [hL]
      unfold fJoin
      dsimp only
      rw [strsOf_map]
      dsimp only [Option.bind_some]
      have l1 : (nS p.1.toNat).length = 1 := by rw [len_tl, tl_nS, f1]; rfl
      have l2 : (nS p.2.toNat).length = 1 := by rw [len_tl, tl_nS, f2]; rfl
      have l3 : ("-" : Str).length = 1 := by decide +kernel
      rw [if_pos (by simp [l1, l2, l3])]
      congr 2
      refine ext_tl ?_
      rw [join_eq, tl_join, tl45, List.map_cons, List.map_cons, List.map_nil, tl_nS, tl_nS, f1, f2]
      rfl
    have hf : List.filterMap nmF [.int p.1, .int p.2] = [.str (nS p.1.toNat), .str (nS p.2.toNat)] := rfl
    rw [hf]
    simp [hj, hp]
def juF (x : PyData) : Option PyData := match x with
  | .tuple [.int a, .int b] => some (.str (wS (a, b)))
  | _ => none
theorem juF_map : ∀ es : List Ed, (encE es).filterMap juF = (es.map wS).map .str
  | [] => rfl
  | p :: es => by
    have hf : juF (encP p) = some (.str (wS p)) := rfl
    show List.filterMap juF (encP p :: encE es) = _
    rw [List.filterMap_cons, juF_map es, hf]
    rfl
theorem show_graph {v : Nat} {es : List Ed} (hp : plain A) (ok : GOkay v es) : (m_show_graph [.p (encG v es)] A).To fun r A' => r = .p (.str (tS v es)) ∧ A' = A := by
  have hv := ok.hi
  have hl := ok.len
  have l0 : (numL v).length ≤ 3 := numL_len (by omega) (by omega)
  have hvs := fmt_n (n := v) (by omega)
  unfold m_show_graph
  refine To_def ?_
  unfold b_show_graph
  simp
  refine (check_graph hp ok).mono ?_
  rintro _ _ ⟨rfl, rfl⟩
  unfold encG
  have lv : (nS v).length ≤ 3 := by rw [len_tl, tl_nS]; exact l0
  have le0 : ∀ y : Str, (Str.empty ++ y).length = y.length := fun y => by rw [len_tl, tl_append, len_tl]; rfl
  have lc : (Str.empty ++ nS v ++ (":" : Str)).length ≤ 100000 := by
    rw [len_tl, tl_append, tl_append, tl_nS, tl58]
    show ([] ++ numL v ++ [58]).length ≤ 100000
    simp
    omega
  simp [isS, hvs, le0, lc]
  refine ⟨by omega, ?_⟩
  refine To_comp juF ?_
  simp
  refine ⟨by rw [encE_length]; omega, fun y hy => ?_, ?_⟩
  · obtain ⟨p, hpm, rfl⟩ := List.mem_map.mp hy
    refine turn_of (f := juF) ⟨_, rfl, ?_⟩
    have hf : juF (encP p) = some (.str (wS p)) := rfl
    rw [hf]
    simp [wipeS]
    refine (joined_up hp (ok.fig p hpm)).mono ?_
    rintro _ _ ⟨rfl, rfl⟩
    simp
  · rw [juF_map]
    have hadd : fAdd (.list [.str (Str.empty ++ nS v ++ (":" : Str))]) (.list ((es.map wS).map .str)) = some (.list (((Str.empty ++ nS v ++ (":" : Str)) :: es.map wS).map .str)) := by
      show (if 1 + ((es.map wS).map PyData.str).length ≤ 100000 then some (PyData.list ([PyData.str _] ++ _)) else none) = _
      rw [if_pos (by rw [List.length_map, List.length_map]; omega)]
      rfl
    have hwl : ∀ p : Ed, (wS p).length = 3 := fun p => by rw [len_tl]; rfl
    have hj : fJoin (.str " ") (.list (((Str.empty ++ nS v ++ (":" : Str)) :: es.map wS).map .str)) = some (.str (tS v es)) := by
      unfold fJoin
      dsimp only
      rw [strsOf_map]
      dsimp only [Option.bind_some]
      have hlen1 : (" " : Str).length = 1 := by decide +kernel
      have hsum : (((Str.empty ++ nS v ++ (":" : Str)) :: es.map wS).map (·.length)).sum ≤ ((Str.empty ++ nS v ++ (":" : Str)) :: es.map wS).length * 4 := by
        have := sum_le (n := 4) (((Str.empty ++ nS v ++ (":" : Str)) :: es.map wS).map (·.length)) (fun x hx => by
          obtain ⟨y, hy, rfl⟩ := List.mem_map.mp hx
          rcases List.mem_cons.mp hy with rfl | hy
          · rw [len_tl, tl_append, tl_append, tl_nS, tl58]
            show ([] ++ numL v ++ [58]).length ≤ 4
            simp
            omega
          · obtain ⟨p, _, rfl⟩ := List.mem_map.mp hy
            rw [hwl]
            omega)
        rw [List.length_map] at this
        exact this
      rw [List.length_cons, List.length_map] at hsum
      rw [if_pos (by rw [hlen1, List.length_cons, List.length_map]; omega)]
      congr 2
      refine of_tS ?_
      rw [join_eq, tl_join, tl32, ← joinL_txt]
      congr 1
      rw [List.map_cons, List.map_map]
      congr 1
      rw [tl_append, tl_append, tl_nS, tl58]
      rfl
    simp only [List.map_cons, List.map_map] at hadd hj
    simp [hadd, hj, hp]
/-! ### a graph's text read -/
theorem cut_chars (s : Nat) : ∀ (l acc : List Nat) (c : Nat), c ∈ acc ∨ c ∈ l → c = s ∨ ∃ w, w ∈ cutL s acc l ∧ c ∈ w
  | [], acc, c, h => by
    rcases h with h | h
    · exact .inr ⟨acc, by rw [cutL_nil]; simp, h⟩
    · cases h
  | d :: r, acc, c, h => by
    rw [cutL_cons]
    by_cases k : d = s
    · rw [if_pos k]
      rcases h with h | h
      · exact .inr ⟨acc, by simp, h⟩
      · rcases List.mem_cons.mp h with rfl | h
        · exact .inl k
        · rcases cut_chars s r [] c (.inr h) with e | ⟨w, hw, hc⟩
          · exact .inl e
          · exact .inr ⟨w, List.mem_cons_of_mem _ hw, hc⟩
    · rw [if_neg k]
      refine cut_chars s r (acc ++ [d]) c ?_
      rcases h with h | h
      · exact .inl (List.mem_append.mpr (.inl h))
      · rcases List.mem_cons.mp h with rfl | h
        · exact .inl (by simp)
        · exact .inr h
theorem rd_ok {x : Str} {v : Nat} {qs : List Ed} (r : Rd x v qs) : PyData.strOk x = true := ok_tl fun c hc => by
  rcases cut_chars 32 (tl x) [] c (.inr hc) with e | ⟨w, hw, hcw⟩
  · omega
  · have hm : w ∈ wrds (tl x) := by
      unfold wrds
      refine List.mem_filter.mpr ⟨hw, ?_⟩
      cases w with
      | nil => cases hcw
      | cons _ _ => rfl
    rw [r.wd] at hm
    rcases List.mem_cons.mp hm with rfl | hm
    · unfold wV at hcw
      rcases List.mem_append.mp hcw with h | h
      · have := numL_digits v c h
        omega
      · rw [List.mem_singleton] at h
        omega
    · obtain ⟨q, hq, rfl⟩ := List.mem_map.mp hm
      have := (r.inn q hq).1
      unfold Fig at this
      unfold wP at hcw
      simp at hcw
      omega
theorem edge_of {v : Nat} {t : Str} {q : Ed} (ht : tl t = wP q) (h : Fig q ∧ q.1 ≠ q.2 ∧ q.1 < v ∧ q.2 < v) : edgeOf v t = some (nrm q) := by
  obtain ⟨f, h1, h2, h3⟩ := h
  obtain ⟨a, b, e, ha, hb⟩ := split_P f ht
  unfold Fig at f
  unfold edgeOf endsOf
  rw [e, List.map_cons, List.map_cons, List.map_nil, ha, hb]
  have e1 : numIn 0 v (numL q.1.toNat) = some q.1.toNat := numIn_some.mpr ⟨by omega, by omega, rfl⟩
  have e2 : numIn 0 v (numL q.2.toNat) = some q.2.toNat := numIn_some.mpr ⟨by omega, by omega, rfl⟩
  rw [e1, e2]
  unfold endsIn
  dsimp only
  rw [if_neg (by omega), Option.map_some]
  have g1 : ((q.1.toNat : Nat) : Int) = q.1 := by omega
  have g2 : ((q.2.toNat : Nat) : Int) = q.2 := by omega
  rw [g1, g2]
theorem go_of {v : Nat} : ∀ {qs : List Ed} {ts : List Str} {i : Nat} {acc : List Ed}, ts.map tl = qs.map wP → (∀ q, q ∈ qs → Fig q ∧ q.1 ≠ q.2 ∧ q.1 < v ∧ q.2 < v) → (acc ++ qs.map nrm).Nodup → acc.length + qs.length ≤ 24 → rdGo v i acc ts = .ok (acc ++ qs.map nrm)
  | [], ts, i, acc, hm, _, _, _ => by
    have : ts = [] := by simpa using hm
    subst this
    simp [rdGo]
  | q :: qs, ts, i, acc, hm, h, nd, hl => by
    cases ts with
    | nil => cases hm
    | cons t ts =>
      rw [List.map_cons, List.map_cons, List.cons.injEq] at hm
      rw [rdGo_cons, edge_of hm.1 (h q List.mem_cons_self)]
      dsimp only
      have hn : nrm q ∉ acc := fun hq => by
        rw [List.nodup_append] at nd
        exact nd.2.2 _ hq _ (by simp) rfl
      rw [List.length_cons] at hl
      have e : acc ++ (q :: qs).map nrm = acc ++ [nrm q] ++ qs.map nrm := by simp
      rw [if_neg (by rintro (h | h); exact hn h; omega), e]
      rw [e] at nd
      exact go_of hm.2 (fun q' hq' => h q' (List.mem_cons_of_mem _ hq')) nd (by rw [List.length_append, List.length_singleton]; omega)
theorem rd_all {x : Str} {v : Nat} {qs : List Ed} (r : Rd x v qs) : rdAll (wordsOf x) = .ok (v, qs.map nrm) := by
  have e : (wordsOf x).map tl = wrds (tl x) := wrds_split x
  rw [r.wd] at e
  unfold rdAll
  cases hW : wordsOf x with
  | nil => rw [hW] at e; cases e
  | cons w ws =>
    rw [hW, List.map_cons, List.cons.injEq] at e
    have hv : vertOf (w :: ws) = some v := by
      show vertW w = _
      unfold vertW
      rw [if_pos (ends_V e.1), cut_V e.1]
      exact numIn_some.mpr ⟨r.lo, by have := r.hi; omega, rfl⟩
    rw [hv]
    dsimp only
    have hg := go_of (v := v) (i := 1) (acc := []) e.2 r.inn r.nd (by have := r.cnt; simp; omega)
    rw [List.tail_cons, hg]
    rfl
theorem read_rd {x : Str} {v : Nat} {qs : List Ed} (hp : plain A) (r : Rd x v qs) : (m_read_graph [.p (.str x)] A).To fun d A' => d = .p (encG v ((qs.map nrm).mergeSort pLe)) ∧ A' = A := by
  refine Res.Wp.to ((read_graph hp (rd_ok r) (by rw [len_tl]; have := r.len; omega)).mono ?_ ?_)
  · rintro d A' ⟨⟨u, es, h, rfl⟩, rfl⟩
    rw [rd_all r] at h
    cases h
    exact ⟨rfl, rfl⟩
  · rintro e A' ⟨⟨i, h, _⟩, _⟩
    rw [rd_all r] at h
    cases h
end
end Lx
end

section
set_option maxHeartbeats 8000000
namespace Pr
open PySem PySem.Spec PyProof.Rows L2 Mi
open Evl (Ex)
/-! ### the text -/
def topS (i : Nat) : Stmt := PySem.Challenge.pw_linkless_k06_texts_there_and_back.main.body.getD i (.Pass ⟨0, 0, 0, 0⟩)
abbrev s__law_well : Stmt := topS 27
theorem sc__law_well : FnScope ["script", "turn", "own", "mixed", "cell"] ["script", "turn"] (defScope s__law_well) := ⟨rfl, rfl, rfl, by decide +kernel, rfl, by decide +kernel, by decide +kernel⟩
abbrev s_is_whole : Stmt := topS 5
theorem sc_is_whole : FnScope ["value"] ["value"] (defScope s_is_whole) := ⟨rfl, rfl, rfl, by decide +kernel, rfl, by decide +kernel, by decide +kernel⟩
abbrev s_is_row : Stmt := topS 6
theorem sc_is_row : FnScope ["value", "length"] ["value", "length"] (defScope s_is_row) := ⟨rfl, rfl, rfl, by decide +kernel, rfl, by decide +kernel, by decide +kernel⟩
abbrev s_is_ascending : Stmt := topS 9
theorem sc_is_ascending : FnScope ["row", "k"] ["row"] (defScope s_is_ascending) := ⟨rfl, rfl, rfl, by decide +kernel, rfl, by decide +kernel, by decide +kernel⟩
abbrev s_are_whole : Stmt := topS 8
theorem sc_are_whole : FnScope ["value", "part"] ["value"] (defScope s_are_whole) := ⟨rfl, rfl, rfl, by decide +kernel, rfl, by decide +kernel, by decide +kernel⟩
abbrev s_is_whole_row : Stmt := topS 7
theorem sc_is_whole_row : FnScope ["value", "length"] ["value", "length"] (defScope s_is_whole_row) := ⟨rfl, rfl, rfl, by decide +kernel, rfl, by decide +kernel, by decide +kernel⟩
abbrev s__could_be_edge : Stmt := topS 14
theorem sc__could_be_edge : FnScope ["value", "vertices"] ["value", "vertices"] (defScope s__could_be_edge) := ⟨rfl, rfl, rfl, by decide +kernel, rfl, by decide +kernel, by decide +kernel⟩
abbrev s_is_graph : Stmt := topS 13
theorem sc_is_graph : FnScope ["value", "vertices", "edges", "edge"] ["value"] (defScope s_is_graph) := ⟨rfl, rfl, rfl, by decide +kernel, rfl, by decide +kernel, by decide +kernel⟩
abbrev s_check_graph : Stmt := topS 15
theorem sc_check_graph : FnScope ["graph"] ["graph"] (defScope s_check_graph) := ⟨rfl, rfl, rfl, by decide +kernel, rfl, by decide +kernel, by decide +kernel⟩
abbrev s_joined_up : Stmt := topS 20
theorem sc_joined_up : FnScope ["vertices", "vertex"] ["vertices"] (defScope s_joined_up) := ⟨rfl, rfl, rfl, by decide +kernel, rfl, by decide +kernel, by decide +kernel⟩
abbrev s_show_graph : Stmt := topS 22
theorem sc_show_graph : FnScope ["graph", "vertices", "edges", "edge"] ["graph"] (defScope s_show_graph) := ⟨rfl, rfl, rfl, by decide +kernel, rfl, by decide +kernel, by decide +kernel⟩
abbrev s_words_of : Stmt := topS 17
theorem sc_words_of : FnScope ["text", "word"] ["text"] (defScope s_words_of) := ⟨rfl, rfl, rfl, by decide +kernel, rfl, by decide +kernel, by decide +kernel⟩
abbrev s_number_told : Stmt := topS 18
theorem sc_number_told : FnScope ["word", "least", "greatest", "number"] ["word", "least", "greatest"] (defScope s_number_told) := ⟨rfl, rfl, rfl, by decide +kernel, rfl, by decide +kernel, by decide +kernel⟩
abbrev s__vertices_told : Stmt := topS 24
theorem sc__vertices_told : FnScope ["words"] ["words"] (defScope s__vertices_told) := ⟨rfl, rfl, rfl, by decide +kernel, rfl, by decide +kernel, by decide +kernel⟩
abbrev s_ends_told : Stmt := topS 19
theorem sc_ends_told : FnScope ["word", "greatest", "ends", "part"] ["word", "greatest"] (defScope s_ends_told) := ⟨rfl, rfl, rfl, by decide +kernel, rfl, by decide +kernel, by decide +kernel⟩
abbrev s__edge_told : Stmt := topS 25
theorem sc__edge_told : FnScope ["word", "vertices", "ends"] ["word", "vertices"] (defScope s__edge_told) := ⟨rfl, rfl, rfl, by decide +kernel, rfl, by decide +kernel, by decide +kernel⟩
abbrev s_read_graph : Stmt := topS 23
theorem sc_read_graph : FnScope ["text", "words", "vertices", "edges", "index", "word", "edge"] ["text"] (defScope s_read_graph) := ⟨rfl, rfl, rfl, by decide +kernel, rfl, by decide +kernel, by decide +kernel⟩
abbrev s__law_draw : Stmt := topS 28
theorem sc__law_draw : FnScope ["well", "many", "seed", "digit"] ["well", "many"] (defScope s__law_draw) := ⟨rfl, rfl, rfl, by decide +kernel, rfl, by decide +kernel, by decide +kernel⟩
abbrev s__law_pick : Stmt := topS 29
theorem sc__law_pick : FnScope ["well", "some"] ["well", "some"] (defScope s__law_pick) := ⟨rfl, rfl, rfl, by decide +kernel, rfl, by decide +kernel, by decide +kernel⟩
abbrev s__law_kept : Stmt := topS 30
theorem sc__law_kept : FnScope ["vertices", "edges", "found", "a", "b", "pair"] ["vertices", "edges"] (defScope s__law_kept) := ⟨rfl, rfl, rfl, by decide +kernel, rfl, by decide +kernel, by decide +kernel⟩
abbrev s__law_edges_of : Stmt := topS 31
theorem sc__law_edges_of : FnScope ["text", "words", "pairs", "word", "pair"] ["text"] (defScope s__law_edges_of) := ⟨rfl, rfl, rfl, by decide +kernel, rfl, by decide +kernel, by decide +kernel⟩
abbrev s__law_family : Stmt := topS 32
theorem sc__law_family : FnScope ["level", "texts", "text"] ["level"] (defScope s__law_family) := ⟨rfl, rfl, rfl, by decide +kernel, rfl, by decide +kernel, by decide +kernel⟩
abbrev s__law_order : Stmt := topS 33
theorem sc__law_order : FnScope ["well", "many", "left", "found", "each", "other"] ["well", "many"] (defScope s__law_order) := ⟨rfl, rfl, rfl, by decide +kernel, rfl, by decide +kernel, by decide +kernel⟩
abbrev s__law_named : Stmt := topS 34
theorem sc__law_named : FnScope ["graph", "order", "a", "b"] ["graph", "order"] (defScope s__law_named) := ⟨rfl, rfl, rfl, by decide +kernel, rfl, by decide +kernel, by decide +kernel⟩
abbrev s__law_pairs_of : Stmt := topS 35
theorem sc__law_pairs_of : FnScope ["vertices", "found", "a", "b"] ["vertices"] (defScope s__law_pairs_of) := ⟨rfl, rfl, rfl, by decide +kernel, rfl, by decide +kernel, by decide +kernel⟩
abbrev s__law_graph : Stmt := topS 36
theorem sc__law_graph : FnScope ["well", "most", "edges", "vertices", "some", "pair", "graph", "found", "share", "more", "turn", "each"] ["well", "most", "edges"] (defScope s__law_graph) := ⟨rfl, rfl, rfl, by decide +kernel, rfl, by decide +kernel, by decide +kernel⟩
abbrev s__law_full : Stmt := topS 37
theorem sc__law_full : FnScope ["well", "edges", "found", "k"] ["well", "edges"] (defScope s__law_full) := ⟨rfl, rfl, rfl, by decide +kernel, rfl, by decide +kernel, by decide +kernel⟩
abbrev s__law_text : Stmt := topS 38
theorem sc__law_text : FnScope ["graph", "found", "a", "b"] ["graph"] (defScope s__law_text) := ⟨rfl, rfl, rfl, by decide +kernel, rfl, by decide +kernel, by decide +kernel⟩
abbrev s__law_blanks : Stmt := topS 39
theorem sc__law_blanks : FnScope ["well"] ["well"] (defScope s__law_blanks) := ⟨rfl, rfl, rfl, by decide +kernel, rfl, by decide +kernel, by decide +kernel⟩
abbrev s__law_other_text : Stmt := topS 40
theorem sc__law_other_text : FnScope ["well", "graph", "text", "k", "a", "b"] ["well", "graph"] (defScope s__law_other_text) := ⟨rfl, rfl, rfl, by decide +kernel, rfl, by decide +kernel, by decide +kernel⟩
abbrev s__law_right : Stmt := topS 41
theorem sc__law_right : FnScope ["well", "turn", "graph", "text", "some", "other"] ["well"] (defScope s__law_right) := ⟨rfl, rfl, rfl, by decide +kernel, rfl, by decide +kernel, by decide +kernel⟩
abbrev s_law : Stmt := topS 42
theorem sc_law : FnScope ["script", "turn"] ["script"] (defScope s_law) := ⟨rfl, rfl, rfl, by decide +kernel, rfl, by decide +kernel, by decide +kernel⟩
/-! ### each def as a function -/
abbrev b__law_well : MS := Lw.b__law_well
abbrev m__law_well : MF := Lw.m__law_well
abbrev b_is_whole : MS := Lw.b_is_whole
abbrev m_is_whole : MF := Lw.m_is_whole
abbrev b_is_row : MS := Lw.b_is_row
abbrev m_is_row : MF := Lw.m_is_row
abbrev b_is_ascending : MS := Lw.b_is_ascending
abbrev m_is_ascending : MF := Lw.m_is_ascending
abbrev b_are_whole : MS := Lw.b_are_whole
abbrev m_are_whole : MF := Lw.m_are_whole
abbrev b_is_whole_row : MS := Lw.b_is_whole_row
abbrev m_is_whole_row : MF := Lw.m_is_whole_row
abbrev b__could_be_edge : MS := Lw.b__could_be_edge
abbrev m__could_be_edge : MF := Lw.m__could_be_edge
abbrev b_is_graph : MS := Lw.b_is_graph
abbrev m_is_graph : MF := Lw.m_is_graph
abbrev b_check_graph : MS := Lx.b_check_graph
abbrev m_check_graph : MF := Lx.m_check_graph
abbrev b_joined_up : MS := Lx.b_joined_up
abbrev m_joined_up : MF := Lx.m_joined_up
abbrev b_show_graph : MS := Lx.b_show_graph
abbrev m_show_graph : MF := Lx.m_show_graph
abbrev b_words_of : MS := Lx.b_words_of
abbrev m_words_of : MF := Lx.m_words_of
abbrev b_number_told : MS := Lx.b_number_told
abbrev m_number_told : MF := Lx.m_number_told
abbrev b__vertices_told : MS := Lx.b__vertices_told
abbrev m__vertices_told : MF := Lx.m__vertices_told
abbrev b_ends_told : MS := Lx.b_ends_told
abbrev m_ends_told : MF := Lx.m_ends_told
abbrev b__edge_told : MS := Lx.b__edge_told
abbrev m__edge_told : MF := Lx.m__edge_told
abbrev b_read_graph : MS := Lx.b_read_graph
abbrev m_read_graph : MF := Lx.m_read_graph
abbrev b__law_draw : MS := Lw.b__law_draw
abbrev m__law_draw : MF := Lw.m__law_draw
abbrev b__law_pick : MS := Lw.b__law_pick
abbrev m__law_pick : MF := Lw.m__law_pick
abbrev b__law_kept : MS := Lw.b__law_kept
abbrev m__law_kept : MF := Lw.m__law_kept
abbrev b__law_edges_of : MS := Lw.b__law_edges_of
abbrev m__law_edges_of : MF := Lw.m__law_edges_of
abbrev b__law_family : MS := Lw.b__law_family
abbrev m__law_family : MF := Lw.m__law_family
abbrev b__law_order : MS := Lw.b__law_order
abbrev m__law_order : MF := Lw.m__law_order
abbrev b__law_named : MS := Lw.b__law_named
abbrev m__law_named : MF := Lw.m__law_named
abbrev b__law_pairs_of : MS := Lw.b__law_pairs_of
abbrev m__law_pairs_of : MF := Lw.m__law_pairs_of
abbrev b__law_graph : MS := Lw.b__law_graph
abbrev m__law_graph : MF := Lw.m__law_graph
abbrev b__law_full : MS := Lw.b__law_full
abbrev m__law_full : MF := Lw.m__law_full
abbrev b__law_text : MS := Lw.b__law_text
abbrev m__law_text : MF := Lw.m__law_text
abbrev b__law_blanks : MS := Lw.b__law_blanks
abbrev m__law_blanks : MF := Lw.m__law_blanks
abbrev b__law_other_text : MS := Lw.b__law_other_text
abbrev m__law_other_text : MF := Lw.m__law_other_text
def b__law_right : MS :=
  (sSeq (sFor (iR1 (aCons (mC (.int 3)) aNil)) (gN 1) (sSeq (sLet 2 (mIfE (mB (mOp2 (lift2 fEq) (mCall m__law_draw (aCons (mVar 0) (aCons (mC (.int 5)) aNil))) (mC (.int 0)))) (mCall m__law_full (aCons (mVar 0) (aCons (mC (.int 24)) aNil))) (mCall m__law_graph (aCons (mVar 0) (aCons (mC (.int 10)) (aCons (mC (.int 24)) aNil))))))
    (sSeq (sLet 3 (mCall m__law_text (aCons (mVar 2) aNil)))
    (sSeq (sIf (mB (mOp2 (lift2 fNe) (mOpN (liftN fRepr) (aCons (mFr (lDisp (aCons (mCall m_show_graph (aCons (mVar 2) aNil)) (aCons (mCall m_show_graph (aCons (mVar 2) aNil)) aNil)))) aNil)) (mOpN (liftN fRepr) (aCons (mFr (lDisp (aCons (mVar 3) (aCons (mVar 3) aNil)))) aNil)))) (sRet (mC (.bool false))) sSkip)
    (sSeq (sLet 4 (mCall m__law_other_text (aCons (mVar 0) (aCons (mVar 2) aNil))))
    (sSeq (sIf (mB (mOp2 (lift2 fNe) (mOpN (liftN fRepr) (aCons (mFr (lDisp (aCons (mCall m_read_graph (aCons (mVar 3) aNil)) (aCons (mCall m_read_graph (aCons (mVar 4) aNil)) (aCons (mCall m_read_graph (aCons (mVar 4) aNil)) aNil))))) aNil)) (mOpN (liftN fRepr) (aCons (mFr (lDisp (aCons (mVar 2) (aCons (mVar 2) (aCons (mVar 2) aNil))))) aNil)))) (sRet (mC (.bool false))) sSkip)
    (sSeq (sLet 5 (mCall m__law_graph (aCons (mVar 0) (aCons (mC (.int 10)) (aCons (mC (.int 24)) aNil)))))
    (sIf (mB (mOp2 (lift2 fNe) (mOp2 (lift2 fEq) (mCall m_show_graph (aCons (mVar 5) aNil)) (mVar 3)) (mOp2 (lift2 fEq) (mVar 5) (mVar 2)))) (sRet (mC (.bool false))) sSkip))))))))
    (sRet (mC (.bool true))))
def m__law_right : MF := defM 6 b__law_right
def b_law : MS :=
  (sSeq (sFor (iR1 (aCons (mOpN (liftN fMax2) (aCons (mC (.int 2)) (aCons (mOpN (liftN fMin2) (aCons (mOpN (liftN fLen) (aCons (mVar 0) aNil)) (aCons (mC (.int 4)) aNil))) aNil))) aNil)) (gN 1) (sIf (mNot (mTru (mCall m__law_right (aCons (mCall m__law_well (aCons (mVar 0) (aCons (mVar 1) aNil))) aNil)))) (sRet (mC (.bool false))) sSkip))
    (sRet (mC (.bool true))))
def m_law : MF := defM 2 b_law
/-! ### what the top has written -/
abbrev s_InvalidGraph_init : Stmt := (C8.clsBody (topS 2)).getD 0 (.Pass ⟨0, 0, 0, 0⟩)
theorem rows_InvalidGraph : Er.IsRows "given" (defBody s_InvalidGraph_init) := ⟨_, _, _, _, _, _, _, _, _, _, _, _, by decide, rfl⟩
theorem head_InvalidGraph : Er.IsHead "given" (defArgs s_InvalidGraph_init) := ⟨_, _, rfl⟩
theorem names_InvalidGraph : Er.IsNames "given" (defScope s_InvalidGraph_init) := ⟨rfl, rfl, rfl, by decide +kernel, rfl, rfl, rfl, rfl⟩
abbrev s_InvalidText_init : Stmt := (C8.clsBody (topS 3)).getD 0 (.Pass ⟨0, 0, 0, 0⟩)
theorem rows_InvalidText : Er.IsRows "index" (defBody s_InvalidText_init) := ⟨_, _, _, _, _, _, _, _, _, _, _, _, by decide, rfl⟩
theorem head_InvalidText : Er.IsHead "index" (defArgs s_InvalidText_init) := ⟨_, _, rfl⟩
theorem names_InvalidText : Er.IsNames "index" (defScope s_InvalidText_init) := ⟨rfl, rfl, rfl, by decide +kernel, rfl, rfl, rfl, rfl⟩
structure Txt (P : Program) (K : PySem.W.Frag) (mg : Str → Option Value) (base : Heap) where
  C_InvalidGraph : Addr
  fI_InvalidGraph : Addr
  E_InvalidGraph : ErF P K mg "InvalidGraph" "given" C_InvalidGraph fI_InvalidGraph
  C_InvalidText : Addr
  fI_InvalidText : Addr
  E_InvalidText : ErF P K mg "InvalidText" "index" C_InvalidText fI_InvalidText
  a__law_well : Addr
  fd__law_well : FuncData
  F__law_well : Fun K "_law_well" "_law_well" s__law_well a__law_well fd__law_well
  g__law_well : mg "_law_well" = some (.ref a__law_well)
  a_is_whole : Addr
  fd_is_whole : FuncData
  F_is_whole : Fun K "is_whole" "is_whole" s_is_whole a_is_whole fd_is_whole
  g_is_whole : mg "is_whole" = some (.ref a_is_whole)
  a_is_row : Addr
  fd_is_row : FuncData
  F_is_row : Fun K "is_row" "is_row" s_is_row a_is_row fd_is_row
  g_is_row : mg "is_row" = some (.ref a_is_row)
  a_is_ascending : Addr
  fd_is_ascending : FuncData
  F_is_ascending : Fun K "is_ascending" "is_ascending" s_is_ascending a_is_ascending fd_is_ascending
  g_is_ascending : mg "is_ascending" = some (.ref a_is_ascending)
  a_are_whole : Addr
  fd_are_whole : FuncData
  F_are_whole : Fun K "are_whole" "are_whole" s_are_whole a_are_whole fd_are_whole
  g_are_whole : mg "are_whole" = some (.ref a_are_whole)
  a_is_whole_row : Addr
  fd_is_whole_row : FuncData
  F_is_whole_row : Fun K "is_whole_row" "is_whole_row" s_is_whole_row a_is_whole_row fd_is_whole_row
  g_is_whole_row : mg "is_whole_row" = some (.ref a_is_whole_row)
  a__could_be_edge : Addr
  fd__could_be_edge : FuncData
  F__could_be_edge : Fun K "_could_be_edge" "_could_be_edge" s__could_be_edge a__could_be_edge fd__could_be_edge
  g__could_be_edge : mg "_could_be_edge" = some (.ref a__could_be_edge)
  a_is_graph : Addr
  fd_is_graph : FuncData
  F_is_graph : Fun K "is_graph" "is_graph" s_is_graph a_is_graph fd_is_graph
  g_is_graph : mg "is_graph" = some (.ref a_is_graph)
  a_check_graph : Addr
  fd_check_graph : FuncData
  F_check_graph : Fun K "check_graph" "check_graph" s_check_graph a_check_graph fd_check_graph
  g_check_graph : mg "check_graph" = some (.ref a_check_graph)
  a_joined_up : Addr
  fd_joined_up : FuncData
  F_joined_up : Fun K "joined_up" "joined_up" s_joined_up a_joined_up fd_joined_up
  g_joined_up : mg "joined_up" = some (.ref a_joined_up)
  a_show_graph : Addr
  fd_show_graph : FuncData
  F_show_graph : Fun K "show_graph" "show_graph" s_show_graph a_show_graph fd_show_graph
  g_show_graph : mg "show_graph" = some (.ref a_show_graph)
  a_words_of : Addr
  fd_words_of : FuncData
  F_words_of : Fun K "words_of" "words_of" s_words_of a_words_of fd_words_of
  g_words_of : mg "words_of" = some (.ref a_words_of)
  a_number_told : Addr
  fd_number_told : FuncData
  F_number_told : Fun K "number_told" "number_told" s_number_told a_number_told fd_number_told
  g_number_told : mg "number_told" = some (.ref a_number_told)
  a__vertices_told : Addr
  fd__vertices_told : FuncData
  F__vertices_told : Fun K "_vertices_told" "_vertices_told" s__vertices_told a__vertices_told fd__vertices_told
  g__vertices_told : mg "_vertices_told" = some (.ref a__vertices_told)
  a_ends_told : Addr
  fd_ends_told : FuncData
  F_ends_told : Fun K "ends_told" "ends_told" s_ends_told a_ends_told fd_ends_told
  g_ends_told : mg "ends_told" = some (.ref a_ends_told)
  a__edge_told : Addr
  fd__edge_told : FuncData
  F__edge_told : Fun K "_edge_told" "_edge_told" s__edge_told a__edge_told fd__edge_told
  g__edge_told : mg "_edge_told" = some (.ref a__edge_told)
  a_read_graph : Addr
  fd_read_graph : FuncData
  F_read_graph : Fun K "read_graph" "read_graph" s_read_graph a_read_graph fd_read_graph
  g_read_graph : mg "read_graph" = some (.ref a_read_graph)
  a__law_draw : Addr
  fd__law_draw : FuncData
  F__law_draw : Fun K "_law_draw" "_law_draw" s__law_draw a__law_draw fd__law_draw
  g__law_draw : mg "_law_draw" = some (.ref a__law_draw)
  a__law_pick : Addr
  fd__law_pick : FuncData
  F__law_pick : Fun K "_law_pick" "_law_pick" s__law_pick a__law_pick fd__law_pick
  g__law_pick : mg "_law_pick" = some (.ref a__law_pick)
  a__law_kept : Addr
  fd__law_kept : FuncData
  F__law_kept : Fun K "_law_kept" "_law_kept" s__law_kept a__law_kept fd__law_kept
  g__law_kept : mg "_law_kept" = some (.ref a__law_kept)
  a__law_edges_of : Addr
  fd__law_edges_of : FuncData
  F__law_edges_of : Fun K "_law_edges_of" "_law_edges_of" s__law_edges_of a__law_edges_of fd__law_edges_of
  g__law_edges_of : mg "_law_edges_of" = some (.ref a__law_edges_of)
  a__law_family : Addr
  fd__law_family : FuncData
  F__law_family : Fun K "_law_family" "_law_family" s__law_family a__law_family fd__law_family
  g__law_family : mg "_law_family" = some (.ref a__law_family)
  a__law_order : Addr
  fd__law_order : FuncData
  F__law_order : Fun K "_law_order" "_law_order" s__law_order a__law_order fd__law_order
  g__law_order : mg "_law_order" = some (.ref a__law_order)
  a__law_named : Addr
  fd__law_named : FuncData
  F__law_named : Fun K "_law_named" "_law_named" s__law_named a__law_named fd__law_named
  g__law_named : mg "_law_named" = some (.ref a__law_named)
  a__law_pairs_of : Addr
  fd__law_pairs_of : FuncData
  F__law_pairs_of : Fun K "_law_pairs_of" "_law_pairs_of" s__law_pairs_of a__law_pairs_of fd__law_pairs_of
  g__law_pairs_of : mg "_law_pairs_of" = some (.ref a__law_pairs_of)
  a__law_graph : Addr
  fd__law_graph : FuncData
  F__law_graph : Fun K "_law_graph" "_law_graph" s__law_graph a__law_graph fd__law_graph
  g__law_graph : mg "_law_graph" = some (.ref a__law_graph)
  a__law_full : Addr
  fd__law_full : FuncData
  F__law_full : Fun K "_law_full" "_law_full" s__law_full a__law_full fd__law_full
  g__law_full : mg "_law_full" = some (.ref a__law_full)
  a__law_text : Addr
  fd__law_text : FuncData
  F__law_text : Fun K "_law_text" "_law_text" s__law_text a__law_text fd__law_text
  g__law_text : mg "_law_text" = some (.ref a__law_text)
  a__law_blanks : Addr
  fd__law_blanks : FuncData
  F__law_blanks : Fun K "_law_blanks" "_law_blanks" s__law_blanks a__law_blanks fd__law_blanks
  g__law_blanks : mg "_law_blanks" = some (.ref a__law_blanks)
  a__law_other_text : Addr
  fd__law_other_text : FuncData
  F__law_other_text : Fun K "_law_other_text" "_law_other_text" s__law_other_text a__law_other_text fd__law_other_text
  g__law_other_text : mg "_law_other_text" = some (.ref a__law_other_text)
  a__law_right : Addr
  fd__law_right : FuncData
  F__law_right : Fun K "_law_right" "_law_right" s__law_right a__law_right fd__law_right
  g__law_right : mg "_law_right" = some (.ref a__law_right)
  a_law : Addr
  fd_law : FuncData
  F_law : Fun K "law" "law" s_law a_law fd_law
  g_law : mg "law" = some (.ref a_law)
  t_MOST_EDGES : Tok
  c_MOST_EDGES : mg "MOST_EDGES" = some (.int 24 t_MOST_EDGES)
  t_MOST_VERTICES : Tok
  c_MOST_VERTICES : mg "MOST_VERTICES" = some (.int 10 t_MOST_VERTICES)
  n_abs : mg "abs" = none
  n_all : mg "all" = none
  n_enumerate : mg "enumerate" = none
  n_int : mg "int" = none
  n_len : mg "len" = none
  n_list : mg "list" = none
  n_max : mg "max" = none
  n_min : mg "min" = none
  n_range : mg "range" = none
  n_repr : mg "repr" = none
  n_sorted : mg "sorted" = none
  n_str : mg "str" = none
  n_tuple : mg "tuple" = none
  n_type : mg "type" = none
section
variable {P : Program} {w : World} {K : PySem.W.Frag} {mg : Str → Option Value} {base : Heap}
theorem Txt.b__law_well (T : Txt P K mg base) : Binds K T.fd__law_well ["script", "turn"] [] := T.F__law_well.binds fun _ _ _ _ _ _ us hl => match us, hl with | [_, _], _ => rfl
theorem Txt.nb__law_well (T : Txt P K mg base) : NBinds K T.fd__law_well ["script", "turn"] := by
  obtain ⟨oc, od, kV, doc, pm, an, cdv, ct, osl, e, _, _⟩ := T.F__law_well.ex
  rw [e]
  exact fun s us _ hl => match us, hl with | [_, _], _ => .of_eq rfl
theorem Txt.b_is_whole (T : Txt P K mg base) : Binds K T.fd_is_whole ["value"] [] := T.F_is_whole.binds fun _ _ _ _ _ _ us hl => match us, hl with | [_], _ => rfl
theorem Txt.nb_is_whole (T : Txt P K mg base) : NBinds K T.fd_is_whole ["value"] := by
  obtain ⟨oc, od, kV, doc, pm, an, cdv, ct, osl, e, _, _⟩ := T.F_is_whole.ex
  rw [e]
  exact fun s us _ hl => match us, hl with | [_], _ => .of_eq rfl
theorem Txt.b_is_row (T : Txt P K mg base) : Binds K T.fd_is_row ["value", "length"] [] := T.F_is_row.binds fun _ _ _ _ _ _ us hl => match us, hl with | [_, _], _ => rfl
theorem Txt.nb_is_row (T : Txt P K mg base) : NBinds K T.fd_is_row ["value", "length"] := by
  obtain ⟨oc, od, kV, doc, pm, an, cdv, ct, osl, e, _, _⟩ := T.F_is_row.ex
  rw [e]
  exact fun s us _ hl => match us, hl with | [_, _], _ => .of_eq rfl
theorem Txt.b_is_ascending (T : Txt P K mg base) : Binds K T.fd_is_ascending ["row"] [] := T.F_is_ascending.binds fun _ _ _ _ _ _ us hl => match us, hl with | [_], _ => rfl
theorem Txt.nb_is_ascending (T : Txt P K mg base) : NBinds K T.fd_is_ascending ["row"] := by
  obtain ⟨oc, od, kV, doc, pm, an, cdv, ct, osl, e, _, _⟩ := T.F_is_ascending.ex
  rw [e]
  exact fun s us _ hl => match us, hl with | [_], _ => .of_eq rfl
theorem Txt.b_are_whole (T : Txt P K mg base) : Binds K T.fd_are_whole ["value"] [] := T.F_are_whole.binds fun _ _ _ _ _ _ us hl => match us, hl with | [_], _ => rfl
theorem Txt.nb_are_whole (T : Txt P K mg base) : NBinds K T.fd_are_whole ["value"] := by
  obtain ⟨oc, od, kV, doc, pm, an, cdv, ct, osl, e, _, _⟩ := T.F_are_whole.ex
  rw [e]
  exact fun s us _ hl => match us, hl with | [_], _ => .of_eq rfl
theorem Txt.b_is_whole_row (T : Txt P K mg base) : Binds K T.fd_is_whole_row ["value", "length"] [] := T.F_is_whole_row.binds fun _ _ _ _ _ _ us hl => match us, hl with | [_, _], _ => rfl
theorem Txt.nb_is_whole_row (T : Txt P K mg base) : NBinds K T.fd_is_whole_row ["value", "length"] := by
  obtain ⟨oc, od, kV, doc, pm, an, cdv, ct, osl, e, _, _⟩ := T.F_is_whole_row.ex
  rw [e]
  exact fun s us _ hl => match us, hl with | [_, _], _ => .of_eq rfl
theorem Txt.b__could_be_edge (T : Txt P K mg base) : Binds K T.fd__could_be_edge ["value", "vertices"] [] := T.F__could_be_edge.binds fun _ _ _ _ _ _ us hl => match us, hl with | [_, _], _ => rfl
theorem Txt.nb__could_be_edge (T : Txt P K mg base) : NBinds K T.fd__could_be_edge ["value", "vertices"] := by
  obtain ⟨oc, od, kV, doc, pm, an, cdv, ct, osl, e, _, _⟩ := T.F__could_be_edge.ex
  rw [e]
  exact fun s us _ hl => match us, hl with | [_, _], _ => .of_eq rfl
theorem Txt.b_is_graph (T : Txt P K mg base) : Binds K T.fd_is_graph ["value"] [] := T.F_is_graph.binds fun _ _ _ _ _ _ us hl => match us, hl with | [_], _ => rfl
theorem Txt.nb_is_graph (T : Txt P K mg base) : NBinds K T.fd_is_graph ["value"] := by
  obtain ⟨oc, od, kV, doc, pm, an, cdv, ct, osl, e, _, _⟩ := T.F_is_graph.ex
  rw [e]
  exact fun s us _ hl => match us, hl with | [_], _ => .of_eq rfl
theorem Txt.b_check_graph (T : Txt P K mg base) : Binds K T.fd_check_graph ["graph"] [] := T.F_check_graph.binds fun _ _ _ _ _ _ us hl => match us, hl with | [_], _ => rfl
theorem Txt.nb_check_graph (T : Txt P K mg base) : NBinds K T.fd_check_graph ["graph"] := by
  obtain ⟨oc, od, kV, doc, pm, an, cdv, ct, osl, e, _, _⟩ := T.F_check_graph.ex
  rw [e]
  exact fun s us _ hl => match us, hl with | [_], _ => .of_eq rfl
theorem Txt.b_joined_up (T : Txt P K mg base) : Binds K T.fd_joined_up ["vertices"] [] := T.F_joined_up.binds fun _ _ _ _ _ _ us hl => match us, hl with | [_], _ => rfl
theorem Txt.nb_joined_up (T : Txt P K mg base) : NBinds K T.fd_joined_up ["vertices"] := by
  obtain ⟨oc, od, kV, doc, pm, an, cdv, ct, osl, e, _, _⟩ := T.F_joined_up.ex
  rw [e]
  exact fun s us _ hl => match us, hl with | [_], _ => .of_eq rfl
theorem Txt.b_show_graph (T : Txt P K mg base) : Binds K T.fd_show_graph ["graph"] [] := T.F_show_graph.binds fun _ _ _ _ _ _ us hl => match us, hl with | [_], _ => rfl
theorem Txt.nb_show_graph (T : Txt P K mg base) : NBinds K T.fd_show_graph ["graph"] := by
  obtain ⟨oc, od, kV, doc, pm, an, cdv, ct, osl, e, _, _⟩ := T.F_show_graph.ex
  rw [e]
  exact fun s us _ hl => match us, hl with | [_], _ => .of_eq rfl
theorem Txt.b_words_of (T : Txt P K mg base) : Binds K T.fd_words_of ["text"] [] := T.F_words_of.binds fun _ _ _ _ _ _ us hl => match us, hl with | [_], _ => rfl
theorem Txt.nb_words_of (T : Txt P K mg base) : NBinds K T.fd_words_of ["text"] := by
  obtain ⟨oc, od, kV, doc, pm, an, cdv, ct, osl, e, _, _⟩ := T.F_words_of.ex
  rw [e]
  exact fun s us _ hl => match us, hl with | [_], _ => .of_eq rfl
theorem Txt.b_number_told (T : Txt P K mg base) : Binds K T.fd_number_told ["word", "least", "greatest"] [] := T.F_number_told.binds fun _ _ _ _ _ _ us hl => match us, hl with | [_, _, _], _ => rfl
theorem Txt.nb_number_told (T : Txt P K mg base) : NBinds K T.fd_number_told ["word", "least", "greatest"] := by
  obtain ⟨oc, od, kV, doc, pm, an, cdv, ct, osl, e, _, _⟩ := T.F_number_told.ex
  rw [e]
  exact fun s us _ hl => match us, hl with | [_, _, _], _ => .of_eq rfl
theorem Txt.b__vertices_told (T : Txt P K mg base) : Binds K T.fd__vertices_told ["words"] [] := T.F__vertices_told.binds fun _ _ _ _ _ _ us hl => match us, hl with | [_], _ => rfl
theorem Txt.nb__vertices_told (T : Txt P K mg base) : NBinds K T.fd__vertices_told ["words"] := by
  obtain ⟨oc, od, kV, doc, pm, an, cdv, ct, osl, e, _, _⟩ := T.F__vertices_told.ex
  rw [e]
  exact fun s us _ hl => match us, hl with | [_], _ => .of_eq rfl
theorem Txt.b_ends_told (T : Txt P K mg base) : Binds K T.fd_ends_told ["word", "greatest"] [] := T.F_ends_told.binds fun _ _ _ _ _ _ us hl => match us, hl with | [_, _], _ => rfl
theorem Txt.nb_ends_told (T : Txt P K mg base) : NBinds K T.fd_ends_told ["word", "greatest"] := by
  obtain ⟨oc, od, kV, doc, pm, an, cdv, ct, osl, e, _, _⟩ := T.F_ends_told.ex
  rw [e]
  exact fun s us _ hl => match us, hl with | [_, _], _ => .of_eq rfl
theorem Txt.b__edge_told (T : Txt P K mg base) : Binds K T.fd__edge_told ["word", "vertices"] [] := T.F__edge_told.binds fun _ _ _ _ _ _ us hl => match us, hl with | [_, _], _ => rfl
theorem Txt.nb__edge_told (T : Txt P K mg base) : NBinds K T.fd__edge_told ["word", "vertices"] := by
  obtain ⟨oc, od, kV, doc, pm, an, cdv, ct, osl, e, _, _⟩ := T.F__edge_told.ex
  rw [e]
  exact fun s us _ hl => match us, hl with | [_, _], _ => .of_eq rfl
theorem Txt.b_read_graph (T : Txt P K mg base) : Binds K T.fd_read_graph ["text"] [] := T.F_read_graph.binds fun _ _ _ _ _ _ us hl => match us, hl with | [_], _ => rfl
theorem Txt.nb_read_graph (T : Txt P K mg base) : NBinds K T.fd_read_graph ["text"] := by
  obtain ⟨oc, od, kV, doc, pm, an, cdv, ct, osl, e, _, _⟩ := T.F_read_graph.ex
  rw [e]
  exact fun s us _ hl => match us, hl with | [_], _ => .of_eq rfl
theorem Txt.b__law_draw (T : Txt P K mg base) : Binds K T.fd__law_draw ["well", "many"] [] := T.F__law_draw.binds fun _ _ _ _ _ _ us hl => match us, hl with | [_, _], _ => rfl
theorem Txt.nb__law_draw (T : Txt P K mg base) : NBinds K T.fd__law_draw ["well", "many"] := by
  obtain ⟨oc, od, kV, doc, pm, an, cdv, ct, osl, e, _, _⟩ := T.F__law_draw.ex
  rw [e]
  exact fun s us _ hl => match us, hl with | [_, _], _ => .of_eq rfl
theorem Txt.b__law_pick (T : Txt P K mg base) : Binds K T.fd__law_pick ["well", "some"] [] := T.F__law_pick.binds fun _ _ _ _ _ _ us hl => match us, hl with | [_, _], _ => rfl
theorem Txt.nb__law_pick (T : Txt P K mg base) : NBinds K T.fd__law_pick ["well", "some"] := by
  obtain ⟨oc, od, kV, doc, pm, an, cdv, ct, osl, e, _, _⟩ := T.F__law_pick.ex
  rw [e]
  exact fun s us _ hl => match us, hl with | [_, _], _ => .of_eq rfl
theorem Txt.b__law_kept (T : Txt P K mg base) : Binds K T.fd__law_kept ["vertices", "edges"] [] := T.F__law_kept.binds fun _ _ _ _ _ _ us hl => match us, hl with | [_, _], _ => rfl
theorem Txt.nb__law_kept (T : Txt P K mg base) : NBinds K T.fd__law_kept ["vertices", "edges"] := by
  obtain ⟨oc, od, kV, doc, pm, an, cdv, ct, osl, e, _, _⟩ := T.F__law_kept.ex
  rw [e]
  exact fun s us _ hl => match us, hl with | [_, _], _ => .of_eq rfl
theorem Txt.b__law_edges_of (T : Txt P K mg base) : Binds K T.fd__law_edges_of ["text"] [] := T.F__law_edges_of.binds fun _ _ _ _ _ _ us hl => match us, hl with | [_], _ => rfl
theorem Txt.nb__law_edges_of (T : Txt P K mg base) : NBinds K T.fd__law_edges_of ["text"] := by
  obtain ⟨oc, od, kV, doc, pm, an, cdv, ct, osl, e, _, _⟩ := T.F__law_edges_of.ex
  rw [e]
  exact fun s us _ hl => match us, hl with | [_], _ => .of_eq rfl
theorem Txt.b__law_family (T : Txt P K mg base) : Binds K T.fd__law_family ["level"] [] := T.F__law_family.binds fun _ _ _ _ _ _ us hl => match us, hl with | [_], _ => rfl
theorem Txt.nb__law_family (T : Txt P K mg base) : NBinds K T.fd__law_family ["level"] := by
  obtain ⟨oc, od, kV, doc, pm, an, cdv, ct, osl, e, _, _⟩ := T.F__law_family.ex
  rw [e]
  exact fun s us _ hl => match us, hl with | [_], _ => .of_eq rfl
theorem Txt.b__law_order (T : Txt P K mg base) : Binds K T.fd__law_order ["well", "many"] [] := T.F__law_order.binds fun _ _ _ _ _ _ us hl => match us, hl with | [_, _], _ => rfl
theorem Txt.nb__law_order (T : Txt P K mg base) : NBinds K T.fd__law_order ["well", "many"] := by
  obtain ⟨oc, od, kV, doc, pm, an, cdv, ct, osl, e, _, _⟩ := T.F__law_order.ex
  rw [e]
  exact fun s us _ hl => match us, hl with | [_, _], _ => .of_eq rfl
theorem Txt.b__law_named (T : Txt P K mg base) : Binds K T.fd__law_named ["graph", "order"] [] := T.F__law_named.binds fun _ _ _ _ _ _ us hl => match us, hl with | [_, _], _ => rfl
theorem Txt.nb__law_named (T : Txt P K mg base) : NBinds K T.fd__law_named ["graph", "order"] := by
  obtain ⟨oc, od, kV, doc, pm, an, cdv, ct, osl, e, _, _⟩ := T.F__law_named.ex
  rw [e]
  exact fun s us _ hl => match us, hl with | [_, _], _ => .of_eq rfl
theorem Txt.b__law_pairs_of (T : Txt P K mg base) : Binds K T.fd__law_pairs_of ["vertices"] [] := T.F__law_pairs_of.binds fun _ _ _ _ _ _ us hl => match us, hl with | [_], _ => rfl
theorem Txt.nb__law_pairs_of (T : Txt P K mg base) : NBinds K T.fd__law_pairs_of ["vertices"] := by
  obtain ⟨oc, od, kV, doc, pm, an, cdv, ct, osl, e, _, _⟩ := T.F__law_pairs_of.ex
  rw [e]
  exact fun s us _ hl => match us, hl with | [_], _ => .of_eq rfl
theorem Txt.b__law_graph (T : Txt P K mg base) : Binds K T.fd__law_graph ["well", "most", "edges"] [] := T.F__law_graph.binds fun _ _ _ _ _ _ us hl => match us, hl with | [_, _, _], _ => rfl
theorem Txt.nb__law_graph (T : Txt P K mg base) : NBinds K T.fd__law_graph ["well", "most", "edges"] := by
  obtain ⟨oc, od, kV, doc, pm, an, cdv, ct, osl, e, _, _⟩ := T.F__law_graph.ex
  rw [e]
  exact fun s us _ hl => match us, hl with | [_, _, _], _ => .of_eq rfl
theorem Txt.b__law_full (T : Txt P K mg base) : Binds K T.fd__law_full ["well", "edges"] [] := T.F__law_full.binds fun _ _ _ _ _ _ us hl => match us, hl with | [_, _], _ => rfl
theorem Txt.nb__law_full (T : Txt P K mg base) : NBinds K T.fd__law_full ["well", "edges"] := by
  obtain ⟨oc, od, kV, doc, pm, an, cdv, ct, osl, e, _, _⟩ := T.F__law_full.ex
  rw [e]
  exact fun s us _ hl => match us, hl with | [_, _], _ => .of_eq rfl
theorem Txt.b__law_text (T : Txt P K mg base) : Binds K T.fd__law_text ["graph"] [] := T.F__law_text.binds fun _ _ _ _ _ _ us hl => match us, hl with | [_], _ => rfl
theorem Txt.nb__law_text (T : Txt P K mg base) : NBinds K T.fd__law_text ["graph"] := by
  obtain ⟨oc, od, kV, doc, pm, an, cdv, ct, osl, e, _, _⟩ := T.F__law_text.ex
  rw [e]
  exact fun s us _ hl => match us, hl with | [_], _ => .of_eq rfl
theorem Txt.b__law_blanks (T : Txt P K mg base) : Binds K T.fd__law_blanks ["well"] [] := T.F__law_blanks.binds fun _ _ _ _ _ _ us hl => match us, hl with | [_], _ => rfl
theorem Txt.nb__law_blanks (T : Txt P K mg base) : NBinds K T.fd__law_blanks ["well"] := by
  obtain ⟨oc, od, kV, doc, pm, an, cdv, ct, osl, e, _, _⟩ := T.F__law_blanks.ex
  rw [e]
  exact fun s us _ hl => match us, hl with | [_], _ => .of_eq rfl
theorem Txt.b__law_other_text (T : Txt P K mg base) : Binds K T.fd__law_other_text ["well", "graph"] [] := T.F__law_other_text.binds fun _ _ _ _ _ _ us hl => match us, hl with | [_, _], _ => rfl
theorem Txt.nb__law_other_text (T : Txt P K mg base) : NBinds K T.fd__law_other_text ["well", "graph"] := by
  obtain ⟨oc, od, kV, doc, pm, an, cdv, ct, osl, e, _, _⟩ := T.F__law_other_text.ex
  rw [e]
  exact fun s us _ hl => match us, hl with | [_, _], _ => .of_eq rfl
theorem Txt.b__law_right (T : Txt P K mg base) : Binds K T.fd__law_right ["well"] [] := T.F__law_right.binds fun _ _ _ _ _ _ us hl => match us, hl with | [_], _ => rfl
theorem Txt.nb__law_right (T : Txt P K mg base) : NBinds K T.fd__law_right ["well"] := by
  obtain ⟨oc, od, kV, doc, pm, an, cdv, ct, osl, e, _, _⟩ := T.F__law_right.ex
  rw [e]
  exact fun s us _ hl => match us, hl with | [_], _ => .of_eq rfl
theorem Txt.b_law (T : Txt P K mg base) : Binds K T.fd_law ["script"] [] := T.F_law.binds fun _ _ _ _ _ _ us hl => match us, hl with | [_], _ => rfl
theorem Txt.nb_law (T : Txt P K mg base) : NBinds K T.fd_law ["script"] := by
  obtain ⟨oc, od, kV, doc, pm, an, cdv, ct, osl, e, _, _⟩ := T.F_law.ex
  rw [e]
  exact fun s us _ hl => match us, hl with | [_], _ => .of_eq rfl
end
section
variable {P : Program} {w : World} {K : PySem.W.Frag} {mg : Str → Option Value} {base : Heap}
theorem ok__law_well (T : Txt P K mg base) : FnG P w K mg base 1 T.a__law_well T.fd__law_well ["script", "turn"] m__law_well :=
  defK_ok T.F__law_well sc__law_well fun cdv A outer s H E gd hr => by
    have nd := sc__law_well.nd
    have tk := takes_of (X := cxOf (L2.CX P w) P w K mg base ["script", "turn", "own", "mixed", "cell"] "_law_well" (defScope s__law_well) T.a__law_well cdv A outer s H E) (E := E) rfl rfl rfl rfl
    have hu := hr.units
    have hu2 := units65 hr
    exact (xss_cons (xs_letv 2 nd (xe_ifE (xt_cmp (o_lt hu) (xv 1) (xe_bi c_len rfl T.n_len PySem.boot_len (xa_cons (xv 0) xa_nil)) (by first | rfl | exact nobehind _ (by decide) (by decide))) (xe_ty c_intT rfl T.n_int PyProof.Rows.boot_int (xa_cons (xe_ix (xv 0) (xv 1) (fun _ _ => rfl)) xa_nil)) xe_int))
    (xss_cons (xs_letv 3 nd (xe_opo o_add xe_int (xe_op o_mul xe_int (xv 1))))
    (xss_cons (xs_for gok_name (passes_of rfl) rfl (xi_seq (xe_slA (xv 0) xp_no (xp_some xe_int))) (pgv 4 nd) (xss_one (xs_letv 3 nd (xe_op o_mod (xe_ty c_intT rfl T.n_int PyProof.Rows.boot_int (xa_cons (xe_opo o_add (xe_opo o_add (xe_op o_mul (xv 3) xe_int) (xe_op o_mod (xe_ty c_intT rfl T.n_int PyProof.Rows.boot_int (xa_cons (xv 4) xa_nil)) xe_int)) xe_int) xa_nil)) xe_int))))
    (xss_cons (xs_letv 3 nd (xe_op o_mod (xe_ty c_intT rfl T.n_int PyProof.Rows.boot_int (xa_cons (xe_opo o_add (xe_opo o_add (xe_op o_mul (xv 3) xe_int) (xe_op o_mul (xe_op o_mod (xe_ty c_intT rfl T.n_int PyProof.Rows.boot_int (xa_cons (xv 2) xa_nil)) xe_int) xe_int)) xe_int) xa_nil)) xe_int))
    (xss_one (xs_ret (xe_al (xl_disp (xa_cons (xe_ifE (xt_cmp (o_ge hu) (xe_bi c_abs rfl T.n_abs PyProof.Rows.boot_abs (xa_cons (xv 2) xa_nil)) (xe_op o_pow xe_int xe_int) (by first | rfl | exact nobehind _ (by decide) (by decide))) (xe_bi c_abs rfl T.n_abs PyProof.Rows.boot_abs (xa_cons (xv 2) xa_nil)) xe_int) (xa_cons (xv 3) (xa_cons xe_int xa_nil)))))))))))
theorem ok_is_whole (T : Txt P K mg base) : FnG P w K mg base 1 T.a_is_whole T.fd_is_whole ["value"] m_is_whole :=
  def_ok T.F_is_whole sc_is_whole fun cdv A outer s H E gd hr => by
    have nd := sc_is_whole.nd
    have tk := takes_of (X := cxOf (L2.CX P w) P w K mg base ["value"] "is_whole" (defScope s_is_whole) T.a_is_whole cdv A outer s H E) (E := E) rfl rfl rfl rfl
    have hu := hr.units
    have hu2 := units65 hr
    exact (xss_one (xs_ret (xe_tyIs T.n_type rfl rfl T.n_int (by decide +kernel) (xv 0))))
theorem ok_is_row (T : Txt P K mg base) : FnG P w K mg base 1 T.a_is_row T.fd_is_row ["value", "length"] m_is_row :=
  def_ok T.F_is_row sc_is_row fun cdv A outer s H E gd hr => by
    have nd := sc_is_row.nd
    have tk := takes_of (X := cxOf (L2.CX P w) P w K mg base ["value", "length"] "is_row" (defScope s_is_row) T.a_is_row cdv A outer s H E) (E := E) rfl rfl rfl rfl
    have hu := hr.units
    have hu2 := units65 hr
    exact (xss_one (xs_ret (xe_and (xe_tyIs T.n_type rfl rfl T.n_tuple (by decide +kernel) (xv 0)) (xe_one (xe_cmp (o_eq hu) (xe_bi c_len rfl T.n_len PySem.boot_len (xa_cons (xv 0) xa_nil)) (xv 1) (by first | rfl | exact nobehind _ (by decide) (by decide)))))))
theorem ok_is_ascending (T : Txt P K mg base) : FnG P w K mg base 1 T.a_is_ascending T.fd_is_ascending ["row"] m_is_ascending :=
  def_ok T.F_is_ascending sc_is_ascending fun cdv A outer s H E gd hr => by
    have nd := sc_is_ascending.nd
    have tk := takes_of (X := cxOf (L2.CX P w) P w K mg base ["row", "k"] "is_ascending" (defScope s_is_ascending) T.a_is_ascending cdv A outer s H E) (E := E) rfl rfl rfl rfl
    have hu := hr.units
    have hu2 := units65 hr
    exact (xss_one (xs_ret (xe_bi (c_all rfl) rfl T.n_all PyProof.Rows.boot_all (xa_cons (xe_fr (xl_comp (own := [("k", 1)]) rfl nd (xi_range1 rfl T.n_range (xa_cons (xe_op o_sub (xe_bi c_len rfl T.n_len PySem.boot_len (xa_cons (xv 0) xa_nil)) xe_int) xa_nil)) (blkOk_by (by show blkC (["row", "k"] : List Str) (defScope s_is_ascending) _ _ = true; decide +kernel)) gok_name (by decide) (fun _ _ _ _ _ => (pgv 1 nd)) (fun _ _ _ _ _ => xts_nil) (fun _ _ _ _ _ => (xe_cmp (o_lt hu) (xe_ix (xv 0) (xv 1) (fun _ _ => rfl)) (xe_ix (xv 0) (xe_opo o_add (xv 1) xe_int) (fun _ _ => rfl)) (by first | rfl | exact nobehind _ (by decide) (by decide)))))) xa_nil))))
theorem ok_are_whole (T : Txt P K mg base) : FnG P w K mg base 2 T.a_are_whole T.fd_are_whole ["value"] m_are_whole :=
  def_ok T.F_are_whole sc_are_whole fun cdv A outer s H E gd hr => by
    have nd := sc_are_whole.nd
    have tk := takes_of (X := cxOf (L2.CX P w) P w K mg base ["value", "part"] "are_whole" (defScope s_are_whole) T.a_are_whole cdv A outer s H E) (E := E) rfl rfl rfl rfl
    have hu := hr.units
    have hu2 := units65 hr
    exact (xss_one (xs_ret (xe_and (xe_tyIs T.n_type rfl rfl T.n_tuple (by decide +kernel) (xv 0)) (xe_one (xe_bi (c_all rfl) rfl T.n_all PyProof.Rows.boot_all (xa_cons (xe_fr (xl_comp (own := [("part", 1)]) rfl nd (xi_seq (xv 0)) (blkOk_by (by show blkC (["value", "part"] : List Str) (defScope s_are_whole) _ _ = true; decide +kernel)) gok_name (by decide) (fun _ _ _ _ _ => (pgv 1 nd)) (fun _ _ _ _ _ => xts_nil) (fun _ _ _ _ _ => (xe_call ((ok_is_whole T).mono (by decide)) takes0 gd hr rfl T.g_is_whole T.F_is_whole.kp (T.b_is_whole) (alen_cons alen_nil) (xa_cons (xv 1) xa_nil))))) xa_nil))))))
theorem ok_is_whole_row (T : Txt P K mg base) : FnG P w K mg base 3 T.a_is_whole_row T.fd_is_whole_row ["value", "length"] m_is_whole_row :=
  def_ok T.F_is_whole_row sc_is_whole_row fun cdv A outer s H E gd hr => by
    have nd := sc_is_whole_row.nd
    have tk := takes_of (X := cxOf (L2.CX P w) P w K mg base ["value", "length"] "is_whole_row" (defScope s_is_whole_row) T.a_is_whole_row cdv A outer s H E) (E := E) rfl rfl rfl rfl
    have hu := hr.units
    have hu2 := units65 hr
    exact (xss_one (xs_ret (xe_and (xe_call ((ok_is_row T).mono (by decide)) tk gd hr rfl T.g_is_row T.F_is_row.kp (T.b_is_row) (alen_cons (alen_cons alen_nil)) (xa_cons (xv 0) (xa_cons (xv 1) xa_nil))) (xe_one (xe_call ((ok_are_whole T).mono (by decide)) tk gd hr rfl T.g_are_whole T.F_are_whole.kp (T.b_are_whole) (alen_cons alen_nil) (xa_cons (xv 0) xa_nil))))))
theorem ok__could_be_edge (T : Txt P K mg base) : FnG P w K mg base 4 T.a__could_be_edge T.fd__could_be_edge ["value", "vertices"] m__could_be_edge :=
  def_ok T.F__could_be_edge sc__could_be_edge fun cdv A outer s H E gd hr => by
    have nd := sc__could_be_edge.nd
    have tk := takes_of (X := cxOf (L2.CX P w) P w K mg base ["value", "vertices"] "_could_be_edge" (defScope s__could_be_edge) T.a__could_be_edge cdv A outer s H E) (E := E) rfl rfl rfl rfl
    have hu := hr.units
    have hu2 := units65 hr
    exact (xss_one (xs_ret (xe_and (xe_call ((ok_is_whole_row T).mono (by decide)) tk gd hr rfl T.g_is_whole_row T.F_is_whole_row.kp (T.b_is_whole_row) (alen_cons (alen_cons alen_nil)) (xa_cons (xv 0) (xa_cons xe_int xa_nil))) (xe_one (xe_chain xe_int (xc_link (o_le hu) (xe_ix (xv 0) xe_int (fun _ _ => rfl)) (xc_link (o_lt hu) (xe_ix (xv 0) xe_int (fun _ _ => rfl)) (xc_last (o_lt hu) (xv 1)))))))))
theorem ok_is_graph (T : Txt P K mg base) : FnG P w K mg base 5 T.a_is_graph T.fd_is_graph ["value"] m_is_graph :=
  def_ok T.F_is_graph sc_is_graph fun cdv A outer s H E gd hr => by
    have nd := sc_is_graph.nd
    have tk := takes_of (X := cxOf (L2.CX P w) P w K mg base ["value", "vertices", "edges", "edge"] "is_graph" (defScope s_is_graph) T.a_is_graph cdv A outer s H E) (E := E) rfl rfl rfl rfl
    have hu := hr.units
    have hu2 := units65 hr
    exact (xss_cons (xs_if (xt_not (xt_tru (xe_call ((ok_is_row T).mono (by decide)) tk gd hr rfl T.g_is_row T.F_is_row.kp (T.b_is_row) (alen_cons (alen_cons alen_nil)) (xa_cons (xv 0) (xa_cons xe_int xa_nil))))) (xss_one (xs_ret xe_bl)) xss_nil)
    (xss_cons (xs_asg (gok_tup (gok_cons gok_name (gok_cons gok_name gok_nil)) (len_more (len_more (fun _ _ _ h => len_none h)))) (xv 0) (pg_tup rfl (pgs_cons (pgv 1 nd) (pgs_cons (pgv 2 nd) pgs_nil))))
    (xss_cons (xs_if (PW.pt (xw_or (xt_not (xt_tru (xe_call ((ok_is_whole T).mono (by decide)) tk gd hr rfl T.g_is_whole T.F_is_whole.kp (T.b_is_whole) (alen_cons alen_nil) (xa_cons (xv 1) xa_nil)))) (xw_or1 (xt_not (xt_chain xe_int (xc_link (o_le hu) (xv 1) (xc_last (o_le hu) (xe_glob (v := .int 10) rfl T.c_MOST_VERTICES ⟨_, rfl⟩ (fun _ => .int _))))))))) (xss_one (xs_ret xe_bl)) xss_nil)
    (xss_cons (xs_if (PW.pt (xw_or (xt_tyNot T.n_type rfl rfl T.n_tuple (by decide +kernel) (xv 2)) (xw_or1 (xt_cmp (o_gt hu) (xe_bi c_len rfl T.n_len PySem.boot_len (xa_cons (xv 2) xa_nil)) (xe_glob (v := .int 24) rfl T.c_MOST_EDGES ⟨_, rfl⟩ (fun _ => .int _)) (by first | rfl | exact nobehind _ (by decide) (by decide)))))) (xss_one (xs_ret xe_bl)) xss_nil)
    (xss_one (xs_ret (xe_and (xe_bi (c_all rfl) rfl T.n_all PyProof.Rows.boot_all (xa_cons (xe_fr (xl_comp (own := [("edge", 3)]) rfl nd (xi_seq (xv 2)) (blkOk_by (by show blkC (["value", "vertices", "edges", "edge"] : List Str) (defScope s_is_graph) _ _ = true; decide +kernel)) gok_name (by decide) (fun _ _ _ _ _ => (pgv 3 nd)) (fun _ _ _ _ _ => xts_nil) (fun _ _ _ _ _ => (xe_call ((ok__could_be_edge T).mono (by decide)) takes0 gd hr rfl T.g__could_be_edge T.F__could_be_edge.kp (T.b__could_be_edge) (alen_cons (alen_cons alen_nil)) (xa_cons (xv 3) (xa_cons (xv 1) xa_nil)))))) xa_nil)) (xe_one (xe_call ((ok_is_ascending T).mono (by decide)) tk gd hr rfl T.g_is_ascending T.F_is_ascending.kp (T.b_is_ascending) (alen_cons alen_nil) (xa_cons (xv 2) xa_nil))))))))))
theorem ok_check_graph (T : Txt P K mg base) : FnG P w K mg base 6 T.a_check_graph T.fd_check_graph ["graph"] m_check_graph :=
  def_ok T.F_check_graph sc_check_graph fun cdv A outer s H E gd hr => by
    have nd := sc_check_graph.nd
    have tk := takes_of (X := cxOf (L2.CX P w) P w K mg base ["graph"] "check_graph" (defScope s_check_graph) T.a_check_graph cdv A outer s H E) (E := E) rfl rfl rfl rfl
    have hu := hr.units
    have hu2 := units65 hr
    exact (xss_one (xs_if (xt_not (xt_tru (xe_call ((ok_is_graph T).mono (by decide)) tk gd hr rfl T.g_is_graph T.F_is_graph.kp (T.b_is_graph) (alen_cons alen_nil) (xa_cons (xv 0) xa_nil)))) (xss_one (xs_raise rfl T.E_InvalidGraph.t T.E_InvalidGraph.k hr tk (xv 0) rfl)) xss_nil))
theorem ok_joined_up (T : Txt P K mg base) : FnG P w K mg base 1 T.a_joined_up T.fd_joined_up ["vertices"] m_joined_up :=
  def_ok T.F_joined_up sc_joined_up fun cdv A outer s H E gd hr => by
    have nd := sc_joined_up.nd
    have tk := takes_of (X := cxOf (L2.CX P w) P w K mg base ["vertices", "vertex"] "joined_up" (defScope s_joined_up) T.a_joined_up cdv A outer s H E) (E := E) rfl rfl rfl rfl
    have hu := hr.units
    have hu2 := units65 hr
    exact (xss_one (xs_ret (xe_join xe_str (xe_fr (xl_comp (own := [("vertex", 1)]) rfl nd (xi_seq (xv 0)) (blkOk_by (by show blkC (["vertices", "vertex"] : List Str) (defScope s_joined_up) _ _ = true; decide +kernel)) gok_name (by decide) (fun _ _ _ _ _ => (pgv 1 nd)) (fun _ _ _ _ _ => xts_nil) (fun _ _ _ _ _ => (xe_ty c_str rfl T.n_str (by decide +kernel) (xa_cons (xv 1) xa_nil))))))))
theorem ok_show_graph (T : Txt P K mg base) : FnG P w K mg base 7 T.a_show_graph T.fd_show_graph ["graph"] m_show_graph :=
  def_ok T.F_show_graph sc_show_graph fun cdv A outer s H E gd hr => by
    have nd := sc_show_graph.nd
    have tk := takes_of (X := cxOf (L2.CX P w) P w K mg base ["graph", "vertices", "edges", "edge"] "show_graph" (defScope s_show_graph) T.a_show_graph cdv A outer s H E) (E := E) rfl rfl rfl rfl
    have hu := hr.units
    have hu2 := units65 hr
    exact (xss_cons (xs_expr (xe_call ((ok_check_graph T).mono (by decide)) tk gd hr rfl T.g_check_graph T.F_check_graph.kp (T.b_check_graph) (alen_cons alen_nil) (xa_cons (xv 0) xa_nil)))
    (xss_cons (xs_asg (gok_tup (gok_cons gok_name (gok_cons gok_name gok_nil)) (len_more (len_more (fun _ _ _ h => len_none h)))) (xv 0) (pg_tup rfl (pgs_cons (pgv 1 nd) (pgs_cons (pgv 2 nd) pgs_nil))))
    (xss_one (xs_ret (xe_join xe_str (xe_opo o_add (xe_fr (xl_disp (xa_cons (xe_js (ms := [(mFmt (mVar 1)), (mC (.str ":"))]) (xj_cons (xe_fmt (xv 1)) (xj_cons xe_str xj_nil))) xa_nil))) (xe_fr (xl_comp (own := [("edge", 3)]) rfl nd (xi_seq (xv 2)) (blkOk_by (by show blkC (["graph", "vertices", "edges", "edge"] : List Str) (defScope s_show_graph) _ _ = true; decide +kernel)) gok_name (by decide) (fun _ _ _ _ _ => (pgv 3 nd)) (fun _ _ _ _ _ => xts_nil) (fun _ _ _ _ _ => (xe_call ((ok_joined_up T).mono (by decide)) takes0 gd hr rfl T.g_joined_up T.F_joined_up.kp (T.b_joined_up) (alen_cons alen_nil) (xa_cons (xv 3) xa_nil)))))))))))
theorem ok_words_of (T : Txt P K mg base) : FnG P w K mg base 1 T.a_words_of T.fd_words_of ["text"] m_words_of :=
  def_ok T.F_words_of sc_words_of fun cdv A outer s H E gd hr => by
    have nd := sc_words_of.nd
    have tk := takes_of (X := cxOf (L2.CX P w) P w K mg base ["text", "word"] "words_of" (defScope s_words_of) T.a_words_of cdv A outer s H E) (E := E) rfl rfl rfl rfl
    have hu := hr.units
    have hu2 := units65 hr
    exact (xss_one (xs_ret (xe_fr (xl_comp (own := [("word", 1)]) rfl nd (xi_seq (xe_fr (xl_cut (xv 0) xe_str))) (blkOk_by (by show blkC (["text", "word"] : List Str) (defScope s_words_of) _ _ = true; decide +kernel)) gok_name (by decide) (fun _ _ _ _ _ => (pgv 1 nd)) (fun _ _ _ _ _ => (xts_one (xt_tru (xv 1)))) (fun _ _ _ _ _ => (xv 1))))))
theorem ok_number_told (T : Txt P K mg base) : FnG P w K mg base 1 T.a_number_told T.fd_number_told ["word", "least", "greatest"] m_number_told :=
  def_ok T.F_number_told sc_number_told fun cdv A outer s H E gd hr => by
    have nd := sc_number_told.nd
    have tk := takes_of (X := cxOf (L2.CX P w) P w K mg base ["word", "least", "greatest", "number"] "number_told" (defScope s_number_told) T.a_number_told cdv A outer s H E) (E := E) rfl rfl rfl rfl
    have hu := hr.units
    have hu2 := units65 hr
    exact (xss_cons (xs_for gok_name (passes_of rfl) rfl (xi_range2 rfl T.n_range (xa_cons (xv 1) (xa_cons (xe_opo o_add (xv 2) xe_int) xa_nil))) (pgv 3 nd) (xss_one (xs_if (xt_cmp (o_eq hu) (xe_ty c_str rfl T.n_str (by decide +kernel) (xa_cons (xv 3) xa_nil)) (xv 0) (by first | rfl | exact nobehind _ (by decide) (by decide))) (xss_one (xs_ret (xv 3))) xss_nil)))
    (xss_one (xs_ret xe_non)))
theorem ok__vertices_told (T : Txt P K mg base) : FnG P w K mg base 2 T.a__vertices_told T.fd__vertices_told ["words"] m__vertices_told :=
  def_ok T.F__vertices_told sc__vertices_told fun cdv A outer s H E gd hr => by
    have nd := sc__vertices_told.nd
    have tk := takes_of (X := cxOf (L2.CX P w) P w K mg base ["words"] "_vertices_told" (defScope s__vertices_told) T.a__vertices_told cdv A outer s H E) (E := E) rfl rfl rfl rfl
    have hu := hr.units
    have hu2 := units65 hr
    exact (xss_cons (xs_if (PW.pt (xw_or (xt_not (xt_tru (xv 0))) (xw_or1 (xt_not (xt_tru (xe_ends (xe_ix (xv 0) xe_int (fun _ _ => rfl)) xe_str)))))) (xss_one (xs_ret xe_non)) xss_nil)
    (xss_one (xs_ret (xe_call ((ok_number_told T).mono (by decide)) tk gd hr rfl T.g_number_told T.F_number_told.kp (T.b_number_told) (alen_cons (alen_cons (alen_cons alen_nil))) (xa_cons (xe_slA (xe_ix (xv 0) xe_int (fun _ _ => rfl)) xp_no (xp_some (xe_un o_neg xe_int))) (xa_cons xe_int (xa_cons (xe_glob (v := .int 10) rfl T.c_MOST_VERTICES ⟨_, rfl⟩ (fun _ => .int _)) xa_nil)))))))
theorem ok_ends_told (T : Txt P K mg base) : FnG P w K mg base 2 T.a_ends_told T.fd_ends_told ["word", "greatest"] m_ends_told :=
  def_ok T.F_ends_told sc_ends_told fun cdv A outer s H E gd hr => by
    have nd := sc_ends_told.nd
    have tk := takes_of (X := cxOf (L2.CX P w) P w K mg base ["word", "greatest", "ends", "part"] "ends_told" (defScope s_ends_told) T.a_ends_told cdv A outer s H E) (E := E) rfl rfl rfl rfl
    have hu := hr.units
    have hu2 := units65 hr
    exact (xss_cons (xs_setC (i := 2) (own := [("part", 3)]) t_fr rfl nd rfl rfl (sw_true rfl rfl rfl (by decide +kernel)) (xi_seq (xe_fr (xl_cut (xv 0) xe_str))) (blkOk_by (by show blkC (["word", "greatest", "ends", "part"] : List Str) (defScope s_ends_told) _ _ = true; decide +kernel)) gok_name (by decide) (fun _ _ _ _ _ => (pgv 3 nd)) (fun _ _ _ _ _ => xts_nil) (fun _ _ _ _ _ => (xe_call ((ok_number_told T).mono (by decide)) takes0 gd hr rfl T.g_number_told T.F_number_told.kp (T.b_number_told) (alen_cons (alen_cons (alen_cons alen_nil))) (xa_cons (xv 3) (xa_cons xe_int (xa_cons (xv 1) xa_nil))))))
    (xss_cons (xs_if (PW.pt (xw_or (xt_cmp (o_ne hu) (xe_bi c_len rfl T.n_len PySem.boot_len (xa_cons (xv 2) xa_nil)) xe_int (by first | rfl | exact nobehind _ (by decide) (by decide))) (xw_or (xt_cmp (o_in hu2) xe_non (xv 2) (by first | rfl | exact nobehind _ (by decide) (by decide))) (xw_or1 (xt_cmp (o_eq hu) (xe_ix (xv 2) xe_int (fun _ _ => rfl)) (xe_ix (xv 2) xe_int (fun _ _ => rfl)) (by first | rfl | exact nobehind _ (by decide) (by decide))))))) (xss_one (xs_ret xe_non)) xss_nil)
    (xss_one (xs_ret (xe_ty c_tuple rfl T.n_tuple PyProof.Rows.boot_tuple (xa_cons (xv 2) xa_nil))))))
theorem ok__edge_told (T : Txt P K mg base) : FnG P w K mg base 3 T.a__edge_told T.fd__edge_told ["word", "vertices"] m__edge_told :=
  def_ok T.F__edge_told sc__edge_told fun cdv A outer s H E gd hr => by
    have nd := sc__edge_told.nd
    have tk := takes_of (X := cxOf (L2.CX P w) P w K mg base ["word", "vertices", "ends"] "_edge_told" (defScope s__edge_told) T.a__edge_told cdv A outer s H E) (E := E) rfl rfl rfl rfl
    have hu := hr.units
    have hu2 := units65 hr
    exact (xss_cons (xs_letv 2 nd (xe_call ((ok_ends_told T).mono (by decide)) tk gd hr rfl T.g_ends_told T.F_ends_told.kp (T.b_ends_told) (alen_cons (alen_cons alen_nil)) (xa_cons (xv 0) (xa_cons (xe_op o_sub (xv 1) xe_int) xa_nil))))
    (xss_one (xs_ret (xe_ifE (xt_isN (xv 2)) xe_non (xe_ty c_tuple rfl T.n_tuple PyProof.Rows.boot_tuple (xa_cons (xe_fr (xl_bi (c_sorted hu) rfl T.n_sorted PyProof.Rows.boot_sorted (xa_cons (xv 2) xa_nil))) xa_nil))))))
theorem ok_read_graph (T : Txt P K mg base) : FnG P w K mg base 4 T.a_read_graph T.fd_read_graph ["text"] m_read_graph :=
  def_ok T.F_read_graph sc_read_graph fun cdv A outer s H E gd hr => by
    have nd := sc_read_graph.nd
    have tk := takes_of (X := cxOf (L2.CX P w) P w K mg base ["text", "words", "vertices", "edges", "index", "word", "edge"] "read_graph" (defScope s_read_graph) T.a_read_graph cdv A outer s H E) (E := E) rfl rfl rfl rfl
    have hu := hr.units
    have hu2 := units65 hr
    exact (xss_cons (xs_if (xt_tyNot T.n_type rfl rfl T.n_str (by decide +kernel) (xv 0)) (xss_one (xs_raise rfl T.E_InvalidText.t T.E_InvalidText.k hr tk xe_non rfl)) xss_nil)
    (xss_cons (xs_letv 1 nd (xe_call ((ok_words_of T).mono (by decide)) tk gd hr rfl T.g_words_of T.F_words_of.kp (T.b_words_of) (alen_cons alen_nil) (xa_cons (xv 0) xa_nil)))
    (xss_cons (xs_letv 2 nd (xe_call ((ok__vertices_told T).mono (by decide)) tk gd hr rfl T.g__vertices_told T.F__vertices_told.kp (T.b__vertices_told) (alen_cons alen_nil) (xa_cons (xv 1) xa_nil)))
    (xss_cons (xs_if (xt_isN (xv 2)) (xss_one (xs_raise rfl T.E_InvalidText.t T.E_InvalidText.k hr tk xe_int rfl)) xss_nil)
    (xss_cons (xs_letv 3 nd (xe_al (xl_disp xa_nil)))
    (xss_cons (xs_for (gok_tup (gok_cons gok_name (gok_cons gok_name gok_nil)) (len_more (len_more (fun _ _ _ h => len_none h)))) (passes_of rfl) rfl (xi_enS rfl T.n_enumerate rfl (by decide) (xe_slA (xv 1) (xp_some xe_int) xp_no) pe_int) (pg_tup rfl (pgs_cons (pgv 4 nd) (pgs_cons (pgv 5 nd) pgs_nil))) (xss_cons (xs_letv 6 nd (xe_call ((ok__edge_told T).mono (by decide)) tk gd hr rfl T.g__edge_told T.F__edge_told.kp (T.b__edge_told) (alen_cons (alen_cons alen_nil)) (xa_cons (xv 5) (xa_cons (xv 2) xa_nil))))
    (xss_cons (xs_if (PW.pt (xw_or (xt_isN (xv 6)) (xw_or (xt_cmp (o_in hu2) (xv 6) (xv 3) (by first | rfl | exact nobehind _ (by decide) (by decide))) (xw_or1 (xt_cmp (o_eq hu) (xe_bi c_len rfl T.n_len PySem.boot_len (xa_cons (xv 3) xa_nil)) (xe_glob (v := .int 24) rfl T.c_MOST_EDGES ⟨_, rfl⟩ (fun _ => .int _)) (by first | rfl | exact nobehind _ (by decide) (by decide))))))) (xss_one (xs_raise rfl T.E_InvalidText.t T.E_InvalidText.k hr tk (xv 4) rfl)) xss_nil)
    (xss_one (xs_expr (xe_lm PySem.F.slot_list_append PySem.F.type_list_append k_append (xv 3) (xa_cons (xv 6) xa_nil)))))))
    (xss_one (xs_ret (xe_tup (xa_cons (xv 2) (xa_cons (xe_ty c_tuple rfl T.n_tuple PyProof.Rows.boot_tuple (xa_cons (xe_fr (xl_bi (c_sorted hu) rfl T.n_sorted PyProof.Rows.boot_sorted (xa_cons (xv 3) xa_nil))) xa_nil)) xa_nil)))))))))))
theorem ok__law_draw (T : Txt P K mg base) : FnG P w K mg base 1 T.a__law_draw T.fd__law_draw ["well", "many"] m__law_draw :=
  def_ok T.F__law_draw sc__law_draw fun cdv A outer s H E gd hr => by
    have nd := sc__law_draw.nd
    have tk := takes_of (X := cxOf (L2.CX P w) P w K mg base ["well", "many", "seed", "digit"] "_law_draw" (defScope s__law_draw) T.a__law_draw cdv A outer s H E) (E := E) rfl rfl rfl rfl
    have hu := hr.units
    have hu2 := units65 hr
    exact (xss_cons (xs_if (xt_cmp (o_gt hu) (xe_ix (xv 0) xe_int (fun _ _ => rfl)) xe_int (by first | rfl | exact nobehind _ (by decide) (by decide))) (xss_cons (xs_letv 3 nd (xe_op o_mod (xe_ty c_intT rfl T.n_int PyProof.Rows.boot_int (xa_cons (xe_ix (xv 0) xe_int (fun _ _ => rfl)) xa_nil)) (xv 1)))
    (xss_cons (xs_put (xe_op o_div (xe_ix (xv 0) xe_int (fun _ _ => rfl)) (xv 1)) (xv 0) xe_int)
    (xss_one (xs_ret (xv 3))))) xss_nil)
    (xss_cons (xs_put (xe_opo o_add (xe_ix (xv 0) xe_int (fun _ _ => rfl)) xe_int) (xv 0) xe_int)
    (xss_cons (xs_letv 2 nd (xe_op o_mod (xe_ty c_intT rfl T.n_int PyProof.Rows.boot_int (xa_cons (xe_opo o_add (xe_opo o_add (xe_op o_mul (xe_ix (xv 0) xe_int (fun _ _ => rfl)) xe_int) (xe_op o_mul xe_int (xe_ix (xv 0) xe_int (fun _ _ => rfl)))) xe_int) xa_nil)) xe_int))
    (xss_cons (xs_put (xv 2) (xv 0) xe_int)
    (xss_one (xs_ret (xe_op o_mod (xe_ty c_intT rfl T.n_int PyProof.Rows.boot_int (xa_cons (xe_op o_div (xe_op o_mul (xv 2) (xe_opo o_add (xe_op o_mod (xe_ty c_intT rfl T.n_int PyProof.Rows.boot_int (xa_cons (xv 2) xa_nil)) xe_int) xe_int)) xe_int) xa_nil)) (xv 1))))))))
theorem ok__law_pick (T : Txt P K mg base) : FnG P w K mg base 2 T.a__law_pick T.fd__law_pick ["well", "some"] m__law_pick :=
  def_ok T.F__law_pick sc__law_pick fun cdv A outer s H E gd hr => by
    have nd := sc__law_pick.nd
    have tk := takes_of (X := cxOf (L2.CX P w) P w K mg base ["well", "some"] "_law_pick" (defScope s__law_pick) T.a__law_pick cdv A outer s H E) (E := E) rfl rfl rfl rfl
    have hu := hr.units
    have hu2 := units65 hr
    exact (xss_one (xs_ret (xe_ix (xv 1) (xe_call ((ok__law_draw T).mono (by decide)) tk gd hr rfl T.g__law_draw T.F__law_draw.kp (T.b__law_draw) (alen_cons (alen_cons alen_nil)) (xa_cons (xv 0) (xa_cons (xe_bi c_len rfl T.n_len PySem.boot_len (xa_cons (xv 1) xa_nil)) xa_nil))) (fun _ _ => rfl))))
theorem ok__law_kept (T : Txt P K mg base) : FnG P w K mg base 1 T.a__law_kept T.fd__law_kept ["vertices", "edges"] m__law_kept :=
  def_ok T.F__law_kept sc__law_kept fun cdv A outer s H E gd hr => by
    have nd := sc__law_kept.nd
    have tk := takes_of (X := cxOf (L2.CX P w) P w K mg base ["vertices", "edges", "found", "a", "b", "pair"] "_law_kept" (defScope s__law_kept) T.a__law_kept cdv A outer s H E) (E := E) rfl rfl rfl rfl
    have hu := hr.units
    have hu2 := units65 hr
    exact (xss_cons (xs_letv 2 nd (xe_al (xl_disp xa_nil)))
    (xss_cons (xs_for (gok_tup (gok_cons gok_name (gok_cons gok_name gok_nil)) (len_more (len_more (fun _ _ _ h => len_none h)))) (passes_of rfl) rfl (xi_seq (xv 1)) (pg_tup rfl (pgs_cons (pgv 3 nd) (pgs_cons (pgv 4 nd) pgs_nil))) (xss_cons (xs_letv 5 nd (xe_ifE (xt_cmp (o_lt hu) (xv 3) (xv 4) (by first | rfl | exact nobehind _ (by decide) (by decide))) (xe_tup (xa_cons (xv 3) (xa_cons (xv 4) xa_nil))) (xe_tup (xa_cons (xv 4) (xa_cons (xv 3) xa_nil)))))
    (xss_one (xs_if (PW.pt (xw_and (xt_cmp (o_ne hu) (xv 3) (xv 4) (by first | rfl | exact nobehind _ (by decide) (by decide))) (xw_and1 (xt_cmp (o_notIn hu2) (xv 5) (xv 2) (by first | rfl | exact nobehind _ (by decide) (by decide)))))) (xss_one (xs_expr (xe_lm PySem.F.slot_list_append PySem.F.type_list_append k_append (xv 2) (xa_cons (xv 5) xa_nil)))) xss_nil))))
    (xss_one (xs_ret (xe_tup (xa_cons (xv 0) (xa_cons (xe_ty c_tuple rfl T.n_tuple PyProof.Rows.boot_tuple (xa_cons (xe_fr (xl_bi (c_sorted hu) rfl T.n_sorted PyProof.Rows.boot_sorted (xa_cons (xv 2) xa_nil))) xa_nil)) xa_nil)))))))
theorem ok__law_edges_of (T : Txt P K mg base) : FnG P w K mg base 2 T.a__law_edges_of T.fd__law_edges_of ["text"] m__law_edges_of :=
  def_ok T.F__law_edges_of sc__law_edges_of fun cdv A outer s H E gd hr => by
    have nd := sc__law_edges_of.nd
    have tk := takes_of (X := cxOf (L2.CX P w) P w K mg base ["text", "words", "pairs", "word", "pair"] "_law_edges_of" (defScope s__law_edges_of) T.a__law_edges_of cdv A outer s H E) (E := E) rfl rfl rfl rfl
    have hu := hr.units
    have hu2 := units65 hr
    exact (xss_cons (xs_letv 1 nd (xe_fr (xl_cut (xv 0) xe_str)))
    (xss_cons (xs_setC (i := 2) (own := [("word", 3)]) t_fr rfl nd rfl rfl (sw_true rfl rfl rfl (by decide +kernel)) (xi_seq (xe_slA (xv 1) (xp_some xe_int) xp_no)) (blkOk_by (by show blkC (["text", "words", "pairs", "word", "pair"] : List Str) (defScope s__law_edges_of) _ _ = true; decide +kernel)) gok_name (by decide) (fun _ _ _ _ _ => (pgv 3 nd)) (fun _ _ _ _ _ => xts_nil) (fun _ _ _ _ _ => (xe_fr (xl_cut (xv 3) xe_str))))
    (xss_one (xs_ret (xe_call ((ok__law_kept T).mono (by decide)) tk gd hr rfl T.g__law_kept T.F__law_kept.kp (T.b__law_kept) (alen_cons (alen_cons alen_nil)) (xa_cons (xe_ty c_intT rfl T.n_int PyProof.Rows.boot_int (xa_cons (xe_slA (xe_ix (xv 1) xe_int (fun _ _ => rfl)) xp_no (xp_some (xe_un o_neg xe_int))) xa_nil)) (xa_cons (xe_fr (xl_comp (own := [("pair", 4)]) rfl nd (xi_seq (xv 2)) (blkOk_by (by show blkC (["text", "words", "pairs", "word", "pair"] : List Str) (defScope s__law_edges_of) _ _ = true; decide +kernel)) gok_name (by decide) (fun _ _ _ _ _ => (pgv 4 nd)) (fun _ _ _ _ _ => xts_nil) (fun _ _ _ _ _ => (xe_tup (xa_cons (xe_ty c_intT rfl T.n_int PyProof.Rows.boot_int (xa_cons (xe_ix (xv 4) xe_int (fun _ _ => rfl)) xa_nil)) (xa_cons (xe_ty c_intT rfl T.n_int PyProof.Rows.boot_int (xa_cons (xe_ix (xv 4) xe_int (fun _ _ => rfl)) xa_nil)) xa_nil)))))) xa_nil)))))))
theorem ok__law_family (T : Txt P K mg base) : FnG P w K mg base 3 T.a__law_family T.fd__law_family ["level"] m__law_family :=
  def_ok T.F__law_family sc__law_family fun cdv A outer s H E gd hr => by
    have nd := sc__law_family.nd
    have tk := takes_of (X := cxOf (L2.CX P w) P w K mg base ["level", "texts", "text"] "_law_family" (defScope s__law_family) T.a__law_family cdv A outer s H E) (E := E) rfl rfl rfl rfl
    have hu := hr.units
    have hu2 := units65 hr
    exact (xss_cons (xs_letv 1 nd (xe_tup (xa_cons (xe_tup (xa_cons xe_str (xa_cons xe_str xa_nil))) (xa_cons (xe_tup (xa_cons xe_str (xa_cons xe_str xa_nil))) (xa_cons (xe_tup (xa_cons xe_str (xa_cons xe_str xa_nil))) (xa_cons (xe_tup (xa_cons xe_str (xa_cons xe_str (xa_cons xe_str (xa_cons xe_str (xa_cons xe_str (xa_cons xe_str (xa_cons xe_str xa_nil)))))))) xa_nil))))))
    (xss_one (xs_ret (xe_fr (xl_comp (own := [("text", 2)]) rfl nd (xi_seq (xe_ix (xv 1) (xe_op o_sub (xv 0) xe_int) (fun _ _ => rfl))) (blkOk_by (by show blkC (["level", "texts", "text"] : List Str) (defScope s__law_family) _ _ = true; decide +kernel)) gok_name (by decide) (fun _ _ _ _ _ => (pgv 2 nd)) (fun _ _ _ _ _ => xts_nil) (fun _ _ _ _ _ => (xe_call ((ok__law_edges_of T).mono (by decide)) takes0 gd hr rfl T.g__law_edges_of T.F__law_edges_of.kp (T.b__law_edges_of) (alen_cons alen_nil) (xa_cons (xv 2) xa_nil))))))))
theorem ok__law_order (T : Txt P K mg base) : FnG P w K mg base 3 T.a__law_order T.fd__law_order ["well", "many"] m__law_order :=
  def_ok T.F__law_order sc__law_order fun cdv A outer s H E gd hr => by
    have nd := sc__law_order.nd
    have tk := takes_of (X := cxOf (L2.CX P w) P w K mg base ["well", "many", "left", "found", "each", "other"] "_law_order" (defScope s__law_order) T.a__law_order cdv A outer s H E) (E := E) rfl rfl rfl rfl
    have hu := hr.units
    have hu2 := units65 hr
    exact (xss_cons (xs_par (i := 2) (j := 3) rfl nd rfl rfl (by decide) rfl rfl (xa_cons (xe_fr (xl_listRg1 rfl rfl T.n_list rfl T.n_range (xv 1))) (xa_cons (xe_al (xl_disp xa_nil)) xa_nil)) (by rfl))
    (xss_cons (xs_while (passes_of rfl) (xt_cmp (o_ne hu) (xv 2) (xe_fr (xl_disp xa_nil)) (by first | rfl | exact nobehind _ (by decide) (by decide))) (xss_cons (xs_letv 4 nd (xe_call ((ok__law_pick T).mono (by decide)) tk gd hr rfl T.g__law_pick T.F__law_pick.kp (T.b__law_pick) (alen_cons (alen_cons alen_nil)) (xa_cons (xv 0) (xa_cons (xv 2) xa_nil))))
    (xss_cons (xs_expr (xe_lm PySem.F.slot_list_append PySem.F.type_list_append k_append (xv 3) (xa_cons (xv 4) xa_nil)))
    (xss_one (xs_setC (i := 2) (own := [("other", 5)]) t_fr rfl nd rfl rfl (sw_true rfl rfl rfl (by decide +kernel)) (xi_seq (xv 2)) (blkOk_by (by show blkC (["well", "many", "left", "found", "each", "other"] : List Str) (defScope s__law_order) _ _ = true; decide +kernel)) gok_name (by decide) (fun _ _ _ _ _ => (pgv 5 nd)) (fun _ _ _ _ _ => (xts_one (xt_cmp (o_ne hu) (xv 5) (xv 4) (by first | rfl | exact nobehind _ (by decide) (by decide))))) (fun _ _ _ _ _ => (xv 5)))))))
    (xss_one (xs_ret (xv 3)))))
theorem ok__law_named (T : Txt P K mg base) : FnG P w K mg base 2 T.a__law_named T.fd__law_named ["graph", "order"] m__law_named :=
  def_ok T.F__law_named sc__law_named fun cdv A outer s H E gd hr => by
    have nd := sc__law_named.nd
    have tk := takes_of (X := cxOf (L2.CX P w) P w K mg base ["graph", "order", "a", "b"] "_law_named" (defScope s__law_named) T.a__law_named cdv A outer s H E) (E := E) rfl rfl rfl rfl
    have hu := hr.units
    have hu2 := units65 hr
    exact (xss_one (xs_ret (xe_call ((ok__law_kept T).mono (by decide)) tk gd hr rfl T.g__law_kept T.F__law_kept.kp (T.b__law_kept) (alen_cons (alen_cons alen_nil)) (xa_cons (xe_ix (xv 0) xe_int (fun _ _ => rfl)) (xa_cons (xe_fr (xl_comp (own := [("a", 2), ("b", 3)]) rfl nd (xi_seq (xe_ix (xv 0) xe_int (fun _ _ => rfl))) (blkOk_by (by show blkC (["graph", "order", "a", "b"] : List Str) (defScope s__law_named) _ _ = true; decide +kernel)) (gok_tup (gok_cons gok_name (gok_cons gok_name gok_nil)) (len_more (len_more (fun _ _ _ h => len_none h)))) (by decide) (fun _ _ _ _ _ => (pg_tup rfl (pgs_cons (pgv 2 nd) (pgs_cons (pgv 3 nd) pgs_nil)))) (fun _ _ _ _ _ => xts_nil) (fun _ _ _ _ _ => (xe_tup (xa_cons (xe_ix (xv 1) (xv 2) (fun _ _ => rfl)) (xa_cons (xe_ix (xv 1) (xv 3) (fun _ _ => rfl)) xa_nil)))))) xa_nil)))))
theorem ok__law_pairs_of (T : Txt P K mg base) : FnG P w K mg base 1 T.a__law_pairs_of T.fd__law_pairs_of ["vertices"] m__law_pairs_of :=
  def_ok T.F__law_pairs_of sc__law_pairs_of fun cdv A outer s H E gd hr => by
    have nd := sc__law_pairs_of.nd
    have tk := takes_of (X := cxOf (L2.CX P w) P w K mg base ["vertices", "found", "a", "b"] "_law_pairs_of" (defScope s__law_pairs_of) T.a__law_pairs_of cdv A outer s H E) (E := E) rfl rfl rfl rfl
    have hu := hr.units
    have hu2 := units65 hr
    exact (xss_cons (xs_letv 1 nd (xe_fr (xl_disp xa_nil)))
    (xss_cons (xs_for gok_name (passes_of rfl) rfl (xi_range1 rfl T.n_range (xa_cons (xv 0) xa_nil)) (pgv 2 nd) (xss_one (xs_letv 1 nd (xe_opo o_add (xv 1) (xe_fr (xl_comp (own := [("b", 3)]) rfl nd (xi_range2 rfl T.n_range (xa_cons (xe_opo o_add (xv 2) xe_int) (xa_cons (xv 0) xa_nil))) (blkOk_by (by show blkC (["vertices", "found", "a", "b"] : List Str) (defScope s__law_pairs_of) _ _ = true; decide +kernel)) gok_name (by decide) (fun _ _ _ _ _ => (pgv 3 nd)) (fun _ _ _ _ _ => xts_nil) (fun _ _ _ _ _ => (xe_tup (xa_cons (xv 2) (xa_cons (xv 3) xa_nil))))))))))
    (xss_one (xs_ret (xv 1)))))
theorem ok__law_graph (T : Txt P K mg base) : FnG P w K mg base 4 T.a__law_graph T.fd__law_graph ["well", "most", "edges"] m__law_graph :=
  def_ok T.F__law_graph sc__law_graph fun cdv A outer s H E gd hr => by
    have nd := sc__law_graph.nd
    have tk := takes_of (X := cxOf (L2.CX P w) P w K mg base ["well", "most", "edges", "vertices", "some", "pair", "graph", "found", "share", "more", "turn", "each"] "_law_graph" (defScope s__law_graph) T.a__law_graph cdv A outer s H E) (E := E) rfl rfl rfl rfl
    have hu := hr.units
    have hu2 := units65 hr
    exact (xss_cons (xs_letv 3 nd (xe_opo o_add xe_int (xe_call ((ok__law_draw T).mono (by decide)) tk gd hr rfl T.g__law_draw T.F__law_draw.kp (T.b__law_draw) (alen_cons (alen_cons alen_nil)) (xa_cons (xv 0) (xa_cons (xv 1) xa_nil)))))
    (xss_cons (xs_letv 4 nd (xe_call ((ok__law_pairs_of T).mono (by decide)) tk gd hr rfl T.g__law_pairs_of T.F__law_pairs_of.kp (T.b__law_pairs_of) (alen_cons alen_nil) (xa_cons (xv 3) xa_nil)))
    (xss_cons (xs_if (xt_cmp (o_eq hu) (xe_call ((ok__law_draw T).mono (by decide)) tk gd hr rfl T.g__law_draw T.F__law_draw.kp (T.b__law_draw) (alen_cons (alen_cons alen_nil)) (xa_cons (xv 0) (xa_cons xe_int xa_nil))) xe_int (by first | rfl | exact nobehind _ (by decide) (by decide))) (xss_cons (xs_letv 6 nd (xe_call ((ok__law_pick T).mono (by decide)) tk gd hr rfl T.g__law_pick T.F__law_pick.kp (T.b__law_pick) (alen_cons (alen_cons alen_nil)) (xa_cons (xv 0) (xa_cons (xe_call ((ok__law_family T).mono (by decide)) tk gd hr rfl T.g__law_family T.F__law_family.kp (T.b__law_family) (alen_cons alen_nil) (xa_cons (xe_call ((ok__law_pick T).mono (by decide)) tk gd hr rfl T.g__law_pick T.F__law_pick.kp (T.b__law_pick) (alen_cons (alen_cons alen_nil)) (xa_cons (xv 0) (xa_cons (xe_tup (xa_cons xe_int (xa_cons xe_int (xa_cons xe_int xa_nil)))) xa_nil))) xa_nil)) xa_nil))))
    (xss_one (xs_if (PW.pt (xw_and (xt_cmp (o_le hu) (xe_ix (xv 6) xe_int (fun _ _ => rfl)) (xv 1) (by first | rfl | exact nobehind _ (by decide) (by decide))) (xw_and1 (xt_cmp (o_le hu) (xe_bi c_len rfl T.n_len PySem.boot_len (xa_cons (xe_ix (xv 6) xe_int (fun _ _ => rfl)) xa_nil)) (xv 2) (by first | rfl | exact nobehind _ (by decide) (by decide)))))) (xss_cons (xs_letv 6 nd (xe_call ((ok__law_named T).mono (by decide)) tk gd hr rfl T.g__law_named T.F__law_named.kp (T.b__law_named) (alen_cons (alen_cons alen_nil)) (xa_cons (xv 6) (xa_cons (xe_call ((ok__law_order T).mono (by decide)) tk gd hr rfl T.g__law_order T.F__law_order.kp (T.b__law_order) (alen_cons (alen_cons alen_nil)) (xa_cons (xv 0) (xa_cons (xe_ix (xv 6) xe_int (fun _ _ => rfl)) xa_nil))) xa_nil))))
    (xss_cons (xs_letv 9 nd (xe_al (xl_ty c_list rfl T.n_list PyProof.Rows.boot_list (xa_cons (xe_ix (xv 6) xe_int (fun _ _ => rfl)) xa_nil))))
    (xss_cons (xs_for gok_name (passes_of rfl) rfl (xi_range1 rfl T.n_range (xa_cons (xe_call ((ok__law_draw T).mono (by decide)) tk gd hr rfl T.g__law_draw T.F__law_draw.kp (T.b__law_draw) (alen_cons (alen_cons alen_nil)) (xa_cons (xv 0) (xa_cons xe_int xa_nil))) xa_nil)) (pgv 10 nd) (xss_cons (xs_letv 5 nd (xe_call ((ok__law_pick T).mono (by decide)) tk gd hr rfl T.g__law_pick T.F__law_pick.kp (T.b__law_pick) (alen_cons (alen_cons alen_nil)) (xa_cons (xv 0) (xa_cons (xe_call ((ok__law_pairs_of T).mono (by decide)) tk gd hr rfl T.g__law_pairs_of T.F__law_pairs_of.kp (T.b__law_pairs_of) (alen_cons alen_nil) (xa_cons (xe_ix (xv 6) xe_int (fun _ _ => rfl)) xa_nil)) xa_nil))))
    (xss_one (xs_if (PW.pt (xw_or (xt_cmp (o_eq hu) (xe_call ((ok__law_draw T).mono (by decide)) tk gd hr rfl T.g__law_draw T.F__law_draw.kp (T.b__law_draw) (alen_cons (alen_cons alen_nil)) (xa_cons (xv 0) (xa_cons xe_int xa_nil))) xe_int (by first | rfl | exact nobehind _ (by decide) (by decide))) (xw_or1 (xt_cmp (o_ge hu) (xe_bi c_len rfl T.n_len PySem.boot_len (xa_cons (xv 9) xa_nil)) (xv 2) (by first | rfl | exact nobehind _ (by decide) (by decide)))))) (xss_one (xs_setCK (i := 9) (own := [("each", 11)]) t_al rfl nd rfl rfl (sw_true rfl rfl rfl (by decide +kernel)) (xv 9) (blkOk_by (by show blkC (["well", "most", "edges", "vertices", "some", "pair", "graph", "found", "share", "more", "turn", "each"] : List Str) (defScope s__law_graph) _ _ = true; decide +kernel)) gok_name (by decide) (fun _ _ _ _ _ => (pgv 11 nd)) (fun _ _ _ _ _ => (xts_one (xt_cmp (o_ne hu) (xv 11) (xv 5) (by first | rfl | exact nobehind _ (by decide) (by decide))))) (fun _ _ _ _ _ => (xv 11)))) (xss_one (xs_expr (xe_lm PySem.F.slot_list_append PySem.F.type_list_append k_append (xv 9) (xa_cons (xv 5) xa_nil))))))))
    (xss_one (xs_ret (xe_call ((ok__law_kept T).mono (by decide)) tk gd hr rfl T.g__law_kept T.F__law_kept.kp (T.b__law_kept) (alen_cons (alen_cons alen_nil)) (xa_cons (xe_ix (xv 6) xe_int (fun _ _ => rfl)) (xa_cons (xv 9) xa_nil)))))))) xss_nil))) xss_nil)
    (xss_cons (xs_par (i := 7) (j := 8) rfl nd rfl rfl (by decide) rfl rfl (xa_cons (xe_al (xl_disp xa_nil)) (xa_cons (xe_opo o_add xe_int (xe_call ((ok__law_draw T).mono (by decide)) tk gd hr rfl T.g__law_draw T.F__law_draw.kp (T.b__law_draw) (alen_cons (alen_cons alen_nil)) (xa_cons (xv 0) (xa_cons xe_int xa_nil)))) xa_nil)) (by rfl))
    (xss_cons (xs_for gok_name (passes_of rfl) rfl (xi_seq (xv 4)) (pgv 5 nd) (xss_one (xs_if (PW.pt (xw_and (xt_cmp (o_lt hu) (xe_call ((ok__law_draw T).mono (by decide)) tk gd hr rfl T.g__law_draw T.F__law_draw.kp (T.b__law_draw) (alen_cons (alen_cons alen_nil)) (xa_cons (xv 0) (xa_cons xe_int xa_nil))) (xv 8) (by first | rfl | exact nobehind _ (by decide) (by decide))) (xw_and1 (xt_cmp (o_lt hu) (xe_bi c_len rfl T.n_len PySem.boot_len (xa_cons (xv 7) xa_nil)) (xv 2) (by first | rfl | exact nobehind _ (by decide) (by decide)))))) (xss_one (xs_expr (xe_lm PySem.F.slot_list_append PySem.F.type_list_append k_append (xv 7) (xa_cons (xv 5) xa_nil)))) xss_nil)))
    (xss_one (xs_ret (xe_call ((ok__law_kept T).mono (by decide)) tk gd hr rfl T.g__law_kept T.F__law_kept.kp (T.b__law_kept) (alen_cons (alen_cons alen_nil)) (xa_cons (xv 3) (xa_cons (xv 7) xa_nil))))))))))
theorem ok__law_full (T : Txt P K mg base) : FnG P w K mg base 4 T.a__law_full T.fd__law_full ["well", "edges"] m__law_full :=
  def_ok T.F__law_full sc__law_full fun cdv A outer s H E gd hr => by
    have nd := sc__law_full.nd
    have tk := takes_of (X := cxOf (L2.CX P w) P w K mg base ["well", "edges", "found", "k"] "_law_full" (defScope s__law_full) T.a__law_full cdv A outer s H E) (E := E) rfl rfl rfl rfl
    have hu := hr.units
    have hu2 := units65 hr
    exact (xss_cons (xs_letv 2 nd (xe_al (xl_disp xa_nil)))
    (xss_cons (xs_for gok_name (passes_of rfl) rfl (xi_seq (xe_slA (xe_call ((ok__law_order T).mono (by decide)) tk gd hr rfl T.g__law_order T.F__law_order.kp (T.b__law_order) (alen_cons (alen_cons alen_nil)) (xa_cons (xv 0) (xa_cons xe_int xa_nil))) xp_no (xp_some (xv 1)))) (pgv 3 nd) (xss_one (xs_expr (xe_lm PySem.F.slot_list_append PySem.F.type_list_append k_append (xv 2) (xa_cons (xe_ix (xe_call ((ok__law_pairs_of T).mono (by decide)) tk gd hr rfl T.g__law_pairs_of T.F__law_pairs_of.kp (T.b__law_pairs_of) (alen_cons alen_nil) (xa_cons xe_int xa_nil)) (xv 3) (fun _ _ => rfl)) xa_nil)))))
    (xss_one (xs_ret (xe_call ((ok__law_kept T).mono (by decide)) tk gd hr rfl T.g__law_kept T.F__law_kept.kp (T.b__law_kept) (alen_cons (alen_cons alen_nil)) (xa_cons xe_int (xa_cons (xv 2) xa_nil)))))))
theorem ok__law_text (T : Txt P K mg base) : FnG P w K mg base 1 T.a__law_text T.fd__law_text ["graph"] m__law_text :=
  def_ok T.F__law_text sc__law_text fun cdv A outer s H E gd hr => by
    have nd := sc__law_text.nd
    have tk := takes_of (X := cxOf (L2.CX P w) P w K mg base ["graph", "found", "a", "b"] "_law_text" (defScope s__law_text) T.a__law_text cdv A outer s H E) (E := E) rfl rfl rfl rfl
    have hu := hr.units
    have hu2 := units65 hr
    exact (xss_cons (xs_letv 1 nd (xe_opo o_add (xe_ty c_str rfl T.n_str (by decide +kernel) (xa_cons (xe_ix (xv 0) xe_int (fun _ _ => rfl)) xa_nil)) xe_str))
    (xss_cons (xs_for (gok_tup (gok_cons gok_name (gok_cons gok_name gok_nil)) (len_more (len_more (fun _ _ _ h => len_none h)))) (passes_of rfl) rfl (xi_seq (xe_ix (xv 0) xe_int (fun _ _ => rfl))) (pg_tup rfl (pgs_cons (pgv 2 nd) (pgs_cons (pgv 3 nd) pgs_nil))) (xss_one (xs_letv 1 nd (xe_opo o_add (xe_opo o_add (xe_opo o_add (xe_opo o_add (xv 1) xe_str) (xe_ty c_str rfl T.n_str (by decide +kernel) (xa_cons (xv 2) xa_nil))) xe_str) (xe_ty c_str rfl T.n_str (by decide +kernel) (xa_cons (xv 3) xa_nil))))))
    (xss_one (xs_ret (xv 1)))))
theorem ok__law_blanks (T : Txt P K mg base) : FnG P w K mg base 3 T.a__law_blanks T.fd__law_blanks ["well"] m__law_blanks :=
  def_ok T.F__law_blanks sc__law_blanks fun cdv A outer s H E gd hr => by
    have nd := sc__law_blanks.nd
    have tk := takes_of (X := cxOf (L2.CX P w) P w K mg base ["well"] "_law_blanks" (defScope s__law_blanks) T.a__law_blanks cdv A outer s H E) (E := E) rfl rfl rfl rfl
    have hu := hr.units
    have hu2 := units65 hr
    exact (xss_one (xs_ret (xe_call ((ok__law_pick T).mono (by decide)) tk gd hr rfl T.g__law_pick T.F__law_pick.kp (T.b__law_pick) (alen_cons (alen_cons alen_nil)) (xa_cons (xv 0) (xa_cons (xe_tup (xa_cons xe_str (xa_cons xe_str (xa_cons xe_str (xa_cons xe_str xa_nil))))) xa_nil)))))
theorem ok__law_other_text (T : Txt P K mg base) : FnG P w K mg base 4 T.a__law_other_text T.fd__law_other_text ["well", "graph"] m__law_other_text :=
  def_ok T.F__law_other_text sc__law_other_text fun cdv A outer s H E gd hr => by
    have nd := sc__law_other_text.nd
    have tk := takes_of (X := cxOf (L2.CX P w) P w K mg base ["well", "graph", "text", "k", "a", "b"] "_law_other_text" (defScope s__law_other_text) T.a__law_other_text cdv A outer s H E) (E := E) rfl rfl rfl rfl
    have hu := hr.units
    have hu2 := units65 hr
    exact (xss_cons (xs_letv 2 nd (xe_opo o_add (xe_opo o_add (xe_call ((ok__law_blanks T).mono (by decide)) tk gd hr rfl T.g__law_blanks T.F__law_blanks.kp (T.b__law_blanks) (alen_cons alen_nil) (xa_cons (xv 0) xa_nil)) (xe_ty c_str rfl T.n_str (by decide +kernel) (xa_cons (xe_ix (xv 1) xe_int (fun _ _ => rfl)) xa_nil))) xe_str))
    (xss_cons (xs_for gok_name (passes_of rfl) rfl (xi_seq (xe_call ((ok__law_order T).mono (by decide)) tk gd hr rfl T.g__law_order T.F__law_order.kp (T.b__law_order) (alen_cons (alen_cons alen_nil)) (xa_cons (xv 0) (xa_cons (xe_bi c_len rfl T.n_len PySem.boot_len (xa_cons (xe_ix (xv 1) xe_int (fun _ _ => rfl)) xa_nil)) xa_nil)))) (pgv 3 nd) (xss_cons (xs_asg (gok_tup (gok_cons gok_name (gok_cons gok_name gok_nil)) (len_more (len_more (fun _ _ _ h => len_none h)))) (xe_ix (xe_ix (xv 1) xe_int (fun _ _ => rfl)) (xv 3) (fun _ _ => rfl)) (pg_tup rfl (pgs_cons (pgv 4 nd) (pgs_cons (pgv 5 nd) pgs_nil))))
    (xss_cons (xs_asg (gok_tup (gok_cons gok_name (gok_cons gok_name gok_nil)) (len_more (len_more (fun _ _ _ h => len_none h)))) (xe_ifE (xt_cmp (o_eq hu) (xe_call ((ok__law_draw T).mono (by decide)) tk gd hr rfl T.g__law_draw T.F__law_draw.kp (T.b__law_draw) (alen_cons (alen_cons alen_nil)) (xa_cons (xv 0) (xa_cons xe_int xa_nil))) xe_int (by first | rfl | exact nobehind _ (by decide) (by decide))) (xe_tup (xa_cons (xv 5) (xa_cons (xv 4) xa_nil))) (xe_tup (xa_cons (xv 4) (xa_cons (xv 5) xa_nil)))) (pg_tup rfl (pgs_cons (pgv 4 nd) (pgs_cons (pgv 5 nd) pgs_nil))))
    (xss_one (xs_letv 2 nd (xe_opo o_add (xe_opo o_add (xe_opo o_add (xe_opo o_add (xe_opo o_add (xv 2) xe_str) (xe_call ((ok__law_blanks T).mono (by decide)) tk gd hr rfl T.g__law_blanks T.F__law_blanks.kp (T.b__law_blanks) (alen_cons alen_nil) (xa_cons (xv 0) xa_nil))) (xe_ty c_str rfl T.n_str (by decide +kernel) (xa_cons (xv 4) xa_nil))) xe_str) (xe_ty c_str rfl T.n_str (by decide +kernel) (xa_cons (xv 5) xa_nil))))))))
    (xss_one (xs_ret (xe_opo o_add (xv 2) (xe_call ((ok__law_blanks T).mono (by decide)) tk gd hr rfl T.g__law_blanks T.F__law_blanks.kp (T.b__law_blanks) (alen_cons alen_nil) (xa_cons (xv 0) xa_nil)))))))
theorem ok__law_right (T : Txt P K mg base) : FnG P w K mg base 8 T.a__law_right T.fd__law_right ["well"] m__law_right :=
  def_ok T.F__law_right sc__law_right fun cdv A outer s H E gd hr => by
    have nd := sc__law_right.nd
    have tk := takes_of (X := cxOf (L2.CX P w) P w K mg base ["well", "turn", "graph", "text", "some", "other"] "_law_right" (defScope s__law_right) T.a__law_right cdv A outer s H E) (E := E) rfl rfl rfl rfl
    have hu := hr.units
    have hu2 := units65 hr
    exact (xss_cons (xs_for gok_name (passes_of rfl) rfl (xi_range1 rfl T.n_range (xa_cons xe_int xa_nil)) (pgv 1 nd) (xss_cons (xs_letv 2 nd (xe_ifE (xt_cmp (o_eq hu) (xe_call ((ok__law_draw T).mono (by decide)) tk gd hr rfl T.g__law_draw T.F__law_draw.kp (T.b__law_draw) (alen_cons (alen_cons alen_nil)) (xa_cons (xv 0) (xa_cons xe_int xa_nil))) xe_int (by first | rfl | exact nobehind _ (by decide) (by decide))) (xe_call ((ok__law_full T).mono (by decide)) tk gd hr rfl T.g__law_full T.F__law_full.kp (T.b__law_full) (alen_cons (alen_cons alen_nil)) (xa_cons (xv 0) (xa_cons xe_int xa_nil))) (xe_call ((ok__law_graph T).mono (by decide)) tk gd hr rfl T.g__law_graph T.F__law_graph.kp (T.b__law_graph) (alen_cons (alen_cons (alen_cons alen_nil))) (xa_cons (xv 0) (xa_cons xe_int (xa_cons xe_int xa_nil))))))
    (xss_cons (xs_letv 3 nd (xe_call ((ok__law_text T).mono (by decide)) tk gd hr rfl T.g__law_text T.F__law_text.kp (T.b__law_text) (alen_cons alen_nil) (xa_cons (xv 2) xa_nil)))
    (xss_cons (xs_if (xt_cmp (o_ne hu) (xe_bi (c_repr gd hu) rfl T.n_repr PyProof.Rows.boot_repr (xa_cons (xe_fr (xl_disp (xa_cons (xe_call ((ok_show_graph T).mono (by decide)) tk gd hr rfl T.g_show_graph T.F_show_graph.kp (T.b_show_graph) (alen_cons alen_nil) (xa_cons (xv 2) xa_nil)) (xa_cons (xe_callN ((ok_show_graph T).mono (by decide)) tk gd hr rfl T.g_show_graph T.F_show_graph.kp (T.nb_show_graph) (alen_cons alen_nil) (xk_cons (xv 2) xk_nil)) xa_nil)))) xa_nil)) (xe_bi (c_repr gd hu) rfl T.n_repr PyProof.Rows.boot_repr (xa_cons (xe_fr (xl_disp (xa_cons (xv 3) (xa_cons (xv 3) xa_nil)))) xa_nil)) (by first | rfl | exact nobehind _ (by decide) (by decide))) (xss_one (xs_ret xe_bl)) xss_nil)
    (xss_cons (xs_letv 4 nd (xe_call ((ok__law_other_text T).mono (by decide)) tk gd hr rfl T.g__law_other_text T.F__law_other_text.kp (T.b__law_other_text) (alen_cons (alen_cons alen_nil)) (xa_cons (xv 0) (xa_cons (xv 2) xa_nil))))
    (xss_cons (xs_if (xt_cmp (o_ne hu) (xe_bi (c_repr gd hu) rfl T.n_repr PyProof.Rows.boot_repr (xa_cons (xe_fr (xl_disp (xa_cons (xe_call ((ok_read_graph T).mono (by decide)) tk gd hr rfl T.g_read_graph T.F_read_graph.kp (T.b_read_graph) (alen_cons alen_nil) (xa_cons (xv 3) xa_nil)) (xa_cons (xe_call ((ok_read_graph T).mono (by decide)) tk gd hr rfl T.g_read_graph T.F_read_graph.kp (T.b_read_graph) (alen_cons alen_nil) (xa_cons (xv 4) xa_nil)) (xa_cons (xe_callN ((ok_read_graph T).mono (by decide)) tk gd hr rfl T.g_read_graph T.F_read_graph.kp (T.nb_read_graph) (alen_cons alen_nil) (xk_cons (xv 4) xk_nil)) xa_nil))))) xa_nil)) (xe_bi (c_repr gd hu) rfl T.n_repr PyProof.Rows.boot_repr (xa_cons (xe_fr (xl_disp (xa_cons (xv 2) (xa_cons (xv 2) (xa_cons (xv 2) xa_nil))))) xa_nil)) (by first | rfl | exact nobehind _ (by decide) (by decide))) (xss_one (xs_ret xe_bl)) xss_nil)
    (xss_cons (xs_letv 5 nd (xe_call ((ok__law_graph T).mono (by decide)) tk gd hr rfl T.g__law_graph T.F__law_graph.kp (T.b__law_graph) (alen_cons (alen_cons (alen_cons alen_nil))) (xa_cons (xv 0) (xa_cons xe_int (xa_cons xe_int xa_nil)))))
    (xss_one (xs_if (xt_cmp (o_ne hu) (xe_cmp (o_eq hu) (xe_call ((ok_show_graph T).mono (by decide)) tk gd hr rfl T.g_show_graph T.F_show_graph.kp (T.b_show_graph) (alen_cons alen_nil) (xa_cons (xv 5) xa_nil)) (xv 3) (by first | rfl | exact nobehind _ (by decide) (by decide))) (xe_cmp (o_eq hu) (xv 5) (xv 2) (by first | rfl | exact nobehind _ (by decide) (by decide))) (by first | rfl | exact nobehind _ (by decide) (by decide))) (xss_one (xs_ret xe_bl)) xss_nil)))))))))
    (xss_one (xs_ret xe_bl)))
theorem ok_law (T : Txt P K mg base) : FnG P w K mg base 9 T.a_law T.fd_law ["script"] m_law :=
  def_ok T.F_law sc_law fun cdv A outer s H E gd hr => by
    have nd := sc_law.nd
    have tk := takes_of (X := cxOf (L2.CX P w) P w K mg base ["script", "turn"] "law" (defScope s_law) T.a_law cdv A outer s H E) (E := E) rfl rfl rfl rfl
    have hu := hr.units
    have hu2 := units65 hr
    exact (xss_cons (xs_for gok_name (passes_of rfl) rfl (xi_range1 rfl T.n_range (xa_cons (xe_bi (c_max2 rfl) rfl T.n_max (by decide +kernel) (xa_cons xe_int (xa_cons (xe_bi (c_min2 rfl) rfl T.n_min (by decide +kernel) (xa_cons (xe_bi c_len rfl T.n_len PySem.boot_len (xa_cons (xv 0) xa_nil)) (xa_cons xe_int xa_nil))) xa_nil))) xa_nil)) (pgv 1 nd) (xss_one (xs_if (xt_not (xt_tru (xe_call ((ok__law_right T).mono (by decide)) tk gd hr rfl T.g__law_right T.F__law_right.kp (T.b__law_right) (alen_cons alen_nil) (xa_cons (xe_call ((ok__law_well T).mono (by decide)) tk gd hr rfl T.g__law_well T.F__law_well.kp (T.b__law_well) (alen_cons (alen_cons alen_nil)) (xa_cons (xv 0) (xa_cons (xv 1) xa_nil))) xa_nil)))) (xss_one (xs_ret xe_bl)) xss_nil)))
    (xss_one (xs_ret xe_bl)))
end
/-! ### the end -/
theorem all_mk {P : Program} {w : World} {K : PySem.W.Frag} {h : Heap} {mg : Str → Option Value} {fa : Addr} (X : K.In h) (G : h.Ns mainGlobals mg) (hfa : mg "law" = some (.ref fa))
    {f0 : Addr} {od0 an0 : Option Addr} {sl0 : Array (Option Value)} {oc0 kV0 dc0 pm0 ct0 : Value} {cd0 : Value}
    {f1 : Addr} {od1 an1 : Option Addr} {sl1 : Array (Option Value)} {oc1 kV1 dc1 pm1 ct1 : Value} {cd1 : Value}
    {f2 : Addr} {od2 an2 : Option Addr} {sl2 : Array (Option Value)} {oc2 kV2 dc2 pm2 ct2 : Value} {cd2 : Value}
    {f3 : Addr} {od3 an3 : Option Addr} {sl3 : Array (Option Value)} {oc3 kV3 dc3 pm3 ct3 : Value} {cd3 : Value}
    {f4 : Addr} {od4 an4 : Option Addr} {sl4 : Array (Option Value)} {oc4 kV4 dc4 pm4 ct4 : Value} {cd4 : Value}
    {f5 : Addr} {od5 an5 : Option Addr} {sl5 : Array (Option Value)} {oc5 kV5 dc5 pm5 ct5 : Value} {cd5 : Value}
    {f6 : Addr} {od6 an6 : Option Addr} {sl6 : Array (Option Value)} {oc6 kV6 dc6 pm6 ct6 : Value} {cd6 : Value}
    {f7 : Addr} {od7 an7 : Option Addr} {sl7 : Array (Option Value)} {oc7 kV7 dc7 pm7 ct7 : Value} {cd7 : Value}
    {f8 : Addr} {od8 an8 : Option Addr} {sl8 : Array (Option Value)} {oc8 kV8 dc8 pm8 ct8 : Value} {cd8 : Value}
    {f9 : Addr} {od9 an9 : Option Addr} {sl9 : Array (Option Value)} {oc9 kV9 dc9 pm9 ct9 : Value} {cd9 : Value}
    {f10 : Addr} {od10 an10 : Option Addr} {sl10 : Array (Option Value)} {oc10 kV10 dc10 pm10 ct10 : Value} {cd10 : Value}
    {f11 : Addr} {od11 an11 : Option Addr} {sl11 : Array (Option Value)} {oc11 kV11 dc11 pm11 ct11 : Value} {cd11 : Value}
    {f12 : Addr} {od12 an12 : Option Addr} {sl12 : Array (Option Value)} {oc12 kV12 dc12 pm12 ct12 : Value} {cd12 : Value}
    {f13 : Addr} {od13 an13 : Option Addr} {sl13 : Array (Option Value)} {oc13 kV13 dc13 pm13 ct13 : Value} {cd13 : Value}
    {f14 : Addr} {od14 an14 : Option Addr} {sl14 : Array (Option Value)} {oc14 kV14 dc14 pm14 ct14 : Value} {cd14 : Value}
    {f15 : Addr} {od15 an15 : Option Addr} {sl15 : Array (Option Value)} {oc15 kV15 dc15 pm15 ct15 : Value} {cd15 : Value}
    {f16 : Addr} {od16 an16 : Option Addr} {sl16 : Array (Option Value)} {oc16 kV16 dc16 pm16 ct16 : Value} {cd16 : Value}
    {f17 : Addr} {od17 an17 : Option Addr} {sl17 : Array (Option Value)} {oc17 kV17 dc17 pm17 ct17 : Value} {cd17 : Value}
    {f18 : Addr} {od18 an18 : Option Addr} {sl18 : Array (Option Value)} {oc18 kV18 dc18 pm18 ct18 : Value} {cd18 : Value}
    {f19 : Addr} {od19 an19 : Option Addr} {sl19 : Array (Option Value)} {oc19 kV19 dc19 pm19 ct19 : Value} {cd19 : Value}
    {f20 : Addr} {od20 an20 : Option Addr} {sl20 : Array (Option Value)} {oc20 kV20 dc20 pm20 ct20 : Value} {cd20 : Value}
    {f21 : Addr} {od21 an21 : Option Addr} {sl21 : Array (Option Value)} {oc21 kV21 dc21 pm21 ct21 : Value} {cd21 : Value}
    {f22 : Addr} {od22 an22 : Option Addr} {sl22 : Array (Option Value)} {oc22 kV22 dc22 pm22 ct22 : Value} {cd22 : Value}
    {f23 : Addr} {od23 an23 : Option Addr} {sl23 : Array (Option Value)} {oc23 kV23 dc23 pm23 ct23 : Value} {cd23 : Value}
    {f24 : Addr} {od24 an24 : Option Addr} {sl24 : Array (Option Value)} {oc24 kV24 dc24 pm24 ct24 : Value} {cd24 : Value}
    {f25 : Addr} {od25 an25 : Option Addr} {sl25 : Array (Option Value)} {oc25 kV25 dc25 pm25 ct25 : Value} {cd25 : Value}
    {f26 : Addr} {od26 an26 : Option Addr} {sl26 : Array (Option Value)} {oc26 kV26 dc26 pm26 ct26 : Value} {cd26 : Value}
    {f27 : Addr} {od27 an27 : Option Addr} {sl27 : Array (Option Value)} {oc27 kV27 dc27 pm27 ct27 : Value} {cd27 : Value}
    {f28 : Addr} {od28 an28 : Option Addr} {sl28 : Array (Option Value)} {oc28 kV28 dc28 pm28 ct28 : Value} {cd28 : Value}
    {f29 : Addr} {od29 an29 : Option Addr} {sl29 : Array (Option Value)} {oc29 kV29 dc29 pm29 ct29 : Value} {cd29 : Value}
    {f30 : Addr} {od30 an30 : Option Addr} {sl30 : Array (Option Value)} {oc30 kV30 dc30 pm30 ct30 : Value} {cd30 : Value}
    {f31 : Addr} {od31 an31 : Option Addr} {sl31 : Array (Option Value)} {oc31 kV31 dc31 pm31 ct31 : Value} {cd31 : Value}
    {u0 : Tok}
    {u1 : Tok}
    {C_InvalidGraph fI_InvalidGraph N_InvalidGraph cda_InvalidGraph xx_InvalidGraph : Addr} {nm_InvalidGraph q_InvalidGraph fl_InvalidGraph : Str} {bs_InvalidGraph bm_InvalidGraph sub_InvalidGraph : List Value} {sn_InvalidGraph : List Str} {ab_InvalidGraph : Bool} {col_InvalidGraph : Option Bool} {dd_InvalidGraph od_InvalidGraph an_InvalidGraph cdd_InvalidGraph cld_InvalidGraph : Option Addr} {k0_InvalidGraph k1_InvalidGraph k2_InvalidGraph k3_InvalidGraph k5_InvalidGraph : Option Value} {oc_InvalidGraph dc_InvalidGraph pm_InvalidGraph ct_InvalidGraph ccl_InvalidGraph cl_InvalidGraph : Value} {sl_InvalidGraph ccs_InvalidGraph csl_InvalidGraph : Array (Option Value)} {vs_InvalidGraph : Array Value} {tf_InvalidGraph : Tok}
    {C_InvalidText fI_InvalidText N_InvalidText cda_InvalidText xx_InvalidText : Addr} {nm_InvalidText q_InvalidText fl_InvalidText : Str} {bs_InvalidText bm_InvalidText sub_InvalidText : List Value} {sn_InvalidText : List Str} {ab_InvalidText : Bool} {col_InvalidText : Option Bool} {dd_InvalidText od_InvalidText an_InvalidText cdd_InvalidText cld_InvalidText : Option Addr} {k0_InvalidText k1_InvalidText k2_InvalidText k3_InvalidText k5_InvalidText : Option Value} {oc_InvalidText dc_InvalidText pm_InvalidText ct_InvalidText ccl_InvalidText cl_InvalidText : Value} {sl_InvalidText ccs_InvalidText csl_InvalidText : Array (Option Value)} {vs_InvalidText : Array Value} {tf_InvalidText : Tok}
    (a0 : PySem.W.nsIn K mainGlobals "_law_well" = some (some (.ref f0)))
    (l0 : K.lookup f0 = some ⟨oc0, od0, .func (PySem.W.fnOf "_law_well" "_law_well" (defArgs s__law_well) (defBody s__law_well) (defScope s__law_well) .none kV0 dc0 pm0 an0 cd0 ct0), sl0⟩)
    (c0 : PySem.W.codeIn K cd0 "_law_well" = true)
    (k0 : PySem.W.keepIn K (.ref f0) = true)
    (a1 : PySem.W.nsIn K mainGlobals "is_whole" = some (some (.ref f1)))
    (l1 : K.lookup f1 = some ⟨oc1, od1, .func (PySem.W.fnOf "is_whole" "is_whole" (defArgs s_is_whole) (defBody s_is_whole) (defScope s_is_whole) .none kV1 dc1 pm1 an1 cd1 ct1), sl1⟩)
    (c1 : PySem.W.codeIn K cd1 "is_whole" = true)
    (k1 : PySem.W.keepIn K (.ref f1) = true)
    (a2 : PySem.W.nsIn K mainGlobals "is_row" = some (some (.ref f2)))
    (l2 : K.lookup f2 = some ⟨oc2, od2, .func (PySem.W.fnOf "is_row" "is_row" (defArgs s_is_row) (defBody s_is_row) (defScope s_is_row) .none kV2 dc2 pm2 an2 cd2 ct2), sl2⟩)
    (c2 : PySem.W.codeIn K cd2 "is_row" = true)
    (k2 : PySem.W.keepIn K (.ref f2) = true)
    (a3 : PySem.W.nsIn K mainGlobals "is_ascending" = some (some (.ref f3)))
    (l3 : K.lookup f3 = some ⟨oc3, od3, .func (PySem.W.fnOf "is_ascending" "is_ascending" (defArgs s_is_ascending) (defBody s_is_ascending) (defScope s_is_ascending) .none kV3 dc3 pm3 an3 cd3 ct3), sl3⟩)
    (c3 : PySem.W.codeIn K cd3 "is_ascending" = true)
    (k3 : PySem.W.keepIn K (.ref f3) = true)
    (a4 : PySem.W.nsIn K mainGlobals "are_whole" = some (some (.ref f4)))
    (l4 : K.lookup f4 = some ⟨oc4, od4, .func (PySem.W.fnOf "are_whole" "are_whole" (defArgs s_are_whole) (defBody s_are_whole) (defScope s_are_whole) .none kV4 dc4 pm4 an4 cd4 ct4), sl4⟩)
    (c4 : PySem.W.codeIn K cd4 "are_whole" = true)
    (k4 : PySem.W.keepIn K (.ref f4) = true)
    (a5 : PySem.W.nsIn K mainGlobals "is_whole_row" = some (some (.ref f5)))
    (l5 : K.lookup f5 = some ⟨oc5, od5, .func (PySem.W.fnOf "is_whole_row" "is_whole_row" (defArgs s_is_whole_row) (defBody s_is_whole_row) (defScope s_is_whole_row) .none kV5 dc5 pm5 an5 cd5 ct5), sl5⟩)
    (c5 : PySem.W.codeIn K cd5 "is_whole_row" = true)
    (k5 : PySem.W.keepIn K (.ref f5) = true)
    (a6 : PySem.W.nsIn K mainGlobals "_could_be_edge" = some (some (.ref f6)))
    (l6 : K.lookup f6 = some ⟨oc6, od6, .func (PySem.W.fnOf "_could_be_edge" "_could_be_edge" (defArgs s__could_be_edge) (defBody s__could_be_edge) (defScope s__could_be_edge) .none kV6 dc6 pm6 an6 cd6 ct6), sl6⟩)
    (c6 : PySem.W.codeIn K cd6 "_could_be_edge" = true)
    (k6 : PySem.W.keepIn K (.ref f6) = true)
    (a7 : PySem.W.nsIn K mainGlobals "is_graph" = some (some (.ref f7)))
    (l7 : K.lookup f7 = some ⟨oc7, od7, .func (PySem.W.fnOf "is_graph" "is_graph" (defArgs s_is_graph) (defBody s_is_graph) (defScope s_is_graph) .none kV7 dc7 pm7 an7 cd7 ct7), sl7⟩)
    (c7 : PySem.W.codeIn K cd7 "is_graph" = true)
    (k7 : PySem.W.keepIn K (.ref f7) = true)
    (a8 : PySem.W.nsIn K mainGlobals "check_graph" = some (some (.ref f8)))
    (l8 : K.lookup f8 = some ⟨oc8, od8, .func (PySem.W.fnOf "check_graph" "check_graph" (defArgs s_check_graph) (defBody s_check_graph) (defScope s_check_graph) .none kV8 dc8 pm8 an8 cd8 ct8), sl8⟩)
    (c8 : PySem.W.codeIn K cd8 "check_graph" = true)
    (k8 : PySem.W.keepIn K (.ref f8) = true)
    (a9 : PySem.W.nsIn K mainGlobals "joined_up" = some (some (.ref f9)))
    (l9 : K.lookup f9 = some ⟨oc9, od9, .func (PySem.W.fnOf "joined_up" "joined_up" (defArgs s_joined_up) (defBody s_joined_up) (defScope s_joined_up) .none kV9 dc9 pm9 an9 cd9 ct9), sl9⟩)
    (c9 : PySem.W.codeIn K cd9 "joined_up" = true)
    (k9 : PySem.W.keepIn K (.ref f9) = true)
    (a10 : PySem.W.nsIn K mainGlobals "show_graph" = some (some (.ref f10)))
    (l10 : K.lookup f10 = some ⟨oc10, od10, .func (PySem.W.fnOf "show_graph" "show_graph" (defArgs s_show_graph) (defBody s_show_graph) (defScope s_show_graph) .none kV10 dc10 pm10 an10 cd10 ct10), sl10⟩)
    (c10 : PySem.W.codeIn K cd10 "show_graph" = true)
    (k10 : PySem.W.keepIn K (.ref f10) = true)
    (a11 : PySem.W.nsIn K mainGlobals "words_of" = some (some (.ref f11)))
    (l11 : K.lookup f11 = some ⟨oc11, od11, .func (PySem.W.fnOf "words_of" "words_of" (defArgs s_words_of) (defBody s_words_of) (defScope s_words_of) .none kV11 dc11 pm11 an11 cd11 ct11), sl11⟩)
    (c11 : PySem.W.codeIn K cd11 "words_of" = true)
    (k11 : PySem.W.keepIn K (.ref f11) = true)
    (a12 : PySem.W.nsIn K mainGlobals "number_told" = some (some (.ref f12)))
    (l12 : K.lookup f12 = some ⟨oc12, od12, .func (PySem.W.fnOf "number_told" "number_told" (defArgs s_number_told) (defBody s_number_told) (defScope s_number_told) .none kV12 dc12 pm12 an12 cd12 ct12), sl12⟩)
    (c12 : PySem.W.codeIn K cd12 "number_told" = true)
    (k12 : PySem.W.keepIn K (.ref f12) = true)
    (a13 : PySem.W.nsIn K mainGlobals "_vertices_told" = some (some (.ref f13)))
    (l13 : K.lookup f13 = some ⟨oc13, od13, .func (PySem.W.fnOf "_vertices_told" "_vertices_told" (defArgs s__vertices_told) (defBody s__vertices_told) (defScope s__vertices_told) .none kV13 dc13 pm13 an13 cd13 ct13), sl13⟩)
    (c13 : PySem.W.codeIn K cd13 "_vertices_told" = true)
    (k13 : PySem.W.keepIn K (.ref f13) = true)
    (a14 : PySem.W.nsIn K mainGlobals "ends_told" = some (some (.ref f14)))
    (l14 : K.lookup f14 = some ⟨oc14, od14, .func (PySem.W.fnOf "ends_told" "ends_told" (defArgs s_ends_told) (defBody s_ends_told) (defScope s_ends_told) .none kV14 dc14 pm14 an14 cd14 ct14), sl14⟩)
    (c14 : PySem.W.codeIn K cd14 "ends_told" = true)
    (k14 : PySem.W.keepIn K (.ref f14) = true)
    (a15 : PySem.W.nsIn K mainGlobals "_edge_told" = some (some (.ref f15)))
    (l15 : K.lookup f15 = some ⟨oc15, od15, .func (PySem.W.fnOf "_edge_told" "_edge_told" (defArgs s__edge_told) (defBody s__edge_told) (defScope s__edge_told) .none kV15 dc15 pm15 an15 cd15 ct15), sl15⟩)
    (c15 : PySem.W.codeIn K cd15 "_edge_told" = true)
    (k15 : PySem.W.keepIn K (.ref f15) = true)
    (a16 : PySem.W.nsIn K mainGlobals "read_graph" = some (some (.ref f16)))
    (l16 : K.lookup f16 = some ⟨oc16, od16, .func (PySem.W.fnOf "read_graph" "read_graph" (defArgs s_read_graph) (defBody s_read_graph) (defScope s_read_graph) .none kV16 dc16 pm16 an16 cd16 ct16), sl16⟩)
    (c16 : PySem.W.codeIn K cd16 "read_graph" = true)
    (k16 : PySem.W.keepIn K (.ref f16) = true)
    (a17 : PySem.W.nsIn K mainGlobals "_law_draw" = some (some (.ref f17)))
    (l17 : K.lookup f17 = some ⟨oc17, od17, .func (PySem.W.fnOf "_law_draw" "_law_draw" (defArgs s__law_draw) (defBody s__law_draw) (defScope s__law_draw) .none kV17 dc17 pm17 an17 cd17 ct17), sl17⟩)
    (c17 : PySem.W.codeIn K cd17 "_law_draw" = true)
    (k17 : PySem.W.keepIn K (.ref f17) = true)
    (a18 : PySem.W.nsIn K mainGlobals "_law_pick" = some (some (.ref f18)))
    (l18 : K.lookup f18 = some ⟨oc18, od18, .func (PySem.W.fnOf "_law_pick" "_law_pick" (defArgs s__law_pick) (defBody s__law_pick) (defScope s__law_pick) .none kV18 dc18 pm18 an18 cd18 ct18), sl18⟩)
    (c18 : PySem.W.codeIn K cd18 "_law_pick" = true)
    (k18 : PySem.W.keepIn K (.ref f18) = true)
    (a19 : PySem.W.nsIn K mainGlobals "_law_kept" = some (some (.ref f19)))
    (l19 : K.lookup f19 = some ⟨oc19, od19, .func (PySem.W.fnOf "_law_kept" "_law_kept" (defArgs s__law_kept) (defBody s__law_kept) (defScope s__law_kept) .none kV19 dc19 pm19 an19 cd19 ct19), sl19⟩)
    (c19 : PySem.W.codeIn K cd19 "_law_kept" = true)
    (k19 : PySem.W.keepIn K (.ref f19) = true)
    (a20 : PySem.W.nsIn K mainGlobals "_law_edges_of" = some (some (.ref f20)))
    (l20 : K.lookup f20 = some ⟨oc20, od20, .func (PySem.W.fnOf "_law_edges_of" "_law_edges_of" (defArgs s__law_edges_of) (defBody s__law_edges_of) (defScope s__law_edges_of) .none kV20 dc20 pm20 an20 cd20 ct20), sl20⟩)
    (c20 : PySem.W.codeIn K cd20 "_law_edges_of" = true)
    (k20 : PySem.W.keepIn K (.ref f20) = true)
    (a21 : PySem.W.nsIn K mainGlobals "_law_family" = some (some (.ref f21)))
    (l21 : K.lookup f21 = some ⟨oc21, od21, .func (PySem.W.fnOf "_law_family" "_law_family" (defArgs s__law_family) (defBody s__law_family) (defScope s__law_family) .none kV21 dc21 pm21 an21 cd21 ct21), sl21⟩)
    (c21 : PySem.W.codeIn K cd21 "_law_family" = true)
    (k21 : PySem.W.keepIn K (.ref f21) = true)
    (a22 : PySem.W.nsIn K mainGlobals "_law_order" = some (some (.ref f22)))
    (l22 : K.lookup f22 = some ⟨oc22, od22, .func (PySem.W.fnOf "_law_order" "_law_order" (defArgs s__law_order) (defBody s__law_order) (defScope s__law_order) .none kV22 dc22 pm22 an22 cd22 ct22), sl22⟩)
    (c22 : PySem.W.codeIn K cd22 "_law_order" = true)
    (k22 : PySem.W.keepIn K (.ref f22) = true)
    (a23 : PySem.W.nsIn K mainGlobals "_law_named" = some (some (.ref f23)))
    (l23 : K.lookup f23 = some ⟨oc23, od23, .func (PySem.W.fnOf "_law_named" "_law_named" (defArgs s__law_named) (defBody s__law_named) (defScope s__law_named) .none kV23 dc23 pm23 an23 cd23 ct23), sl23⟩)
    (c23 : PySem.W.codeIn K cd23 "_law_named" = true)
    (k23 : PySem.W.keepIn K (.ref f23) = true)
    (a24 : PySem.W.nsIn K mainGlobals "_law_pairs_of" = some (some (.ref f24)))
    (l24 : K.lookup f24 = some ⟨oc24, od24, .func (PySem.W.fnOf "_law_pairs_of" "_law_pairs_of" (defArgs s__law_pairs_of) (defBody s__law_pairs_of) (defScope s__law_pairs_of) .none kV24 dc24 pm24 an24 cd24 ct24), sl24⟩)
    (c24 : PySem.W.codeIn K cd24 "_law_pairs_of" = true)
    (k24 : PySem.W.keepIn K (.ref f24) = true)
    (a25 : PySem.W.nsIn K mainGlobals "_law_graph" = some (some (.ref f25)))
    (l25 : K.lookup f25 = some ⟨oc25, od25, .func (PySem.W.fnOf "_law_graph" "_law_graph" (defArgs s__law_graph) (defBody s__law_graph) (defScope s__law_graph) .none kV25 dc25 pm25 an25 cd25 ct25), sl25⟩)
    (c25 : PySem.W.codeIn K cd25 "_law_graph" = true)
    (k25 : PySem.W.keepIn K (.ref f25) = true)
    (a26 : PySem.W.nsIn K mainGlobals "_law_full" = some (some (.ref f26)))
    (l26 : K.lookup f26 = some ⟨oc26, od26, .func (PySem.W.fnOf "_law_full" "_law_full" (defArgs s__law_full) (defBody s__law_full) (defScope s__law_full) .none kV26 dc26 pm26 an26 cd26 ct26), sl26⟩)
    (c26 : PySem.W.codeIn K cd26 "_law_full" = true)
    (k26 : PySem.W.keepIn K (.ref f26) = true)
    (a27 : PySem.W.nsIn K mainGlobals "_law_text" = some (some (.ref f27)))
    (l27 : K.lookup f27 = some ⟨oc27, od27, .func (PySem.W.fnOf "_law_text" "_law_text" (defArgs s__law_text) (defBody s__law_text) (defScope s__law_text) .none kV27 dc27 pm27 an27 cd27 ct27), sl27⟩)
    (c27 : PySem.W.codeIn K cd27 "_law_text" = true)
    (k27 : PySem.W.keepIn K (.ref f27) = true)
    (a28 : PySem.W.nsIn K mainGlobals "_law_blanks" = some (some (.ref f28)))
    (l28 : K.lookup f28 = some ⟨oc28, od28, .func (PySem.W.fnOf "_law_blanks" "_law_blanks" (defArgs s__law_blanks) (defBody s__law_blanks) (defScope s__law_blanks) .none kV28 dc28 pm28 an28 cd28 ct28), sl28⟩)
    (c28 : PySem.W.codeIn K cd28 "_law_blanks" = true)
    (k28 : PySem.W.keepIn K (.ref f28) = true)
    (a29 : PySem.W.nsIn K mainGlobals "_law_other_text" = some (some (.ref f29)))
    (l29 : K.lookup f29 = some ⟨oc29, od29, .func (PySem.W.fnOf "_law_other_text" "_law_other_text" (defArgs s__law_other_text) (defBody s__law_other_text) (defScope s__law_other_text) .none kV29 dc29 pm29 an29 cd29 ct29), sl29⟩)
    (c29 : PySem.W.codeIn K cd29 "_law_other_text" = true)
    (k29 : PySem.W.keepIn K (.ref f29) = true)
    (a30 : PySem.W.nsIn K mainGlobals "_law_right" = some (some (.ref f30)))
    (l30 : K.lookup f30 = some ⟨oc30, od30, .func (PySem.W.fnOf "_law_right" "_law_right" (defArgs s__law_right) (defBody s__law_right) (defScope s__law_right) .none kV30 dc30 pm30 an30 cd30 ct30), sl30⟩)
    (c30 : PySem.W.codeIn K cd30 "_law_right" = true)
    (k30 : PySem.W.keepIn K (.ref f30) = true)
    (a31 : PySem.W.nsIn K mainGlobals "law" = some (some (.ref f31)))
    (l31 : K.lookup f31 = some ⟨oc31, od31, .func (PySem.W.fnOf "law" "law" (defArgs s_law) (defBody s_law) (defScope s_law) .none kV31 dc31 pm31 an31 cd31 ct31), sl31⟩)
    (c31 : PySem.W.codeIn K cd31 "law" = true)
    (k31 : PySem.W.keepIn K (.ref f31) = true)
    (d0 : PySem.W.nsIn K mainGlobals "MOST_EDGES" = some (some (.int 24 u0)))
    (d1 : PySem.W.nsIn K mainGlobals "MOST_VERTICES" = some (some (.int 10 u1)))
    (z0 : PySem.W.nsIn K mainGlobals "abs" = some none)
    (z1 : PySem.W.nsIn K mainGlobals "all" = some none)
    (z2 : PySem.W.nsIn K mainGlobals "enumerate" = some none)
    (z3 : PySem.W.nsIn K mainGlobals "int" = some none)
    (z4 : PySem.W.nsIn K mainGlobals "len" = some none)
    (z5 : PySem.W.nsIn K mainGlobals "list" = some none)
    (z6 : PySem.W.nsIn K mainGlobals "max" = some none)
    (z7 : PySem.W.nsIn K mainGlobals "min" = some none)
    (z8 : PySem.W.nsIn K mainGlobals "range" = some none)
    (z9 : PySem.W.nsIn K mainGlobals "repr" = some none)
    (z10 : PySem.W.nsIn K mainGlobals "sorted" = some none)
    (z11 : PySem.W.nsIn K mainGlobals "str" = some none)
    (z12 : PySem.W.nsIn K mainGlobals "tuple" = some none)
    (z13 : PySem.W.nsIn K mainGlobals "type" = some none)
    (zg0 : PySem.W.nsIn K mainGlobals "super" = some none)
    (zg1 : PySem.W.nsIn K cStatics "thirdparty.any" = some none)
    (zg2 : (P.main.scope.names.lookup ("super" : Str)).isSome = false)
    (zg3 : PySem.W.specialIn K (.builtin "object.__class__") "__get__" = some (some (.builtin "getset_descriptor.__get__")))
    (zg4 : PySem.W.takesIn K (.builtin "object.__class__") = some true)
    (ea_InvalidGraph : PySem.W.nsIn K mainGlobals "InvalidGraph" = some (some (.ref C_InvalidGraph)))
    (el_InvalidGraph : K.lookup C_InvalidGraph = some (PySem.excClassObj nm_InvalidGraph q_InvalidGraph C_InvalidGraph N_InvalidGraph bs_InvalidGraph bm_InvalidGraph true sn_InvalidGraph sub_InvalidGraph ab_InvalidGraph col_InvalidGraph dd_InvalidGraph k0_InvalidGraph k1_InvalidGraph k2_InvalidGraph k3_InvalidGraph k5_InvalidGraph "ValueError.__new__"))
    (er_InvalidGraph : PySem.HandSPX.refsVE bm_InvalidGraph = true)
    (e1_InvalidGraph : PySem.W.findIn K (.ref C_InvalidGraph) "__setattr__" = some (some (.builtin "object.__setattr__")))
    (e2_InvalidGraph : PySem.W.findIn K (.ref C_InvalidGraph) "__getattribute__" = some (some (.builtin "BaseException.__getattribute__")))
    (e3_InvalidGraph : PySem.W.findIn K (.ref C_InvalidGraph) "__getattr__" = some none)
    (e4_InvalidGraph : PySem.W.subIn K (.ref C_InvalidGraph) (.type "BaseException") = some true)
    (e5_InvalidGraph : PySem.W.hasDictIn K C_InvalidGraph = true)
    (e6_InvalidGraph : PySem.W.findIn K (.ref C_InvalidGraph) "given" = some none)
    (e7_InvalidGraph : PySem.W.findIn K (.ref C_InvalidGraph) "__init__" = some (some (.ref fI_InvalidGraph)))
    (e8_InvalidGraph : PySem.W.typeIn K (.ref fI_InvalidGraph) = some (.type "function"))
    (e9_InvalidGraph : PySem.W.keepIn K (.ref C_InvalidGraph) = true)
    (e10_InvalidGraph : PySem.W.typeIn K (.ref C_InvalidGraph) = some (.type "type"))
    (e11_InvalidGraph : PySem.W.exmOne K (.ref C_InvalidGraph) (.ref C_InvalidGraph) = some true)
    (e12_InvalidGraph : PySem.W.ks_superIn K C_InvalidGraph C_InvalidGraph "__init__" = some (some (.builtin "ValueError.__init__")))
    (e13_InvalidGraph : PySem.W.subIn K (.ref C_InvalidGraph) (.type "ValueError") = some true)
    (e14_InvalidGraph : PySem.W.mroIn K C_InvalidGraph (.ref C_InvalidGraph) = some true)
    (e15_InvalidGraph : (PySem.W.clsIn K C_InvalidGraph).isSome = true)
    (e16_InvalidGraph : PySem.W.findIn K (.ref C_InvalidGraph) "__class__" = some (some (.builtin "object.__class__")))
    (e17_InvalidGraph : PySem.W.mroIn K C_InvalidGraph (.type "object") = some true)
    (f1_InvalidGraph : K.lookup fI_InvalidGraph = some ⟨oc_InvalidGraph, od_InvalidGraph, .func (PySem.W.ksFn "__init__" "InvalidGraph.__init__" (defArgs s_InvalidGraph_init) (defBody s_InvalidGraph_init) (defScope s_InvalidGraph_init) .none .none dc_InvalidGraph pm_InvalidGraph an_InvalidGraph (.ref cda_InvalidGraph) ct_InvalidGraph xx_InvalidGraph), sl_InvalidGraph⟩)
    (f2_InvalidGraph : PySem.W.codeIn K (.ref cda_InvalidGraph) "InvalidGraph.__init__" = true)
    (f3_InvalidGraph : K.lookup cda_InvalidGraph = some ⟨ccl_InvalidGraph, cdd_InvalidGraph, .fields vs_InvalidGraph, ccs_InvalidGraph⟩)
    (f4_InvalidGraph : vs_InvalidGraph[2]? = some (.str fl_InvalidGraph tf_InvalidGraph))
    (f5_InvalidGraph : ((P.main.file : Str) == fl_InvalidGraph) = true)
    (f6_InvalidGraph : K.lookup xx_InvalidGraph = some ⟨cl_InvalidGraph, cld_InvalidGraph, .cell (some (.ref C_InvalidGraph)), csl_InvalidGraph⟩)
    (ea_InvalidText : PySem.W.nsIn K mainGlobals "InvalidText" = some (some (.ref C_InvalidText)))
    (el_InvalidText : K.lookup C_InvalidText = some (PySem.excClassObj nm_InvalidText q_InvalidText C_InvalidText N_InvalidText bs_InvalidText bm_InvalidText true sn_InvalidText sub_InvalidText ab_InvalidText col_InvalidText dd_InvalidText k0_InvalidText k1_InvalidText k2_InvalidText k3_InvalidText k5_InvalidText "ValueError.__new__"))
    (er_InvalidText : PySem.HandSPX.refsVE bm_InvalidText = true)
    (e1_InvalidText : PySem.W.findIn K (.ref C_InvalidText) "__setattr__" = some (some (.builtin "object.__setattr__")))
    (e2_InvalidText : PySem.W.findIn K (.ref C_InvalidText) "__getattribute__" = some (some (.builtin "BaseException.__getattribute__")))
    (e3_InvalidText : PySem.W.findIn K (.ref C_InvalidText) "__getattr__" = some none)
    (e4_InvalidText : PySem.W.subIn K (.ref C_InvalidText) (.type "BaseException") = some true)
    (e5_InvalidText : PySem.W.hasDictIn K C_InvalidText = true)
    (e6_InvalidText : PySem.W.findIn K (.ref C_InvalidText) "index" = some none)
    (e7_InvalidText : PySem.W.findIn K (.ref C_InvalidText) "__init__" = some (some (.ref fI_InvalidText)))
    (e8_InvalidText : PySem.W.typeIn K (.ref fI_InvalidText) = some (.type "function"))
    (e9_InvalidText : PySem.W.keepIn K (.ref C_InvalidText) = true)
    (e10_InvalidText : PySem.W.typeIn K (.ref C_InvalidText) = some (.type "type"))
    (e11_InvalidText : PySem.W.exmOne K (.ref C_InvalidText) (.ref C_InvalidText) = some true)
    (e12_InvalidText : PySem.W.ks_superIn K C_InvalidText C_InvalidText "__init__" = some (some (.builtin "ValueError.__init__")))
    (e13_InvalidText : PySem.W.subIn K (.ref C_InvalidText) (.type "ValueError") = some true)
    (e14_InvalidText : PySem.W.mroIn K C_InvalidText (.ref C_InvalidText) = some true)
    (e15_InvalidText : (PySem.W.clsIn K C_InvalidText).isSome = true)
    (e16_InvalidText : PySem.W.findIn K (.ref C_InvalidText) "__class__" = some (some (.builtin "object.__class__")))
    (e17_InvalidText : PySem.W.mroIn K C_InvalidText (.type "object") = some true)
    (f1_InvalidText : K.lookup fI_InvalidText = some ⟨oc_InvalidText, od_InvalidText, .func (PySem.W.ksFn "__init__" "InvalidText.__init__" (defArgs s_InvalidText_init) (defBody s_InvalidText_init) (defScope s_InvalidText_init) .none .none dc_InvalidText pm_InvalidText an_InvalidText (.ref cda_InvalidText) ct_InvalidText xx_InvalidText), sl_InvalidText⟩)
    (f2_InvalidText : PySem.W.codeIn K (.ref cda_InvalidText) "InvalidText.__init__" = true)
    (f3_InvalidText : K.lookup cda_InvalidText = some ⟨ccl_InvalidText, cdd_InvalidText, .fields vs_InvalidText, ccs_InvalidText⟩)
    (f4_InvalidText : vs_InvalidText[2]? = some (.str fl_InvalidText tf_InvalidText))
    (f5_InvalidText : ((P.main.file : Str) == fl_InvalidText) = true)
    (f6_InvalidText : K.lookup xx_InvalidText = some ⟨cl_InvalidText, cld_InvalidText, .cell (some (.ref C_InvalidText)), csl_InvalidText⟩) :
    ∃ (fd : FuncData) (ts : Tbs), ts.map (·.1) = ([] : List Str) ∧ TbsOk K h ts ∧ (∀ (s : Shared) (u : Value), BindsTo s fd ⟨[u], []⟩ [("script", u)]) ∧ ∀ base : Heap, K.In base → base.Ns mainGlobals mg → TbsAt mg base ts → FnG P w K mg base 9 fa fd ["script"] m_law := by
  have e := hfa.symm.trans (PySem.W.mg_of X G a31)
  cases e
  have hT : TbsOk K h ([] : Tbs) := ⟨fun p hp => absurd hp List.not_mem_nil,
    fun p hp => absurd hp List.not_mem_nil,
    fun p hp => absurd hp List.not_mem_nil, by simp⟩
  refine ⟨PySem.W.fnOf "law" "law" (defArgs s_law) (defBody s_law) (defScope s_law) .none kV31 dc31 pm31 an31 cd31 ct31, [], rfl, hT, fun s u => .of_eq rfl, fun base hin hns hat => ?_⟩
  exact ok_law (P := P) (w := w) (K := K) (mg := mg) (base := base) {
    a__law_well := f0, fd__law_well := _, F__law_well := fun_mk (st := s__law_well) l0 c0 k0, g__law_well := PySem.W.mg_of X G a0,
    a_is_whole := f1, fd_is_whole := _, F_is_whole := fun_mk (st := s_is_whole) l1 c1 k1, g_is_whole := PySem.W.mg_of X G a1,
    a_is_row := f2, fd_is_row := _, F_is_row := fun_mk (st := s_is_row) l2 c2 k2, g_is_row := PySem.W.mg_of X G a2,
    a_is_ascending := f3, fd_is_ascending := _, F_is_ascending := fun_mk (st := s_is_ascending) l3 c3 k3, g_is_ascending := PySem.W.mg_of X G a3,
    a_are_whole := f4, fd_are_whole := _, F_are_whole := fun_mk (st := s_are_whole) l4 c4 k4, g_are_whole := PySem.W.mg_of X G a4,
    a_is_whole_row := f5, fd_is_whole_row := _, F_is_whole_row := fun_mk (st := s_is_whole_row) l5 c5 k5, g_is_whole_row := PySem.W.mg_of X G a5,
    a__could_be_edge := f6, fd__could_be_edge := _, F__could_be_edge := fun_mk (st := s__could_be_edge) l6 c6 k6, g__could_be_edge := PySem.W.mg_of X G a6,
    a_is_graph := f7, fd_is_graph := _, F_is_graph := fun_mk (st := s_is_graph) l7 c7 k7, g_is_graph := PySem.W.mg_of X G a7,
    a_check_graph := f8, fd_check_graph := _, F_check_graph := fun_mk (st := s_check_graph) l8 c8 k8, g_check_graph := PySem.W.mg_of X G a8,
    a_joined_up := f9, fd_joined_up := _, F_joined_up := fun_mk (st := s_joined_up) l9 c9 k9, g_joined_up := PySem.W.mg_of X G a9,
    a_show_graph := f10, fd_show_graph := _, F_show_graph := fun_mk (st := s_show_graph) l10 c10 k10, g_show_graph := PySem.W.mg_of X G a10,
    a_words_of := f11, fd_words_of := _, F_words_of := fun_mk (st := s_words_of) l11 c11 k11, g_words_of := PySem.W.mg_of X G a11,
    a_number_told := f12, fd_number_told := _, F_number_told := fun_mk (st := s_number_told) l12 c12 k12, g_number_told := PySem.W.mg_of X G a12,
    a__vertices_told := f13, fd__vertices_told := _, F__vertices_told := fun_mk (st := s__vertices_told) l13 c13 k13, g__vertices_told := PySem.W.mg_of X G a13,
    a_ends_told := f14, fd_ends_told := _, F_ends_told := fun_mk (st := s_ends_told) l14 c14 k14, g_ends_told := PySem.W.mg_of X G a14,
    a__edge_told := f15, fd__edge_told := _, F__edge_told := fun_mk (st := s__edge_told) l15 c15 k15, g__edge_told := PySem.W.mg_of X G a15,
    a_read_graph := f16, fd_read_graph := _, F_read_graph := fun_mk (st := s_read_graph) l16 c16 k16, g_read_graph := PySem.W.mg_of X G a16,
    a__law_draw := f17, fd__law_draw := _, F__law_draw := fun_mk (st := s__law_draw) l17 c17 k17, g__law_draw := PySem.W.mg_of X G a17,
    a__law_pick := f18, fd__law_pick := _, F__law_pick := fun_mk (st := s__law_pick) l18 c18 k18, g__law_pick := PySem.W.mg_of X G a18,
    a__law_kept := f19, fd__law_kept := _, F__law_kept := fun_mk (st := s__law_kept) l19 c19 k19, g__law_kept := PySem.W.mg_of X G a19,
    a__law_edges_of := f20, fd__law_edges_of := _, F__law_edges_of := fun_mk (st := s__law_edges_of) l20 c20 k20, g__law_edges_of := PySem.W.mg_of X G a20,
    a__law_family := f21, fd__law_family := _, F__law_family := fun_mk (st := s__law_family) l21 c21 k21, g__law_family := PySem.W.mg_of X G a21,
    a__law_order := f22, fd__law_order := _, F__law_order := fun_mk (st := s__law_order) l22 c22 k22, g__law_order := PySem.W.mg_of X G a22,
    a__law_named := f23, fd__law_named := _, F__law_named := fun_mk (st := s__law_named) l23 c23 k23, g__law_named := PySem.W.mg_of X G a23,
    a__law_pairs_of := f24, fd__law_pairs_of := _, F__law_pairs_of := fun_mk (st := s__law_pairs_of) l24 c24 k24, g__law_pairs_of := PySem.W.mg_of X G a24,
    a__law_graph := f25, fd__law_graph := _, F__law_graph := fun_mk (st := s__law_graph) l25 c25 k25, g__law_graph := PySem.W.mg_of X G a25,
    a__law_full := f26, fd__law_full := _, F__law_full := fun_mk (st := s__law_full) l26 c26 k26, g__law_full := PySem.W.mg_of X G a26,
    a__law_text := f27, fd__law_text := _, F__law_text := fun_mk (st := s__law_text) l27 c27 k27, g__law_text := PySem.W.mg_of X G a27,
    a__law_blanks := f28, fd__law_blanks := _, F__law_blanks := fun_mk (st := s__law_blanks) l28 c28 k28, g__law_blanks := PySem.W.mg_of X G a28,
    a__law_other_text := f29, fd__law_other_text := _, F__law_other_text := fun_mk (st := s__law_other_text) l29 c29 k29, g__law_other_text := PySem.W.mg_of X G a29,
    a__law_right := f30, fd__law_right := _, F__law_right := fun_mk (st := s__law_right) l30 c30 k30, g__law_right := PySem.W.mg_of X G a30,
    a_law := fa, fd_law := _, F_law := fun_mk (st := s_law) l31 c31 k31, g_law := PySem.W.mg_of X G a31,
    t_MOST_EDGES := u0, c_MOST_EDGES := PySem.W.mg_of X G d0,
    t_MOST_VERTICES := u1, c_MOST_VERTICES := PySem.W.mg_of X G d1,
    n_abs := PySem.W.mg_none_of X G z0,
    n_all := PySem.W.mg_none_of X G z1,
    n_enumerate := PySem.W.mg_none_of X G z2,
    n_int := PySem.W.mg_none_of X G z3,
    n_len := PySem.W.mg_none_of X G z4,
    n_list := PySem.W.mg_none_of X G z5,
    n_max := PySem.W.mg_none_of X G z6,
    n_min := PySem.W.mg_none_of X G z7,
    n_range := PySem.W.mg_none_of X G z8,
    n_repr := PySem.W.mg_none_of X G z9,
    n_sorted := PySem.W.mg_none_of X G z10,
    n_str := PySem.W.mg_none_of X G z11,
    n_tuple := PySem.W.mg_none_of X G z12,
    n_type := PySem.W.mg_none_of X G z13,
    C_InvalidGraph := C_InvalidGraph, fI_InvalidGraph := fI_InvalidGraph, E_InvalidGraph := ⟨{ gC := PySem.W.mg_of X G ea_InvalidGraph, cls := ⟨_, _, _, _, _, _, _, _, _, _, _, _, _, _, _, el_InvalidGraph, er_InvalidGraph⟩, sa := e1_InvalidGraph, xf := ⟨e2_InvalidGraph, e3_InvalidGraph, e4_InvalidGraph, e5_InvalidGraph⟩, no := e6_InvalidGraph, iC := e7_InvalidGraph, tC := e8_InvalidGraph, kC := e9_InvalidGraph, tyC := e10_InvalidGraph, te := e11_InvalidGraph, sup := e12_InvalidGraph, inV := e13_InvalidGraph, inC := e14_InvalidGraph, opq := zg1, gS := PySem.W.mg_none_of X G zg0, top := zg2, fk := .inl rfl, fn := ⟨_, _, _, _, _, _, _, _, _, _, _, _, _, _, _, _, _, _, _, _, _, _, f1_InvalidGraph, f2_InvalidGraph, f3_InvalidGraph, f4_InvalidGraph, f5_InvalidGraph, f6_InvalidGraph, rows_InvalidGraph, head_InvalidGraph, names_InvalidGraph⟩ }, ea_InvalidGraph, ⟨⟨e2_InvalidGraph, e3_InvalidGraph, e4_InvalidGraph, e5_InvalidGraph⟩, e15_InvalidGraph, e16_InvalidGraph, zg3, zg4, e17_InvalidGraph⟩⟩,
    C_InvalidText := C_InvalidText, fI_InvalidText := fI_InvalidText, E_InvalidText := ⟨{ gC := PySem.W.mg_of X G ea_InvalidText, cls := ⟨_, _, _, _, _, _, _, _, _, _, _, _, _, _, _, el_InvalidText, er_InvalidText⟩, sa := e1_InvalidText, xf := ⟨e2_InvalidText, e3_InvalidText, e4_InvalidText, e5_InvalidText⟩, no := e6_InvalidText, iC := e7_InvalidText, tC := e8_InvalidText, kC := e9_InvalidText, tyC := e10_InvalidText, te := e11_InvalidText, sup := e12_InvalidText, inV := e13_InvalidText, inC := e14_InvalidText, opq := zg1, gS := PySem.W.mg_none_of X G zg0, top := zg2, fk := .inr rfl, fn := ⟨_, _, _, _, _, _, _, _, _, _, _, _, _, _, _, _, _, _, _, _, _, _, f1_InvalidText, f2_InvalidText, f3_InvalidText, f4_InvalidText, f5_InvalidText, f6_InvalidText, rows_InvalidText, head_InvalidText, names_InvalidText⟩ }, ea_InvalidText, ⟨⟨e2_InvalidText, e3_InvalidText, e4_InvalidText, e5_InvalidText⟩, e15_InvalidText, e16_InvalidText, zg3, zg4, e17_InvalidText⟩⟩ }
end Pr
end

section
set_option maxHeartbeats 4000000
/-! TxH: law k06, with the words of stage 3. -/
namespace Lx
open PySem PySem.W Mi TL Lw
def q6 : MS :=
  (sSeq (sLet 3 (mCall m__law_text (aCons (mVar 2) aNil)))
    (sSeq (sIf (mB (mOp2 (lift2 fNe) (mOpN (liftN fRepr) (aCons (mFr (lDisp (aCons (mCall m_show_graph (aCons (mVar 2) aNil)) (aCons (mCall m_show_graph (aCons (mVar 2) aNil)) aNil)))) aNil)) (mOpN (liftN fRepr) (aCons (mFr (lDisp (aCons (mVar 3) (aCons (mVar 3) aNil)))) aNil)))) (sRet (mC (.bool false))) sSkip)
    (sSeq (sLet 4 (mCall m__law_other_text (aCons (mVar 0) (aCons (mVar 2) aNil))))
    (sSeq (sIf (mB (mOp2 (lift2 fNe) (mOpN (liftN fRepr) (aCons (mFr (lDisp (aCons (mCall m_read_graph (aCons (mVar 3) aNil)) (aCons (mCall m_read_graph (aCons (mVar 4) aNil)) (aCons (mCall m_read_graph (aCons (mVar 4) aNil)) aNil))))) aNil)) (mOpN (liftN fRepr) (aCons (mFr (lDisp (aCons (mVar 2) (aCons (mVar 2) (aCons (mVar 2) aNil))))) aNil)))) (sRet (mC (.bool false))) sSkip)
    (sSeq (sLet 5 (mCall m__law_graph (aCons (mVar 0) (aCons (mC (.int 10)) (aCons (mC (.int 24)) aNil)))))
    (sIf (mB (mOp2 (lift2 fNe) (mOp2 (lift2 fEq) (mCall m_show_graph (aCons (mVar 5) aNil)) (mVar 3)) (mOp2 (lift2 fEq) (mVar 5) (mVar 2)))) (sRet (mC (.bool false))) sSkip))))))
def R6 (A : Arn) (n : Nat) (s : Slt) (C : Arn) : Prop := (∃ y1 y2 y3 y4 y5 : Option D, s = [some (.ref n), y1, y2, y3, y4, y5]) ∧ Lg A n C
theorem part6 {A C : Arn} {n v : Nat} {es : List Ed} {x : D} {y3 y4 y5 : Option D} {N : Slt → Arn → Prop} {R : D → Arn → Prop} (hw : Wl A n) (hp : plain A) (hC : Lg A n C) (ok : GOkay v es) (h : ∀ s C', R6 A n s C' → N s C') :
    (q6 [some (.ref n), some x, some (.p (encG v es)), y3, y4, y5] C).To N R := by
  unfold q6
  simp
  refine (law_text (hC.plain hp) ok).mono ?_
  rintro _ C1 ⟨rfl, rfl⟩
  refine (show_graph (hC.plain hp) ok).mono ?_
  rintro _ C2 ⟨rfl, rfl⟩
  simp
  refine (show_graph (hC.plain hp) ok).mono ?_
  rintro _ C3 ⟨rfl, rfl⟩
  have hr := (th_SS (tS_sm ok)).repr
  simp [hr]
  refine (other_text (hC.wl hw) (hC.plain hp) ok).mono ?_
  rintro _ C4 ⟨⟨z, qs, rfl, rd, e⟩, u⟩
  have hC4 := hC.draw hw u
  obtain ⟨rd0, e0⟩ := rd_shown ok
  have r0 := read_rd (A := C4) (hC4.plain hp) rd0
  have r1 := read_rd (A := C4) (hC4.plain hp) rd
  rw [e0] at r0
  rw [e] at r1
  refine r0.mono ?_
  rintro _ C5 ⟨rfl, rfl⟩
  refine r1.mono ?_
  rintro _ C6 ⟨rfl, rfl⟩
  simp
  refine r1.mono ?_
  rintro _ C7 ⟨rfl, rfl⟩
  have hr3 := (th_G3 (sm_G (v := (v : Int)) (es := es) (by have := ok.lo; have := ok.hi; omega) ok.lo_ (by have := ok.len; omega))).repr
  simp [hr3]
  refine (graph (m := 10) (e := 24) (hC4.wl hw) (hC4.plain hp) (by omega) (by omega) (by omega) (by omega)).mono ?_
  rintro _ C8 ⟨⟨w, fs, rfl, okf, _, _⟩, u8⟩
  have hC8 := hC4.draw hw u8
  have wlo := okf.lo
  obtain ⟨w, rfl⟩ := Int.eq_ofNat_of_zero_le (show 0 ≤ w by omega)
  refine (show_graph (hC8.plain hp) okf).mono ?_
  rintro _ C9 ⟨rfl, rfl⟩
  have hs := eq_ss (tS_ok okf.fig (v := w)) (tS_ok ok.fig (v := v))
  have hi := tS_inj (v := w) (w := v) okf.fig ok.fig
  have hd : decide (tS w fs = tS v es) = decide ((w : Int) = (v : Int) ∧ fs = es) := by
    rw [Bool.eq_iff_iff, decide_eq_true_eq, decide_eq_true_eq]
    exact hi
  rw [hd] at hs
  simp only [lift2_p, hs, eq_gg, Option.map_some, To_o1, ne_bb]
  simp [ne_bb]
  exact h _ _ ⟨⟨_, _, _, _, _, rfl⟩, hC8⟩
theorem right6 {A : Arn} {n : Nat} (hw : Wl A n) (hp : plain A) : (Pr.m__law_right [.ref n] A).To fun r A' => r = .p (.bool true) ∧ Wup A n A' := by
  have hlt := hw.lt
  unfold Pr.m__law_right
  refine To_def ?_
  show ((sSeq (sFor _ _ (sSeq _ q6)) _) _ _).To _ _
  simp
  refine To_iR1 ?_
  simp
  refine ⟨by unfold small; omega, ?_⟩
  refine forL_to (fun _ s C => R6 A n s C) ?_ ⟨⟨_, _, _, _, _, rfl⟩, Lg.refl hw⟩ ?_
  · rintro i x s C hx ⟨⟨y1, y2, y3, y4, y5, rfl⟩, hC⟩
    simp
    refine (draw (hC.wl hw) (hC.plain hp) (k := 5) (by omega) (by omega)).mono ?_
    rintro _ C1 ⟨⟨r, rfl, _, _⟩, u1⟩
    have hC1 := hC.draw hw u1
    by_cases c : r = 0
    · simp [c]
      refine (fullG (e := 24) (hC1.wl hw) (hC1.plain hp) (by omega)).mono ?_
      rintro _ C2 ⟨⟨es, rfl, ok⟩, u2⟩
      exact part6 hw hp (hC1.draw hw u2) ok fun s C' h => h
    · simp [c]
      refine (graph (m := 10) (e := 24) (hC1.wl hw) (hC1.plain hp) (by omega) (by omega) (by omega) (by omega)).mono ?_
      rintro _ C2 ⟨⟨w, es, rfl, ok, _, _⟩, u2⟩
      have wlo := ok.lo
      obtain ⟨w, rfl⟩ := Int.eq_ofNat_of_zero_le (show 0 ≤ w by omega)
      exact part6 hw hp (hC1.draw hw u2) ok fun s C' h => h
  · rintro s C ⟨⟨y1, y2, y3, y4, y5, rfl⟩, hC⟩
    exact hC.close hp ⟨rfl, hC.take⟩
def LwI (ns : List Int) (s : Slt) (C : Arn) : Prop := (∃ y : Option D, s = [some (.scr ns), y]) ∧ plain C
theorem law6 {ns : List Int} (h : ns.length ≤ 63) : (Pr.m_law [.scr ns] (([] : List PySem.Str).map O.tab)).To fun r A' => r = .p (.bool true) := by
  have hlen : fLen [.list (ns.map PyData.int)] = some (.int ns.length) := by
    unfold fLen
    dsimp only
    rw [if_pos (by rw [List.length_map]; omega), List.length_map]
  have hmin : fMin2 [.int ns.length, .int 4] = some (.int (if (4 : Int) < ns.length then 4 else ns.length)) := rfl
  have hmax : ∀ i : Int, fMax2 [.int 2, .int i] = some (.int (if i > 2 then i else 2)) := fun _ => rfl
  unfold Pr.m_law
  refine To_def ?_
  unfold Pr.b_law
  simp
  refine To_iR1 ?_
  simp [hlen, hmin, hmax]
  have hb : ∀ i : Int, 0 ≤ i → i ≤ 63 → small i := fun i _ _ => by unfold small; omega
  refine ⟨?_, ?_⟩
  · refine hb _ ?_ ?_ <;> (split <;> split <;> omega)
  · refine forL_to (fun _ s C => LwI ns s C) ?_ ⟨⟨none, rfl⟩, plain_nil⟩ ?_
    · rintro i x s C hx ⟨⟨y, rfl⟩, hp⟩
      obtain ⟨_, rfl⟩ := rangeD_get hx
      simp
      refine (well (t := i) hp h).mono ?_
      rintro _ _ ⟨rfl, a, b, c, rfl⟩
      refine (right6 (n := C.length) ⟨a, b, c, lst_iff.mp lst_new⟩ (plain_snoc hp)).mono ?_
      rintro _ C2 ⟨rfl, u⟩
      simp
      exact ⟨⟨_, rfl⟩, u.plain (plain_snoc hp)⟩
    · rintro s C ⟨⟨y, rfl⟩, hp⟩
      simp [hp]
end Lx
namespace Pr
open Mi
theorem law_true (ns : List Int) (h : ns.length ≤ 63) : ∃ A', m_law [.scr ns] (([] : List PySem.Str).map Mi.O.tab) = .ok (.p (.bool true)) A' := by
  obtain ⟨a, A', e, rfl⟩ := (Lx.law6 h).ex
  exact ⟨A', e⟩
end Pr
end

open PySem PySem.W PyProof.Rows
set_option maxRecDepth 100000 in
set_option maxHeartbeats 0 in
theorem PySem.Challenge.cw_linkless_k06_texts_there_and_back_holds : PySem.Challenge.rw_linkless_k06_texts_there_and_back.Holds := by
  w_on; o_law; k_head; (case hw => w_witness2)
  k_fill
  refine Mi.law_ofT (l := PySem.Challenge.rw_linkless_k06_texts_there_and_back) (n := 63) (k := 9) (x := "script") (fm := Pr.m_law) (qs := []) rfl (by decide) rfl ⟨rfl, by decide, by decide⟩ (fun w h Y => PySem.W.kIn_of Y) ?F Pr.law_true
  case F =>
    intro w mg fa h Y KX G hmg
    refine' Pr.all_mk KX G hmg ?a0 ?l0 ?c0 ?k0 ?a1 ?l1 ?c1 ?k1 ?a2 ?l2 ?c2 ?k2 ?a3 ?l3 ?c3 ?k3 ?a4 ?l4 ?c4 ?k4 ?a5 ?l5 ?c5 ?k5 ?a6 ?l6 ?c6 ?k6 ?a7 ?l7 ?c7 ?k7 ?a8 ?l8 ?c8 ?k8 ?a9 ?l9 ?c9 ?k9 ?a10 ?l10 ?c10 ?k10 ?a11 ?l11 ?c11 ?k11 ?a12 ?l12 ?c12 ?k12 ?a13 ?l13 ?c13 ?k13 ?a14 ?l14 ?c14 ?k14 ?a15 ?l15 ?c15 ?k15 ?a16 ?l16 ?c16 ?k16 ?a17 ?l17 ?c17 ?k17 ?a18 ?l18 ?c18 ?k18 ?a19 ?l19 ?c19 ?k19 ?a20 ?l20 ?c20 ?k20 ?a21 ?l21 ?c21 ?k21 ?a22 ?l22 ?c22 ?k22 ?a23 ?l23 ?c23 ?k23 ?a24 ?l24 ?c24 ?k24 ?a25 ?l25 ?c25 ?k25 ?a26 ?l26 ?c26 ?k26 ?a27 ?l27 ?c27 ?k27 ?a28 ?l28 ?c28 ?k28 ?a29 ?l29 ?c29 ?k29 ?a30 ?l30 ?c30 ?k30 ?a31 ?l31 ?c31 ?k31 ?d0 ?d1 ?z0 ?z1 ?z2 ?z3 ?z4 ?z5 ?z6 ?z7 ?z8 ?z9 ?z10 ?z11 ?z12 ?z13 ?zg0 ?zg1 ?zg2 ?zg3 ?zg4 ?ea_InvalidGraph ?el_InvalidGraph ?er_InvalidGraph ?e1_InvalidGraph ?e2_InvalidGraph ?e3_InvalidGraph ?e4_InvalidGraph ?e5_InvalidGraph ?e6_InvalidGraph ?e7_InvalidGraph ?e8_InvalidGraph ?e9_InvalidGraph ?e10_InvalidGraph ?e11_InvalidGraph ?e12_InvalidGraph ?e13_InvalidGraph ?e14_InvalidGraph ?e15_InvalidGraph ?e16_InvalidGraph ?e17_InvalidGraph ?f1_InvalidGraph ?f2_InvalidGraph ?f3_InvalidGraph ?f4_InvalidGraph ?f5_InvalidGraph ?f6_InvalidGraph ?ea_InvalidText ?el_InvalidText ?er_InvalidText ?e1_InvalidText ?e2_InvalidText ?e3_InvalidText ?e4_InvalidText ?e5_InvalidText ?e6_InvalidText ?e7_InvalidText ?e8_InvalidText ?e9_InvalidText ?e10_InvalidText ?e11_InvalidText ?e12_InvalidText ?e13_InvalidText ?e14_InvalidText ?e15_InvalidText ?e16_InvalidText ?e17_InvalidText ?f1_InvalidText ?f2_InvalidText ?f3_InvalidText ?f4_InvalidText ?f5_InvalidText ?f6_InvalidText
    (case a0 => first | k_is | rfl | kernel_rfl); (case l0 => first | k_is | rfl | kernel_rfl); (case c0 => first | k_is | rfl | kernel_rfl); (case k0 => first | k_is | rfl | kernel_rfl); (case a1 => first | k_is | rfl | kernel_rfl); (case l1 => first | k_is | rfl | kernel_rfl)
    (case c1 => first | k_is | rfl | kernel_rfl); (case k1 => first | k_is | rfl | kernel_rfl); (case a2 => first | k_is | rfl | kernel_rfl); (case l2 => first | k_is | rfl | kernel_rfl); (case c2 => first | k_is | rfl | kernel_rfl); (case k2 => first | k_is | rfl | kernel_rfl)
    (case a3 => first | k_is | rfl | kernel_rfl); (case l3 => first | k_is | rfl | kernel_rfl); (case c3 => first | k_is | rfl | kernel_rfl); (case k3 => first | k_is | rfl | kernel_rfl); (case a4 => first | k_is | rfl | kernel_rfl); (case l4 => first | k_is | rfl | kernel_rfl)
    (case c4 => first | k_is | rfl | kernel_rfl); (case k4 => first | k_is | rfl | kernel_rfl); (case a5 => first | k_is | rfl | kernel_rfl); (case l5 => first | k_is | rfl | kernel_rfl); (case c5 => first | k_is | rfl | kernel_rfl); (case k5 => first | k_is | rfl | kernel_rfl)
    (case a6 => first | k_is | rfl | kernel_rfl); (case l6 => first | k_is | rfl | kernel_rfl); (case c6 => first | k_is | rfl | kernel_rfl); (case k6 => first | k_is | rfl | kernel_rfl); (case a7 => first | k_is | rfl | kernel_rfl); (case l7 => first | k_is | rfl | kernel_rfl)
    (case c7 => first | k_is | rfl | kernel_rfl); (case k7 => first | k_is | rfl | kernel_rfl); (case a8 => first | k_is | rfl | kernel_rfl); (case l8 => first | k_is | rfl | kernel_rfl); (case c8 => first | k_is | rfl | kernel_rfl); (case k8 => first | k_is | rfl | kernel_rfl)
    (case a9 => first | k_is | rfl | kernel_rfl); (case l9 => first | k_is | rfl | kernel_rfl); (case c9 => first | k_is | rfl | kernel_rfl); (case k9 => first | k_is | rfl | kernel_rfl); (case a10 => first | k_is | rfl | kernel_rfl); (case l10 => first | k_is | rfl | kernel_rfl)
    (case c10 => first | k_is | rfl | kernel_rfl); (case k10 => first | k_is | rfl | kernel_rfl); (case a11 => first | k_is | rfl | kernel_rfl); (case l11 => first | k_is | rfl | kernel_rfl); (case c11 => first | k_is | rfl | kernel_rfl); (case k11 => first | k_is | rfl | kernel_rfl)
    (case a12 => first | k_is | rfl | kernel_rfl); (case l12 => first | k_is | rfl | kernel_rfl); (case c12 => first | k_is | rfl | kernel_rfl); (case k12 => first | k_is | rfl | kernel_rfl); (case a13 => first | k_is | rfl | kernel_rfl); (case l13 => first | k_is | rfl | kernel_rfl)
    (case c13 => first | k_is | rfl | kernel_rfl); (case k13 => first | k_is | rfl | kernel_rfl); (case a14 => first | k_is | rfl | kernel_rfl); (case l14 => first | k_is | rfl | kernel_rfl); (case c14 => first | k_is | rfl | kernel_rfl); (case k14 => first | k_is | rfl | kernel_rfl)
    (case a15 => first | k_is | rfl | kernel_rfl); (case l15 => first | k_is | rfl | kernel_rfl); (case c15 => first | k_is | rfl | kernel_rfl); (case k15 => first | k_is | rfl | kernel_rfl); (case a16 => first | k_is | rfl | kernel_rfl); (case l16 => first | k_is | rfl | kernel_rfl)
    (case c16 => first | k_is | rfl | kernel_rfl); (case k16 => first | k_is | rfl | kernel_rfl); (case a17 => first | k_is | rfl | kernel_rfl); (case l17 => first | k_is | rfl | kernel_rfl); (case c17 => first | k_is | rfl | kernel_rfl); (case k17 => first | k_is | rfl | kernel_rfl)
    (case a18 => first | k_is | rfl | kernel_rfl); (case l18 => first | k_is | rfl | kernel_rfl); (case c18 => first | k_is | rfl | kernel_rfl); (case k18 => first | k_is | rfl | kernel_rfl); (case a19 => first | k_is | rfl | kernel_rfl); (case l19 => first | k_is | rfl | kernel_rfl)
    (case c19 => first | k_is | rfl | kernel_rfl); (case k19 => first | k_is | rfl | kernel_rfl); (case a20 => first | k_is | rfl | kernel_rfl); (case l20 => first | k_is | rfl | kernel_rfl); (case c20 => first | k_is | rfl | kernel_rfl); (case k20 => first | k_is | rfl | kernel_rfl)
    (case a21 => first | k_is | rfl | kernel_rfl); (case l21 => first | k_is | rfl | kernel_rfl); (case c21 => first | k_is | rfl | kernel_rfl); (case k21 => first | k_is | rfl | kernel_rfl); (case a22 => first | k_is | rfl | kernel_rfl); (case l22 => first | k_is | rfl | kernel_rfl)
    (case c22 => first | k_is | rfl | kernel_rfl); (case k22 => first | k_is | rfl | kernel_rfl); (case a23 => first | k_is | rfl | kernel_rfl); (case l23 => first | k_is | rfl | kernel_rfl); (case c23 => first | k_is | rfl | kernel_rfl); (case k23 => first | k_is | rfl | kernel_rfl)
    (case a24 => first | k_is | rfl | kernel_rfl); (case l24 => first | k_is | rfl | kernel_rfl); (case c24 => first | k_is | rfl | kernel_rfl); (case k24 => first | k_is | rfl | kernel_rfl); (case a25 => first | k_is | rfl | kernel_rfl); (case l25 => first | k_is | rfl | kernel_rfl)
    (case c25 => first | k_is | rfl | kernel_rfl); (case k25 => first | k_is | rfl | kernel_rfl); (case a26 => first | k_is | rfl | kernel_rfl); (case l26 => first | k_is | rfl | kernel_rfl); (case c26 => first | k_is | rfl | kernel_rfl); (case k26 => first | k_is | rfl | kernel_rfl)
    (case a27 => first | k_is | rfl | kernel_rfl); (case l27 => first | k_is | rfl | kernel_rfl); (case c27 => first | k_is | rfl | kernel_rfl); (case k27 => first | k_is | rfl | kernel_rfl); (case a28 => first | k_is | rfl | kernel_rfl); (case l28 => first | k_is | rfl | kernel_rfl)
    (case c28 => first | k_is | rfl | kernel_rfl); (case k28 => first | k_is | rfl | kernel_rfl); (case a29 => first | k_is | rfl | kernel_rfl); (case l29 => first | k_is | rfl | kernel_rfl); (case c29 => first | k_is | rfl | kernel_rfl); (case k29 => first | k_is | rfl | kernel_rfl)
    (case a30 => first | k_is | rfl | kernel_rfl); (case l30 => first | k_is | rfl | kernel_rfl); (case c30 => first | k_is | rfl | kernel_rfl); (case k30 => first | k_is | rfl | kernel_rfl); (case a31 => first | k_is | rfl | kernel_rfl); (case l31 => first | k_is | rfl | kernel_rfl)
    (case c31 => first | k_is | rfl | kernel_rfl); (case k31 => first | k_is | rfl | kernel_rfl); (case d0 => first | k_is | rfl | kernel_rfl); (case d1 => first | k_is | rfl | kernel_rfl); (case z0 => first | k_is | rfl | kernel_rfl); (case z1 => first | k_is | rfl | kernel_rfl)
    (case z2 => first | k_is | rfl | kernel_rfl); (case z3 => first | k_is | rfl | kernel_rfl); (case z4 => first | k_is | rfl | kernel_rfl); (case z5 => first | k_is | rfl | kernel_rfl); (case z6 => first | k_is | rfl | kernel_rfl); (case z7 => first | k_is | rfl | kernel_rfl)
    (case z8 => first | k_is | rfl | kernel_rfl); (case z9 => first | k_is | rfl | kernel_rfl); (case z10 => first | k_is | rfl | kernel_rfl); (case z11 => first | k_is | rfl | kernel_rfl); (case z12 => first | k_is | rfl | kernel_rfl); (case z13 => first | k_is | rfl | kernel_rfl)
    (case zg0 => first | k_is | rfl | kernel_rfl); (case zg1 => first | k_is | rfl | kernel_rfl); (case zg2 => first | rfl | decide +kernel); (case zg3 => first | k_is | rfl | kernel_rfl); (case zg4 => first | k_is | rfl | kernel_rfl); (case ea_InvalidGraph => first | k_is | rfl | kernel_rfl)
    (case el_InvalidGraph => first | k_is | rfl | kernel_rfl); (case er_InvalidGraph => first | rfl | decide +kernel); (case e1_InvalidGraph => first | k_is | rfl | kernel_rfl); (case e2_InvalidGraph => first | k_is | rfl | kernel_rfl); (case e3_InvalidGraph => first | k_is | rfl | kernel_rfl); (case e4_InvalidGraph => first | k_is | rfl | kernel_rfl)
    (case e5_InvalidGraph => first | k_is | rfl | kernel_rfl); (case e6_InvalidGraph => first | k_is | rfl | kernel_rfl); (case e7_InvalidGraph => first | k_is | rfl | kernel_rfl); (case e8_InvalidGraph => first | k_is | rfl | kernel_rfl); (case e9_InvalidGraph => first | k_is | rfl | kernel_rfl); (case e10_InvalidGraph => first | k_is | rfl | kernel_rfl)
    (case e11_InvalidGraph => first | k_is | rfl | kernel_rfl); (case e12_InvalidGraph => first | k_is | rfl | kernel_rfl); (case e13_InvalidGraph => first | k_is | rfl | kernel_rfl); (case e14_InvalidGraph => first | k_is | rfl | kernel_rfl); (case e15_InvalidGraph => first | k_is | rfl | kernel_rfl); (case e16_InvalidGraph => first | k_is | rfl | kernel_rfl)
    (case e17_InvalidGraph => first | k_is | rfl | kernel_rfl); (case f1_InvalidGraph => first | k_is | rfl | kernel_rfl); (case f2_InvalidGraph => first | k_is | rfl | kernel_rfl); (case f3_InvalidGraph => first | k_is | rfl | kernel_rfl); (case f4_InvalidGraph => rfl); (case f5_InvalidGraph => first | rfl | decide +kernel)
    (case f6_InvalidGraph => first | k_is | rfl | kernel_rfl); (case ea_InvalidText => first | k_is | rfl | kernel_rfl); (case el_InvalidText => first | k_is | rfl | kernel_rfl); (case er_InvalidText => first | rfl | decide +kernel); (case e1_InvalidText => first | k_is | rfl | kernel_rfl); (case e2_InvalidText => first | k_is | rfl | kernel_rfl)
    (case e3_InvalidText => first | k_is | rfl | kernel_rfl); (case e4_InvalidText => first | k_is | rfl | kernel_rfl); (case e5_InvalidText => first | k_is | rfl | kernel_rfl); (case e6_InvalidText => first | k_is | rfl | kernel_rfl); (case e7_InvalidText => first | k_is | rfl | kernel_rfl); (case e8_InvalidText => first | k_is | rfl | kernel_rfl)
    (case e9_InvalidText => first | k_is | rfl | kernel_rfl); (case e10_InvalidText => first | k_is | rfl | kernel_rfl); (case e11_InvalidText => first | k_is | rfl | kernel_rfl); (case e12_InvalidText => first | k_is | rfl | kernel_rfl); (case e13_InvalidText => first | k_is | rfl | kernel_rfl); (case e14_InvalidText => first | k_is | rfl | kernel_rfl)
    (case e15_InvalidText => first | k_is | rfl | kernel_rfl); (case e16_InvalidText => first | k_is | rfl | kernel_rfl); (case e17_InvalidText => first | k_is | rfl | kernel_rfl); (case f1_InvalidText => first | k_is | rfl | kernel_rfl); (case f2_InvalidText => first | k_is | rfl | kernel_rfl); (case f3_InvalidText => first | k_is | rfl | kernel_rfl)
    (case f4_InvalidText => rfl); (case f5_InvalidText => first | rfl | decide +kernel); (case f6_InvalidText => first | k_is | rfl | kernel_rfl)
