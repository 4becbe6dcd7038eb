import PyProof.Rows.All
import Wide.All
import OpenK.AllK
import Wide.FinOn
import HandS.ForMost
import HandS.Evl
import HandS.Deep
import HandS.ForExc
import HandS.Lambda
import KE.KNestM
import HandS.DictComp
import KE.KDictKeyed
import KE.KeyNested
import HandS.Iter
import HandS.TupAny
import HandS.IsInst
import HandS.SortInts
import HandS.SortRule
import HandS.More
import HandS.Text
import KE.DataCmp
import KE.SortData
import KE.SortCalls
import HandS.Conv
import HandS.Style
import HandS.RaiseMore
import HandS.SetBool
import HandS.TupSets
import KE.DataMinMax
import HandS.Star
import HandS.NoneIn
import KE.GoesEnumKw
import HandS.FStr
import KE.KExcSuper
import HandS.ExcField
import HandS.TryMany
import KE.KExcIs
import KE.GoesEnum
import PyProof.EnumMake
import HandS.Rev
import HandS.ExcValue
import PySem.Challenge.RW_linkless_k01_errors_each_of_its_own
set_option Elab.async false
set_option autoImplicit false
set_option linter.all false
set_option maxRecDepth 100000
section
set_option maxHeartbeats 4000000
namespace Mi
open PySem PySem.Spec PyProof.Rows L2

mutual
/-- the key that a datum is -/
def kN : PyData → Option NestedKey
  | .none => some .none
  | .int i => some (.num i)
  | .tuple xs => (kNs xs).map NestedKey.tup
  | .bool _ => Option.none
  | .str _ => Option.none
  | .list _ => Option.none
  | .dict _ => Option.none
def kNs : List PyData → Option (List NestedKey)
  | [] => some []
  | x :: xs => (kN x).bind fun k => (kNs xs).map fun ks => k :: ks
end
theorem kNs_cons {x : PyData} {xs : List PyData} {l : List NestedKey} (h : kNs (x :: xs) = some l) : ∃ k ks, kN x = some k ∧ kNs xs = some ks ∧ l = k :: ks := by
  simp only [kNs] at h
  cases e : kN x with
  | none => rw [e] at h; cases h
  | some k =>
    rw [e] at h
    simp only [Option.bind_some] at h
    cases e2 : kNs xs with
    | none => rw [e2] at h; cases h
    | some ks =>
      rw [e2] at h
      cases h
      exact ⟨k, ks, rfl, rfl, rfl⟩
theorem kN_tup {xs : List PyData} {l : NestedKey} (h : kN (.tuple xs) = some l) : ∃ ks, kNs xs = some ks ∧ l = .tup ks := by
  simp only [kN] at h
  cases e : kNs xs with
  | none => rw [e] at h; cases h
  | some ks =>
    rw [e] at h
    cases h
    exact ⟨ks, rfl, rfl⟩
mutual
/-- no text in it: its hash is no world's own -/
theorem hash_any (w w' : World) : ∀ (d : PyData) (k : NestedKey), kN d = some k → k.hash w = k.hash w'
  | .none, k, h => by simp only [kN] at h; cases h; simp only [NestedKey.hash]
  | .int i, k, h => by simp only [kN] at h; cases h; simp only [NestedKey.hash]
  | .tuple xs, k, h => by
    obtain ⟨ks, e, rfl⟩ := kN_tup h
    simp only [NestedKey.hash]
    rw [hashes_any w w' xs ks e]
  | .bool _, k, h => by simp only [kN] at h; cases h
  | .str _, k, h => by simp only [kN] at h; cases h
  | .list _, k, h => by simp only [kN] at h; cases h
  | .dict _, k, h => by simp only [kN] at h; cases h
theorem hashes_any (w w' : World) : ∀ (ds : List PyData) (ks : List NestedKey), kNs ds = some ks → NestedKey.hashes w ks = NestedKey.hashes w' ks
  | [], ks, h => by simp only [kNs] at h; cases h; simp only [NestedKey.hashes]
  | x :: xs, l, h => by
    obtain ⟨k, ks, e1, e2, rfl⟩ := kNs_cons h
    simp only [NestedKey.hashes]
    rw [hash_any w w' x k e1, hashes_any w w' xs ks e2]
end

abbrev Gent := NestedKey × Addr × V
def entN (w : World) (x : NestedKey × Addr × Value) : DictEntry := ⟨x.1.hash w, .ref x.2.1, x.2.2⟩
structure Gd0 (h : Heap) (a : Addr) (L : List Gent) : Prop where
  ex : ∃ (o : Obj) (es : Array DictEntry) (ep : Nat) (xs : List (NestedKey × Addr × Value)), h.get? a = some o ∧ o.ExactDict ∧ o.data = .dict es ep ∧ (∀ w, es.toList = xs.map (entN w)) ∧ (xs.map (·.1)).Nodup ∧ Paired (fun (l : Gent) (x : NestedKey × Addr × Value) => l.1 = x.1 ∧ l.2.1 = x.2.1 ∧ RelV l.2.2 x.2.2) L xs
  far : (a == sysModules) = false
  few : L.length ≤ sizeLine
def GdO (a : Addr) (L : List Gent) : HO := .ext fun h => Gd0 h a L
section
variable {P : Program} {w : World}
theorem Gd0.full {h : Heap} {a : Addr} {L : List Gent} (R : Gd0 h a L) (hk : ∀ l ∈ L, (nestedKind P w).is h l.1 l.2.1) :
    ∃ xs, h.DictOfH (nestedKind P w) a xs ∧ Paired (fun (l : Gent) (x : NestedKey × Addr × Value) => l.1 = x.1 ∧ l.2.1 = x.2.1 ∧ RelV l.2.2 x.2.2) L xs := by
  obtain ⟨o, es, ep, xs, h1, h2, h3, h4, h5, h6⟩ := R.ex
  refine ⟨xs, ⟨o, es, ep, h1, h2, h3, h4 w, fun x hx => ?_, h5⟩, h6⟩
  clear h1 h2 h3 h4 h5 R
  induction h6 with
  | nil => cases hx
  | cons r rs ih =>
    rcases List.mem_cons.mp hx with rfl | hx
    · rw [← r.1, ← r.2.1]
      exact hk _ List.mem_cons_self
    · exact ih (fun l hl => hk l (List.mem_cons_of_mem _ hl)) hx
end
def gat (L : List Gent) (k : NestedKey) : Option (Addr × V) := (L.find? fun x => decide (x.1 = k)).map (·.2)
def gsto (L : List Gent) (k : NestedKey) (a : Addr) (v : V) : List Gent := if (gat L k).isSome = true then L.map (fun x => if x.1 = k then (x.1, x.2.1, v) else x) else L ++ [(k, a, v)]
end Mi
end

section
set_option maxHeartbeats 4000000
namespace Mi
open PySem PySem.Spec PyProof.Rows L2
open Evl (Ex)

mutual
inductive Dq (K : PySem.W.Frag) (S : Hp) : V → PyData → Prop
  | non : Dq K S .non .none
  | bl (b : Bool) : Dq K S (.bl b) (.bool b)
  | int (i : Int) : Dq K S (.int i) (.int i)
  | str (x : Str) : Dq K S (.str x) (.str x)
  | lst {a : Addr} {vs : List V} {ds : List PyData} (h : S a = some (.lst vs)) (q : DqAll K S vs ds) : Dq K S (.ref a) (.list ds)
  | tup {a : Addr} {vs : List V} {ds : List PyData} (h : SqT K S a vs) (q : DqAll K S vs ds) : Dq K S (.ref a) (.tuple ds)
  | dic {a : Addr} {vs : List (L2.Key × V)} {ks : List (PyData × PyData)} (h : S a = some (.dK vs)) (q : DqKvs K S vs ks) : Dq K S (.ref a) (.dict ks)
inductive DqAll (K : PySem.W.Frag) (S : Hp) : List V → List PyData → Prop
  | nil : DqAll K S [] []
  | cons {v : V} {vs : List V} {d : PyData} {ds : List PyData} (h : Dq K S v d) (q : DqAll K S vs ds) : DqAll K S (v :: vs) (d :: ds)
inductive DqKvs (K : PySem.W.Frag) (S : Hp) : List (L2.Key × V) → List (PyData × PyData) → Prop
  | nil : DqKvs K S [] []
  | cons (k : Int) {v : V} {vs : List (L2.Key × V)} {d : PyData} {ds : List (PyData × PyData)} (h : Dq K S v d) (q : DqKvs K S vs ds) : DqKvs K S ((Sum.inl k, v) :: vs) ((.int k, d) :: ds)
end
section
variable {K : PySem.W.Frag} {S S' H : Hp}
mutual
theorem Dq.mono (e : Ex S S') : ∀ (d : PyData) (v : V), Dq K S v d → Dq K S' v d
  | .none, _, h => by cases h; exact .non
  | .bool b, _, h => by cases h; exact .bl b
  | .int i, _, h => by cases h; exact .int i
  | .str x, _, h => by cases h; exact .str x
  | .list ds, _, h => by
    cases h with
    | lst h q => exact .lst (e _ _ h) (DqAll.mono e ds _ q)
  | .tuple ds, _, h => by
    cases h with
    | tup h q => exact .tup (Evl.ex_t e h) (DqAll.mono e ds _ q)
  | .dict ks, _, h => by
    cases h with
    | dic h q => exact .dic (e _ _ h) (DqKvs.mono e ks _ q)
theorem DqAll.mono (e : Ex S S') : ∀ (ds : List PyData) (vs : List V), DqAll K S vs ds → DqAll K S' vs ds
  | [], _, h => by cases h; exact .nil
  | d :: ds, _, h => by
    cases h with
    | cons h q => exact .cons (Dq.mono e d _ h) (DqAll.mono e ds _ q)
theorem DqKvs.mono (e : Ex S S') : ∀ (ds : List (PyData × PyData)) (vs : List (L2.Key × V)), DqKvs K S vs ds → DqKvs K S' vs ds
  | [], _, h => by cases h; exact .nil
  | (k, d) :: ds, _, h => by
    cases h with
    | cons k h q => exact .cons k (Dq.mono e d _ h) (DqKvs.mono e ds _ q)
end
theorem DqAll.length : ∀ {vs : List V} {ds : List PyData}, DqAll K S vs ds → vs.length = ds.length
  | _, _, .nil => rfl
  | _, _, .cons _ q => by rw [List.length_cons, List.length_cons, DqAll.length q]
theorem DqAll.get : ∀ {vs : List V} {ds : List PyData} {i : Nat} {d : PyData}, DqAll K S vs ds → ds[i]? = some d → ∃ v, vs[i]? = some v ∧ Dq K S v d
  | _, _, _, _, .nil, e => by simp at e
  | _, _, 0, _, .cons h _, e => by simp at e; subst e; exact ⟨_, rfl, h⟩
  | _, _, i + 1, _, .cons _ q, e => by
    obtain ⟨v, h1, h2⟩ := DqAll.get (i := i) q (by simpa using e)
    exact ⟨v, by simpa using h1, h2⟩
theorem DqAll.append : ∀ {vs ws : List V} {ds es : List PyData}, DqAll K S vs ds → DqAll K S ws es → DqAll K S (vs ++ ws) (ds ++ es)
  | _, _, _, _, .nil, r => r
  | _, _, _, _, .cons h q, r => .cons h (DqAll.append q r)
theorem DqAll.take : ∀ {vs : List V} {ds : List PyData} (n : Nat), DqAll K S vs ds → DqAll K S (vs.take n) (ds.take n)
  | _, _, 0, _ => .nil
  | _, _, _ + 1, .nil => .nil
  | _, _, n + 1, .cons h q => .cons h (DqAll.take n q)
theorem DqAll.drop : ∀ {vs : List V} {ds : List PyData} (n : Nat), DqAll K S vs ds → DqAll K S (vs.drop n) (ds.drop n)
  | _, _, 0, r => r
  | _, _, _ + 1, .nil => .nil
  | _, _, n + 1, .cons _ q => DqAll.drop n q
theorem DqAll.set {v : V} {d : PyData} (h : Dq K S v d) : ∀ {vs : List V} {ds : List PyData} (i : Nat), DqAll K S vs ds → DqAll K S (vs.set i v) (ds.set i d)
  | _, _, _, .nil => .nil
  | _, _, 0, .cons _ q => .cons h q
  | _, _, i + 1, .cons r q => .cons r (DqAll.set h i q)
theorem DqAll.dropLast : ∀ {vs : List V} {ds : List PyData}, DqAll K S vs ds → DqAll K S vs.dropLast ds.dropLast
  | _, _, .nil => .nil
  | _, _, .cons _ .nil => .nil
  | _, _, .cons h (.cons h2 q) => .cons h (DqAll.dropLast (.cons h2 q))
theorem DqAll.one {v : V} {d : PyData} (h : Dq K S v d) : DqAll K S [v] [d] := .cons h .nil
theorem DqAll.of : ∀ {vs : List V} {ds : List PyData}, vs.length = ds.length → (∀ (i : Nat) (v : V) (d : PyData), vs[i]? = some v → ds[i]? = some d → Dq K S v d) → DqAll K S vs ds
  | [], [], _, _ => .nil
  | v :: vs, d :: ds, hl, h => .cons (h 0 v d rfl rfl) (DqAll.of (by simpa using hl) fun i a b e1 e2 => h (i + 1) a b (by simpa using e1) (by simpa using e2))
  | [], _ :: _, hl, _ => by simp at hl
  | _ :: _, [], hl, _ => by simp at hl
theorem DqAll.reverse : ∀ {vs : List V} {ds : List PyData}, DqAll K S vs ds → DqAll K S vs.reverse ds.reverse
  | _, _, .nil => .nil
  | _, _, .cons h q => by
    rw [List.reverse_cons, List.reverse_cons]
    exact (DqAll.reverse q).append (.one h)
theorem DqAll.ints : ∀ (ns : List Int), DqAll K S (ns.map V.int) (ns.map PyData.int)
  | [] => .nil
  | n :: r => .cons (.int n) (DqAll.ints r)
end

mutual
/-- no list within -/
def noList : PyData → Bool
  | .list _ => false
  | .tuple xs => noListAll xs
  | .dict ks => ks.isEmpty
  | _ => true
def noListAll : List PyData → Bool
  | [] => true
  | x :: xs => noList x && noListAll xs
end
mutual
/-- no dict within -/
def noDict : PyData → Bool
  | .dict _ => false
  | .list xs | .tuple xs => noDictAll xs
  | _ => true
def noDictAll : List PyData → Bool
  | [] => true
  | x :: xs => noDict x && noDictAll xs
end
mutual
theorem Dq.toDp {K : PySem.W.Frag} {S : Hp} : ∀ (d : PyData) (v : V), Dq K S v d → noDict d = true → Dp K S v d
  | .none, _, h, _ => by cases h; exact .non
  | .bool b, _, h, _ => by cases h; exact .bl b
  | .int i, _, h, _ => by cases h; exact .int i
  | .str x, _, h, _ => by cases h; exact .str x
  | .list ds, _, h, n => by
    cases h with
    | lst h q => exact .lst (.inl (.inl h)) (DqAll.toDp ds _ q (by simpa only [noDict] using n))
  | .tuple ds, _, h, n => by
    cases h with
    | tup h q => exact .tup h (DqAll.toDp ds _ q (by simpa only [noDict] using n))
  | .dict _, _, h, n => by simp only [noDict] at n; cases n
theorem DqAll.toDp {K : PySem.W.Frag} {S : Hp} : ∀ (ds : List PyData) (vs : List V), DqAll K S vs ds → noDictAll ds = true → DpAll K S vs ds
  | [], _, h, _ => by cases h; exact .nil
  | d :: ds, _, h, n => by
    simp only [noDictAll, Bool.and_eq_true] at n
    cases h with
    | cons h q => exact .cons (Dq.toDp d _ h n.1) (DqAll.toDp ds _ q n.2)
end
mutual
theorem noDict_has : ∀ d : PyData, noDict d = true → d.hasDict = false
  | .none, _ => by simp [PyData.hasDict]
  | .bool _, _ => by simp [PyData.hasDict]
  | .int _, _ => by simp [PyData.hasDict]
  | .str _, _ => by simp [PyData.hasDict]
  | .list xs, h => by
    simp only [noDict] at h
    simp only [PyData.hasDict]
    exact noDictAll_has xs h
  | .tuple xs, h => by
    simp only [noDict] at h
    simp only [PyData.hasDict]
    exact noDictAll_has xs h
  | .dict _, h => by simp [noDict] at h
theorem noDictAll_has : ∀ ds : List PyData, noDictAll ds = true → PyData.hasDictAll ds = false
  | [], _ => by simp [PyData.hasDictAll]
  | d :: ds, h => by
    simp only [noDictAll, Bool.and_eq_true] at h
    simp only [PyData.hasDictAll, noDict_has d h.1, noDictAll_has ds h.2, Bool.or_self]
end

inductive D where
  | p (d : PyData)
  | ref (n : Nat)
  | scr (ns : List Int)
inductive DKv where
  | i (kvs : List (Int × PyData))
  | g (kvs : List (PyData × PyData))
  | e (nm : Str) (fs : List (Str × PyData))
inductive O where
  | lst (xs : List PyData)
  | refs (ns : List Nat)
  | dc (kv : DKv)
  | tab (q : Str)
  | gone
abbrev O.dct (kvs : List (Int × PyData)) : O := .dc (.i kvs)
abbrev Arn := List O
abbrev Slt := List (Option D)

def RD (K : PySem.W.Frag) (S : Hp) (ρ : List Addr) : D → V → Prop
  | .p d, v => Dq K S v d
  | .ref n, v => ∃ a, v = .ref a ∧ ρ[n]? = some a
  | .scr ns, v => ∃ a, v = .ref a ∧ SqL K S a (ns.map V.int)
def Pre (ρ ρ' : List Addr) : Prop := ∃ t, ρ' = ρ ++ t
theorem Pre.refl (ρ : List Addr) : Pre ρ ρ := ⟨[], by simp⟩
theorem Pre.trans {a b c : List Addr} (h : Pre a b) (k : Pre b c) : Pre a c := by
  obtain ⟨t, rfl⟩ := h
  obtain ⟨u, rfl⟩ := k
  exact ⟨t ++ u, by simp⟩
theorem Pre.get {ρ ρ' : List Addr} (h : Pre ρ ρ') {n : Nat} {a : Addr} (e : ρ[n]? = some a) : ρ'[n]? = some a := by
  obtain ⟨t, rfl⟩ := h
  rw [List.getElem?_append_left (List.getElem?_eq_some_iff.mp e).1]
  exact e
theorem Pre.snoc (ρ : List Addr) (a : Addr) : Pre ρ (ρ ++ [a]) := ⟨[a], rfl⟩
structure Le (S : Hp) (ρ : List Addr) (S' : Hp) (ρ' : List Addr) : Prop where
  ex : Ex S S'
  pre : Pre ρ ρ'
theorem Le.refl (S : Hp) (ρ : List Addr) : Le S ρ S ρ := ⟨Ex.refl S, Pre.refl ρ⟩
theorem Le.trans {S S1 S2 : Hp} {ρ ρ1 ρ2 : List Addr} (a : Le S ρ S1 ρ1) (b : Le S1 ρ1 S2 ρ2) : Le S ρ S2 ρ2 := ⟨a.ex.trans b.ex, a.pre.trans b.pre⟩
theorem RD.mono {K : PySem.W.Frag} {S S' : Hp} {ρ ρ' : List Addr} (l : Le S ρ S' ρ') : ∀ {d : D} {v : V}, RD K S ρ d v → RD K S' ρ' d v
  | .p _, _, h => Dq.mono l.ex _ _ h
  | .ref _, _, ⟨a, e, h⟩ => ⟨a, e, l.pre.get h⟩
  | .scr _, _, ⟨a, e, h⟩ => ⟨a, e, Evl.ex_l l.ex h⟩
abbrev RDs (K : PySem.W.Frag) (S : Hp) (ρ : List Addr) : List D → List V → Prop := Paired (RD K S ρ)
theorem RDs.mono {K : PySem.W.Frag} {S S' : Hp} {ρ ρ' : List Addr} (l : Le S ρ S' ρ') {ds : List D} {vs : List V} (h : RDs K S ρ ds vs) : RDs K S' ρ' ds vs := Paired.mapP h fun _ _ r => r.mono l

abbrev Kvs (K : PySem.W.Frag) (S : Hp) : List (L2.Key × V) → List (Int × PyData) → Prop := Paired (fun p q => p.1 = Sum.inl q.1 ∧ Dq K S p.2 q.2)
theorem Kvs.mono {K : PySem.W.Frag} {S S' : Hp} (e : Ex S S') {vs : List (L2.Key × V)} {kvs : List (Int × PyData)} (h : Kvs K S vs kvs) : Kvs K S' vs kvs := Paired.mapP h fun _ _ r => ⟨r.1, Dq.mono e _ _ r.2⟩
abbrev Gvs (K : PySem.W.Frag) (S : Hp) : List Gent → List (PyData × PyData) → Prop := Paired (fun l q => kN q.1 = some l.1 ∧ l.1.depth ≤ 8 ∧ Dq K S (.ref l.2.1) q.1 ∧ Dq K S l.2.2 q.2)
theorem Gvs.mono {K : PySem.W.Frag} {S S' : Hp} (e : Ex S S') {vs : List Gent} {kvs : List (PyData × PyData)} (h : Gvs K S vs kvs) : Gvs K S' vs kvs := Paired.mapP h fun _ _ r => ⟨r.1, r.2.1, Dq.mono e _ _ r.2.2.1, Dq.mono e _ _ r.2.2.2⟩
def ErO (a C : Addr) (d : Option Addr) : HO := .ext fun h => ∃ (oe : Obj) (vs : Array Value), h.get? a = some oe ∧ oe.cls = .ref C ∧ oe.dict = d ∧ oe.data = .fields vs
def XdOk (K : PySem.W.Frag) (S : Hp) (d : Option Addr) : List (Str × PyData) → Prop
  | [] => d = none
  | [p] => ∃ dd v, d = some dd ∧ S dd = some (.xd [(p.1, v)]) ∧ Dq K S v p.2
  | _ => False
def DkOk (K : PySem.W.Frag) (S : Hp) (a : Addr) (u : HO) : DKv → Prop
  | .i kvs => ∃ vs, u = .dK vs ∧ Kvs K S vs kvs
  | .g kvs => ∃ L, u = GdO a L ∧ Gvs K S L kvs
  | .e nm fs => ∃ C d, u = ErO a C d ∧ PySem.W.nsIn K mainGlobals nm = some (some (.ref C)) ∧ XdOk K S d fs
theorem XdOk.mono {K : PySem.W.Frag} {S S' : Hp} (e : Ex S S') {d : Option Addr} : ∀ {fs : List (Str × PyData)}, XdOk K S d fs → XdOk K S' d fs
  | [], h => h
  | [_], ⟨dd, v, h1, h2, h3⟩ => ⟨dd, v, h1, e _ _ h2, Dq.mono e _ _ h3⟩
  | _ :: _ :: _, h => h.elim
theorem DkOk.mono {K : PySem.W.Frag} {S S' : Hp} (e : Ex S S') {a : Addr} {u : HO} : ∀ {kv : DKv}, DkOk K S a u kv → DkOk K S' a u kv
  | .i _, ⟨vs, h1, h2⟩ => ⟨vs, h1, h2.mono e⟩
  | .g _, ⟨L, h1, h2⟩ => ⟨L, h1, h2.mono e⟩
  | .e _ _, ⟨C, d, h1, h2, h3⟩ => ⟨C, d, h1, h2, h3.mono e⟩
def lamq (q : Str) : Str := q ++ ".<locals>." ++ "<lambda>"
def TabAt (K : PySem.W.Frag) (q : Str) (P : Addr) : Prop := ∃ (f : Addr) (o : Obj) (fd : FuncData) (c : Addr), PySem.W.nsIn K mainGlobals q = some (some (.ref f)) ∧ K.lookup f = some o ∧ o.data = .func fd ∧ fd.code = .ref c ∧ PySem.W.codeHdIn K c P = true
def TabIn (S H : Hp) (q : Str) (P : Addr) : Prop := ∃ ps : Array Value, H P = some (.tbl ps) ∧ TriplesOk ps.toList ∧ ∀ (pos : Pos) (cv : Value), codeAmong pos ps.toList = some cv → ∃ c, cv = .ref c ∧ S c = some (LamX.CodeO c (lamq q))
theorem TabIn.map {S S' H H' : Hp} {q : Str} {P : Addr} (t : TabIn S H q P) (hP : ∀ ps, H P = some (.tbl ps) → H' P = some (.tbl ps)) (ex : Ex S S') : TabIn S' H' q P := by
  obtain ⟨ps, h1, h2, h3⟩ := t
  refine ⟨ps, hP ps h1, h2, fun pos cv e => ?_⟩
  obtain ⟨c, e1, e2⟩ := h3 pos cv e
  exact ⟨c, e1, ex _ _ e2⟩
theorem TabIn.upd {S H : Hp} {q : Str} {P x : Addr} {u : HO} (t : TabIn S H q P) (hx : P ≠ x) : TabIn S (L2.upd H x u) q P :=
  t.map (fun ps e => by rw [upd_ne hx]; exact e) (Ex.refl S)
structure Wo (K : PySem.W.Frag) (F S : Hp) (ρ : List Addr) (H : Hp) (A : Arn) : Prop where
  sub : Ex S H
  fsub : Ex F H
  fdis : ∀ a, F a ≠ none → S a = none
  flive : ∀ (n : Nat) (o : O) (a : Addr), A[n]? = some o → o ≠ .gone → ρ[n]? = some a → F a = none
  len : ρ.length = A.length
  lst : ∀ (n : Nat) (xs : List PyData), A[n]? = some (O.lst xs) → ∃ a vs, ρ[n]? = some a ∧ S a = none ∧ H a = some (.lst vs) ∧ DqAll K S vs xs
  refs : ∀ (n : Nat) (ns : List Nat), A[n]? = some (O.refs ns) → ∃ a vs, ρ[n]? = some a ∧ S a = none ∧ H a = some (.lst vs) ∧ Paired (fun m v => ∃ b, v = V.ref b ∧ ρ[m]? = some b) ns vs
  dct : ∀ (n : Nat) (kv : DKv), A[n]? = some (O.dc kv) → ∃ a u, ρ[n]? = some a ∧ S a = none ∧ H a = some u ∧ DkOk K S a u kv
  tab : ∀ (n : Nat) (q : Str), A[n]? = some (O.tab q) → ∃ a, ρ[n]? = some a ∧ S a = none ∧ TabAt K q a ∧ TabIn S H q a
  inj : ∀ (n m : Nat) (o u : O) (a : Addr), A[n]? = some o → A[m]? = some u → o ≠ .gone → u ≠ .gone → ρ[n]? = some a → ρ[m]? = some a → n = m
structure Grow (S H S' H' : Hp) : Prop where
  ex : Ex S S'
  exH : Ex H H'
  sub : Ex S' H'
  new : ∀ a, S' a ≠ none → S a ≠ none ∨ H a = none
theorem Grow.refl {S H : Hp} (h : Ex S H) : Grow S H S H := ⟨Ex.refl S, Ex.refl H, h, fun _ z => .inl z⟩
theorem none_sub {S H : Hp} (h : Ex S H) {p : Addr} (n : H p = none) : S p = none := by
  cases e : S p with
  | none => rfl
  | some u => rw [h p u e] at n; cases n
theorem Grow.upd {S H : Hp} (h : Ex S H) {p : Addr} {o : HO} (n : H p = none) : Grow S H (upd S p o) (upd H p o) := by
  have ns : S p = none := none_sub h n
  refine ⟨Ex.new ns, Ex.new n, fun a u e => ?_, fun a z => ?_⟩
  · by_cases q : a = p
    · subst q; rw [upd_same] at e ⊢; exact e
    · rw [upd_ne q] at e ⊢; exact h a u e
  · by_cases q : a = p
    · subst q; exact .inr n
    · rw [upd_ne q] at z; exact .inl z
theorem Grow.side {S H : Hp} (h : Ex S H) {p : Addr} {o : HO} (n : H p = none) : Grow S H S (L2.upd H p o) := ⟨Ex.refl S, Ex.new n, h.trans (Ex.new n), fun _ z => .inl z⟩
theorem Grow.trans {S H S1 H1 S2 H2 : Hp} (a : Grow S H S1 H1) (b : Grow S1 H1 S2 H2) : Grow S H S2 H2 :=
  ⟨a.ex.trans b.ex, a.exH.trans b.exH, b.sub, fun x z => by
    rcases b.new x z with h | h
    · exact a.new x h
    · exact .inr (none_sub a.exH h)⟩
structure Fresh (F S : Hp) (ρ : List Addr) (A : Arn) (p : Addr) : Prop where
  s : S p = none
  f : F p = none
  live : ∀ (n : Nat) (o : O), A[n]? = some o → o ≠ .gone → ρ[n]? ≠ some p
section
variable {K : PySem.W.Frag} {F S S' H H' : Hp} {ρ ρ' : List Addr} {A : Arn}
theorem Wo.live (w : Wo K F S ρ H A) {n : Nat} {o : O} (e : A[n]? = some o) (ne : o ≠ .gone) : ∃ a v, ρ[n]? = some a ∧ S a = none ∧ F a = none ∧ H a = some v := by
  cases o with
  | gone => exact absurd rfl ne
  | lst xs => obtain ⟨a, vs, h1, h2, h3, _⟩ := w.lst n xs e; exact ⟨a, _, h1, h2, w.flive n _ a e ne h1, h3⟩
  | refs xs => obtain ⟨a, vs, h1, h2, h3, _⟩ := w.refs n xs e; exact ⟨a, _, h1, h2, w.flive n _ a e ne h1, h3⟩
  | dc xs => obtain ⟨a, vs, h1, h2, h3, _⟩ := w.dct n xs e; exact ⟨a, _, h1, h2, w.flive n _ a e ne h1, h3⟩
  | tab q => obtain ⟨a, h1, h2, _, vs, h3, _⟩ := w.tab n q e; exact ⟨a, _, h1, h2, w.flive n _ a e ne h1, h3⟩
theorem Wo.fresh (w : Wo K F S ρ H A) {p : Addr} (n : H p = none) : Fresh F S ρ A p := ⟨none_sub w.sub n, none_sub w.fsub n, fun i o e ne z => by
  obtain ⟨a, vs, h1, _, _, h3⟩ := w.live e ne
  rw [z] at h1
  cases h1
  rw [n] at h3
  cases h3⟩
theorem Wo.grow (w : Wo K F S ρ H A) (g : Grow S H S' H') : Wo K F S' ρ H' A := by
  have off : ∀ a u, S a = none → H a = some u → S' a = none := fun a u e1 e2 => by
    cases e : S' a with
    | none => rfl
    | some z =>
      rcases g.new a (by rw [e]; simp) with h | h
      · exact absurd e1 h
      · rw [e2] at h; cases h
  refine ⟨g.sub, w.fsub.trans g.exH, fun a z => ?_, w.flive, w.len, fun n xs e => ?_, fun n ns e => ?_, fun n ks e => ?_, fun n q e => ?_, w.inj⟩
  · cases e : F a with
    | none => exact absurd e z
    | some u => exact off a u (w.fdis a z) (w.fsub a u e)
  · obtain ⟨a, vs, h1, h2, h3, h4⟩ := w.lst n xs e
    exact ⟨a, vs, h1, off a _ h2 h3, g.exH a _ h3, DqAll.mono g.ex _ _ h4⟩
  · obtain ⟨a, vs, h1, h2, h3, h4⟩ := w.refs n ns e
    exact ⟨a, vs, h1, off a _ h2 h3, g.exH a _ h3, h4⟩
  · obtain ⟨a, vs, h1, h2, h3, h4⟩ := w.dct n ks e
    exact ⟨a, vs, h1, off a _ h2 h3, g.exH a _ h3, h4.mono g.ex⟩
  · obtain ⟨a, h1, h2, h3, h4⟩ := w.tab n q e
    obtain ⟨ps, g1, _⟩ := id h4
    exact ⟨a, h1, off a _ h2 g1, h3, h4.map (fun ps z => g.exH a _ z) g.ex⟩
theorem Grow.le (g : Grow S H S' H') (ρ : List Addr) : Le S ρ S' ρ := ⟨g.ex, Pre.refl ρ⟩
theorem set_live {A : Arn} {n : Nat} {o o' : O} (e : A[n]? = some o) (ne : o ≠ .gone) {i : Nat} {u : O} (z : (A.set n o')[i]? = some u) (nz : u ≠ .gone) : ∃ u', A[i]? = some u' ∧ u' ≠ .gone := by
  by_cases hi : i = n
  · subst hi; exact ⟨o, e, ne⟩
  · rw [List.getElem?_set_ne (Ne.symm hi)] at z; exact ⟨u, z, nz⟩
theorem Wo.set (w : Wo K F S ρ H A) {n : Nat} {xs ys : List PyData} {a : Addr} {vs : List V} (e : A[n]? = some (.lst xs)) (ha : ρ[n]? = some a) (hv : DqAll K S vs ys) : Wo K F S ρ (upd H a (.lst vs)) (A.set n (.lst ys)) := by
  have hlt : n < A.length := (List.getElem?_eq_some_iff.mp e).1
  obtain ⟨a', vs', h1, h2, h3, _⟩ := w.lst n xs e
  rw [ha] at h1
  cases h1
  have fa := w.flive n _ a e (by simp) ha
  have off : ∀ {m : Nat} {o : O} {b : Addr}, m ≠ n → A[m]? = some o → o ≠ .gone → ρ[m]? = some b → b ≠ a := fun {m o b} hm q nq g z => hm (w.inj m n _ _ a q e nq (by simp) (by rw [← z]; exact g) ha)
  refine ⟨fun b u q => ?_, fun b u q => ?_, w.fdis, fun m o b q nq g => ?_, by rw [List.length_set]; exact w.len, fun m zs q => ?_, fun m ns q => ?_, fun m ns q => ?_, fun m ns q => ?_, fun m k o u b q1 q2 n1 n2 r1 r2 => ?_⟩
  · rw [upd_ne (by rintro rfl; rw [h2] at q; cases q)]
    exact w.sub b u q
  · rw [upd_ne (by rintro rfl; rw [fa] at q; cases q)]
    exact w.fsub b u q
  · obtain ⟨o', z1, z2⟩ := set_live e (by simp) q nq
    exact w.flive m o' b z1 z2 g
  · by_cases hm : m = n
    · subst hm
      rw [List.getElem?_set_self hlt] at q
      cases q
      exact ⟨a, vs, ha, h2, upd_same, hv⟩
    · rw [List.getElem?_set_ne (Ne.symm hm)] at q
      obtain ⟨b, ws, g1, g2, g3, g4⟩ := w.lst m zs q
      refine ⟨b, ws, g1, g2, ?_, g4⟩
      rw [upd_ne (off hm q (by simp) g1)]
      exact g3
  · have hm : m ≠ n := by
      rintro rfl
      rw [List.getElem?_set_self hlt] at q
      cases q
    rw [List.getElem?_set_ne (Ne.symm hm)] at q
    obtain ⟨b, ws, g1, g2, g3, g4⟩ := w.refs m ns q
    refine ⟨b, ws, g1, g2, ?_, g4⟩
    rw [upd_ne (off hm q (by simp) g1)]
    exact g3
  · have hm : m ≠ n := by
      rintro rfl
      rw [List.getElem?_set_self hlt] at q
      cases q
    rw [List.getElem?_set_ne (Ne.symm hm)] at q
    obtain ⟨b, ws, g1, g2, g3, g4⟩ := w.dct m ns q
    refine ⟨b, ws, g1, g2, ?_, g4⟩
    rw [upd_ne (off hm q (by simp) g1)]
    exact g3
  · have hm : m ≠ n := by
      rintro rfl
      rw [List.getElem?_set_self hlt] at q
      cases q
    rw [List.getElem?_set_ne (Ne.symm hm)] at q
    obtain ⟨b, g1, g2, g3, g4⟩ := w.tab m ns q
    exact ⟨b, g1, g2, g3, g4.upd (off hm q (by simp) g1)⟩
  · obtain ⟨o', z1, z2⟩ := set_live e (by simp) q1 n1
    obtain ⟨u', z3, z4⟩ := set_live e (by simp) q2 n2
    exact w.inj m k o' u' b z1 z3 z2 z4 r1 r2
theorem Wo.alloc (w : Wo K F S ρ H A) {p : Addr} {vs : List V} {xs : List PyData} (fr : Fresh F S ρ A p) (hp : H p = some (.lst vs)) (hv : DqAll K S vs xs) : Wo K F S (ρ ++ [p]) H (A ++ [.lst xs]) := by
  have hl := w.len
  have old : ∀ {n : Nat} {o : O}, (A ++ [O.lst xs])[n]? = some o → (n < A.length ∧ A[n]? = some o ∧ (ρ ++ [p])[n]? = ρ[n]?) ∨ (n = A.length ∧ o = .lst xs ∧ (ρ ++ [p])[n]? = some p) := fun {n o} e => by
    by_cases hn : n < A.length
    · rw [List.getElem?_append_left hn] at e
      exact .inl ⟨hn, e, List.getElem?_append_left (by omega)⟩
    · rw [List.getElem?_append_right (by omega)] at e
      have h0 : n - A.length = 0 := by
        cases z : n - A.length with
        | zero => rfl
        | succ k => rw [z] at e; simp at e
      have hn' : n = A.length := by omega
      rw [h0] at e
      have e' : O.lst xs = o := by simpa using e
      refine .inr ⟨hn', e'.symm, ?_⟩
      rw [List.getElem?_append_right (by omega), show n - ρ.length = 0 by omega]
      rfl
  refine ⟨w.sub, w.fsub, w.fdis, fun n o a e ne g => ?_, by simp [hl], fun n ys e => ?_, fun n ns e => ?_, fun n ns e => ?_, fun n ns e => ?_, fun n m o u a q1 q2 n1 n2 r1 r2 => ?_⟩
  · rcases old e with ⟨_, e1, e2⟩ | ⟨_, _, e2⟩
    · exact w.flive n o a e1 ne (by rw [← e2]; exact g)
    · rw [e2] at g
      cases g
      exact fr.f
  · rcases old e with ⟨_, e1, e2⟩ | ⟨_, e1, e2⟩
    · obtain ⟨a, ws, g1, g2, g3, g4⟩ := w.lst n ys e1
      exact ⟨a, ws, by rw [e2]; exact g1, g2, g3, g4⟩
    · cases e1
      exact ⟨p, vs, e2, fr.s, hp, hv⟩
  · rcases old e with ⟨_, e1, e2⟩ | ⟨_, e1, e2⟩
    · obtain ⟨a, ws, g1, g2, g3, g4⟩ := w.refs n ns e1
      refine ⟨a, ws, by rw [e2]; exact g1, g2, g3, Paired.mapP g4 fun m v ⟨b, z1, z2⟩ => ⟨b, z1, (Pre.snoc ρ p).get z2⟩⟩
    · cases e1
  · rcases old e with ⟨_, e1, e2⟩ | ⟨_, e1, e2⟩
    · obtain ⟨a, ws, g1, g2, g3, g4⟩ := w.dct n ns e1
      exact ⟨a, ws, by rw [e2]; exact g1, g2, g3, g4⟩
    · cases e1
  · rcases old e with ⟨_, e1, e2⟩ | ⟨_, e1, e2⟩
    · obtain ⟨a, g1, g2⟩ := w.tab n ns e1
      exact ⟨a, by rw [e2]; exact g1, g2⟩
    · cases e1
  · rcases old q1 with ⟨_, e1, e2⟩ | ⟨e0, e1, e2⟩
    · rcases old q2 with ⟨_, e3, e4⟩ | ⟨_, e3, e4⟩
      · exact w.inj n m o u a e1 e3 n1 n2 (by rw [← e2]; exact r1) (by rw [← e4]; exact r2)
      · rw [r2] at e4
        cases e4
        exact absurd (by rw [← e2]; exact r1) (fr.live n o e1 n1)
    · rcases old q2 with ⟨_, e3, e4⟩ | ⟨f0, e3, e4⟩
      · rw [r1] at e2
        cases e2
        exact absurd (by rw [← e4]; exact r2) (fr.live m u e3 n2)
      · rw [e0, f0]
theorem Wo.still (w : Wo K F S ρ H A) {p : Addr} {vs : HO} (fr : Fresh F S ρ A p) (hp : H p = some vs) : Wo K F (L2.upd S p vs) ρ H A := by
  have ex : Ex S (L2.upd S p vs) := Ex.new fr.s
  have off : ∀ {m : Nat} {o : O} {b : Addr}, A[m]? = some o → o ≠ .gone → ρ[m]? = some b → b ≠ p := fun {m o b} q nq g z => fr.live m o q nq (by rw [← z]; exact g)
  refine ⟨fun b u q => ?_, w.fsub, fun b z => ?_, w.flive, w.len, fun m ys q => ?_, fun m ns q => ?_, fun m ns q => ?_, fun m ns q => ?_, w.inj⟩
  · by_cases hb : b = p
    · subst hb; rw [upd_same] at q; cases q; exact hp
    · rw [upd_ne hb] at q; exact w.sub b u q
  · rw [upd_ne (by rintro rfl; exact z fr.f)]
    exact w.fdis b z
  · obtain ⟨b, ws, g1, g2, g3, g4⟩ := w.lst m ys q
    refine ⟨b, ws, g1, ?_, g3, DqAll.mono ex _ _ g4⟩
    rw [upd_ne (off q (by simp) g1)]
    exact g2
  · obtain ⟨b, ws, g1, g2, g3, g4⟩ := w.refs m ns q
    refine ⟨b, ws, g1, ?_, g3, g4⟩
    rw [upd_ne (off q (by simp) g1)]
    exact g2
  · obtain ⟨b, ws, g1, g2, g3, g4⟩ := w.dct m ns q
    refine ⟨b, ws, g1, ?_, g3, g4.mono ex⟩
    rw [upd_ne (off q (by simp) g1)]
    exact g2
  · obtain ⟨b, g1, g2, g3, g4⟩ := w.tab m ns q
    refine ⟨b, g1, ?_, g3, g4.map (fun ps e => e) ex⟩
    rw [upd_ne (off q (by simp) g1)]
    exact g2
theorem Wo.leaveO (w : Wo K F S ρ H A) {n : Nat} {xs : O} {a : Addr} (e : A[n]? = some xs) (nz : xs ≠ .gone) (ha : ρ[n]? = some a) : Wo K F S ρ H (A.set n .gone) ∧ Fresh F S ρ (A.set n .gone) a := by
  have hlt : n < A.length := (List.getElem?_eq_some_iff.mp e).1
  obtain ⟨a', vs', h1, h2, _, h3⟩ := w.live e nz
  rw [ha] at h1
  cases h1
  have ne : ∀ {m : Nat} {o : O}, (A.set n .gone)[m]? = some o → o ≠ .gone → m ≠ n ∧ A[m]? = some o := fun {m o} z nz => by
    by_cases hi : m = n
    · subst hi
      rw [List.getElem?_set_self hlt] at z
      cases z
      exact absurd rfl nz
    · rw [List.getElem?_set_ne (Ne.symm hi)] at z; exact ⟨hi, z⟩
  refine ⟨⟨w.sub, w.fsub, w.fdis, fun m o b q nq g => w.flive m o b (ne q nq).2 nq g, by rw [List.length_set]; exact w.len, fun m ys q => w.lst m ys (ne q (by simp)).2, fun m ns q => w.refs m ns (ne q (by simp)).2, fun m ns q => w.dct m ns (ne q (by simp)).2, fun m ns q => w.tab m ns (ne q (by simp)).2,
    fun m k o u b q1 q2 n1 n2 r1 r2 => w.inj m k o u b (ne q1 n1).2 (ne q2 n2).2 n1 n2 r1 r2⟩, h2, w.flive n _ a e nz ha, fun m o q nq z => ?_⟩
  obtain ⟨hm, q'⟩ := ne q nq
  exact hm (w.inj m n o _ a q' e nq nz z ha)
theorem Wo.leave (w : Wo K F S ρ H A) {n : Nat} {xs : List PyData} {a : Addr} (e : A[n]? = some (.lst xs)) (ha : ρ[n]? = some a) : Wo K F S ρ H (A.set n .gone) ∧ Fresh F S ρ (A.set n .gone) a := w.leaveO e (by simp) ha
theorem Wo.freeze (w : Wo K F S ρ H A) {n : Nat} {xs : List PyData} (e : A[n]? = some (.lst xs)) :
    ∃ S' a, Le S ρ S' ρ ∧ Wo K F S' ρ H (A.set n .gone) ∧ ρ[n]? = some a ∧ Dq K S' (.ref a) (.list xs) := by
  obtain ⟨a, vs, h1, h2, h3, h4⟩ := w.lst n xs e
  obtain ⟨w', fr⟩ := w.leave e h1
  exact ⟨_, a, ⟨Ex.new h2, Pre.refl ρ⟩, w'.still fr h3, h1, .lst upd_same (DqAll.mono (Ex.new h2) _ _ h4)⟩
end

structure SR (K : PySem.W.Frag) (S : Hp) (ρ : List Addr) (s : Slt) (σ : L2.St) : Prop where
  len : s.length = σ.length
  at_ : ∀ (i : Nat) (d : D), s[i]? = some (some d) → ∃ v, σ[i]? = some (some v) ∧ RD K S ρ d v
section
variable {K : PySem.W.Frag} {S S' H H' : Hp} {ρ ρ' : List Addr} {A : Arn} {s : Slt} {σ : L2.St}
theorem SR.mono (l : Le S ρ S' ρ') (h : SR K S ρ s σ) : SR K S' ρ' s σ := ⟨h.len, fun i d e => let ⟨v, a, b⟩ := h.at_ i d e; ⟨v, a, b.mono l⟩⟩
theorem SR.set (h : SR K S ρ s σ) {i : Nat} {d : D} {v : V} (r : RD K S ρ d v) : SR K S ρ (s.set i (some d)) (σ.set i (some v)) := by
  refine ⟨by simp [h.len], fun j e q => ?_⟩
  by_cases hj : j = i
  · subst hj
    have hlt : j < s.length := by
      have := (List.getElem?_eq_some_iff.mp q).1
      simpa using this
    rw [List.getElem?_set_self hlt] at q
    cases q
    exact ⟨v, List.getElem?_set_self (by rw [← h.len]; exact hlt), r⟩
  · rw [List.getElem?_set_ne (Ne.symm hj)] at q
    obtain ⟨w, a, b⟩ := h.at_ j e q
    exact ⟨w, by rw [List.getElem?_set_ne (Ne.symm hj)]; exact a, b⟩
theorem SR.start {N : List Str} {ds : List D} {vs : List V} (r : RDs K S ρ ds vs) (hn : vs.length ≤ N.length) : SR K S ρ (ds.map some ++ List.replicate (N.length - ds.length) none) (L2.start N vs) := by
  have hl : ds.length = vs.length := Paired.length r
  refine ⟨by simp [L2.start, hl], fun i d e => ?_⟩
  by_cases hi : i < ds.length
  · rw [List.getElem?_append_left (by simpa using hi)] at e
    rw [List.getElem?_map] at e
    cases q : ds[i]? with
    | none => rw [q] at e; cases e
    | some d' =>
      rw [q] at e
      have e' : d' = d := by simpa using e
      subst e'
      have : ∃ v, vs[i]? = some v ∧ RD K S ρ d' v := by
        clear e hn hi hl
        induction r generalizing i with
        | nil => simp at q
        | cons r0 rs ih =>
          cases i with
          | zero => simp at q; subst q; exact ⟨_, rfl, r0⟩
          | succ i => simpa using ih i (by simpa using q)
      obtain ⟨v, a, b⟩ := this
      refine ⟨v, ?_, b⟩
      unfold L2.start
      rw [List.getElem?_append_left (by rw [List.length_map]; omega), List.getElem?_map, a]
      rfl
  · rw [List.getElem?_append_right (by simpa using Nat.le_of_not_lt hi)] at e
    rw [List.getElem?_replicate] at e
    split at e <;> cases e
end
end Mi
end

section
set_option maxHeartbeats 4000000
namespace Mi
open PySem PySem.Spec PyProof.Rows L2
open Evl (Ex)

structure Exn where
  cls : Str
  fld : Str
  val : PyData
inductive Res (α : Type) where
  | ok (a : α) (A : Arn)
  | exn (e : Exn) (A : Arn)
  | bad
def Res.bind {α β : Type} (r : Res α) (f : α → Arn → Res β) : Res β :=
  match r with
  | .ok a A => f a A
  | .exn e A => .exn e A
  | .bad => .bad
inductive Out where
  | nx (s : Slt) (A : Arn)
  | rt (d : D) (A : Arn)
  | bk (s : Slt) (A : Arn)
  | ct (s : Slt) (A : Arn)
  | exn (e : Exn) (A : Arn)
  | bad
abbrev ME := Slt → Arn → Res D
abbrev MT := Slt → Arn → Res Bool
abbrev MA := Slt → Arn → Res (List D)
abbrev MS := Slt → Arn → Out
abbrev MF := List D → Arn → Res D

def mVar (i : Nat) : ME := fun s A => match s[i]? with
  | some (some d) => .ok d A
  | _ => .bad
def mC (d : PyData) : ME := fun _ A => .ok (.p d) A
def opt1 (r : Option (D × Arn)) : Res D := match r with
  | some (d, A) => .ok d A
  | none => .bad
def mOp1 (f : D → Arn → Option (D × Arn)) (m : ME) : ME := fun s A => (m s A).bind fun a A1 => opt1 (f a A1)
def mOp2 (f : D → D → Arn → Option (D × Arn)) (m k : ME) : ME := fun s A => (m s A).bind fun a A1 => (k s A1).bind fun b A2 => opt1 (f a b A2)
def aNil : MA := fun _ A => .ok [] A
def aCons (m : ME) (k : MA) : MA := fun s A => (m s A).bind fun a A1 => (k s A1).bind fun as A2 => .ok (a :: as) A2
def mOpN (f : List D → Arn → Option (D × Arn)) (m : MA) : ME := fun s A => (m s A).bind fun a A1 => opt1 (f a A1)
def mCall (f : MF) (m : MA) : ME := fun s A => (m s A).bind f
def dataOf (d : D) (A : Arn) : Option PyData :=
  match d with
  | .p d => some d
  | .ref n => match A[n]? with
    | some (.lst xs) => some (.list xs)
    | _ => none
  | .scr ns => some (.list (ns.map PyData.int))
def dataOwn (d : D) (A : Arn) : Option PyData :=
  match d with
  | .scr _ => none
  | d => dataOf d A
def lift2o (f : PyData → PyData → Option PyData) : D → D → Arn → Option (D × Arn) := fun a b A => (dataOwn a A).bind fun x => (dataOwn b A).bind fun y => (f x y).map fun z => (.p z, A)
def lift1 (f : PyData → Option PyData) : D → Arn → Option (D × Arn) := fun a A => (dataOf a A).bind fun x => (f x).map fun z => (.p z, A)
def lift2 (f : PyData → PyData → Option PyData) : D → D → Arn → Option (D × Arn) := fun a b A => (dataOf a A).bind fun x => (dataOf b A).bind fun y => (f x y).map fun z => (.p z, A)
def datasOf : List D → Arn → Option (List PyData)
  | [], _ => some []
  | d :: ds, A => (dataOf d A).bind fun x => (datasOf ds A).map fun xs => x :: xs
def liftN (f : List PyData → Option PyData) : List D → Arn → Option (D × Arn) := fun a A => (datasOf a A).bind fun x => (f x).map fun z => (.p z, A)
def mB (m : ME) : MT := fun s A => (m s A).bind fun a A1 => match a with
  | .p (.bool b) => .ok b A1
  | _ => .bad
def mV (m : MT) : ME := fun s A => (m s A).bind fun b A1 => .ok (.p (.bool b)) A1
def mNot (m : MT) : MT := fun s A => (m s A).bind fun b A1 => .ok (!b) A1
def mAnd (m k : MT) : MT := fun s A => (m s A).bind fun b A1 => if b = true then k s A1 else .ok false A1
def mOr (m k : MT) : MT := fun s A => (m s A).bind fun b A1 => if b = true then .ok true A1 else k s A1
def mIfE (c : MT) (m k : ME) : ME := fun s A => (c s A).bind fun b A1 => if b = true then m s A1 else k s A1

def ER (K : PySem.W.Frag) (S : Hp) (e : Exn) (c : Value) (d : Option Addr) (H : Hp) : Prop :=
  (∃ C, c = .ref C ∧ PySem.W.nsIn K mainGlobals e.cls = some (some (.ref C))) ∧ ∃ dd v, d = some dd ∧ H dd = some (.xd [(e.fld, v)]) ∧ Dq K S v e.val
section
variable {α β γ δ : Type}
abbrev Rl (α β : Type) := Hp → List Addr → α → β → Prop
def EndG (K : PySem.W.Frag) (W : WX) (F : Hp) (rel : Rl α β) (S : Hp) (ρ : List Addr) (σ : L2.St) (Q : β → Hp → Prop) : Res α → Prop
  | .ok a A' => ∀ S' ρ' H' x, Le S ρ S' ρ' → Wo K F S' ρ' H' A' → rel S' ρ' a x → Q x H'
  | .exn e A' => ∀ S' ρ' H' c d, Le S ρ S' ρ' → Wo K F S' ρ' H' A' → ER K S' e c d H' → W c d σ H'
  | .bad => False
def tG (K : PySem.W.Frag) (W : WX) (rel : Rl α β) (m : Slt → Arn → Res α) : L2.St → Hp → (β → Hp → Prop) → Prop := fun σ H Q =>
  ∃ F S ρ s A, Wo K F S ρ H A ∧ SR K S ρ s σ ∧ EndG K W F rel S ρ σ Q (m s A)
variable {K : PySem.W.Frag} {W : WX} {rel : Rl α β} {rel2 : Rl γ δ} {F S S' H H' : Hp} {ρ ρ' : List Addr} {σ : L2.St} {A : Arn} {s : Slt}
theorem EndG.le {Q : β → Hp → Prop} {r : Res α} (l : Le S ρ S' ρ') (h : EndG K W F rel S ρ σ Q r) : EndG K W F rel S' ρ' σ Q r := by
  cases r with
  | ok a A => exact fun S2 ρ2 H2 x l2 w r => h S2 ρ2 H2 x (l.trans l2) w r
  | exn e A => exact fun S2 ρ2 H2 c d l2 w r => h S2 ρ2 H2 c d (l.trans l2) w r
  | bad => exact h
theorem EndG.imp {Q Q' : β → Hp → Prop} {r : Res α} (h : EndG K W F rel S ρ σ Q r) (k : ∀ x H, Q x H → Q' x H) : EndG K W F rel S ρ σ Q' r := by
  cases r with
  | ok a A => exact fun S2 ρ2 H2 x l2 w r => k _ _ (h S2 ρ2 H2 x l2 w r)
  | exn e A => exact h
  | bad => exact h
theorem EndG.bind {Q : δ → Hp → Prop} {r : Res α} {f : α → Arn → Res γ} (h : EndG K W F rel2 S ρ σ Q (r.bind f)) :
    EndG K W F rel S ρ σ (fun x H1 => ∃ S1 ρ1 A1 a, Le S ρ S1 ρ1 ∧ Wo K F S1 ρ1 H1 A1 ∧ rel S1 ρ1 a x ∧ EndG K W F rel2 S1 ρ1 σ Q (f a A1)) r := by
  cases r with
  | ok a A => exact fun S2 ρ2 H2 x l2 w r => ⟨S2, ρ2, A, a, l2, w, r, EndG.le l2 h⟩
  | exn e A => exact h
  | bad => exact h
theorem EndG.ok {Q : β → Hp → Prop} {a : α} {x : β} (h : EndG K W F rel S ρ σ Q (.ok a A)) (w : Wo K F S ρ H A) (r : rel S ρ a x) : Q x H := h S ρ H x (Le.refl _ _) w r
end
abbrev tE (K : PySem.W.Frag) (W : WX) (m : ME) : TE := tG K W (RD K) m
abbrev tT (K : PySem.W.Frag) (W : WX) (m : MT) : TT := tG K W (fun _ _ a b => a = b) m
abbrev tA (K : PySem.W.Frag) (W : WX) (m : MA) : TA := tG K W (RDs K) m

section
variable {X : Cx} {W : WX}
theorem pe_imp {e : Expr} {t t' : TE} (h : PE X e t) (k : ∀ σ H Q, t' σ H Q → t σ H Q) : PE X e t' := ⟨fun pins s σ H Q I q => h.run pins s σ H Q I (k _ _ _ q)⟩
theorem pt_imp {e : Expr} {t t' : TT} (h : PT X e t) (k : ∀ σ H Q, t' σ H Q → t σ H Q) : PT X e t' := ⟨fun pins s σ H Q I q => h.run pins s σ H Q I (k _ _ _ q)⟩
theorem pw_imp {e : Expr} {t t' : TT} (h : PW X e t) (k : ∀ σ H Q, t' σ H Q → t σ H Q) : PW X e t' := ⟨fun wh pins s σ H Q I q => h.run wh pins s σ H Q I (k _ _ _ q)⟩
theorem pa_imp {e : List Expr} {t t' : TA} (h : PA X e t) (k : ∀ σ H Q, t' σ H Q → t σ H Q) : PA X e t' := ⟨fun pos pins s σ H Q I q => h.run pos pins s σ H Q I (k _ _ _ q)⟩
theorem ps_imp {e : Stmt} {t t' : TS} (h : PS X e t) (k : ∀ D σ H, t' D σ H → t D σ H) : PS X e t' := ⟨fun pins s σ H D I q => h.run pins s σ H D I (k _ _ _ q)⟩
theorem pss_imp {e : List Stmt} {t t' : TS} (h : PSs X e t) (k : ∀ D σ H, t' D σ H → t D σ H) : PSs X e t' := ⟨fun pins s σ H D I q => h.run pins s σ H D I (k _ _ _ q)⟩

theorem xe_var {i : Nat} {x : Str} {pos : Pos} (hN : X.N[i]? = some x) (hv : Vis X.env.scope x) (hd : (x == ("__debug__" : Str)) = false := by decide) (hcd : (x == ("__classdict__" : Str)) = false := by decide) : PE X (.Name x pos) (tE X.K W (mVar i)) := by
  refine pe_imp (pe_var (i := i) hN hv hd hcd) fun σ H Q ⟨F, S, ρ, s, A, w, sr, h⟩ => ?_
  unfold mVar at h
  cases e : s[i]? with
  | none => rw [e] at h; exact h.elim
  | some o =>
    rw [e] at h
    cases o with
    | none => exact h.elim
    | some d =>
      obtain ⟨v, h1, h2⟩ := sr.at_ i d e
      exact ⟨v, h1, EndG.ok h w h2⟩
theorem xe_c {e : Expr} {v : V} {d : PyData} (h : PE X e (tC v)) (r : ∀ S, Dq X.K S v d) : PE X e (tE X.K W (mC d)) :=
  pe_imp h fun _ _ _ ⟨F, S, _, _, _, w, _, q⟩ => EndG.ok q w (r S)
theorem xe_int {i : Int} {j pos} : PE X (.Constant (.int i) j pos) (tE X.K W (mC (.int i))) := xe_c pe_int fun _ => .int i
theorem xe_bl {b : Bool} {j pos} : PE X (.Constant (.bool b) j pos) (tE X.K W (mC (.bool b))) := xe_c pe_bl fun _ => .bl b
theorem xe_non {j pos} : PE X (.Constant .none j pos) (tE X.K W (mC .none)) := xe_c pe_non fun _ => .non
theorem xe_str {x : Str} {j pos} : PE X (.Constant (.str x) j pos) (tE X.K W (mC (.str x))) := xe_c pe_str fun _ => .str x

def rM1 (K : PySem.W.Frag) (f : D → Arn → Option (D × Arn)) : V → Hp → VK → Prop := fun x H Q => ∃ F S ρ A a b A', Wo K F S ρ H A ∧ RD K S ρ a x ∧ f a A = some (b, A') ∧ ∀ S' ρ' H' v, Le S ρ S' ρ' → Wo K F S' ρ' H' A' → RD K S' ρ' b v → Q v H'
def rM2 (K : PySem.W.Frag) (f : D → D → Arn → Option (D × Arn)) : R2 := fun x y H Q => ∃ F S ρ A a b c A', Wo K F S ρ H A ∧ RD K S ρ a x ∧ RD K S ρ b y ∧ f a b A = some (c, A') ∧ ∀ S' ρ' H' v, Le S ρ S' ρ' → Wo K F S' ρ' H' A' → RD K S' ρ' c v → Q v H'
def rMN (K : PySem.W.Frag) (f : List D → Arn → Option (D × Arn)) : List V → Hp → VK → Prop := fun xs H Q => ∃ F S ρ A as b A', Wo K F S ρ H A ∧ RDs K S ρ as xs ∧ f as A = some (b, A') ∧ ∀ S' ρ' H' v, Le S ρ S' ρ' → Wo K F S' ρ' H' A' → RD K S' ρ' b v → Q v H'
theorem EndG.opt {K : PySem.W.Frag} {F S : Hp} {ρ : List Addr} {σ : L2.St} {Q : VK} {r : Option (D × Arn)} (h : EndG K W F (RD K) S ρ σ Q (opt1 r)) : ∃ b A', r = some (b, A') ∧ ∀ S' ρ' H' v, Le S ρ S' ρ' → Wo K F S' ρ' H' A' → RD K S' ρ' b v → Q v H' := by
  cases r with
  | none => exact h.elim
  | some p => exact ⟨p.1, p.2, rfl, h⟩
section
variable {K : PySem.W.Frag}
theorem t_op1 {f : D → Arn → Option (D × Arn)} {m : ME} : ∀ σ H Q, tE K W (mOp1 f m) σ H Q → tUn (rM1 K f) (tE K W m) σ H Q := fun σ H Q ⟨F, S, ρ, s, A, w, sr, h⟩ =>
  ⟨F, S, ρ, s, A, w, sr, (EndG.bind h).imp fun x H1 ⟨S1, ρ1, A1, a, _, w1, r1, h1⟩ => by
    obtain ⟨b, A', e, k⟩ := EndG.opt h1
    exact ⟨F, S1, ρ1, A1, a, b, A', w1, r1, e, k⟩⟩
theorem t_op2 {f : D → D → Arn → Option (D × Arn)} {m k : ME} : ∀ σ H Q, tE K W (mOp2 f m k) σ H Q → tOp (rM2 K f) (tE K W m) (tE K W k) σ H Q := fun σ H Q ⟨F, S, ρ, s, A, w, sr, h⟩ =>
  ⟨F, S, ρ, s, A, w, sr, (EndG.bind h).imp fun x H1 ⟨S1, ρ1, A1, a, l1, w1, r1, h1⟩ =>
    ⟨F, S1, ρ1, s, A1, w1, sr.mono l1, (EndG.bind h1).imp fun y H2 ⟨S2, ρ2, A2, b, l2, w2, r2, h2⟩ => by
      obtain ⟨c, A', e, k⟩ := EndG.opt h2
      exact ⟨F, S2, ρ2, A2, a, b, c, A', w2, r1.mono l2, r2, e, k⟩⟩⟩
theorem t_opN {f : List D → Arn → Option (D × Arn)} {m : MA} : ∀ σ H Q, tE K W (mOpN f m) σ H Q → tCB (rMN K f) (tA K W m) σ H Q := fun σ H Q ⟨F, S, ρ, s, A, w, sr, h⟩ =>
  ⟨F, S, ρ, s, A, w, sr, (EndG.bind h).imp fun x H1 ⟨S1, ρ1, A1, a, _, w1, r1, h1⟩ => by
    obtain ⟨b, A', e, k⟩ := EndG.opt h1
    exact ⟨F, S1, ρ1, A1, a, b, A', w1, r1, e, k⟩⟩
theorem t_nil : ∀ σ H Q, tA K W aNil σ H Q → tNil σ H Q := fun σ H Q ⟨F, S, ρ, s, A, w, sr, h⟩ => EndG.ok h w .nil
theorem t_cons {m : ME} {k : MA} : ∀ σ H Q, tA K W (aCons m k) σ H Q → tCons (tE K W m) (tA K W k) σ H Q := fun σ H Q ⟨F, S, ρ, s, A, w, sr, h⟩ =>
  ⟨F, S, ρ, s, A, w, sr, (EndG.bind h).imp fun x H1 ⟨S1, ρ1, A1, a, l1, w1, r1, h1⟩ =>
    ⟨F, S1, ρ1, s, A1, w1, sr.mono l1, (EndG.bind h1).imp fun y H2 ⟨S2, ρ2, A2, b, l2, w2, r2, h2⟩ => EndG.ok h2 w2 (.cons (r1.mono l2) r2)⟩⟩
theorem t_B {m : ME} : ∀ σ H Q, tT K W (mB m) σ H Q → tTest (tE K W m) σ H Q := fun σ H Q ⟨F, S, ρ, s, A, w, sr, h⟩ =>
  ⟨F, S, ρ, s, A, w, sr, (EndG.bind h).imp fun x H1 ⟨S1, ρ1, A1, a, l1, w1, r1, h1⟩ => by
    cases a with
    | ref n => exact h1.elim
    | scr ns => exact h1.elim
    | p d =>
      cases d with
      | bool b =>
        cases r1
        exact ⟨b, rfl, EndG.ok h1 w1 rfl⟩
      | none => exact h1.elim
      | int i => exact h1.elim
      | str x => exact h1.elim
      | list x => exact h1.elim
      | tuple x => exact h1.elim
      | dict x => exact h1.elim⟩
theorem t_not {m : MT} : ∀ σ H Q, tT K W (mNot m) σ H Q → tNot (tT K W m) σ H Q := fun σ H Q ⟨F, S, ρ, s, A, w, sr, h⟩ =>
  ⟨F, S, ρ, s, A, w, sr, (EndG.bind h).imp fun x H1 ⟨S1, ρ1, A1, a, l1, w1, r1, h1⟩ => by
    subst r1
    exact EndG.ok h1 w1 rfl⟩
theorem t_and {m k : MT} : ∀ σ H Q, tT K W (mAnd m k) σ H Q → tAnd (tT K W m) (tT K W k) σ H Q := fun σ H Q ⟨F, S, ρ, s, A, w, sr, h⟩ =>
  ⟨F, S, ρ, s, A, w, sr, (EndG.bind h).imp fun x H1 ⟨S1, ρ1, A1, a, l1, w1, r1, h1⟩ => by
    subst r1
    cases a with
    | true => exact ⟨F, S1, ρ1, s, A1, w1, sr.mono l1, h1⟩
    | false => exact EndG.ok h1 w1 rfl⟩
theorem t_or {m k : MT} : ∀ σ H Q, tT K W (mOr m k) σ H Q → tOr (tT K W m) (tT K W k) σ H Q := fun σ H Q ⟨F, S, ρ, s, A, w, sr, h⟩ =>
  ⟨F, S, ρ, s, A, w, sr, (EndG.bind h).imp fun x H1 ⟨S1, ρ1, A1, a, l1, w1, r1, h1⟩ => by
    subst r1
    cases a with
    | true => exact EndG.ok h1 w1 rfl
    | false => exact ⟨F, S1, ρ1, s, A1, w1, sr.mono l1, h1⟩⟩
theorem t_if {c : MT} {m k : ME} : ∀ σ H Q, tE K W (mIfE c m k) σ H Q → tIf (tT K W c) (tE K W m) (tE K W k) σ H Q := fun σ H Q ⟨F, S, ρ, s, A, w, sr, h⟩ =>
  ⟨F, S, ρ, s, A, w, sr, (EndG.bind h).imp fun x H1 ⟨S1, ρ1, A1, a, l1, w1, r1, h1⟩ => by
    subst r1
    cases a with
    | true => exact ⟨F, S1, ρ1, s, A1, w1, sr.mono l1, h1⟩
    | false => exact ⟨F, S1, ρ1, s, A1, w1, sr.mono l1, h1⟩⟩
end
end
end Mi
end

section
set_option maxHeartbeats 4000000
namespace Mi
open PySem PySem.Spec PyProof.Rows L2
open Evl (Ex)

def fromR {α : Type} (r : Res α) (f : α → Arn → Out) : Out := match r with
  | .ok a A => f a A
  | .exn e A => .exn e A
  | .bad => .bad
def sSkip : MS := fun s A => .nx s A
def sSeq (m k : MS) : MS := fun s A => match m s A with
  | .nx s' A' => k s' A'
  | o => o
def sLet (i : Nat) (m : ME) : MS := fun s A => fromR (m s A) fun d A1 => .nx (s.set i (some d)) A1
def sDrop (m : ME) : MS := fun s A => fromR (m s A) fun _ A1 => .nx s A1
def sRet (m : ME) : MS := fun s A => fromR (m s A) fun d A1 => .rt d A1
def sIf (c : MT) (m k : MS) : MS := fun s A => fromR (c s A) fun b A1 => if b = true then m s A1 else k s A1
def sNever : MS := fun _ _ => .bad
def sPar (i j : Nat) (m : MA) : MS := fun s A => fromR (m s A) fun ds A1 => match ds with
  | [d, e] => .nx ((s.set i (some d)).set j (some e)) A1
  | _ => .bad
abbrev MG := PyData → Slt → Option Slt
def gN (i : Nat) : MG := fun x s => some (s.set i (some (.p x)))
def gNone : List PyData → Slt → Option Slt := fun xs s => match xs with
  | [] => some s
  | _ => none
def gMore (g : MG) (r : List PyData → Slt → Option Slt) : List PyData → Slt → Option Slt := fun xs s => match xs with
  | x :: xs => (g x s).bind (r xs)
  | [] => none
def gTp (r : List PyData → Slt → Option Slt) : MG := fun x s => match x with
  | .tuple xs => r xs s
  | _ => none
def optS (o : Option Slt) (A : Arn) : Out := match o with
  | some s => .nx s A
  | none => .bad
def sAsg (m : ME) (g : MG) : MS := fun s A => fromR (m s A) fun d A1 => match d with
  | .p x => optS (g x s) A1
  | _ => .bad
abbrev MI := Slt → Arn → Res (List PyData)
def Out.turn (o : Out) (k : Slt → Arn → Out) : Out := match o with
  | .nx s A => k s A
  | .ct s A => k s A
  | .bk s A => .nx s A
  | .rt d A => .rt d A
  | .exn e A => .exn e A
  | .bad => .bad
def forL (step : PyData → MS) : List PyData → MS
  | [], s, A => .nx s A
  | x :: xs, s, A => (step x s A).turn (forL step xs)
def turnF (g : MG) (b : MS) : PyData → MS := fun x s A => match g x s with
  | some s' => b s' A
  | none => .bad
def sFor (m : MI) (g : MG) (b : MS) : MS := fun s A => fromR (m s A) fun xs A1 => forL (turnF g b) xs s A1
def whileN (c : MT) (b : MS) : Nat → MS
  | 0, _, _ => .bad
  | n + 1, s, A => fromR (c s A) fun k A1 => if k = true then (b s A1).turn (whileN c b n) else .nx s A1
def sWhile (n : Nat) (c : MT) (b : MS) : MS := whileN c b n

def EndS (K : PySem.W.Frag) (W : WX) (F S : Hp) (ρ : List Addr) (D : Ends) : Out → Prop
  | .nx s' A' => ∀ S' ρ' H' σ', Le S ρ S' ρ' → Wo K F S' ρ' H' A' → SR K S' ρ' s' σ' → D.nx σ' H'
  | .bk s' A' => ∀ S' ρ' H' σ', Le S ρ S' ρ' → Wo K F S' ρ' H' A' → SR K S' ρ' s' σ' → D.bk σ' H'
  | .ct s' A' => ∀ S' ρ' H' σ', Le S ρ S' ρ' → Wo K F S' ρ' H' A' → SR K S' ρ' s' σ' → D.ct σ' H'
  | .rt v A' => ∀ S' ρ' H' x, Le S ρ S' ρ' → Wo K F S' ρ' H' A' → RD K S' ρ' v x → D.rt x H'
  | .exn e A' => ∀ S' ρ' H' σ' c d, Le S ρ S' ρ' → Wo K F S' ρ' H' A' → ER K S' e c d H' → W c d σ' H'
  | .bad => False
def tS (K : PySem.W.Frag) (W : WX) (m : MS) : TS := fun D σ H => ∃ F S ρ s A, Wo K F S ρ H A ∧ SR K S ρ s σ ∧ EndS K W F S ρ D (m s A)
section
variable {α β : Type} {K : PySem.W.Frag} {W : WX} {rel : Rl α β} {F S S' H H' : Hp} {ρ ρ' : List Addr} {σ : L2.St} {A : Arn} {s : Slt} {D D' : Ends}
theorem EndS.le {r : Out} (l : Le S ρ S' ρ') (h : EndS K W F S ρ D r) : EndS K W F S' ρ' D r := by
  cases r with
  | nx a A => exact fun S2 ρ2 H2 x l2 w r => h S2 ρ2 H2 x (l.trans l2) w r
  | bk a A => exact fun S2 ρ2 H2 x l2 w r => h S2 ρ2 H2 x (l.trans l2) w r
  | ct a A => exact fun S2 ρ2 H2 x l2 w r => h S2 ρ2 H2 x (l.trans l2) w r
  | rt a A => exact fun S2 ρ2 H2 x l2 w r => h S2 ρ2 H2 x (l.trans l2) w r
  | exn e A => exact fun S2 ρ2 H2 σ' c d l2 w r => h S2 ρ2 H2 σ' c d (l.trans l2) w r
  | bad => exact h
theorem EndS.from {r : Res α} {f : α → Arn → Out} (h : EndS K W F S ρ D (fromR r f)) :
    EndG K W F rel S ρ σ (fun x H1 => ∃ S1 ρ1 A1 a, Le S ρ S1 ρ1 ∧ Wo K F S1 ρ1 H1 A1 ∧ rel S1 ρ1 a x ∧ EndS K W F S1 ρ1 D (f a A1)) r := by
  cases r with
  | ok a A => exact fun S2 ρ2 H2 x l2 w r => ⟨S2, ρ2, A, a, l2, w, r, EndS.le l2 h⟩
  | exn e A => exact fun S2 ρ2 H2 c d l2 w r => h S2 ρ2 H2 σ c d l2 w r
  | bad => exact h
theorem EndS.nx {s' : Slt} (h : EndS K W F S ρ D (.nx s' A)) (w : Wo K F S ρ H A) (r : SR K S ρ s' σ) : D.nx σ H := h S ρ H σ (Le.refl _ _) w r
theorem t_seq {m k : MS} : ∀ D σ H, tS K W (sSeq m k) D σ H → tSeq (tS K W m) (tS K W k) D σ H := fun D σ H ⟨F, S, ρ, s, A, w, sr, h⟩ => by
  refine ⟨F, S, ρ, s, A, w, sr, ?_⟩
  unfold sSeq at h
  cases e : m s A with
  | nx s1 A1 => rw [e] at h; exact fun S1 ρ1 H1 σ1 l1 w1 r1 => ⟨F, S1, ρ1, s1, A1, w1, r1, EndS.le l1 h⟩
  | bk s1 A1 => rw [e] at h; exact h
  | ct s1 A1 => rw [e] at h; exact h
  | rt s1 A1 => rw [e] at h; exact h
  | exn s1 A1 => rw [e] at h; exact h
  | bad => rw [e] at h; exact h
theorem t_let {m : ME} {i : Nat} : ∀ D σ H, tS K W (sLet i m) D σ H → tAsg (tE K W m) (gName i) D σ H := fun D σ H ⟨F, S, ρ, s, A, w, sr, h⟩ =>
  ⟨F, S, ρ, s, A, w, sr, (EndS.from h).imp fun x H1 ⟨S1, ρ1, A1, a, l1, w1, r1, h1⟩ => EndS.nx h1 w1 ((sr.mono l1).set r1)⟩
theorem t_ret {m : ME} : ∀ D σ H, tS K W (sRet m) D σ H → tRet (tE K W m) D σ H := fun D σ H ⟨F, S, ρ, s, A, w, sr, h⟩ =>
  ⟨F, S, ρ, s, A, w, sr, (EndS.from h).imp fun x H1 ⟨S1, ρ1, A1, a, l1, w1, r1, h1⟩ => h1 S1 ρ1 H1 x (Le.refl _ _) w1 r1⟩
theorem t_skip : ∀ D σ H, tS K W sSkip D σ H → tNext D σ H := fun D σ H ⟨F, S, ρ, s, A, w, sr, h⟩ => EndS.nx h w sr
theorem t_ifS {c : MT} {m k : MS} : ∀ D σ H, tS K W (sIf c m k) D σ H → tIfS (tT K W c) (tS K W m) (tS K W k) D σ H := fun D σ H ⟨F, S, ρ, s, A, w, sr, h⟩ =>
  ⟨F, S, ρ, s, A, w, sr, (EndS.from h).imp fun x H1 ⟨S1, ρ1, A1, a, l1, w1, r1, h1⟩ => by
    subst r1
    cases a with
    | true => exact ⟨F, S1, ρ1, s, A1, w1, sr.mono l1, h1⟩
    | false => exact ⟨F, S1, ρ1, s, A1, w1, sr.mono l1, h1⟩⟩
theorem wipe_set {σ : L2.St} {i : Nat} {v : Option V} : ∀ {us : List Nat}, i ∈ us → wipe (σ.set i v) us = wipe σ us
  | [], h => nomatch h
  | u :: us, h => by
    have e1 : ∀ us : List Nat, i ∉ us → wipe (σ.set i v) us = (wipe σ us).set i v := by
      intro us
      induction us with
      | nil => intro _; rfl
      | cons u us ih =>
        intro hn
        unfold wipe
        have h1 : i ≠ u := fun e => hn (by rw [e]; exact List.mem_cons_self)
        rw [ih fun m => hn (List.mem_cons_of_mem _ m), List.set_comm _ _ h1]
    by_cases hm : i ∈ us
    · unfold wipe
      rw [wipe_set hm]
    · have hu : i = u := by
        rcases List.mem_cons.mp h with z | z
        · exact z
        · exact absurd z hm
      subst hu
      unfold wipe
      rw [e1 us hm, List.set_set]
def wipeS (s : Slt) : List Nat → Slt
  | [] => s
  | v :: vs => (wipeS s vs).set v none
theorem SR.unset (h : SR K S ρ s σ) (i : Nat) : SR K S ρ (s.set i none) (σ.set i none) := by
  refine ⟨by simp [h.len], fun j e q => ?_⟩
  by_cases hj : j = i
  · subst hj
    by_cases hlt : j < s.length
    · rw [List.getElem?_set_self hlt] at q
      cases q
    · rw [List.getElem?_eq_none (by simpa using hlt)] at q
      cases q
  · rw [List.getElem?_set_ne (Ne.symm hj)] at q
    obtain ⟨w, a, b⟩ := h.at_ j e q
    exact ⟨w, by rw [List.getElem?_set_ne (Ne.symm hj)]; exact a, b⟩
theorem SR.wipe (h : SR K S ρ s σ) : ∀ vs : List Nat, SR K S ρ (wipeS s vs) (L2.wipe σ vs)
  | [] => h
  | v :: vs => (SR.wipe h vs).unset v
theorem wipe_idem (σ : L2.St) (vs : List Nat) : L2.wipe (L2.wipe σ vs) vs = L2.wipe σ vs := by
  have : ∀ us : List Nat, (∀ u ∈ us, u ∈ vs) → L2.wipe (L2.wipe σ us) vs = L2.wipe σ vs := by
    intro us
    induction us with
    | nil => intro _; rfl
    | cons u us ih =>
      intro h
      show L2.wipe ((L2.wipe σ us).set u none) vs = _
      rw [wipe_set (h u List.mem_cons_self), ih fun x hx => h x (List.mem_cons_of_mem _ hx)]
  exact this vs fun _ h => h
def GOk (K : PySem.W.Frag) (g : TG) (m : MG) (is : List Nat) : Prop := ∀ (S : Hp) (ρ : List Addr) (s s' : Slt) (σ : L2.St) (H : Hp) (v : V) (x : PyData) (Q : L2.St → Hp → Prop), Ex S H → SR K S ρ s σ → Dq K S v x → m x s = some s' →
  (∀ σ', SR K S ρ s' σ' → (∀ us : List Nat, (∀ i ∈ is, i ∈ us) → wipe σ' us = wipe σ us) → Q σ' H) → g v σ H Q
theorem gok_name {i : Nat} : GOk K (gName i) (gN i) [i] := fun S ρ s s' σ H v x Q _ sr q e k => by
  cases e
  exact k _ (sr.set q) fun us h => wipe_set (h i (by simp))
structure ItOk (K : PySem.W.Frag) (J : It) (xs : List PyData) (S0 F0 : Hp) : Prop where
  go : ∀ i H d, Ex S0 H → Ex F0 H → xs[i]? = some d → J.go i H
  yld : ∀ i S H x H' d, Ex S0 S → Ex S H → Ex F0 H → J.yld i H x H' → xs[i]? = some d → ∃ S', Grow S H S' H' ∧ Dq K S' x d
  stop : ∀ i H, Ex S0 H → Ex F0 H → xs.length ≤ i → J.stop i H
def tI (K : PySem.W.Frag) (W : WX) (m : MI) : TI := fun σ H R => ∃ F S ρ s A, Wo K F S ρ H A ∧ SR K S ρ s σ ∧ match m s A with
  | .ok xs A' => ∀ S' ρ' H' J, Le S ρ S' ρ' → Wo K F S' ρ' H' A' → (∀ F0, ItOk K J xs S' F0) → R J H'
  | .exn e A' => ∀ S' ρ' H' c d, Le S ρ S' ρ' → Wo K F S' ρ' H' A' → ER K S' e c d H' → W c d σ H'
  | .bad => False
theorem ItOk.list {S0 F0 : Hp} {a : Addr} {vs : List V} {xs : List PyData} (h : SqL K S0 a vs) (q : DqAll K S0 vs xs) : ItOk K (Itl K a) xs S0 F0 where
  go := fun i H d ex _ e => by
    obtain ⟨v, h1, _⟩ := q.get e
    exact ⟨vs, v, Evl.ex_l ex h, h1⟩
  yld := fun i S H x H' d ex ex2 _ ⟨e1, e2⟩ e => by
    obtain ⟨v, h1, h2⟩ := q.get e
    have := e2 vs (Evl.ex_l (ex.trans ex2) h)
    rw [h1] at this
    cases this
    subst e1
    exact ⟨S, Grow.refl ex2, Dq.mono ex _ _ h2⟩
  stop := fun i H ex _ hl => ⟨vs, Evl.ex_l ex h, by rw [DqAll.length q]; exact hl⟩
theorem ItOk.tup {S0 F0 : Hp} {a : Addr} {vs : List V} {xs : List PyData} (h : SqT K S0 a vs) (q : DqAll K S0 vs xs) : ItOk K (Itt K a) xs S0 F0 where
  go := fun i H d ex _ e => by
    obtain ⟨v, h1, _⟩ := q.get e
    exact ⟨vs, v, Evl.ex_t ex h, h1⟩
  yld := fun i S H x H' d ex ex2 _ ⟨e1, e2⟩ e => by
    obtain ⟨v, h1, h2⟩ := q.get e
    have := e2 vs (Evl.ex_t (ex.trans ex2) h)
    rw [h1] at this
    cases this
    subst e1
    exact ⟨S, Grow.refl ex2, Dq.mono ex _ _ h2⟩
  stop := fun i H ex _ hl => ⟨vs, Evl.ex_t ex h, by rw [DqAll.length q]; exact hl⟩
theorem ItOk.kept {S0 F0 : Hp} {a : Addr} {vs : List V} {xs : List PyData} (h : F0 a = some (.lst vs)) (q : DqAll K S0 vs xs) : ItOk K (Itl K a) xs S0 F0 where
  go := fun i H d _ fx e => by
    obtain ⟨v, h1, _⟩ := q.get e
    exact ⟨vs, v, .inl (.inl (fx _ _ h)), h1⟩
  yld := fun i S H x H' d ex ex2 fx ⟨e1, e2⟩ e => by
    obtain ⟨v, h1, h2⟩ := q.get e
    have := e2 vs (.inl (.inl (fx _ _ h)))
    rw [h1] at this
    cases this
    subst e1
    exact ⟨S, Grow.refl ex2, Dq.mono ex _ _ h2⟩
  stop := fun i H _ fx hl => ⟨vs, .inl (.inl (fx _ _ h)), by rw [DqAll.length q]; exact hl⟩
def rangeD (lo : Int) (n : Nat) : List PyData := (List.range n).map fun i => .int (lo + (i : Nat))
theorem ItOk.range {S0 F0 : Hp} {lo : Int} {n : Nat} : ItOk K (Itr lo n) (rangeD lo n) S0 F0 where
  go := fun i H d _ _ e => by
    have := (List.getElem?_eq_some_iff.mp e).1
    have : i < n := by simpa [rangeD] using this
    exact this
  yld := fun i S H x H' d ex ex2 _ ⟨e1, e2⟩ e => by
    subst e1 e2
    have hl := (List.getElem?_eq_some_iff.mp e).1
    have hl : i < n := by simpa [rangeD] using hl
    have : d = .int (lo + i) := by
      unfold rangeD at e
      rw [List.getElem?_map, List.getElem?_range hl] at e
      exact (Option.some.inj e).symm
    subst this
    exact ⟨S, Grow.refl ex2, .int _⟩
  stop := fun i H ex _ hl => by
    show n ≤ i
    simpa [rangeD] using hl
end
end Mi
end

section
set_option maxHeartbeats 4000000
namespace Mi
open PySem PySem.Spec PyProof.Rows L2
open Evl (Ex)

section
variable {α β : Type} {K : PySem.W.Frag} {W : WX} {rel : Rl α β} {F S S' H H' : Hp} {ρ ρ' : List Addr} {σ : L2.St} {A : Arn} {s : Slt} {D D' : Ends}
def ForI (J : It) (g : TG) (tb : TS) : TS := fun D σ H1 => ∃ W : Nat → Nat → L2.St → Hp → Prop, (∃ m, W 0 m σ H1) ∧ ∀ i m σ H, W i m σ H →
  (J.stop i H ∧ D.nx σ H) ∨ (J.go i H ∧ ∃ N : L2.St → Hp → Prop, (∀ σ' H', N σ' H' → ∃ m', m' < m ∧ W (i + 1) m' σ' H') ∧ ∀ x H', J.yld i H x H' → g x σ H' fun σ2 H2 => tb { D with nx := N, ct := N, bk := D.nx } σ2 H2)
theorem for_core {g : TG} {gm : MG} {is : List Nat} {b : MS} {J : It} {xs : List PyData} {S1 H1 : Hp} {ρ1 : List Addr} {A1 : Arn} (hg : GOk K g gm is) (w1 : Wo K F S1 ρ1 H1 A1) (sr : SR K S1 ρ1 s σ) (it : ItOk K J xs S1 F)
    (h : EndS K W F S1 ρ1 D (forL (turnF gm b) xs s A1)) : ForI J g (tS K W b) D σ H1 := by
  refine ⟨fun i k σ' H' => ∃ S' ρ' s' A', Le S1 ρ1 S' ρ' ∧ Wo K F S' ρ' H' A' ∧ SR K S' ρ' s' σ' ∧ EndS K W F S' ρ' D (forL (turnF gm b) (xs.drop i) s' A') ∧ k = xs.length - i ∧ i ≤ xs.length,
    ⟨xs.length, S1, ρ1, s, A1, Le.refl _ _, w1, sr, h, rfl, Nat.zero_le _⟩, ?_⟩
  rintro i k σ2 H2 ⟨S2, ρ2, s2, A2, l2, w2, sr2, h2, rfl, hi⟩
  by_cases hlt : i < xs.length
  · right
    have ex : xs[i]? = some xs[i] := List.getElem?_eq_getElem hlt
    refine ⟨it.go i H2 _ (l2.ex.trans w2.sub) w2.fsub ex, fun σ' H' => ∃ S' ρ' s' A', Le S1 ρ1 S' ρ' ∧ Wo K F S' ρ' H' A' ∧ SR K S' ρ' s' σ' ∧ EndS K W F S' ρ' D (forL (turnF gm b) (xs.drop (i + 1)) s' A'), fun σ' H' ⟨S', ρ', s', A', a1, a2, a3, a4⟩ => ⟨xs.length - (i + 1), by omega, S', ρ', s', A', a1, a2, a3, a4, rfl, hlt⟩, fun x H' y => ?_⟩
    obtain ⟨S3, gr, q3⟩ := it.yld i S2 H2 x H' xs[i] l2.ex w2.sub w2.fsub y ex
    have w3 := w2.grow gr
    have l3 : Le S1 ρ1 S3 ρ2 := l2.trans (gr.le ρ2)
    rw [List.drop_eq_getElem_cons hlt] at h2
    cases eg : gm xs[i] s2 with
    | none =>
      have h3 : EndS K W F S2 ρ2 D ((turnF gm b xs[i] s2 A2).turn (forL (turnF gm b) (xs.drop (i + 1)))) := h2
      unfold turnF at h3
      rw [eg] at h3
      exact h3.elim
    | some s4 =>
      have h3 : EndS K W F S3 ρ2 D ((b s4 A2).turn (forL (turnF gm b) (xs.drop (i + 1)))) := by
        have h4 : EndS K W F S2 ρ2 D ((turnF gm b xs[i] s2 A2).turn (forL (turnF gm b) (xs.drop (i + 1)))) := h2
        have e5 : turnF gm b xs[i] s2 A2 = b s4 A2 := by
          unfold turnF
          rw [eg]
        rw [e5] at h4
        exact EndS.le (gr.le ρ2) h4
      refine hg S3 ρ2 s2 s4 σ2 H' x xs[i] _ w3.sub (sr2.mono (gr.le ρ2)) q3 eg fun σ4 r4 _ => ?_
      refine ⟨F, S3, ρ2, s4, A2, w3, r4, ?_⟩
      cases eb : b s4 A2 with
      | nx s5 A5 => rw [eb] at h3; exact fun S6 ρ6 H6 σ6 l6 w6 r6 => ⟨S6, ρ6, s5, A5, l3.trans l6, w6, r6, EndS.le l6 h3⟩
      | ct s5 A5 => rw [eb] at h3; exact fun S6 ρ6 H6 σ6 l6 w6 r6 => ⟨S6, ρ6, s5, A5, l3.trans l6, w6, r6, EndS.le l6 h3⟩
      | bk s5 A5 => rw [eb] at h3; exact h3
      | rt s5 A5 => rw [eb] at h3; exact h3
      | exn s5 A5 => rw [eb] at h3; exact h3
      | bad => rw [eb] at h3; exact h3
  · left
    have hi' : xs.length ≤ i := Nat.le_of_not_lt hlt
    rw [List.drop_of_length_le hi'] at h2
    exact ⟨it.stop i H2 (l2.ex.trans w2.sub) w2.fsub hi', EndS.nx h2 w2 sr2⟩
theorem t_for {m : MI} {g : TG} {gm : MG} {is : List Nat} {b : MS} (hg : GOk K g gm is) : ∀ D σ H, tS K W (sFor m gm b) D σ H → tFor (tI K W m) g (tS K W b) D σ H := fun D σ H ⟨F, S, ρ, s, A, w, sr, h⟩ => by
  refine ⟨F, S, ρ, s, A, w, sr, ?_⟩
  have h : EndS K W F S ρ D (fromR (m s A) fun xs A1 => forL (turnF gm b) xs s A1) := h
  cases e : m s A with
  | bad => rw [e] at h; exact h
  | exn x A1 => rw [e] at h; exact fun S' ρ' H' c d l w' r => h S' ρ' H' σ c d l w' r
  | ok xs A1 =>
    rw [e] at h
    intro S1 ρ1 H1 J l1 w1 it
    exact for_core hg w1 (sr.mono l1) (it F) (EndS.le l1 h)
end

section
variable {X : Cx} {W : WX} {tg : Expr}
theorem pi_imp {iter : Expr} {t t' : TI} (h : PI X tg iter t) (k : ∀ σ H R, t' σ H R → t σ H R) : PI X tg iter t' := ⟨fun pins s σ H R I q => h.run pins s σ H R I (k _ _ _ q)⟩
def iSeqS (K : PySem.W.Frag) (tl : TE) : TI := fun σ H R => tl σ H fun x H1 => (∃ a, x = .ref a ∧ (((∃ xs, SqL K H1 a xs) ∧ R (Itl K a) H1) ∨ ((∃ xs, SqT K H1 a xs) ∧ R (Itt K a) H1))) ∨ ∃ z, x = .str z ∧ R (Its z) H1
theorem pi_seqS {l : Expr} {tl : TE} (hl : PE X l tl) : PI X tg l (iSeqS X.K tl) := by
  refine ⟨fun pins s σ H R I h => ?_⟩
  refine thn (hl.run pins s σ H _ I h) fun v s1 ⟨x, H1, I1, r1, q0⟩ => ?_
  rcases q0 with ⟨a, e, q1⟩ | ⟨z, e, q⟩
  · subst e
    cases r1
    rcases q1 with ⟨⟨xs, hq⟩, q⟩ | ⟨⟨xs, hq⟩, q⟩
    · obtain ⟨its, rv, p, hz⟩ := I1.list hq
      refine wpAny_pyIter_list p.isList ?_
      refine ⟨s1.heap.objs.size, [s1.heap.objs.size], _, _, H1, rfl, I1.kept (t' := s1.toks) fun b o e => Heap.get?_push_of_some _ e, turn_list a _, ⟨_, Heap.get?_push_size _ rfl, rfl, rfl⟩, fun b hb => ?_, q⟩
      have e : b = s1.heap.objs.size := by simpa using hb
      subst e
      exact I1.fpOk (Nat.le_refl _) (I1.hok.fresh (Nat.le_refl _))
    · obtain ⟨its, rv, p, hz⟩ := I1.tuple hq
      refine wpAny_pyIter_tuple (show s1.heap.IsTuple a its.toArray from p) ?_
      refine ⟨s1.heap.objs.size, [s1.heap.objs.size], _, _, H1, rfl, I1.kept (t' := s1.toks) fun b o e => Heap.get?_push_of_some _ e, turn_tuple a _, ⟨_, Heap.get?_push_size _ rfl, rfl, rfl⟩, fun b hb => ?_, q⟩
      have e : b = s1.heap.objs.size := by simpa using hb
      subst e
      exact I1.fpOk (Nat.le_refl _) (I1.hok.fresh (Nat.le_refl _))
  · subst e
    obtain ⟨t, rfl⟩ := r1
    cases ha : z.cps.all (· < 128)
    · exact wpAny_pyIter_wide ha (pi_one (tk := s1.toks) I1 _ (turn_str _ z t "str_iterator" (.inr rfl)) ⟨_, Heap.get?_push_size _ rfl, rfl, rfl⟩ q)
    · exact wpAny_pyIter_ascii ha (pi_one (tk := s1.toks) I1 _ (turn_str _ z t "str_ascii_iterator" (.inl rfl)) ⟨_, Heap.get?_push_size _ rfl, rfl, rfl⟩ q)
def signs (z : Str) : List PyData := z.cps.toList.map fun c => .str ⟨#[c]⟩
theorem ItOk.signs {K : PySem.W.Frag} {S0 F0 : Hp} {z : Str} : ItOk K (Its z) (signs z) S0 F0 where
  go := fun i H d _ _ e => by
    have := (List.getElem?_eq_some_iff.mp e).1
    unfold Mi.signs at this
    rw [List.length_map, Array.length_toList] at this
    exact this
  yld := fun i S H x H' d ex ex2 _ ⟨e1, c, e2, e3⟩ e => by
    subst e1 e3
    unfold Mi.signs at e
    rw [List.getElem?_map, Array.getElem?_toList, e2] at e
    cases e
    exact ⟨S, Grow.refl ex2, .str _⟩
  stop := fun i H _ _ e => by
    unfold Mi.signs at e
    rw [List.length_map, Array.length_toList] at e
    exact e
def frz (d : D) (A : Arn) : Option (PyData × Arn) := match d with
  | .p d => some (d, A)
  | .ref n => match A[n]? with
    | some (.lst xs) => some (.list xs, A.set n .gone)
    | _ => none
  | .scr _ => none
theorem frz_ok {K : PySem.W.Frag} {F S H : Hp} {ρ : List Addr} {A A' : Arn} {d : D} {x : PyData} {v : V} (w : Wo K F S ρ H A) (r : RD K S ρ d v) (e : frz d A = some (x, A')) : ∃ S', Le S ρ S' ρ ∧ Wo K F S' ρ H A' ∧ Dq K S' v x := by
  cases d with
  | p d => cases e; exact ⟨S, Le.refl _ _, w, r⟩
  | scr n => cases e
  | ref n =>
    unfold frz at e
    dsimp only at e
    split at e
    · rename_i xs ea
      cases e
      obtain ⟨S', a, l, w', ha, q⟩ := w.freeze ea
      obtain ⟨b, rfl, hb⟩ := r
      rw [ha] at hb
      cases hb
      exact ⟨S', l, w', q⟩
    · cases e
def itemsOf (x : PyData) : Option (List PyData) := match x with
  | .list xs => some xs
  | .tuple xs => some xs
  | .str z => some (signs z)
  | _ => none
def opt0 {α : Type} (r : Option (α × Arn)) : Res α := match r with
  | some (a, A) => .ok a A
  | none => .bad
def iS (m : ME) : MI := fun s A => (m s A).bind fun d A1 => opt0 ((frz d A1).bind fun x => (itemsOf x.1).map fun xs => (xs, x.2))
theorem xi_seq {l : Expr} {m : ME} (hl : PE X l (tE X.K W m)) : PI X tg l (tI X.K W (iS m)) := pi_imp (pi_seqS hl) fun σ H R ⟨F, S, ρ, s, A, w, sr, h⟩ => by
  refine ⟨F, S, ρ, s, A, w, sr, ?_⟩
  unfold iS at h
  cases e : m s A with
  | bad => rw [e] at h; exact h
  | exn x A1 => rw [e] at h; exact h
  | ok d A1 =>
    rw [e] at h
    intro S1 ρ1 H1 x l1 w1 r1
    dsimp only [Res.bind] at h
    cases ef : frz d A1 with
    | none => rw [ef] at h; exact h.elim
    | some p =>
      obtain ⟨y, A2⟩ := p
      rw [ef] at h
      obtain ⟨S2, l2, w2, q2⟩ := frz_ok w1 r1 ef
      dsimp only [Option.bind_some] at h
      cases y with
      | list xs =>
        cases q2 with
        | lst hq qa => exact .inl ⟨_, rfl, .inl ⟨⟨_, .inl (.inl (w2.sub _ _ hq))⟩, h S2 ρ1 H1 _ (l1.trans l2) w2 (fun _ => ItOk.list (.inl (.inl hq)) qa)⟩⟩
      | tuple xs =>
        cases q2 with
        | tup hq qa => exact .inl ⟨_, rfl, .inr ⟨⟨_, Evl.ex_t w2.sub hq⟩, h S2 ρ1 H1 _ (l1.trans l2) w2 (fun _ => ItOk.tup hq qa)⟩⟩
      | none => exact h.elim
      | bool b => exact h.elim
      | int i => exact h.elim
      | str z =>
        cases q2
        exact .inr ⟨_, rfl, h S2 ρ1 H1 _ (l1.trans l2) w2 (fun _ => ItOk.signs)⟩
      | dict x => exact h.elim
def intsD : List D → Option (List Int)
  | [] => some []
  | .p (.int i) :: ds => (intsD ds).map fun ns => i :: ns
  | _ :: _ => none
theorem intsD_ok {K : PySem.W.Frag} {S : Hp} {ρ : List Addr} : ∀ {ds : List D} {xs : List V} {ns : List Int}, RDs K S ρ ds xs → intsD ds = some ns → xs = ns.map V.int
  | [], _, _, r, e => by cases r; cases e; rfl
  | .ref _ :: _, _, _, _, e => by cases e
  | .scr _ :: _, _, _, _, e => by cases e
  | .p .none :: _, _, _, _, e => by cases e
  | .p (.bool _) :: _, _, _, _, e => by cases e
  | .p (.str _) :: _, _, _, _, e => by cases e
  | .p (.list _) :: _, _, _, _, e => by cases e
  | .p (.tuple _) :: _, _, _, _, e => by cases e
  | .p (.dict _) :: _, _, _, _, e => by cases e
  | .p (.int i) :: ds, _, ns, r, e => by
    cases r with
    | cons r1 r2 =>
      unfold intsD at e
      cases e1 : intsD ds with
      | none => rw [e1] at e; cases e
      | some ms =>
        rw [e1] at e
        cases e
        rw [intsD_ok r2 e1]
        have r1 : Dq K S _ (.int i) := r1
        cases r1
        rfl
def rng1 (ns : List Int) : Option (List PyData) := match ns with
  | [j] => if -(2 ^ 62) ≤ j ∧ j < 2 ^ 62 then some (rangeD 0 j.toNat) else none
  | _ => none
def rng2 (ns : List Int) : Option (List PyData) := match ns with
  | [i, j] => if -(2 ^ 62) ≤ i ∧ i < 2 ^ 62 ∧ -(2 ^ 62) ≤ j ∧ j < 2 ^ 62 then some (rangeD i (j - i).toNat) else none
  | _ => none
def iR1 (m : MA) : MI := fun s A => (m s A).bind fun ds A1 => opt0 (((intsD ds).bind rng1).map fun xs => (xs, A1))
def iR2 (m : MA) : MI := fun s A => (m s A).bind fun ds A1 => opt0 (((intsD ds).bind rng2).map fun xs => (xs, A1))
theorem rng1_ok {ns : List Int} {xs : List PyData} (h : rng1 ns = some xs) : ∃ j, ns = [j] ∧ (-(2 ^ 62) ≤ j ∧ j < 2 ^ 62) ∧ xs = rangeD 0 j.toNat := by
  unfold rng1 at h
  split at h
  · split at h
    · rename_i j hj
      cases h
      exact ⟨j, rfl, hj, rfl⟩
    · cases h
  · cases h
theorem xi_range1 {a : Expr} {m : MA} {p pos : Pos} (hg : Gl X "range") (hm : X.mg "range" = none) (ha : PA X [a] (tA X.K W m)) (hs : starEach [a] X.env = [(false, eval a X.env)] := by rfl) : PI X tg (.Call (.Name "range" p) [a] [] pos) (tI X.K W (iR1 m)) :=
  pi_imp (pi_range1 hg hm ha hs) fun σ H R ⟨F, S, ρ, s, A, w, sr, h⟩ => by
    refine ⟨F, S, ρ, s, A, w, sr, ?_⟩
    unfold iR1 at h
    cases e : m s A with
    | bad => rw [e] at h; exact h
    | exn x A1 => rw [e] at h; exact h
    | ok ds A1 =>
      rw [e] at h
      intro S1 ρ1 H1 xs l1 w1 r1
      dsimp only [Res.bind] at h
      cases ei : intsD ds with
      | none => rw [ei] at h; exact h.elim
      | some ns =>
        rw [ei] at h
        dsimp only [Option.bind_some] at h
        cases er : rng1 ns with
        | none => rw [er] at h; exact h.elim
        | some ys =>
          rw [er] at h
          obtain ⟨j, rfl, hj, rfl⟩ := rng1_ok er
          exact ⟨j, intsD_ok r1 ei, hj.1, hj.2, h S1 ρ1 H1 _ l1 w1 (fun _ => .range)⟩
section
variable {K : PySem.W.Frag} {W : WX} {F S S' H H' : Hp} {ρ ρ' : List Addr} {σ : L2.St} {A : Arn} {s : Slt} {D D' : Ends}
theorem Wo.revive {n : Nat} {xs : List PyData} {a : Addr} {vs : List V} (w : Wo K (upd F a (.lst vs)) S ρ H A) (hf : F a = none) (e : A[n]? = some .gone) (ha : ρ[n]? = some a) (q : DqAll K S vs xs) : Wo K F S ρ H (A.set n (.lst xs)) := by
  have hlt : n < A.length := (List.getElem?_eq_some_iff.mp e).1
  have ex : Ex F (upd F a (.lst vs)) := Ex.new hf
  have hp : H a = some (.lst vs) := w.fsub a _ upd_same
  have hs : S a = none := w.fdis a (by rw [upd_same]; simp)
  have at_ : ∀ {m : Nat} {o : O}, (A.set n (O.lst xs))[m]? = some o → (m = n ∧ o = .lst xs) ∨ (m ≠ n ∧ A[m]? = some o) := fun {m o} z => by
    by_cases hm : m = n
    · subst hm
      rw [List.getElem?_set_self hlt] at z
      cases z
      exact .inl ⟨rfl, rfl⟩
    · rw [List.getElem?_set_ne (Ne.symm hm)] at z
      exact .inr ⟨hm, z⟩
  have off : ∀ {m : Nat} {o : O} {b : Addr}, A[m]? = some o → o ≠ .gone → ρ[m]? = some b → b ≠ a := fun {m o b} z nz g y => by
    subst y
    have := w.flive m o b z nz g
    rw [upd_same] at this
    cases this
  refine ⟨w.sub, ex.trans w.fsub, fun b z => w.fdis b ?_, fun m o b z nz g => ?_, by rw [List.length_set]; exact w.len, fun m ys z => ?_, fun m ns z => ?_, fun m ns z => ?_, fun m ns z => ?_, fun m k o u b e1 e2 n1 n2 g1 g2 => ?_⟩
  · cases y : F b with
    | none => exact absurd y z
    | some v => rw [ex b v y]; simp
  · rcases at_ z with ⟨rfl, rfl⟩ | ⟨hm, z2⟩
    · rw [ha] at g
      cases g
      exact hf
    · have := w.flive m o b z2 nz g
      rw [upd_ne (off z2 nz g)] at this
      exact this
  · rcases at_ z with ⟨rfl, y⟩ | ⟨hm, z2⟩
    · cases y
      exact ⟨a, vs, ha, hs, hp, q⟩
    · exact w.lst m ys z2
  · rcases at_ z with ⟨rfl, y⟩ | ⟨hm, z2⟩
    · cases y
    · exact w.refs m ns z2
  · rcases at_ z with ⟨rfl, y⟩ | ⟨hm, z2⟩
    · cases y
    · exact w.dct m ns z2
  · rcases at_ z with ⟨rfl, y⟩ | ⟨hm, z2⟩
    · cases y
    · exact w.tab m ns z2
  · rcases at_ e1 with ⟨rfl, rfl⟩ | ⟨hm, z1⟩
    · rcases at_ e2 with ⟨rfl, rfl⟩ | ⟨hk, z2⟩
      · rfl
      · rw [ha] at g1
        cases g1
        exact absurd rfl (off z2 n2 g2)
    · rcases at_ e2 with ⟨rfl, rfl⟩ | ⟨hk, z2⟩
      · rw [ha] at g2
        cases g2
        exact absurd rfl (off z1 n1 g1)
      · exact w.inj m k o u b z1 z2 n1 n2 g1 g2
def isGone (A : Arn) (n : Nat) : Bool := match A[n]? with
  | some .gone => true
  | _ => false
theorem isGone_ok {A : Arn} {n : Nat} (h : isGone A n = true) : A[n]? = some .gone := by
  unfold isGone at h
  split at h
  · assumption
  · cases h
def reviveO (n : Nat) (xs : List PyData) : Out → Out
  | .nx s A => if isGone A n = true then .nx s (A.set n (.lst xs)) else .bad
  | .rt d A => if isGone A n = true then .rt d (A.set n (.lst xs)) else .bad
  | .bk s A => if isGone A n = true then .bk s (A.set n (.lst xs)) else .bad
  | .ct s A => if isGone A n = true then .ct s (A.set n (.lst xs)) else .bad
  | _ => .bad
theorem EndS.revive {n : Nat} {xs : List PyData} {a : Addr} {vs : List V} (hf : F a = none) (ha : ρ[n]? = some a) (q : DqAll K S vs xs) {r : Out} (h : EndS K W F S ρ D (reviveO n xs r)) : EndS K W (upd F a (.lst vs)) S ρ D r := by
  cases r with
  | bad => exact h
  | exn e A => exact h.elim
  | nx t A =>
    have h : EndS K W F S ρ D (if isGone A n = true then .nx t (A.set n (.lst xs)) else .bad) := h
    by_cases c : isGone A n = true
    · rw [if_pos c] at h
      exact fun S' ρ' H' x l w r => h S' ρ' H' x l (w.revive hf (isGone_ok c) (l.pre.get ha) (DqAll.mono l.ex _ _ q)) r
    · rw [if_neg c] at h; exact h.elim
  | bk t A =>
    have h : EndS K W F S ρ D (if isGone A n = true then .bk t (A.set n (.lst xs)) else .bad) := h
    by_cases c : isGone A n = true
    · rw [if_pos c] at h
      exact fun S' ρ' H' x l w r => h S' ρ' H' x l (w.revive hf (isGone_ok c) (l.pre.get ha) (DqAll.mono l.ex _ _ q)) r
    · rw [if_neg c] at h; exact h.elim
  | ct t A =>
    have h : EndS K W F S ρ D (if isGone A n = true then .ct t (A.set n (.lst xs)) else .bad) := h
    by_cases c : isGone A n = true
    · rw [if_pos c] at h
      exact fun S' ρ' H' x l w r => h S' ρ' H' x l (w.revive hf (isGone_ok c) (l.pre.get ha) (DqAll.mono l.ex _ _ q)) r
    · rw [if_neg c] at h; exact h.elim
  | rt t A =>
    have h : EndS K W F S ρ D (if isGone A n = true then .rt t (A.set n (.lst xs)) else .bad) := h
    by_cases c : isGone A n = true
    · rw [if_pos c] at h
      exact fun S' ρ' H' x l w r => h S' ρ' H' x l (w.revive hf (isGone_ok c) (l.pre.get ha) (DqAll.mono l.ex _ _ q)) r
    · rw [if_neg c] at h; exact h.elim
def sForK (m : ME) (g : MG) (b : MS) : MS := fun s A => fromR (m s A) fun d A1 => match d with
  | .ref n => match A1[n]? with
    | some (.lst xs) => reviveO n xs (forL (turnF g b) xs s (A1.set n .gone))
    | _ => .bad
  | _ => .bad
end

abbrev ML := Slt → Arn → Res (List PyData)
def tL (K : PySem.W.Frag) (W : WX) (m : ML) : TE := fun σ H Q => ∃ F S ρ s A, Wo K F S ρ H A ∧ SR K S ρ s σ ∧ match m s A with
  | .ok xs A' => ∀ S' ρ' H' p vs, Le S ρ S' ρ' → Wo K F S' ρ' H' A' → Fresh F S' ρ' A' p → H' p = some (.lst vs) → DqAll K S' vs xs → Q (.ref p) H'
  | .exn e A' => ∀ S' ρ' H' c d, Le S ρ S' ρ' → Wo K F S' ρ' H' A' → ER K S' e c d H' → W c d σ H'
  | .bad => False
def mFr (m : ML) : ME := fun s A => (m s A).bind fun xs A1 => .ok (.p (.list xs)) A1
def mAl (m : ML) : ME := fun s A => (m s A).bind fun xs A1 => .ok (.ref A1.length) (A1 ++ [.lst xs])
theorem t_fr {K : PySem.W.Frag} {m : ML} : ∀ σ H Q, tE K W (mFr m) σ H Q → tL K W m σ H Q := fun σ H Q ⟨F, S, ρ, s, A, w, sr, h⟩ => by
  refine ⟨F, S, ρ, s, A, w, sr, ?_⟩
  unfold mFr at h
  cases e : m s A with
  | bad => rw [e] at h; exact h
  | exn x A1 => rw [e] at h; exact h
  | ok xs A1 =>
    rw [e] at h
    intro S1 ρ1 H1 p vs l1 w1 fr hp q
    exact h _ ρ1 H1 _ (l1.trans ⟨Ex.new fr.s, Pre.refl ρ1⟩) (w1.still fr hp) (.lst upd_same (DqAll.mono (Ex.new fr.s) _ _ q))
theorem t_al {K : PySem.W.Frag} {m : ML} : ∀ σ H Q, tE K W (mAl m) σ H Q → tL K W m σ H Q := fun σ H Q ⟨F, S, ρ, s, A, w, sr, h⟩ => by
  refine ⟨F, S, ρ, s, A, w, sr, ?_⟩
  unfold mAl at h
  cases e : m s A with
  | bad => rw [e] at h; exact h
  | exn x A1 => rw [e] at h; exact h
  | ok xs A1 =>
    rw [e] at h
    intro S1 ρ1 H1 p vs l1 w1 fr hp q
    refine h S1 (ρ1 ++ [p]) H1 _ (l1.trans ⟨Ex.refl S1, Pre.snoc ρ1 p⟩) (w1.alloc fr hp q) ⟨p, rfl, ?_⟩
    rw [← w1.len, List.getElem?_append_right (Nat.le_refl _), Nat.sub_self]
    rfl
theorem xe_fr {e : Expr} {m : ML} (h : PE X e (tL X.K W m)) : PE X e (tE X.K W (mFr m)) := pe_imp h t_fr
theorem xe_al {e : Expr} {m : ML} (h : PE X e (tL X.K W m)) : PE X e (tE X.K W (mAl m)) := pe_imp h t_al
def frzs : List D → Arn → Option (List PyData × Arn)
  | [], A => some ([], A)
  | d :: ds, A => (frz d A).bind fun x => (frzs ds x.2).map fun xs => (x.1 :: xs.1, xs.2)
theorem frzs_ok {K : PySem.W.Frag} {F H : Hp} {ρ : List Addr} : ∀ {ds : List D} {S : Hp} {A A' : Arn} {xs : List PyData} {vs : List V}, Wo K F S ρ H A → RDs K S ρ ds vs → frzs ds A = some (xs, A') → ∃ S', Le S ρ S' ρ ∧ Wo K F S' ρ H A' ∧ DqAll K S' vs xs
  | [], S, A, A', xs, vs, w, r, e => by
    cases r
    cases e
    exact ⟨S, Le.refl _ _, w, .nil⟩
  | d :: ds, S, A, A', xs, vs, w, r, e => by
    cases r with
    | cons r1 r2 =>
      unfold frzs at e
      cases e1 : frz d A with
      | none => rw [e1] at e; cases e
      | some p =>
        rw [e1] at e
        obtain ⟨x, A1⟩ := p
        obtain ⟨S1, l1, w1, q1⟩ := frz_ok w r1 e1
        dsimp only [Option.bind_some] at e
        cases e2 : frzs ds A1 with
        | none => rw [e2] at e; cases e
        | some p2 =>
          rw [e2] at e
          obtain ⟨ys, A2⟩ := p2
          cases e
          obtain ⟨S2, l2, w2, q2⟩ := frzs_ok w1 (RDs.mono l1 r2) e2
          exact ⟨S2, l1.trans l2, w2, .cons (Dq.mono l2.ex _ _ q1) q2⟩
def lDisp (m : MA) : ML := fun s A => (m s A).bind fun ds A1 => opt0 ((frzs ds A1).bind fun x => if x.1.length ≤ 100000 then some x else none)
def mTup (m : MA) : ME := fun s A => (m s A).bind fun ds A1 => opt1 ((frzs ds A1).bind fun x => if x.1.length ≤ 100000 then some (.p (.tuple x.1), x.2) else none)
theorem small_line {n : Nat} (h : n ≤ 100000) : n ≤ sizeLine := Nat.le_trans h (by decide)
theorem xl_disp {es : List Expr} {m : MA} {pos : Pos} (h : PA X es (tA X.K W m)) : PE X (.List es pos) (tL X.K W (lDisp m)) := pe_imp (pe_lst h) fun σ H Q ⟨F, S, ρ, s, A, w, sr, h⟩ => by
  refine ⟨F, S, ρ, s, A, w, sr, ?_⟩
  unfold lDisp at h
  cases e : m s A with
  | bad => rw [e] at h; exact h
  | exn x A1 => rw [e] at h; exact h
  | ok ds A1 =>
    rw [e] at h
    intro S1 ρ1 H1 vs l1 w1 r1
    dsimp only [Res.bind] at h
    cases ef : frzs ds A1 with
    | none => rw [ef] at h; exact h.elim
    | some p =>
      obtain ⟨xs, A2⟩ := p
      rw [ef] at h
      obtain ⟨S2, l2, w2, q2⟩ := frzs_ok w1 r1 ef
      dsimp only [Option.bind_some] at h
      by_cases hz : xs.length ≤ 100000
      · rw [if_pos hz] at h
        refine ⟨by rw [DqAll.length q2]; exact small_line hz, fun p hp => ?_⟩
        have g := Grow.side (o := HO.lst vs) w2.sub hp
        exact h S2 ρ1 _ p vs (l1.trans l2) (w2.grow g) (w2.fresh hp) upd_same q2
      · rw [if_neg hz] at h; exact h.elim
theorem xe_tup {es : List Expr} {m : MA} {x1} {pos : Pos} (h : PA X es (tA X.K W m)) : PE X (.Tuple es x1 pos) (tE X.K W (mTup m)) := pe_imp (pe_tup h) fun σ H Q ⟨F, S, ρ, s, A, w, sr, h⟩ => by
  refine ⟨F, S, ρ, s, A, w, sr, ?_⟩
  unfold mTup at h
  cases e : m s A with
  | bad => rw [e] at h; exact h
  | exn x A1 => rw [e] at h; exact h
  | ok ds A1 =>
    rw [e] at h
    intro S1 ρ1 H1 vs l1 w1 r1
    dsimp only [Res.bind] at h
    cases ef : frzs ds A1 with
    | none => rw [ef] at h; exact h.elim
    | some p =>
      obtain ⟨xs, A2⟩ := p
      rw [ef] at h
      obtain ⟨S2, l2, w2, q2⟩ := frzs_ok w1 r1 ef
      dsimp only [Option.bind_some] at h
      by_cases hz : xs.length ≤ 100000
      · rw [if_pos hz] at h
        refine ⟨by rw [DqAll.length q2]; exact small_line hz, fun p hp => ?_⟩
        have g := Grow.upd (o := HO.tup vs) w2.sub hp
        exact h _ ρ1 _ _ (l1.trans (l2.trans (g.le ρ1))) (w2.grow g) (.tup (.inl (.inl upd_same)) (DqAll.mono g.ex _ _ q2))
      · rw [if_neg hz] at h; exact h.elim
end
end Mi
end

section
set_option maxHeartbeats 4000000
namespace Mi
open PySem PySem.Spec PyProof.Rows L2
open Evl (Ex)

def noX {α : Type} (r : Res α) : Res α := match r with
  | .ok a A => .ok a A
  | .exn _ _ => .bad
  | .bad => .bad
def compL (step : PyData → Arn → Res (Option PyData)) : List PyData → List PyData → Arn → Res (List PyData)
  | [], acc, A => .ok acc A
  | x :: xs, acc, A => (step x A).bind fun o A1 => if acc.length < 100000 then compL step xs (match o with
    | some y => acc ++ [y]
    | none => acc) A1 else .bad
def turnB (tt : MT) (te : ME) (s' : Slt) (A : Arn) : Res (Option PyData) := (noX (tt s' A)).bind fun b A1 => if b = true then (noX (te s' A1)).bind fun d A2 => opt0 ((frz d A2).map fun y => (some y.1, y.2)) else .ok none A1
def turnC (gm : MG) (tt : MT) (te : ME) (s0 : Slt) : PyData → Arn → Res (Option PyData) := fun x A => match gm x s0 with
  | some s' => turnB tt te s' A
  | none => .bad
def mYes : MT := fun _ A => .ok true A
def lComp (it : MI) (gm : MG) (tt : MT) (te : ME) (vs : List Nat) : ML := fun s A => (it s A).bind fun xs A1 => compL (turnC gm tt te (wipeS s vs)) xs [] A1
abbrev W0 : WX := fun _ _ _ _ => False
section
variable {K : PySem.W.Frag} {W : WX} {F S S' H H' : Hp} {ρ ρ' : List Addr} {σ : L2.St} {A : Arn} {s : Slt}
theorem Wo.frame0 (w : Wo K F S ρ H A) {p : Addr} {o : HO} (hp : H p = none) : Wo K (upd F p o) S ρ (upd H p o) A := by
  have g := Grow.side (o := o) w.sub hp
  have w' := w.grow g
  refine ⟨w'.sub, fun a u e => ?_, fun a z => ?_, fun n u a e ne h => ?_, w'.len, w'.lst, w'.refs, w'.dct, w'.tab, w'.inj⟩
  · by_cases q : a = p
    · subst q; rw [upd_same] at e ⊢; exact e
    · rw [upd_ne q] at e; exact w'.fsub a u e
  · by_cases q : a = p
    · subst q; exact none_sub w.sub hp
    · rw [upd_ne q] at z; exact w.fdis a z
  · have hne : a ≠ p := by
      rintro rfl
      exact (w.fresh hp).live n u e ne h
    rw [upd_ne hne]
    exact w.flive n u a e ne h
theorem Wo.frame {p : Addr} {o u : HO} (w : Wo K (upd F p o) S ρ H A) : Wo K (upd F p u) S ρ (upd H p u) A := by
  have hs : S p = none := w.fdis p (by rw [upd_same]; simp)
  have hl : ∀ {n : Nat} {o : O} {a : Addr}, A[n]? = some o → o ≠ .gone → ρ[n]? = some a → a ≠ p := fun {n o a} e ne h z => by
    have := w.flive n o a e ne h
    rw [z, upd_same] at this
    cases this
  refine ⟨fun a v e => ?_, fun a v e => ?_, fun a z => ?_, fun n v a e ne h => ?_, w.len, fun n xs e => ?_, fun n ns e => ?_, fun n ns e => ?_, fun n ns e => ?_, w.inj⟩
  · rw [upd_ne (by rintro rfl; rw [hs] at e; cases e)]
    exact w.sub a v e
  · by_cases q : a = p
    · subst q; rw [upd_same] at e ⊢; exact e
    · rw [upd_ne q] at e ⊢
      exact w.fsub a v (by rw [upd_ne q]; exact e)
  · by_cases q : a = p
    · subst q; exact hs
    · rw [upd_ne q] at z; exact w.fdis a (by rw [upd_ne q]; exact z)
  · have q := hl e ne h
    have := w.flive n v a e ne h
    rw [upd_ne q] at this ⊢
    exact this
  · obtain ⟨a, vs, h1, h2, h3, h4⟩ := w.lst n xs e
    exact ⟨a, vs, h1, h2, by rw [upd_ne (hl e (by simp) h1)]; exact h3, h4⟩
  · obtain ⟨a, vs, h1, h2, h3, h4⟩ := w.refs n ns e
    exact ⟨a, vs, h1, h2, by rw [upd_ne (hl e (by simp) h1)]; exact h3, h4⟩
  · obtain ⟨a, vs, h1, h2, h3, h4⟩ := w.dct n ns e
    exact ⟨a, vs, h1, h2, by rw [upd_ne (hl e (by simp) h1)]; exact h3, h4⟩
  · obtain ⟨a, h1, h2, h3, h4⟩ := w.tab n ns e
    exact ⟨a, h1, h2, h3, h4.upd (hl e (by simp) h1)⟩
theorem Wo.unframe {p : Addr} {o : HO} (w : Wo K (upd F p o) S ρ H A) (hf : F p = none) : Wo K F S ρ H A ∧ Fresh F S ρ A p ∧ H p = some o := by
  have ex : Ex F (upd F p o) := Ex.new hf
  have hp : H p = some o := w.fsub p o upd_same
  refine ⟨⟨w.sub, ex.trans w.fsub, fun a z => w.fdis a ?_, fun n u a e ne h => ?_, w.len, w.lst, w.refs, w.dct, w.tab, w.inj⟩, ⟨w.fdis p (by rw [upd_same]; simp), hf, fun n u e ne h => ?_⟩, hp⟩
  · cases e : F a with
    | none => exact absurd e z
    | some v => rw [ex a v e]; simp
  · exact none_sub ex (w.flive n u a e ne h)
  · have := w.flive n u p e ne h
    rw [upd_same] at this
    cases this
def LcI (J : It) (g : TG) (tt : TT) (te : TE) (vs : List Nat) : TE := fun σ H1 Q => ∀ D, H1 D = none → ∃ W : Nat → Nat → Hp → Prop, (∃ m, W 0 m (upd H1 D (.lst []))) ∧ ∀ i m H, W i m H →
  (J.stop i H ∧ Q (.ref D) H) ∨ (J.go i H ∧ ∃ Nx : Hp → Prop, (∀ H', Nx H' → ∃ m', m' < m ∧ W (i + 1) m' H') ∧ ∀ x H', J.yld i H x H' → g x (L2.wipe σ vs) H' fun σ2 H2 => L2.wipe σ2 vs = L2.wipe σ vs ∧ tt σ2 H2 fun b H3 =>
    if b = true then te σ2 H3 fun y H4 => ∃ acc, H4 D = some (.lst acc) ∧ acc.length < sizeLine ∧ Nx (upd H4 D (.lst (acc ++ [y]))) else Nx H3)
theorem lc_core {g : TG} {gm : MG} {is : List Nat} {tt : MT} {te : ME} {vs : List Nat} {J : It} {xs : List PyData} {S1 H1 : Hp} {ρ1 : List Addr} {A1 : Arn} {Q : VK} (hg : GOk K g gm is) (hi : ∀ i ∈ is, i ∈ vs) (w1 : Wo K F S1 ρ1 H1 A1) (sr : SR K S1 ρ1 s σ) (itok : ItOk K J xs S1 F)
    (h : match compL (turnC gm tt te (wipeS s vs)) xs [] A1 with
      | .ok ys A' => ∀ S' ρ' H' p vs, Le S1 ρ1 S' ρ' → Wo K F S' ρ' H' A' → Fresh F S' ρ' A' p → H' p = some (.lst vs) → DqAll K S' vs ys → Q (.ref p) H'
      | .exn _ _ => True
      | .bad => False) : LcI J g (tT K W0 tt) (tE K W0 te) vs σ H1 Q := by
  intro Dd hD
  generalize hst : turnC gm tt te (wipeS s vs) = step at h
  generalize hr : compL step xs [] A1 = r at h
  have nbad : r ≠ .bad := by
    rintro rfl
    exact h
  have hfD : F Dd = none := none_sub w1.fsub hD
  refine ⟨fun i k H' => ∃ S' ρ' A' vsa acc, Le S1 ρ1 S' ρ' ∧ Wo K (upd F Dd (.lst vsa)) S' ρ' H' A' ∧ DqAll K S' vsa acc ∧ compL step (xs.drop i) acc A' = r ∧ k = xs.length - i ∧ i ≤ xs.length,
    ⟨xs.length, S1, ρ1, A1, [], [], Le.refl _ _, w1.frame0 hD, .nil, hr, rfl, Nat.zero_le _⟩, ?_⟩
  rintro i k H2 ⟨S2, ρ2, A2, vsa, acc, l2, w2, qa, hc, rfl, hi'⟩
  by_cases hlt : i < xs.length
  · right
    have ex : xs[i]? = some xs[i] := List.getElem?_eq_getElem hlt
    refine ⟨itok.go i H2 _ (l2.ex.trans w2.sub) ((Ex.new hfD).trans w2.fsub) ex, fun H' => ∃ S' ρ' A' vsa acc, Le S1 ρ1 S' ρ' ∧ Wo K (upd F Dd (.lst vsa)) S' ρ' H' A' ∧ DqAll K S' vsa acc ∧ compL step (xs.drop (i + 1)) acc A' = r,
      fun H' ⟨S', ρ', A', b1, b2, a1, a2, a3, a4⟩ => ⟨xs.length - (i + 1), by omega, S', ρ', A', b1, b2, a1, a2, a3, a4, rfl, hlt⟩, fun x H' y => ?_⟩
    obtain ⟨S3, gr, q3⟩ := itok.yld i S2 H2 x H' xs[i] l2.ex w2.sub ((Ex.new hfD).trans w2.fsub) y ex
    have w3 := w2.grow gr
    have l3 : Le S1 ρ1 S3 ρ2 := l2.trans (gr.le ρ2)
    rw [List.drop_eq_getElem_cons hlt] at hc
    have hc : ((step xs[i] A2).bind fun o A1 => if acc.length < 100000 then compL step (xs.drop (i + 1)) (match o with
      | some y => acc ++ [y]
      | none => acc) A1 else .bad) = r := hc
    cases eg : gm xs[i] (wipeS s vs) with
    | none =>
      have e1 : step xs[i] A2 = .bad := by
        rw [← hst]
        unfold turnC
        rw [eg]
      rw [e1] at hc
      exact absurd hc.symm nbad
    | some s' =>
      have e1 : step xs[i] A2 = turnB tt te s' A2 := by
        rw [← hst]
        unfold turnC
        rw [eg]
      rw [e1] at hc
      unfold turnB at hc
      refine hg S3 ρ2 (wipeS s vs) s' (L2.wipe σ vs) H' x xs[i] _ w3.sub ((sr.mono l3).wipe vs) q3 eg fun σ2 r2 wz => ⟨?_, ?_⟩
      · rw [wz vs hi, wipe_idem]
      refine ⟨upd F Dd (.lst vsa), S3, ρ2, s', A2, w3, r2, ?_⟩
      cases et : tt s' A2 with
      | bad => rw [et] at hc; exact absurd hc.symm nbad
      | exn x A3 => rw [et] at hc; exact absurd hc.symm nbad
      | ok b A3 =>
        rw [et] at hc
        intro S4 ρ4 H4 b' l4 w4 eb
        subst eb
        cases b with
        | false =>
          refine iteF ⟨S4, ρ4, A3, vsa, acc, l3.trans l4, w4, DqAll.mono (gr.ex.trans l4.ex) _ _ qa, ?_⟩
          have hc : (if acc.length < 100000 then compL step (xs.drop (i + 1)) acc A3 else .bad) = r := hc
          by_cases ha : acc.length < 100000
          · rw [if_pos ha] at hc; exact hc
          · rw [if_neg ha] at hc; exact absurd hc.symm nbad
        | true =>
          refine iteT ⟨upd F Dd (.lst vsa), S4, ρ4, s', A3, w4, r2.mono l4, ?_⟩
          have hc : ((noX (te s' A3)).bind fun d A2 => opt0 ((frz d A2).map fun y => (some y.1, y.2))).bind (fun o A1 => if acc.length < 100000 then compL step (xs.drop (i + 1)) (match o with
            | some y => acc ++ [y]
            | none => acc) A1 else .bad) = r := hc
          cases ee : te s' A3 with
          | bad => rw [ee] at hc; exact absurd hc.symm nbad
          | exn x A3 => rw [ee] at hc; exact absurd hc.symm nbad
          | ok d A4 =>
            rw [ee] at hc
            intro S5 ρ5 H5 v l5 w5 r5
            have hc : (opt0 ((frz d A4).map fun y => (some y.1, y.2))).bind (fun o A1 => if acc.length < 100000 then compL step (xs.drop (i + 1)) (match o with
              | some y => acc ++ [y]
              | none => acc) A1 else .bad) = r := hc
            cases ef : frz d A4 with
            | none => rw [ef] at hc; exact absurd hc.symm nbad
            | some p =>
              obtain ⟨y, A5⟩ := p
              rw [ef] at hc
              have hc : (if acc.length < 100000 then compL step (xs.drop (i + 1)) (acc ++ [y]) A5 else .bad) = r := hc
              by_cases ha : acc.length < 100000
              · rw [if_pos ha] at hc
                obtain ⟨S6, l6, w6, q6⟩ := frz_ok w5 r5 ef
                have qa6 := DqAll.mono (K := K) (gr.ex.trans (l4.ex.trans (l5.ex.trans l6.ex))) _ _ qa
                refine ⟨vsa, w5.fsub Dd _ upd_same, Nat.lt_of_lt_of_le (by rw [DqAll.length qa]; exact ha) (small_line (Nat.le_refl _)), S6, ρ5, A5, vsa ++ [v], acc ++ [y], l3.trans (l4.trans (l5.trans l6)), ?_, qa6.append (.one q6), hc⟩
                exact w6.frame
              · rw [if_neg ha] at hc; exact absurd hc.symm nbad
  · left
    have hi2 : xs.length ≤ i := Nat.le_of_not_lt hlt
    rw [List.drop_of_length_le hi2] at hc
    have hc : Res.ok acc A2 = r := hc
    subst hc
    obtain ⟨w4, fr, hp⟩ := w2.unframe hfD
    exact ⟨itok.stop i H2 (l2.ex.trans w2.sub) ((Ex.new hfD).trans w2.fsub) hi2, h S2 ρ2 H2 Dd vsa l2 w4 fr hp qa⟩
theorem t_lc {it : MI} {g : TG} {gm : MG} {is : List Nat} {tt : MT} {te : ME} {vs : List Nat} (hg : GOk K g gm is) (hi : ∀ i ∈ is, i ∈ vs) : ∀ σ H Q, tL K W (lComp it gm tt te vs) σ H Q → tLc (tI K W it) g (tT K W0 tt) (tE K W0 te) vs σ H Q := fun σ H Q ⟨F, S, ρ, s, A, w, sr, h⟩ => by
  refine ⟨F, S, ρ, s, A, w, sr, ?_⟩
  unfold lComp at h
  cases e : it s A with
  | bad => rw [e] at h; exact h
  | exn x A1 => rw [e] at h; exact h
  | ok xs A1 =>
    rw [e] at h
    dsimp only [Res.bind] at h
    intro S1 ρ1 H1 J l1 w1 itok
    refine lc_core hg hi w1 (sr.mono l1) (itok F) ?_
    have h0 := h
    cases ec : compL (turnC gm tt te (wipeS s vs)) xs [] A1 with
    | bad => rw [ec] at h; exact h
    | exn x A2 => trivial
    | ok ys A2 => rw [ec] at h; exact fun S2 ρ2 H2 p us l2 w2 fr hp q => h S2 ρ2 H2 p us (l1.trans l2) w2 fr hp q
def lCompK (m : ME) (gm : MG) (tt : MT) (te : ME) (vs : List Nat) : ML := fun s A => (m s A).bind fun d A1 => match d with
  | .ref n => match A1[n]? with
    | some (.lst xs) => (compL (turnC gm tt te (wipeS s vs)) xs [] (A1.set n .gone)).bind fun ys A2 => if isGone A2 n = true then .ok ys (A2.set n (.lst xs)) else .bad
    | _ => .bad
  | _ => .bad
end
section
variable {X : Cx} {W : WX}
theorem xts_one {c : Expr} {m : MT} (h : PT X c (tT X.K W m)) : PTs X [c] (tT X.K W m) := pts_one h
theorem xl_comp {elt tg iter : Expr} {ifs : List Expr} {scope : Scope} {own : List (Str × Nat)} {pos : Pos} {it : MI} {g : TG} {gm : MG} {is : List Nat} {tt : MT} {te : ME} (hc : X.calm = true) (hN : X.N.Nodup) (hi : PI X tg iter (tI X.K W it)) (ok : BlkOk X.N X.env.scope scope own) (hgo : GOk X.K g gm is) (his : ∀ i ∈ is, i ∈ own.map (·.2))
    (hg : ∀ (s : Shared) (H : Hp) (C : Addr) (cl : List (Str × Addr)) (fp : List Addr), PG (X.blk s H scope (compEnvC scope cl C X.env) fp) tg g) (ht : ∀ (s : Shared) (H : Hp) (C : Addr) (cl : List (Str × Addr)) (fp : List Addr), PTs (X.blk s H scope (compEnvC scope cl C X.env) fp) ifs (tT X.K W0 tt))
    (he : ∀ (s : Shared) (H : Hp) (C : Addr) (cl : List (Str × Addr)) (fp : List Addr), PE (X.blk s H scope (compEnvC scope cl C X.env) fp) elt (tE X.K W0 te)) (hs : ∀ x, foldedSetIterable iter X.env x = pure x := by intro _; rfl) :
    PE X (.ListComp elt [⟨tg, iter, ifs, 0⟩] scope pos) (tL X.K W (lComp it gm tt te (own.map (·.2)))) := pe_imp (pe_lc hc hN hi ok hg ht he hs) (t_lc hgo his)
end

def spM (K : PySem.W.Frag) (n : Nat) (fm : MF) : Sp := fun vs H Q E => ∃ F S ρ A ds, ds.length = n ∧ RDs K S ρ ds vs ∧ Wo K F S ρ H A ∧ match fm ds A with
  | .ok v A' => ∀ S' ρ' H' x, Le S ρ S' ρ' → Wo K F S' ρ' H' A' → RD K S' ρ' v x → Q x H'
  | .exn e A' => ∀ S' ρ' H' c d, Le S ρ S' ρ' → Wo K F S' ρ' H' A' → ER K S' e c d H' → E c d H'
  | .bad => False
theorem spM_len {K : PySem.W.Frag} {n : Nat} {fm : MF} : ∀ vs H Q E, spM K n fm vs H Q E → vs.length = n := fun vs H Q E ⟨_, _, _, _, ds, hn, r, _⟩ => by
  rw [← Paired.length r, hn]
section
variable {X : Cx} {W : WX} {k : Nat} {f : Addr} {fd : FuncData} {ps : List Str} {n : Nat} {fm : MF} {x : Str} {p pos : Pos} {e : Expr} {es : List Expr} {m : MA}
theorem t_call {K : PySem.W.Frag} (fm : MF) (h0 : ∀ s A ds A', m s A = .ok ds A' → ds.length = n) : ∀ σ H Q, tE K W (mCall fm m) σ H Q → tCallS (spM K n fm) (WE W) (tA K W m) σ H Q := fun σ H Q ⟨F, S, ρ, s, A, w, sr, h⟩ => by
  refine ⟨F, S, ρ, s, A, w, sr, ?_⟩
  unfold mCall at h
  cases e : m s A with
  | bad => rw [e] at h; exact h
  | exn x A1 => rw [e] at h; exact h
  | ok ds A1 =>
    rw [e] at h
    intro S1 ρ1 H1 xs l1 w1 r1
    refine ⟨F, S1, ρ1, A1, ds, h0 s A ds A1 e, r1, w1, ?_⟩
    have h : EndG K W F (RD K) S ρ σ Q (fm ds A1) := h
    cases ef : fm ds A1 with
    | bad => rw [ef] at h; exact h
    | exn x A2 => rw [ef] at h; exact fun S' ρ' H' c d l w' er => h S' ρ' H' c d (l1.trans l) w' er
    | ok v A2 => rw [ef] at h; exact fun S' ρ' H' x l w' er => h S' ρ' H' x (l1.trans l) w' er
def ALen (m : MA) (n : Nat) : Prop := ∀ s A ds A', m s A = .ok ds A' → ds.length = n
theorem alen_nil : ALen aNil 0 := fun s A ds A' h => by
  cases h
  rfl
theorem alen_cons {a : ME} {m : MA} {n : Nat} (h : ALen m n) : ALen (aCons a m) (n + 1) := fun s A ds A' e => by
  unfold aCons at e
  cases e1 : a s A with
  | bad => rw [e1] at e; cases e
  | exn x A1 => rw [e1] at e; cases e
  | ok d A1 =>
    rw [e1] at e
    dsimp only [Res.bind] at e
    cases e2 : m s A1 with
    | bad => rw [e2] at e; cases e
    | exn x A1 => rw [e2] at e; cases e
    | ok ds2 A2 =>
      rw [e2] at e
      cases e
      rw [List.length_cons, h _ _ _ _ e2]
end
structure FnG (P : Program) (w : World) (K : PySem.W.Frag) (mg : Str → Option Value) (base : Heap) (k : Nat) (f : Addr) (fd : FuncData) (ps : List Str) (fm : MF) : Prop where
  run : ∀ (A : Around) (outer : List Env) (s : Shared) (H : Hp) (args : Args) (us : List Value) (vs : List V) (Q : VK) (E : XK), A.guards = some [] → Room k A →
    Env0 P w K mg base A outer s H → BindsTo s fd args (ps.zip us) → Vals vs us → spM K ps.length fm vs H Q E →
    codeAny (model P w) A (.call (.ref f) args) (CR (L2.CX P w) outer P w H s Q E) s
theorem FnG.mono {P : Program} {w : World} {K : PySem.W.Frag} {mg : Str → Option Value} {base : Heap} {j k : Nat} {f : Addr} {fd : FuncData} {ps : List Str} {fm : MF} (F : FnG P w K mg base j f fd ps fm) (h : j ≤ k) : FnG P w K mg base k f fd ps fm :=
  ⟨fun A o s H ar us vs Q E g hr => F.run A o s H ar us vs Q E g (hr.mono h)⟩
section
variable {X : Cx} {W : WX} {k : Nat} {f : Addr} {fd : FuncData} {ps : List Str} {n : Nat} {fm : MF} {x : Str} {p pos : Pos} {e : Expr} {es : List Expr} {m : MA}
def CallEnd (X : Cx) (pins : List (Addr × Obj)) (σ : L2.St) (Q : VK) (r : Result) (s' : Shared) : Prop := match r with
  | .ok (.ret v) => EP X pins σ Q v s'
  | .ok _ => False
  | .error e => X.xe e s'
theorem after_call {pins : List (Addr × Obj)} {σ : L2.St} {H : Hp} {s : Shared} {Q : VK} (I : L2.Inv X pins σ H s) (tk : Takes X W) (r : Result) (s' : Shared) (h : CR (L2.CX X.prog X.w) X.stack X.prog X.w H s Q (WE W σ) r s') :
    CallEnd X pins σ Q r s' := by
  cases r with
  | error e => exact passAt tk σ pins H s e s' I h
  | ok fl =>
    cases fl with
    | ret u => exact I.after h
    | next => exact h
    | brk => exact h
    | cont => exact h
theorem run_own {pins : List (Addr × Obj)} {σ : L2.St} {H : Hp} {s : Shared} {Q : VK} {args : Args} {us : List Value} {vs : List V} (F : FnG X.prog X.w X.K X.mg X.base k f fd ps fm) (tk : Takes X W) (hgd : X.A.guards = some []) (hr : Room k X.A)
    (I : L2.Inv X pins σ H s) (hb : BindsTo s fd args (ps.zip us)) (r : Vals vs us) (h : spM X.K ps.length fm vs H Q (WE W σ)) : codeAny (model X.prog X.w) X.A (.call (.ref f) args) (CallEnd X pins σ Q) s :=
  codeAny_mono (F.run X.A X.stack s H args us vs Q (WE W σ) hgd hr I.env0 hb r h) fun r s' hq => after_call I tk r s' hq
theorem xe_call (F : FnG X.prog X.w X.K X.mg X.base k f fd ps fm) (tk : Takes X W) (hgd : X.A.guards = some []) (hr : Room k X.A) (hg : Gl X x) (hm : X.mg x = some (.ref f)) (hk : PySem.W.keepIn X.K (.ref f) = true) (hb : Binds X.K fd ps []) (hn : ALen m ps.length)
    (ha : PA X (e :: es) (tA X.K W m)) (hdb : (x == ("__debug__" : Str)) = false := by decide) (he : starEach (e :: es) X.env = (false, eval e X.env) :: starEach es X.env := by rfl) (hpl : (backTo pos (starEach es X.env)).any (·.1) = false := by rfl) :
    PE X (.Call (.Name x p) (e :: es) [] pos) (tE X.K W (mCall fm m)) := by
  refine ⟨fun pins s σ H Q I h => ?_⟩
  have h' := t_call fm hn σ H Q h
  refine wpAny_Call_Name_kw (ld_glob I hg hm ?_ hdb)
  refine PySem.W.callWith_K (h₀ := X.base) I.ok.mod.kin hk (thn (ha.run pos pins s σ H _ I h') fun us s1 ⟨vs, H1, I1, r, q⟩ => ⟨I1.kIn, wpAny_call ?_⟩) he hpl
  have hl : us.length = ps.length := by rw [← r.length]; exact spM_len _ _ _ _ q
  have b := hb s1 us I1.kIn (by rw [List.append_nil]; exact hl)
  rw [List.append_nil] at b
  exact run_own F tk hgd hr I1 b r q
theorem pk_imp {kws : List Keyword} {t t' : TA} (h : PK X kws t) (k : ∀ σ H Q, t' σ H Q → t σ H Q) : PK X kws t' := ⟨fun pos pins s σ H Q I q => h.run pos pins s σ H Q I (k _ _ _ q)⟩
theorem xk_nil : PK X [] (tA X.K W aNil) := pk_imp pk_nil t_nil
theorem xk_cons {nm : Option Str} {kws : List Keyword} {kpos : Pos} {a : ME} {m : MA} (h : PE X e (tE X.K W a)) (hr : PK X kws (tA X.K W m)) : PK X (⟨nm, e, kpos⟩ :: kws) (tA X.K W (aCons a m)) := pk_imp (pk_cons h hr) t_cons
end

def below (n : Nat) (A : Arn) : Bool := A.all fun o => match o with
  | .refs ns => ns.all fun m => decide (m < n)
  | _ => true
def closeV (n : Nat) (d : D) (A : Arn) : Res D := if below n (A.take n) = true then (match d with
  | .p x => .ok (.p x) (A.take n)
  | .ref m => if m < n then .ok (.ref m) (A.take n) else (match A[m]? with
    | some (.lst xs) => .ok (.p (.list xs)) (A.take n)
    | _ => .bad)
  | .scr ns => .ok (.scr ns) (A.take n)) else .bad
def finish (n : Nat) (o : Out) : Res D := match o with
  | .rt d A => closeV n d A
  | .nx _ A => closeV n (.p .none) A
  | .exn e A => if below n (A.take n) = true then .exn e (A.take n) else .bad
  | _ => .bad
def defM (names : Nat) (body : MS) : MF := fun ds A => finish A.length (body (ds.map some ++ List.replicate (names - ds.length) none) A)
section
variable {K : PySem.W.Frag} {F S S' H H' : Hp} {ρ ρ' : List Addr} {A A' : Arn}
theorem Wo.drop (w : Wo K F S ρ' H A) (hp : Pre ρ ρ') (hb : below ρ.length (A.take ρ.length) = true) : Wo K F S ρ H (A.take ρ.length) := by
  obtain ⟨t, rfl⟩ := hp
  have hl := w.len
  rw [List.length_append] at hl
  have get : ∀ {n : Nat} {o : O}, (A.take ρ.length)[n]? = some o → n < ρ.length ∧ A[n]? = some o := fun {n o} e => by
    have h1 := (List.getElem?_eq_some_iff.mp e).1
    rw [List.length_take] at h1
    have h2 : n < ρ.length := by omega
    rw [List.getElem?_take_of_lt h2] at e
    exact ⟨h2, e⟩
  have at_ : ∀ {n : Nat}, n < ρ.length → (ρ ++ t)[n]? = ρ[n]? := fun {n} h => List.getElem?_append_left h
  refine ⟨w.sub, w.fsub, w.fdis, fun n o a e ne h => ?_, by rw [List.length_take]; omega, fun n xs e => ?_, fun n ns e => ?_, fun n ns e => ?_, fun n ns e => ?_, fun n m o u a q1 q2 n1 n2 r1 r2 => ?_⟩
  · obtain ⟨h1, h2⟩ := get e
    exact w.flive n o a h2 ne (by rw [at_ h1]; exact h)
  · obtain ⟨h1, h2⟩ := get e
    obtain ⟨a, vs, g1, g2⟩ := w.lst n xs h2
    exact ⟨a, vs, by rw [← at_ h1]; exact g1, g2⟩
  · obtain ⟨h1, h2⟩ := get e
    obtain ⟨a, vs, g1, g2, g3, g4⟩ := w.refs n ns h2
    refine ⟨a, vs, by rw [← at_ h1]; exact g1, g2, g3, ?_⟩
    have hall : ∀ m ∈ ns, m < ρ.length := by
      have := List.all_eq_true.mp hb (O.refs ns) (List.mem_of_getElem? e)
      dsimp only at this
      intro m hm
      exact of_decide_eq_true (List.all_eq_true.mp this m hm)
    clear e h2 g3
    induction g4 with
    | nil => exact .nil
    | cons r0 rs ih =>
      rename_i m v ns' vs'
      refine .cons ?_ (ih fun k hk => hall k (List.mem_cons_of_mem _ hk))
      obtain ⟨b, z1, z2⟩ := r0
      exact ⟨b, z1, by rw [← at_ (hall m List.mem_cons_self)]; exact z2⟩
  · obtain ⟨h1, h2⟩ := get e
    obtain ⟨a, vs, g1, g2⟩ := w.dct n ns h2
    exact ⟨a, vs, by rw [← at_ h1]; exact g1, g2⟩
  · obtain ⟨h1, h2⟩ := get e
    obtain ⟨a, g1, g2⟩ := w.tab n ns h2
    exact ⟨a, by rw [← at_ h1]; exact g1, g2⟩
  · obtain ⟨h1, h2⟩ := get q1
    obtain ⟨h3, h4⟩ := get q2
    exact w.inj n m o u a h2 h4 n1 n2 (by rw [at_ h1]; exact r1) (by rw [at_ h3]; exact r2)
theorem close_ok {d v : D} {x : V} (l : Le S ρ S' ρ') (w : Wo K F S' ρ' H A) (r : RD K S' ρ' d x) (e : closeV ρ.length d A = .ok v A') : ∃ S2, Le S ρ S2 ρ ∧ Wo K F S2 ρ H A' ∧ RD K S2 ρ v x := by
  unfold closeV at e
  split at e
  · rename_i hb
    have w1 := w.drop l.pre hb
    cases d with
    | p y =>
      cases e
      exact ⟨S', ⟨l.ex, Pre.refl ρ⟩, w1, r⟩
    | scr ns =>
      cases e
      exact ⟨S', ⟨l.ex, Pre.refl ρ⟩, w1, r⟩
    | ref m =>
      dsimp only at e
      by_cases hm : m < ρ.length
      · rw [if_pos hm] at e
        cases e
        obtain ⟨a, ha, q⟩ := r
        obtain ⟨t, rfl⟩ := l.pre
        rw [List.getElem?_append_left hm] at q
        exact ⟨S', ⟨l.ex, Pre.refl ρ⟩, w1, ⟨a, ha, q⟩⟩
      · rw [if_neg hm] at e
        split at e
        · rename_i xs hx
          cases e
          obtain ⟨S2, a, l2, w2, ha, q⟩ := w.freeze hx
          obtain ⟨b, rfl, hb2⟩ := r
          rw [ha] at hb2
          cases hb2
          have et : (A.set m O.gone).take ρ.length = A.take ρ.length := by
            rw [List.take_set, List.set_eq_of_length_le]
            rw [List.length_take]
            omega
          have w3 := w2.drop l.pre (by rw [et]; exact hb)
          rw [et] at w3
          exact ⟨S2, ⟨l.ex.trans l2.ex, Pre.refl ρ⟩, w3, q⟩
        · cases e
  · cases e
end
section
variable {P : Program} {w : World} {K : PySem.W.Frag} {mg : Str → Option Value} {base : Heap}
theorem def_body {N ps : List Str} {body : MS} {sc : Scope} {vs : List V} {H : Hp} {Q : VK} {E : XK} (Sc : FnScope N ps sc) (h : spM K ps.length (defM N.length body) vs H Q E) : tS K (fun c d _ H => E c d H) body { nx := fun _ H' => Q .non H', rt := Q } (start N vs) H := by
  generalize hn : ps.length = n at h
  obtain ⟨F, S, ρ, Ar, ds, hd, r, wo, h⟩ := h
  have hl : ps.length ≤ N.length := by
    have := congrArg List.length Sc.pre
    rw [List.length_take] at this
    omega
  have hvs : vs.length = n := by rw [← Paired.length r, hd]
  refine ⟨F, S, ρ, ds.map some ++ List.replicate (N.length - ds.length) none, Ar, wo, SR.start r (by omega), ?_⟩
  unfold defM at h
  rw [← wo.len] at h
  cases e : body (ds.map some ++ List.replicate (N.length - ds.length) none) Ar with
  | nx s' A' =>
    rw [e] at h
    intro S' ρ' H' σ' l w' _
    have h : match closeV ρ.length (.p .none) A' with
      | .ok v A' => ∀ S' ρ' H' x, Le S ρ S' ρ' → Wo K F S' ρ' H' A' → RD K S' ρ' v x → Q x H'
      | .exn e A' => ∀ S' ρ' H' c d, Le S ρ S' ρ' → Wo K F S' ρ' H' A' → ER K S' e c d H' → E c d H'
      | .bad => False := h
    cases ec : closeV ρ.length (.p .none) A' with
    | bad => rw [ec] at h; exact h.elim
    | exn x A2 =>
      unfold closeV at ec
      split at ec <;> cases ec
    | ok v A2 =>
      rw [ec] at h
      obtain ⟨S2, l2, w2, r2⟩ := close_ok (v := v) (x := .non) l w' (show RD K S' ρ' (.p .none) .non from .non) ec
      exact h S2 ρ H' .non l2 w2 r2
  | rt d A' =>
    rw [e] at h
    intro S' ρ' H' x l w' rr
    have h : match closeV ρ.length d A' with
      | .ok v A' => ∀ S' ρ' H' x, Le S ρ S' ρ' → Wo K F S' ρ' H' A' → RD K S' ρ' v x → Q x H'
      | .exn e A' => ∀ S' ρ' H' c d, Le S ρ S' ρ' → Wo K F S' ρ' H' A' → ER K S' e c d H' → E c d H'
      | .bad => False := h
    cases ec : closeV ρ.length d A' with
    | bad => rw [ec] at h; exact h.elim
    | exn x A2 =>
      unfold closeV at ec
      split at ec
      · split at ec
        · cases ec
        · split at ec
          · cases ec
          · split at ec <;> cases ec
        · cases ec
      · cases ec
    | ok v A2 =>
      rw [ec] at h
      obtain ⟨S2, l2, w2, r2⟩ := close_ok l w' rr ec
      exact h S2 ρ H' x l2 w2 r2
  | exn x A' =>
    rw [e] at h
    intro S' ρ' H' σ' c d l w' er
    have h : match (if below ρ.length (A'.take ρ.length) = true then Res.exn x (A'.take ρ.length) else .bad : Res D) with
      | .ok v A' => ∀ S' ρ' H' x, Le S ρ S' ρ' → Wo K F S' ρ' H' A' → RD K S' ρ' v x → Q x H'
      | .exn e A' => ∀ S' ρ' H' c d, Le S ρ S' ρ' → Wo K F S' ρ' H' A' → ER K S' e c d H' → E c d H'
      | .bad => False := h
    by_cases hb : below ρ.length (A'.take ρ.length) = true
    · rw [if_pos hb] at h
      exact h S' ρ H' c d ⟨l.ex, Pre.refl ρ⟩ (w'.drop l.pre hb) er
    · rw [if_neg hb] at h
      exact h.elim
  | bk s' A' => rw [e] at h; exact h.elim
  | ct s' A' => rw [e] at h; exact h.elim
  | bad => rw [e] at h; exact h.elim
theorem def_ok {x qual : Str} {st : Stmt} {f : Addr} {fd : FuncData} {N ps : List Str} {k : Nat} {body : MS} (Fu : Fun K x qual st f fd) (Sc : FnScope N ps (defScope st))
    (hbody : ∀ (cdv : Value) (A : Around) (outer : List Env) (s : Shared) (H : Hp) (E : XK), A.guards = some [] → Room k (A.deeper (envOfC qual (defScope st) s.heap.objs.size f cdv)) →
      PSs (cxOf (L2.CX P w) P w K mg base N qual (defScope st) f cdv A outer s H E) (defBody st) (tS K (fun c d _ H => E c d H) body)) :
    FnG P w K mg base (k + 1) f fd ps (defM N.length body) := by
  obtain ⟨oc, od, kV, doc, pm, an, cdv, ct, osl, rfl, lk, hcd⟩ := Fu.ex
  refine ⟨fun A outer s H args us vs Q E gd hr e0 hb r hsp => ?_⟩
  have room := hr.deeper (envOfC qual (defScope st) s.heap.objs.size f cdv)
  have bs : ∀ b o, base.get? b = some o → s.heap.get? b = some o := fun b o e => (e0.bs b o e).1
  have hin : K.In s.heap := e0.mod.kin.keeps bs
  have nolim : s.heap.NoLimit := e0.mod.nolimit.keeps bs
  refine codeAny_call_function hr.depth (hin _ _ lk) rfl Sc.co Sc.gen rfl (PySem.W.codeRec_of hin hcd) (hb _ _ _ _ (wpAny_newFunctionEnv_cells Sc.kind ?_ ?_))
  · rintro ⟨y, v⟩ hy
    have hy' := (List.of_mem_zip hy).1
    exact (Sc.par y hy').imp id fun q => ⟨q, PySem.W.cellsFrom_some _ _ _ (.inl q)⟩
  · rintro env he s1 x
    subst he
    refine ⟨nolim.keeps x.toInCall.keep, codeAny_func ?_⟩
    have I := inv_start (CX := L2.CX P w) (E := E) Sc hr.hd e0 (spM_len vs H Q E hsp) r x
    refine wpAny_mono ((hbody cdv A outer s H E gd room).run [] s1 (start N vs) H _ I (def_body Sc hsp)) (fun fl s' hs => ?_) fun _ _ q => q
    cases fl with
    | ret u =>
      obtain ⟨v, _, H', J, rv, q⟩ := hs
      exact ⟨v, H', J.os, J.bare, J.base, J.hok, rv, q⟩
    | next =>
      obtain ⟨_, H', J, q⟩ := hs
      exact ⟨.non, H', J.os, J.bare, J.base, J.hok, rfl, q⟩
    | brk =>
      obtain ⟨_, _, _, q⟩ := hs
      exact q.elim
    | cont =>
      obtain ⟨_, _, _, q⟩ := hs
      exact q.elim
end
end Mi
end

section
set_option maxHeartbeats 4000000
namespace Mi
open PySem PySem.Spec PyProof.Rows L2
open Evl (Ex)

def VwO (K : PySem.W.Frag) (S H : Hp) (v : V) (d : PyData) : Prop := Dq K S v d ∨ ∃ a vs ds, v = .ref a ∧ d = .list ds ∧ H a = some (.lst vs) ∧ DqAll K S vs ds
def Vw (K : PySem.W.Frag) (S H : Hp) (v : V) (d : PyData) : Prop := VwO K S H v d ∨ ∃ (a : Addr) (ns : List Int), v = .ref a ∧ d = .list (ns.map PyData.int) ∧ SqL K S a (ns.map V.int)
section
variable {K : PySem.W.Frag} {S S' H H' F : Hp} {ρ : List Addr} {A : Arn} {v : V}
theorem Vw.ofD {d : PyData} (hd : ∀ ds, d ≠ .list ds) (h : Vw K S H v d) : Dq K S v d := by
  rcases h with (h | ⟨a, vs, ds, _, h2, _⟩) | ⟨a, ns, _, h2, _⟩
  · exact h
  · exact absurd h2 (hd _)
  · exact absurd h2 (hd _)
theorem Vw.non (h : Vw K S H v .none) : v = .non := by
  cases h.ofD (fun _ => by simp); rfl
theorem Vw.bool {b : Bool} (h : Vw K S H v (.bool b)) : v = .bl b := by
  cases h.ofD (fun _ => by simp); rfl
theorem Vw.int {i : Int} (h : Vw K S H v (.int i)) : v = .int i := by
  cases h.ofD (fun _ => by simp); rfl
theorem Vw.str {x : Str} (h : Vw K S H v (.str x)) : v = .str x := by
  cases h.ofD (fun _ => by simp); rfl
theorem Vw.list (e : Ex S H) {ds : List PyData} (h : Vw K S H v (.list ds)) : ∃ a vs, v = .ref a ∧ SqL K H a vs ∧ DqAll K S vs ds := by
  rcases h with (h | ⟨a, vs, ds', h1, h2, h3, h4⟩) | ⟨a, ns, h1, h2, h3⟩
  · cases h with
    | lst h q => exact ⟨_, _, rfl, .inl (.inl (e _ _ h)), q⟩
  · cases h2
    exact ⟨a, vs, h1, .inl (.inl h3), h4⟩
  · cases h2
    exact ⟨a, _, h1, Evl.ex_l e h3, DqAll.ints ns⟩
theorem VwO.list (e : Ex S H) {ds : List PyData} (h : VwO K S H v (.list ds)) : ∃ a vs, v = .ref a ∧ H a = some (.lst vs) ∧ DqAll K S vs ds := by
  rcases h with h | ⟨a, vs, ds', h1, h2, h3, h4⟩
  · cases h with
    | lst h q => exact ⟨_, _, rfl, e _ _ h, q⟩
  · cases h2
    exact ⟨a, vs, h1, h3, h4⟩
theorem Vw.tup (e : Ex S H) {ds : List PyData} (h : Vw K S H v (.tuple ds)) : ∃ a vs, v = .ref a ∧ SqT K S a vs ∧ SqT K H a vs ∧ DqAll K S vs ds := by
  cases h.ofD (fun _ => by simp) with
  | tup hq q => exact ⟨_, _, rfl, hq, Evl.ex_t e hq, q⟩
theorem DpAll.ints : ∀ (ns : List Int), DpAll K S (ns.map V.int) (ns.map PyData.int)
  | [] => .nil
  | n :: r => .cons (.int n) (DpAll.ints r)
theorem Vw.toDp (e : Ex S H) {d : PyData} (h : Vw K S H v d) (n : noDict d = true) : Dp K H v d := by
  rcases h with (h | ⟨a, vs, ds', h1, h2, h3, h4⟩) | ⟨a, ns, h1, h2, h3⟩
  · exact (Dq.mono e _ _ h).toDp _ _ n
  · subst h1 h2
    exact .lst (.inl (.inl h3)) ((DqAll.mono e _ _ h4).toDp _ _ (by simpa only [noDict] using n))
  · subst h1 h2
    exact .lst (Evl.ex_l e h3) (DpAll.ints ns)
theorem vwo_of (w : Wo K F S ρ H A) {d : D} {x : PyData} (r : RD K S ρ d v) (e : dataOwn d A = some x) : VwO K S H v x := by
  cases d with
  | p d => cases e; exact .inl r
  | scr n => cases e
  | ref n =>
    unfold dataOwn dataOf at e
    dsimp only at e
    split at e
    · rename_i xs ea
      cases e
      obtain ⟨a, vs, h1, _, h3, h4⟩ := w.lst n xs ea
      obtain ⟨b, rfl, hb⟩ := r
      rw [h1] at hb
      cases hb
      exact .inr ⟨a, vs, xs, rfl, rfl, h3, h4⟩
    · cases e
theorem vw_of (w : Wo K F S ρ H A) {d : D} {x : PyData} (r : RD K S ρ d v) (e : dataOf d A = some x) : Vw K S H v x := by
  cases d with
  | p d => exact .inl (vwo_of w r e)
  | scr n =>
    cases e
    obtain ⟨a, h1, h2⟩ := r
    exact .inr ⟨a, n, h1, rfl, h2⟩
  | ref n => exact .inl (vwo_of w r e)
def Gives (K : PySem.W.Frag) (S H : Hp) (z : PyData) (Q : VK) : Prop := ∀ S' H' v, Grow S H S' H' → Dq K S' v z → Q v H'
def rP1 (K : PySem.W.Frag) (f : PyData → Option PyData) : V → Hp → VK → Prop := fun x H Q => ∃ S d z, Ex S H ∧ Vw K S H x d ∧ f d = some z ∧ Gives K S H z Q
def rP2 (K : PySem.W.Frag) (f : PyData → PyData → Option PyData) : R2 := fun x y H Q => ∃ S d e z, Ex S H ∧ Vw K S H x d ∧ Vw K S H y e ∧ f d e = some z ∧ Gives K S H z Q
def rO2 (K : PySem.W.Frag) (f : PyData → PyData → Option PyData) : R2 := fun x y H Q => ∃ S d e z, Ex S H ∧ VwO K S H x d ∧ VwO K S H y e ∧ f d e = some z ∧ Gives K S H z Q
inductive VwAll (K : PySem.W.Frag) (S H : Hp) : List V → List PyData → Prop
  | nil : VwAll K S H [] []
  | cons {v : V} {vs : List V} {d : PyData} {ds : List PyData} (h : Vw K S H v d) (q : VwAll K S H vs ds) : VwAll K S H (v :: vs) (d :: ds)
def rPN (K : PySem.W.Frag) (f : List PyData → Option PyData) : List V → Hp → VK → Prop := fun xs H Q => ∃ S ds z, Ex S H ∧ VwAll K S H xs ds ∧ f ds = some z ∧ Gives K S H z Q
theorem Gives.of (w : Wo K F S ρ H A) {z : PyData} {Q : VK} (h : ∀ S' ρ' H' v, Le S ρ S' ρ' → Wo K F S' ρ' H' A → RD K S' ρ' (.p z) v → Q v H') : Gives K S H z Q := fun S' H' v g q => h S' ρ H' v (g.le ρ) (w.grow g) q
theorem Gives.now (e : Ex S H) {z : PyData} {Q : VK} (h : Gives K S H z Q) {v : V} (q : Dq K S v z) : Q v H := h S H v (Grow.refl e) q
theorem Gives.tup (e : Ex S H) {zs : List PyData} {Q : VK} (h : Gives K S H (.tuple zs) Q) {p : Addr} (n : H p = none) {vs : List V} (q : DqAll K S vs zs) : Q (.ref p) (upd H p (.tup vs)) :=
  have g := Grow.upd (o := HO.tup vs) e n
  h _ _ _ g (.tup (.inl (.inl upd_same)) (DqAll.mono g.ex _ _ q))
theorem Gives.lst (e : Ex S H) {zs : List PyData} {Q : VK} (h : Gives K S H (.list zs) Q) {p : Addr} (n : H p = none) {vs : List V} (q : DqAll K S vs zs) : Q (.ref p) (upd H p (.lst vs)) :=
  have g := Grow.upd (o := HO.lst vs) e n
  h _ _ _ g (.lst upd_same (DqAll.mono g.ex _ _ q))
theorem m1_of {f : PyData → Option PyData} {x : V} {Q : VK} : rM1 K (lift1 f) x H Q → rP1 K f x H Q := fun ⟨F, S, ρ, A, a, b, A', w, r, e, h⟩ => by
  unfold lift1 at e
  cases e1 : dataOf a A with
  | none => rw [e1] at e; cases e
  | some d =>
    rw [e1] at e
    dsimp only [Option.bind_some] at e
    cases e2 : f d with
    | none => rw [e2] at e; cases e
    | some z =>
      rw [e2] at e
      cases e
      exact ⟨S, d, z, w.sub, vw_of w r e1, e2, .of w h⟩
theorem m2_of {f : PyData → PyData → Option PyData} {x y : V} {Q : VK} : rM2 K (lift2 f) x y H Q → rP2 K f x y H Q := fun ⟨F, S, ρ, A, a, b, c, A', w, r, r2, e, h⟩ => by
  unfold lift2 at e
  cases e1 : dataOf a A with
  | none => rw [e1] at e; cases e
  | some d =>
    rw [e1] at e
    dsimp only [Option.bind_some] at e
    cases e3 : dataOf b A with
    | none => rw [e3] at e; cases e
    | some d2 =>
      rw [e3] at e
      dsimp only [Option.bind_some] at e
      cases e2 : f d d2 with
      | none => rw [e2] at e; cases e
      | some z =>
        rw [e2] at e
        cases e
        exact ⟨S, d, d2, z, w.sub, vw_of w r e1, vw_of w r2 e3, e2, .of w h⟩
theorem m2o_of {f : PyData → PyData → Option PyData} {x y : V} {Q : VK} : rM2 K (lift2o f) x y H Q → rO2 K f x y H Q := fun ⟨F, S, ρ, A, a, b, c, A', w, r, r2, e, h⟩ => by
  unfold lift2o at e
  cases e1 : dataOwn a A with
  | none => rw [e1] at e; cases e
  | some d =>
    rw [e1] at e
    dsimp only [Option.bind_some] at e
    cases e3 : dataOwn b A with
    | none => rw [e3] at e; cases e
    | some d2 =>
      rw [e3] at e
      dsimp only [Option.bind_some] at e
      cases e2 : f d d2 with
      | none => rw [e2] at e; cases e
      | some z =>
        rw [e2] at e
        cases e
        exact ⟨S, d, d2, z, w.sub, vwo_of w r e1, vwo_of w r2 e3, e2, .of w h⟩
theorem vws_of (w : Wo K F S ρ H A) : ∀ {as : List D} {ds : List PyData} {vs : List V}, RDs K S ρ as vs → datasOf as A = some ds → VwAll K S H vs ds
  | [], ds, vs, r, e => by cases r; cases e; exact .nil
  | a :: as, ds, vs, r, e => by
    cases r with
    | cons r1 r2 =>
      unfold datasOf at e
      cases e1 : dataOf a A with
      | none => rw [e1] at e; cases e
      | some d =>
        rw [e1] at e
        dsimp only [Option.bind_some] at e
        cases e2 : datasOf as A with
        | none => rw [e2] at e; cases e
        | some es =>
          rw [e2] at e
          cases e
          exact .cons (vw_of w r1 e1) (vws_of w r2 e2)
theorem mN_of {f : List PyData → Option PyData} {xs : List V} {Q : VK} : rMN K (liftN f) xs H Q → rPN K f xs H Q := fun ⟨F, S, ρ, A, as, b, A', w, r, e, h⟩ => by
  unfold liftN at e
  cases e1 : datasOf as A with
  | none => rw [e1] at e; cases e
  | some ds =>
    rw [e1] at e
    dsimp only [Option.bind_some] at e
    cases e2 : f ds with
    | none => rw [e2] at e; cases e
    | some z =>
      rw [e2] at e
      cases e
      exact ⟨S, ds, z, w.sub, vws_of w r e1, e2, .of w h⟩
end

section
variable {X : Cx} {W : WX} {a b c : Expr} {ma mb mc : ME} {pos : Pos}
theorem xe_op {op : Operator} {f : PyData → PyData → Option PyData} (ho : OpR X (binaryOp op) (rP2 X.K f)) (ha : PE X a (tE X.K W ma)) (hb : PE X b (tE X.K W mb)) : PE X (.BinOp a op b pos) (tE X.K W (mOp2 (lift2 f) ma mb)) :=
  pe_imp (pe_op (r := rM2 X.K (lift2 f)) (fun pins s σ H x y v u Q I rx ry h => ho pins s σ H x y v u Q I rx ry (m2_of h)) ha hb) t_op2
theorem xe_opo {op : Operator} {f : PyData → PyData → Option PyData} (ho : OpR X (binaryOp op) (rO2 X.K f)) (ha : PE X a (tE X.K W ma)) (hb : PE X b (tE X.K W mb)) : PE X (.BinOp a op b pos) (tE X.K W (mOp2 (lift2o f) ma mb)) :=
  pe_imp (pe_op (r := rM2 X.K (lift2o f)) (fun pins s σ H x y v u Q I rx ry h => ho pins s σ H x y v u Q I rx ry (m2o_of h)) ha hb) t_op2
theorem xe_cmp {op : CmpOp} {f : PyData → PyData → Option PyData} (ho : OpR X (compareOp op) (rP2 X.K f)) (ha : PE X a (tE X.K W ma)) (hb : PE X b (tE X.K W mb)) (hm : behindInMarks op b = false) : PE X (.Compare a [op] [b] pos) (tE X.K W (mOp2 (lift2 f) ma mb)) :=
  pe_imp (pe_cmpR (r := rM2 X.K (lift2 f)) (fun pins s σ H x y v u Q I rx ry h => ho pins s σ H x y v u Q I rx ry (m2_of h)) ha hb hm) t_op2
theorem xt_cmp {op : CmpOp} {f : PyData → PyData → Option PyData} (ho : OpR X (compareOp op) (rP2 X.K f)) (ha : PE X a (tE X.K W ma)) (hb : PE X b (tE X.K W mb)) (hm : behindInMarks op b = false) : PT X (.Compare a [op] [b] pos) (tT X.K W (mB (mOp2 (lift2 f) ma mb))) :=
  pt_imp (pt_cmpR (r := rM2 X.K (lift2 f)) (fun pins s σ H x y v u Q I rx ry h => ho pins s σ H x y v u Q I rx ry (m2_of h)) ha hb hm) fun σ H Q h => by
    obtain ⟨F, S, ρ, s, A, w, sr, h1⟩ := t_B σ H Q h
    exact t_op2 σ H _ ⟨F, S, ρ, s, A, w, sr, h1⟩
theorem xe_un {op : UnaryOp} {f : PyData → Option PyData} (ho : UnR X (unaryOp op) (rP1 X.K f)) (ha : PE X a (tE X.K W ma)) : PE X (.UnaryOp op a pos) (tE X.K W (mOp1 (lift1 f) ma)) :=
  pe_imp (pe_un (r := rM1 X.K (lift1 f)) (fun pins s σ H x v Q I rx h => ho pins s σ H x v Q I rx (m1_of h)) ha) t_op1
theorem xt_not {m : MT} (h : PT X a (tT X.K W m)) : PT X (.UnaryOp .Not a pos) (tT X.K W (mNot m)) := pt_imp (pt_not h) t_not
variable {rest : List Expr}
theorem xw_and1 {m : MT} (h : PT X a (tT X.K W m)) : PW X (.BoolOp .And [a] pos) (tT X.K W m) := pw_and1 h
theorem xw_or1 {m : MT} (h : PT X a (tT X.K W m)) : PW X (.BoolOp .Or [a] pos) (tT X.K W m) := pw_or1 h
theorem xw_and {m k : MT} (h : PT X a (tT X.K W m)) (hr : PW X (.BoolOp .And (b :: rest) pos) (tT X.K W k)) : PW X (.BoolOp .And (a :: b :: rest) pos) (tT X.K W (mAnd m k)) := pw_imp (pw_and h hr) t_and
theorem xw_or {m k : MT} (h : PT X a (tT X.K W m)) (hr : PW X (.BoolOp .Or (b :: rest) pos) (tT X.K W k)) : PW X (.BoolOp .Or (a :: b :: rest) pos) (tT X.K W (mOr m k)) := pw_imp (pw_or h hr) t_or
theorem xe_ifE {m : MT} (h : PT X c (tT X.K W m)) (ha : PE X a (tE X.K W ma)) (hb : PE X b (tE X.K W mb)) : PE X (.IfExp c a b pos) (tE X.K W (mIfE m ma mb)) := pe_imp (pe_ifExp h ha hb) t_if
theorem xa_nil : PA X [] (tA X.K W aNil) := pa_imp pa_nil t_nil
theorem xa_cons {e : Expr} {es : List Expr} {m : ME} {k : MA} (ha : PE X e (tE X.K W m)) (hr : PA X es (tA X.K W k)) (hs : starEach (e :: es) X.env = (false, eval e X.env) :: starEach es X.env := by rfl) : PA X (e :: es) (tA X.K W (aCons m k)) := pa_imp (pa_cons ha hr hs) t_cons
theorem xe_bi {id : String} {x : Str} {p : Pos} {e : Expr} {es : List Expr} {m : MA} {f : List PyData → Option PyData} (hc : CallR X (.builtin id) (rPN X.K f)) (hg : Gl X x) (hm : X.mg x = none) (hv : bootBuiltins x = some (.builtin id)) (ha : PA X (e :: es) (tA X.K W m)) (hn : x ≠ "__name__" := by decide) (hdb : (x == ("__debug__" : Str)) = false := by decide)
    (he : starEach (e :: es) X.env = (false, eval e X.env) :: starEach es X.env := by rfl) (hpl : (backTo pos (starEach es X.env)).any (·.1) = false := by rfl) : PE X (.Call (.Name x p) (e :: es) [] pos) (tE X.K W (mOpN (liftN f) m)) :=
  pe_imp (pe_callB (r := rMN X.K (liftN f)) (fun pins s σ H xs us Q I r h => hc pins s σ H xs us Q I r (mN_of h)) hg hm hv ha hn hdb he hpl) t_opN
theorem xe_ty {T : String} {x : Str} {p : Pos} {e : Expr} {es : List Expr} {m : MA} {f : List PyData → Option PyData} (hc : CallR X (.type T) (rPN X.K f)) (hg : Gl X x) (hm : X.mg x = none) (hv : bootBuiltins x = some (.type T)) (ha : PA X (e :: es) (tA X.K W m)) (hn : x ≠ "__name__" := by decide) (hdb : (x == ("__debug__" : Str)) = false := by decide)
    (he : starEach (e :: es) X.env = (false, eval e X.env) :: starEach es X.env := by rfl) (hpl : (backTo pos (starEach es X.env)).any (·.1) = false := by rfl) : PE X (.Call (.Name x p) (e :: es) [] pos) (tE X.K W (mOpN (liftN f) m)) :=
  pe_imp (pe_callTy (r := rMN X.K (liftN f)) (fun pins s σ H xs us Q I r h => hc pins s σ H xs us Q I r (mN_of h)) hg hm hv ha hn hdb he hpl) t_opN
theorem xs_let {i : Nat} {x : Str} {p' : Pos} (hN : X.N.Nodup) (hi : X.N[i]? = some x) (hx : Loc X.env.scope x) (he : PE X a (tE X.K W ma)) (hs : swapsWith a (some (.Name x p')) pos.line X.env = pure false := by rfl) (hf : X.fn x = true ∨ X.env.scope.names.lookup x = some .local := by first | exact .inl rfl | exact .inr rfl | assumption) :
    PS X (.Assign [.Name x p'] a pos) (tS X.K W (sLet i ma)) := ps_imp (ps_set hN hi hx he hs hf) t_let
theorem xs_ret (he : PE X a (tE X.K W ma)) : PS X (.Return (some a) pos) (tS X.K W (sRet ma)) := ps_imp (ps_ret he) t_ret
theorem xs_if {m : MT} {st st2 : List Stmt} {ms ks : MS} (hc : PT X c (tT X.K W m)) (ha : PSs X st (tS X.K W ms)) (hb : PSs X st2 (tS X.K W ks)) : PS X (.If c st st2 pos) (tS X.K W (sIf m ms ks)) := ps_imp (ps_if hc ha hb) t_ifS
theorem xss_nil : PSs X [] (tS X.K W sSkip) := pss_imp pss_nil t_skip
theorem xss_cons {st : Stmt} {sts : List Stmt} {m k : MS} (h : PS X st (tS X.K W m)) (hr : PSs X sts (tS X.K W k)) : PSs X (st :: sts) (tS X.K W (sSeq m k)) := pss_imp (pss_cons h hr) t_seq
theorem xss_one {st : Stmt} {m : MS} (h : PS X st (tS X.K W m)) : PSs X [st] (tS X.K W m) := pss_one h
theorem xs_for {tg iter : Expr} {body : List Stmt} {m : MI} {g : TG} {gm : MG} {is : List Nat} {mb : MS} (hgo : GOk X.K g gm is) (hp : PassesOwn (model X.prog X.w) X.A X.env X.xe) (hc : X.calm = true) (hi : PI X tg iter (tI X.K W m)) (hg : PG X tg g) (hb : PSs X body (tS X.K W mb))
    (hs : ∀ x, foldedSetIterable iter X.env x = pure x := by intro _; rfl) : PS X (.For tg iter body [] pos) (tS X.K W (sFor m gm mb)) := ps_imp (ps_for hp hc hi hg hb hs) (t_for hgo)
end
end Mi
end

section
set_option maxHeartbeats 4000000
namespace Mi
open PySem PySem.Spec PyProof.Rows L2
open Evl (Ex)

section
variable {X : Cx} {pins : List (Addr × Obj)} {σ : L2.St} {H : Hp} {s : Shared}
mutual
/-- the addresses of lists and dicts within are as the flag says: no dict, or no list -/
theorem Dq.reads (I : Inv X pins σ H s) : ∀ (d : PyData) (v : V) (u : Value), Dq X.K H v d → RelV v u → ∃ as, Reads s.heap u d as ∧ (noList d = true → sysModules ∉ as)
  | .none, _, _, h, r => by
    cases h
    cases r
    exact ⟨_, Reads.none, fun _ => by simp⟩
  | .bool b, _, _, h, r => by
    cases h
    cases r
    exact ⟨_, Reads.bool b, fun _ => by simp⟩
  | .int i, _, _, h, r => by
    cases h
    obtain ⟨t, rfl⟩ := r
    exact ⟨_, Reads.int i t, fun _ => by simp⟩
  | .str x, _, _, h, r => by
    cases h
    obtain ⟨t, rfl⟩ := r
    exact ⟨_, Reads.str x t, fun _ => by simp⟩
  | .list ds, _, _, h, r => by
    cases h with
    | lst hs ha =>
      cases r
      obtain ⟨its, rv, ⟨o, n, ho, hc, _, hd⟩, _⟩ := I.list (.inl (.inl hs))
      obtain ⟨as, hr, _⟩ := DqAll.reads I ds _ its ha rv
      exact ⟨_, Reads.list ho hc hd hr, fun z => by simp [noList] at z⟩
  | .tuple ds, _, _, h, r => by
    cases h with
    | tup hs ha =>
      cases r
      obtain ⟨its, rv, ⟨o, ho, hc, n, hd⟩, _⟩ := I.tuple hs
      obtain ⟨as, hr, hn⟩ := DqAll.reads I ds _ its ha rv
      exact ⟨_, Reads.tuple ho hc hd hr, fun z => hn (by simpa only [noList] using z)⟩
  | .dict kvs, _, _, h, r => by
    cases h with
    | dic h hq =>
      rename_i a us
      cases r
      obtain ⟨_, hne, vs, hkv, o, es, ep, h1, h2, h3, h4, h5⟩ := I.hok _ _ h
      obtain ⟨bs, q1, q2, q3⟩ := DqKvs.reads I kvs _ _ _ hq hkv h5.1
      refine ⟨_, Reads.dict h1 h2.1 h3 q1 q2, fun z => ?_⟩
      have z : kvs = [] := by simpa [noList] using z
      rw [q3 z]
      simp only [List.append_nil, List.mem_singleton]
      intro z
      rw [z] at hne
      simp at hne
theorem DqKvs.reads (I : Inv X pins σ H s) : ∀ (ds : List (PyData × PyData)) (vs : List (L2.Key × V)) (us : List (L2.Key × Value)) (es : List DictEntry), DqKvs X.K H vs ds → KV vs us → Pairs (mixKind X.prog X.w) es us → ∃ bs, ReadsAll s.heap (es.map (·.key)) (ds.map (·.1)) [] ∧ ReadsAll s.heap (es.map (·.val)) (ds.map (·.2)) bs ∧ (ds = [] → bs = [])
  | [], _, _, _, h, r, p => by
    cases h
    cases r
    cases p
    exact ⟨_, .nil, .nil, fun _ => rfl⟩
  | (k, d) :: ds, _, _, _, h, r, p => by
    cases h with
    | cons k h q =>
      cases r with
      | cons r0 rs =>
        cases p with
        | cons p1 p2 p3 =>
          rename_i u us e es
          obtain ⟨u1, u2⟩ := u
          obtain ⟨r1, r2⟩ := r0
          dsimp only at r1 r2 p1 p2
          subst r1
          obtain ⟨t, e1⟩ := Value.isInt_shape (show Value.isInt k e.key = true from p1)
          obtain ⟨as, g1, _⟩ := Dq.reads I d _ _ h r2
          obtain ⟨bs, q1, q2, _⟩ := DqKvs.reads I ds _ _ _ q rs p3
          refine ⟨as ++ bs, ?_, ?_, fun z => nomatch z⟩
          · rw [List.map_cons, List.map_cons, e1]
            exact ReadsAll.cons (Reads.int _ _) q1
          · rw [List.map_cons, List.map_cons, p2]
            exact ReadsAll.cons g1 q2
theorem DqAll.reads (I : Inv X pins σ H s) : ∀ (ds : List PyData) (vs : List V) (us : List Value), DqAll X.K H vs ds → Vals vs us → ∃ as, ReadsAll s.heap us ds as ∧ (noListAll ds = true → sysModules ∉ as)
  | [], _, _, h, r => by
    cases h
    cases r
    exact ⟨_, ReadsAll.nil, fun _ => by simp⟩
  | d :: ds, _, _, h, r => by
    cases h with
    | cons h1 h2 =>
      cases r with
      | cons r1 r2 =>
        obtain ⟨as, q1, n1⟩ := Dq.reads I d _ _ h1 r1
        obtain ⟨bs, q2, n2⟩ := DqAll.reads I ds _ _ h2 r2
        refine ⟨_, ReadsAll.cons q1 q2, fun z => ?_⟩
        simp only [noListAll, Bool.and_eq_true] at z
        simp only [List.mem_append, not_or]
        exact ⟨n1 z.1, n2 z.2⟩
end
def tyName : PyData → String
  | .none => "NoneType"
  | .bool _ => "bool"
  | .int _ => "int"
  | .str _ => "str"
  | .list _ => "list"
  | .tuple _ => "tuple"
  | .dict _ => "dict"
theorem Dq.tyX {K : PySem.W.Frag} {d : PyData} {v : V} (h : Dq K H v d) : TyX K H v (.type (tyName d)) := by
  cases h with
  | non => exact .base .non
  | bl b => exact .base (.bl b)
  | int i => exact .base (.int i)
  | str x => exact .base (.str x)
  | lst h q =>
    exact .base (.lst h)
  | tup h q =>
    rcases h with (h | ⟨o, h⟩) | ⟨o, its, n, h1, h2, _⟩
    · exact .base (.tup h)
    · exact .fTuple h
    · exact .kTuple h1 h2
  | dic h q => exact .base (.dK h)
theorem Dq.typeIs (I : Inv X pins σ H s) {d : PyData} {v : V} {u : Value} (h : Dq X.K H v d) (r : RelV v u) : s.TypeIs u (tyName d) := by
  obtain ⟨as, q, _⟩ := Dq.reads I d v u h r
  cases q with
  | none => rfl
  | bool b => rfl
  | int i t => rfl
  | str x t => rfl
  | list h1 h2 h3 h4 => exact ⟨_, h1, h2⟩
  | tuple h1 h2 h3 h4 => exact ⟨_, h1, h2⟩
  | dict h1 h2 h3 h4 h5 => exact ⟨_, h1, h2⟩
end

def fAdd (a b : PyData) : Option PyData := match a, b with
  | .int i, .int j => some (.int (i + j))
  | .str x, .str y => if x.length + y.length ≤ 100000 then some (.str (x ++ y)) else none
  | .tuple xs, .tuple ys => if xs.length + ys.length ≤ 100000 then some (.tuple (xs ++ ys)) else none
  | .list xs, .list ys => if xs.length + ys.length ≤ 100000 then some (.list (xs ++ ys)) else none
  | _, _ => none
def fSub (a b : PyData) : Option PyData := match a, b with
  | .int i, .int j => some (.int (i - j))
  | _, _ => none
def fMul (a b : PyData) : Option PyData := match a, b with
  | .int i, .int j => if (-(2 ^ 64) < i ∧ i < 2 ^ 64) ∨ (-(2 ^ 64) < j ∧ j < 2 ^ 64) then some (.int (i * j)) else none
  | _, _ => none
def fDiv (a b : PyData) : Option PyData := match a, b with
  | .int i, .int j => if j ≠ 0 ∧ j.natAbs < 1073741824 then some (.int (i.fdiv j)) else none
  | _, _ => none
def fMod (a b : PyData) : Option PyData := match a, b with
  | .int i, .int j => if j ≠ 0 then some (.int (i.fmod j)) else none
  | _, _ => none
def fPow (a b : PyData) : Option PyData := match a, b with
  | .int i, .int j => if 0 ≤ j ∧ j ≤ 1000000 ∧ i.natAbs < 2 ^ 64 then some (.int (i ^ j.toNat)) else none
  | _, _ => none
def fNeg (a : PyData) : Option PyData := match a with
  | .int i => some (.int (-i))
  | _ => none
section
variable {X : Cx}
theorem o_int2 {f : Value → Value → Sem Value} {C : Int → Int → Prop} {g : Int → Int → V} {F : PyData → PyData → Option PyData} (h : OpR X f (rI C g)) (hF : ∀ d e z, F d e = some z → ∃ i j, d = .int i ∧ e = .int j ∧ C i j ∧ ∀ S, Dq X.K S (g i j) z) : OpR X f (rP2 X.K F) := by
  intro pins s σ H x y v u Q I rx ry ⟨S, d, e, z, ex, v1, v2, hf, q⟩
  obtain ⟨i, j, rfl, rfl, hc, hz⟩ := hF d e z hf
  exact h pins s σ H x y v u Q I rx ry ⟨i, j, v1.int, v2.int, hc, q.now ex (hz S)⟩
theorem o_mul : OpR X (binaryOp .Mult) (rP2 X.K fMul) := o_int2 op_mul fun d e z h => by
  unfold fMul at h
  split at h
  · split at h
    · rename_i c; cases h; exact ⟨_, _, rfl, rfl, c, fun S => .int _⟩
    · cases h
  · cases h
theorem o_div : OpR X (binaryOp .FloorDiv) (rP2 X.K fDiv) := o_int2 op_fdivN fun d e z h => by
  unfold fDiv at h
  split at h
  · split at h
    · rename_i c; cases h; exact ⟨_, _, rfl, rfl, c, fun S => .int _⟩
    · cases h
  · cases h
theorem o_mod : OpR X (binaryOp .Mod) (rP2 X.K fMod) := o_int2 op_modN fun d e z h => by
  unfold fMod at h
  split at h
  · split at h
    · rename_i c; cases h; exact ⟨_, _, rfl, rfl, c, fun S => .int _⟩
    · cases h
  · cases h
theorem o_pow : OpR X (binaryOp .Pow) (rP2 X.K fPow) := o_int2 op_pow fun d e z h => by
  unfold fPow at h
  split at h
  · split at h
    · rename_i c; cases h; exact ⟨_, _, rfl, rfl, c, fun S => .int _⟩
    · cases h
  · cases h
theorem o_neg : UnR X (unaryOp .USub) (rP1 X.K fNeg) := by
  intro pins s σ H x v Q I rx ⟨S, d, z, ex, v1, hf, q⟩
  unfold fNeg at hf
  split at hf
  · cases hf
    exact un_neg pins s σ H x v Q I rx ⟨_, v1.int, q.now ex (.int _)⟩
  · cases hf
theorem o_add : OpR X (binaryOp .Add) (rO2 X.K fAdd) := by
  intro pins s σ H x y v u Q I rx ry ⟨S, d, e, z, ex, v1, v2, hf, q⟩
  unfold fAdd at hf
  split at hf
  · cases hf
    exact op_add pins s σ H x y v u Q I rx ry ⟨_, _, Vw.int (.inl v1), Vw.int (.inl v2), q.now ex (.int _)⟩
  · split at hf
    · rename_i c
      cases hf
      exact op_add_str pins s σ H x y v u Q I rx ry ⟨_, _, Vw.str (.inl v1), Vw.str (.inl v2), small_line c, q.now ex (.str _)⟩
    · cases hf
  · split at hf
    · rename_i xs ys c
      cases hf
      obtain ⟨a, vs, rfl, h1, h2, h3⟩ := Vw.tup ex (.inl v1)
      obtain ⟨b, ws, rfl, k1, k2, k3⟩ := Vw.tup ex (.inl v2)
      refine op_catA pins s σ H _ _ v u Q I rx ry ⟨a, b, vs, ws, rfl, rfl, h2, k2, small_line (by rw [DqAll.length h3, DqAll.length k3]; exact c), fun e1 => ?_, fun n1 e2 => ?_, fun n1 n2 p hp => ?_⟩
      · subst e1
        cases h3
        exact q.now ex (.tup k1 k3)
      · subst e2
        cases k3
        rw [List.append_nil] at q
        exact q.now ex (.tup h1 h3)
      · exact q.tup ex hp (h3.append k3)
    · cases hf
  · split at hf
    · rename_i xs ys c
      cases hf
      obtain ⟨a, vs, rfl, h2, h3⟩ := v1.list ex
      obtain ⟨b, ws, rfl, k2, k3⟩ := v2.list ex
      refine op_cat pins s σ H _ _ v u Q I rx ry ⟨a, b, vs, ws, rfl, rfl, h2, k2, small_line (by rw [DqAll.length h3, DqAll.length k3]; exact c), fun p hp => q.lst ex hp (h3.append k3)⟩
    · cases hf
  · cases hf

def fEq (a b : PyData) : Option PyData := if SeqAt.shaped a = true ∧ SeqAt.shaped b = true then some (.bool (PyData.eqv a b)) else none
def fNe (a b : PyData) : Option PyData := match a, b with
  | .str x, .str y => some (.bool (!decide (x = y)))
  | a, b => if SeqAt.shaped a = true ∧ SeqAt.shaped b = true then some (.bool (!PyData.eqv a b)) else none
def fIn (a b : PyData) : Option PyData := match b with
  | .list ds => if SeqAt.shaped a = true ∧ SeqAt.shaped (.list ds) = true then some (.bool (ds.any fun z => PyData.eqv z a)) else none
  | .tuple ds => if SeqAt.shaped a = true ∧ SeqAt.shaped (.tuple ds) = true then some (.bool (ds.any fun z => PyData.eqv z a)) else none
  | .str z => match a with
    | .str x => match x.cps.toList with
      | [c] => some (.bool (decide (c ∈ z.cps.toList)))
      | _ => none
    | _ => none
  | _ => none
def fNotIn (a b : PyData) : Option PyData := match b with
  | .list ds => if SeqAt.shaped a = true ∧ SeqAt.shaped (.list ds) = true then some (.bool (!ds.any fun z => PyData.eqv z a)) else none
  | .tuple ds => if SeqAt.shaped a = true ∧ SeqAt.shaped (.tuple ds) = true then some (.bool (!ds.any fun z => PyData.eqv z a)) else none
  | .str z => match a with
    | .str x => match x.cps.toList with
      | [c] => some (.bool (!decide (c ∈ z.cps.toList)))
      | _ => none
    | _ => none
  | _ => none
mutual
theorem noDict_lay : ∀ d : PyData, d.canLay0 = true → noDict d = true
  | .none, _ => by simp [noDict]
  | .bool _, _ => by simp [noDict]
  | .int _, _ => by simp [noDict]
  | .str _, _ => by simp [noDict]
  | .list xs, h => by
    simp only [PyData.canLay0] at h
    simp only [noDict]
    exact noDictAll_lay xs h
  | .tuple xs, h => by
    simp only [PyData.canLay0] at h
    simp only [noDict]
    exact noDictAll_lay xs h
  | .dict _, h => by simp [PyData.canLay0] at h
theorem noDictAll_lay : ∀ ds : List PyData, PyData.canLayAll0 ds = true → noDictAll ds = true
  | [], _ => by simp [noDictAll]
  | d :: ds, h => by
    simp only [PyData.canLayAll0, Bool.and_eq_true] at h
    simp only [noDictAll, Bool.and_eq_true]
    exact ⟨noDict_lay d h.1, noDictAll_lay ds h.2⟩
end
theorem Vw.dp {K : PySem.W.Frag} {S H : Hp} {v : V} {d : PyData} (h : Vw K S H v d) (e : Ex S H) (hs : SeqAt.shaped d = true) : Dp K H v d := h.toDp e (noDict_lay d (SeqAt.canLay_of_shaped hs))
theorem o_eq (hu : X.A.units + 64 < cLine) : OpR X (compareOp .Eq) (rP2 X.K fEq) := by
  intro pins s σ H x y v u Q I rx ry ⟨S, d, e, z, ex, v1, v2, hf, q⟩
  unfold fEq at hf
  split at hf
  · rename_i c
    cases hf
    exact op_eqD hu pins s σ H x y v u Q I rx ry ⟨d, e, v1.dp ex c.1, v2.dp ex c.2, c.1, c.2, q.now ex (.bl _)⟩
  · cases hf
theorem o_ne (hu : X.A.units + 64 < cLine) : OpR X (compareOp .NotEq) (rP2 X.K fNe) := by
  intro pins s σ H x y v u Q I rx ry ⟨S, d, e, z, ex, v1, v2, hf, q⟩
  unfold fNe at hf
  split at hf
  · cases hf
    refine op_ne pins s σ H x y v u Q I rx ry ?_
    rw [v1.str, v2.str]
    refine ⟨rfl, ?_⟩
    have := q.now ex (.bl _)
    rename_i a b
    rw [show decide (V.str a = V.str b) = decide (a = b) by rw [Bool.eq_iff_iff]; simp]
    exact this
  · split at hf
    · rename_i c
      cases hf
      exact op_neD hu pins s σ H x y v u Q I rx ry ⟨d, e, v1.dp ex c.1, v2.dp ex c.2, c.1, c.2, q.now ex (.bl _)⟩
    · cases hf
end
end Mi
end

section
set_option maxHeartbeats 4000000
namespace Mi
open PySem PySem.Spec PyProof.Rows L2
open Evl (Ex)

section
variable {X : Cx}
def comparable (a b : PyData) : Bool := PySem.W.alike a b && (match a with
  | .none => false
  | _ => true) && decide (min a.depth b.depth ≤ 60)
theorem comp_of {a b : PyData} (h : comparable a b = true) : PySem.W.alike a b = true ∧ a ≠ .none ∧ min a.depth b.depth ≤ 60 := by
  unfold comparable at h
  simp only [Bool.and_eq_true, decide_eq_true_eq] at h
  refine ⟨h.1.1, ?_, h.2⟩
  rintro rfl
  exact absurd h.1.2 (by simp)
theorem vw_reads {pins : List (Addr × Obj)} {σ : L2.St} {s : Shared} {S H : Hp} {v : V} {u : Value} {d : PyData} (I : L2.Inv X pins σ H s) (e : Ex S H) (h : Vw X.K S H v d) (hd : noDict d = true ∨ noList d = true) (r : RelV v u) : ∃ as, Reads s.heap u d as ∧ (d.hasDict = true → sysModules ∉ as) := by
  rcases hd with hd | hd
  · obtain ⟨as, q⟩ := Dp.reads I d v u (h.toDp e hd) r
    exact ⟨as, q, fun z => by rw [noDict_has d hd] at z; cases z⟩
  · have hl : ∀ ds, d ≠ .list ds := by
      rintro ds rfl
      simp [noList] at hd
    obtain ⟨as, q, n⟩ := Dq.reads I d v u (Dq.mono e _ _ (h.ofD hl)) r
    exact ⟨as, q, fun _ => n hd⟩
theorem o_cmpG {op : CmpOp} {f : PyData → PyData → Option PyData} {g : PyData → PyData → Bool} (hf : ∀ d e z, f d e = some z → comparable d e = true ∧ noDict d = true ∧ noDict e = true ∧ z = .bool (g d e))
    (rule : ∀ {pins : List (Addr × Obj)} {σ : L2.St} {H : Hp} {Q : VK} {s : Shared} {a b : Value} {da db : PyData} {as bs : List Addr}, Reads s.heap a da as → Reads s.heap b db bs → PySem.W.alike da db = true → da ≠ .none → X.A.units + min da.depth db.depth < cLine → EP X pins σ Q (.bool (g da db)) s → wpAny (model X.prog X.w) X.A (compareOp op a b) (EP X pins σ Q) X.xe s)
    (hu : X.A.units + 64 < cLine) : OpR X (compareOp op) (rP2 X.K f) := by
  intro pins s σ H x y v u Q I rx ry ⟨S, d, e, z, ex, v1, v2, hfz, q⟩
  obtain ⟨hc, n1, n2, rfl⟩ := hf d e z hfz
  obtain ⟨h1, h2, h3⟩ := comp_of hc
  obtain ⟨as, r1, _⟩ := vw_reads I ex v1 (.inl n1) rx
  obtain ⟨bs, r2, _⟩ := vw_reads I ex v2 (.inl n2) ry
  exact rule (H := H) r1 r2 h1 h2 (by omega) ⟨.bl _, H, I, rfl, q.now ex (.bl _)⟩
def ordD (g : PyData → PyData → Bool) (a b : PyData) : Option PyData := if comparable a b = true ∧ noDict a = true ∧ noDict b = true then some (.bool (g a b)) else none
def gLt (a b : PyData) : Bool := PySem.W.dataLt a b
def gGt (a b : PyData) : Bool := PySem.W.dataLt b a
def gLe (a b : PyData) : Bool := !PySem.W.dataLt b a
def gGe (a b : PyData) : Bool := !PySem.W.dataLt a b
theorem ord_of {g : PyData → PyData → Bool} : ∀ d e z, ordD g d e = some z → comparable d e = true ∧ noDict d = true ∧ noDict e = true ∧ z = .bool (g d e) := fun d e z h => by
  unfold ordD at h
  split at h
  · rename_i c
    cases h
    exact ⟨c.1, c.2.1, c.2.2, rfl⟩
  · cases h
theorem o_lt (hu : X.A.units + 64 < cLine) : OpR X (compareOp .Lt) (rP2 X.K (ordD gLt)) := o_cmpG ord_of (fun r1 r2 h1 h2 h3 q => PySem.W.lt_data r1 r2 h1 h2 h3 q) hu
theorem o_gt (hu : X.A.units + 64 < cLine) : OpR X (compareOp .Gt) (rP2 X.K (ordD gGt)) := o_cmpG ord_of (fun r1 r2 h1 h2 h3 q => PySem.W.gt_data r1 r2 h1 h2 h3 q) hu
theorem o_ge (hu : X.A.units + 64 < cLine) : OpR X (compareOp .GtE) (rP2 X.K (ordD gGe)) := o_cmpG ord_of (fun r1 r2 h1 h2 h3 q => PySem.W.ge_data r1 r2 h1 h2 h3 q) hu
end

abbrev MD := D → Slt → Arn → Res D
def mLast (f : D → D → Arn → Option (D × Arn)) (k : ME) : MD := fun a s A => (k s A).bind fun b A1 => opt1 (f a b A1)
def cutD (c : D) (r : Arn → Res D) (A : Arn) : Res D := match c with
  | .p (.bool true) => r A
  | .p (.bool false) => .ok (.p (.bool false)) A
  | _ => .bad
def mLink (f : D → D → Arn → Option (D × Arn)) (k : ME) (r : MD) : MD := fun a s A => (k s A).bind fun b A1 => (opt1 (f a b A1)).bind fun c A2 => cutD c (r b s) A2
def mCh (m : ME) (r : MD) : ME := fun s A => (m s A).bind fun a A1 => r a s A1
section
variable {X : Cx} {W : WX}
def Left (X : Cx) (W : WX) (m : MD) (x : V) (σ : L2.St) (H : Hp) (Q : VK) : Prop := ∃ F S ρ s A a, Wo X.K F S ρ H A ∧ SR X.K S ρ s σ ∧ RD X.K S ρ a x ∧ EndG X.K W F (RD X.K) S ρ σ Q (m a s A)
structure CH (X : Cx) (W : WX) (ops : List CmpOp) (es : List Expr) (m : MD) : Prop where
  val : ∀ (pos : Pos) (pins : List (Addr × Obj)) (s : Shared) (σ : L2.St) (H : Hp) (Q : VK) (x : V) (u : Value), L2.Inv X pins σ H s → RelV x u → Left X W m x σ H Q →
    wpAny (model X.prog X.w) X.A (compareChain pos u ops (evalEach es X.env)) (EP X pins σ Q) X.xe s
  tst : ∀ (pos : Pos) (pins : List (Addr × Obj)) (s : Shared) (σ : L2.St) (H : Hp) (Q : Bool → Hp → Prop) (x : V) (u : Value), L2.Inv X pins σ H s → RelV x u → Left X W m x σ H (fun v H' => ∃ b, v = .bl b ∧ Q b H') →
    wpAny (model X.prog X.w) X.A (testChain pos u ops (evalEach es X.env)) (TP X pins σ Q) X.xe s
end
end Mi
end

section
set_option maxHeartbeats 4000000
namespace Mi
open PySem PySem.Spec PyProof.Rows L2
open Evl (Ex)

def fLen (ds : List PyData) : Option PyData := match ds with
  | [.list xs] => if xs.length ≤ 100000 then some (.int xs.length) else none
  | [.tuple xs] => if xs.length ≤ 100000 then some (.int xs.length) else none
  | [.str x] => if x.length ≤ 100000 then some (.int x.length) else none
  | _ => none
def fAbs (ds : List PyData) : Option PyData := match ds with
  | [.int i] => some (.int (if i < 0 then -i else i))
  | _ => none
def fInt (ds : List PyData) : Option PyData := match ds with
  | [.int i] => some (.int i)
  | [.bool b] => some (.int (if b then 1 else 0))
  | _ => none
def fTuple (ds : List PyData) : Option PyData := match ds with
  | [.list xs] => some (.tuple xs)
  | [.tuple xs] => some (.tuple xs)
  | _ => none
def boolsOf : List PyData → Option (List Bool)
  | [] => some []
  | .bool b :: r => (boolsOf r).map fun bs => b :: bs
  | _ :: _ => none
def intsOf : List PyData → Option (List Int)
  | [] => some []
  | .int b :: r => (intsOf r).map fun bs => b :: bs
  | _ :: _ => none
def fAll (ds : List PyData) : Option PyData := match ds with
  | [.list xs] => (boolsOf xs).map fun bs => .bool (bs.all id)
  | _ => none
def fMax2 (ds : List PyData) : Option PyData := match ds with
  | [.int i, .int j] => some (.int (if j > i then j else i))
  | _ => none
def fMin2 (ds : List PyData) : Option PyData := match ds with
  | [.int i, .int j] => some (.int (if j < i then j else i))
  | _ => none
def fRepr (ds : List PyData) : Option PyData := match ds with
  | [d] => if d.showable = true ∧ (noDict d = true ∨ noList d = true) ∧ d.depth ≤ 60 ∧ d.shown.length ≤ sizeLine then some (.str d.shown) else none
  | _ => none
section
variable {X : Cx}
theorem VwAll.one {K : PySem.W.Frag} {S H : Hp} {xs : List V} {d : PyData} (h : VwAll K S H xs [d]) : ∃ v, xs = [v] ∧ Vw K S H v d := by
  cases h with
  | cons h q => cases q; exact ⟨_, rfl, h⟩
theorem VwAll.two {K : PySem.W.Frag} {S H : Hp} {xs : List V} {d e : PyData} (h : VwAll K S H xs [d, e]) : ∃ v u, xs = [v, u] ∧ Vw K S H v d ∧ Vw K S H u e := by
  cases h with
  | cons h q => cases q with
    | cons h2 q => cases q; exact ⟨_, _, rfl, h, h2⟩
theorem c_len : CallR X (.builtin "len") (rPN X.K fLen) := by
  intro pins s σ H xs us Q I r ⟨S, ds, z, ex, va, hf, q⟩
  unfold fLen at hf
  split at hf
  · split at hf
    · rename_i c
      cases hf
      obtain ⟨v, rfl, v1⟩ := va.one
      obtain ⟨a, vs, rfl, h1, h2⟩ := v1.list ex
      exact call_len pins s σ H _ us Q I r ⟨_, _, rfl, .inl ⟨vs, h1, rfl⟩, q.now ex (by rw [DqAll.length h2]; exact .int _)⟩
    · cases hf
  · split at hf
    · rename_i c
      cases hf
      obtain ⟨v, rfl, v1⟩ := va.one
      obtain ⟨a, vs, rfl, _, h1, h2⟩ := v1.tup ex
      exact call_len pins s σ H _ us Q I r ⟨_, _, rfl, .inr ⟨vs, h1, rfl⟩, q.now ex (by rw [DqAll.length h2]; exact .int _)⟩
    · cases hf
  · split at hf
    · rename_i c
      cases hf
      obtain ⟨v, rfl, v1⟩ := va.one
      obtain rfl := v1.str
      exact call_len pins s σ H _ us Q I r ⟨_, _, rfl, ⟨small_line c, rfl⟩, q.now ex (.int _)⟩
    · cases hf
  · cases hf
theorem c_abs : CallR X (.builtin "abs") (rPN X.K fAbs) := by
  intro pins s σ H xs us Q I r ⟨S, ds, z, ex, va, hf, q⟩
  unfold fAbs at hf
  split at hf
  · cases hf
    obtain ⟨v, rfl, v1⟩ := va.one
    exact call_abs pins s σ H _ us Q I r ⟨_, by rw [v1.int], q.now ex (.int _)⟩
  · cases hf
theorem c_int : CallR X (.type "int") (rPN X.K fInt) := by
  intro pins s σ H xs us Q I r ⟨S, ds, z, ex, va, hf, q⟩
  unfold fInt at hf
  split at hf
  · cases hf
    obtain ⟨v, rfl, v1⟩ := va.one
    exact call_int1 pins s σ H _ us Q I r (.inl ⟨_, by rw [v1.int], q.now ex (.int _)⟩)
  · cases hf
    obtain ⟨v, rfl, v1⟩ := va.one
    exact call_int1 pins s σ H _ us Q I r (.inr ⟨_, by rw [v1.bool], q.now ex (.int _)⟩)
  · cases hf
theorem c_max2 (hc : X.calm = true) : CallR X (.builtin "max") (rPN X.K fMax2) := by
  intro pins s σ H xs us Q I r ⟨S, ds, z, ex, va, hf, q⟩
  unfold fMax2 at hf
  split at hf
  · cases hf
    obtain ⟨v, u, rfl, v1, v2⟩ := va.two
    exact call_max2 hc pins s σ H _ us Q I r ⟨_, _, by rw [v1.int, v2.int], q.now ex (.int _)⟩
  · cases hf
theorem c_min2 (hc : X.calm = true) : CallR X (.builtin "min") (rPN X.K fMin2) := by
  intro pins s σ H xs us Q I r ⟨S, ds, z, ex, va, hf, q⟩
  unfold fMin2 at hf
  split at hf
  · cases hf
    obtain ⟨v, u, rfl, v1, v2⟩ := va.two
    exact call_min2 hc pins s σ H _ us Q I r ⟨_, _, by rw [v1.int, v2.int], q.now ex (.int _)⟩
  · cases hf
theorem c_repr (hgd : X.A.guards = some []) (hu : X.A.units + 64 < cLine) : CallR X (.builtin "repr") (rPN X.K fRepr) := by
  intro pins s σ H xs us Q I r ⟨S, ds, z, ex, va, hf, q⟩
  unfold fRepr at hf
  split at hf
  · rename_i d
    split at hf
    · rename_i c
      cases hf
      obtain ⟨hsh, hd, hdep, hz⟩ := c
      obtain ⟨v, rfl, v1⟩ := va.one
      cases r with
      | cons rv rr =>
        cases rr
        obtain ⟨as, rd, hno⟩ := vw_reads I ex v1 hd rv
        have fin : ∀ h' (u : Tok) tk, (∀ b o, s.heap.get? b = some o → h'.get? b = some o) → EP X pins σ Q (.str d.shown u) { s with heap := h', toks := tk } := fun h' u tk hk => ⟨.str d.shown, H, I.kept hk, ⟨u, rfl⟩, q.now ex (.str _)⟩
        cases d with
        | none =>
          cases rd
          have e : PyData.shown .none = "None" := by rw [PyData.shown]
          exact PySem.P.repr_of_none (by rw [← e]; exact fin s.heap _ _ fun _ _ z => z)
        | bool b =>
          cases rd
          have e : PyData.shown (.bool b) = if b = true then Str.ofString "True" else Str.ofString "False" := by rw [PyData.shown]
          exact PySem.P.repr_of_bool (by rw [← e]; exact fin s.heap _ _ fun _ _ z => z)
        | int i =>
          cases rd
          have e : PyData.shown (.int i) = toString i := by rw [PyData.shown]
          exact PySem.P.repr_of_int (by simpa [PyData.showable] using hsh) (by rw [← e]; exact fin s.heap _ _ fun _ _ z => z)
        | str x =>
          cases rd
          have e : PyData.shown (.str x) = reprText x := by rw [PyData.shown]
          exact PySem.P.repr_of_str (by rw [← e]; exact fin s.heap _ _ fun _ _ z => z) (by rw [← e]; exact hz)
        | list ys =>
          cases rd with
          | list h1 h2 h3 h4 => exact repr_of_reads' (.list h1 h2 h3 h4) hsh hno hgd (by omega) (fun _ _ z => z) (fun h' u tk hk => fin h' u tk hk) hz
        | tuple ys =>
          cases rd with
          | tuple h1 h2 h3 h4 => exact repr_of_reads' (.tuple h1 h2 h3 h4) hsh hno hgd (by omega) (fun _ _ z => z) (fun h' u tk hk => fin h' u tk hk) hz
        | dict ys =>
          cases rd with
          | dict h1 h2 h3 h4 h5 => exact repr_of_reads' (.dict h1 h2 h3 h4 h5) hsh hno hgd (by omega) (fun _ _ z => z) (fun h' u tk hk => fin h' u tk hk) hz
    · cases hf
  · cases hf

def isInst (d : PyData) (T : String) : Option Bool := match T with
  | "int" => some (match d with
    | .int _ => true
    | .bool _ => true
    | _ => false)
  | "bool" => some (match d with
    | .bool _ => true
    | _ => false)
  | "tuple" => some (match d with
    | .tuple _ => true
    | _ => false)
  | "list" => some (match d with
    | .list _ => true
    | _ => false)
  | "str" => some (match d with
    | .str _ => true
    | _ => false)
  | _ => none
def mIsi (T : String) (m : ME) : ME := mOpN (liftN fun ds => match ds with
  | [d] => (isInst d T).map PyData.bool
  | _ => none) (aCons m aNil)
theorem Vw.tyX {K : PySem.W.Frag} {S H : Hp} {v : V} {d : PyData} (e : Ex S H) (h : Vw K S H v d) : TyX K H v (.type (tyName d)) := by
  by_cases hl : ∃ ds, d = .list ds
  · obtain ⟨ds, rfl⟩ := hl
    obtain ⟨a, vs, rfl, h1, _⟩ := h.list e
    rcases h1 with (h1 | ⟨o, h1⟩) | ⟨o, its, n, h1, h2, _⟩
    · exact .base (.lst h1)
    · exact .base (.frz h1)
    · exact .kList h1 h2
  · exact (Dq.mono e _ _ (h.ofD fun ds q => hl ⟨ds, q⟩)).tyX
theorem Vw.typeIs {pins : List (Addr × Obj)} {σ : L2.St} {s : Shared} {S H : Hp} {v : V} {u : Value} {d : PyData} (I : L2.Inv X pins σ H s) (e : Ex S H) (h : Vw X.K S H v d) (r : RelV v u) : s.TypeIs u (tyName d) := by
  by_cases hl : ∃ ds, d = .list ds
  · obtain ⟨ds, rfl⟩ := hl
    obtain ⟨a, vs, rfl, h1, _⟩ := h.list e
    cases r
    obtain ⟨its, rv, ⟨o, n, ho, hc, _⟩, _⟩ := I.list h1
    exact ⟨o, ho, hc⟩
  · exact Dq.typeIs I (Dq.mono e _ _ (h.ofD fun ds q => hl ⟨ds, q⟩)) r
variable {W : WX}
def mTyIs (T : String) (neg : Bool) (m : ME) : ME := mOpN (liftN fun ds => match ds with
  | [d] => some (.bool (if neg then !decide (tyName d = T) else decide (tyName d = T)))
  | _ => none) (aCons m aNil)
end
end Mi
end

section
set_option maxHeartbeats 4000000
namespace So
open PySem PySem.W PySem.Calls PyProof.Rows PySem.Builtin
section
variable {prog : Program} {w : World} {A : Around} {E : Value → Shared → Prop} {s : Shared}
end
end So
end

section
set_option maxHeartbeats 4000000
namespace Mi
open PySem PySem.Spec PyProof.Rows L2
open Evl (Ex)

def lOpN (f : List PyData → Option (List PyData)) (m : MA) : ML := fun s A => (m s A).bind fun ds A1 => opt0 ((datasOf ds A1).bind fun xs => (f xs).map fun zs => (zs, A1))
def GivesL (K : PySem.W.Frag) (S H : Hp) (zs : List PyData) (Q : VK) : Prop := ∀ S' H' p vs, Grow S H S' H' → H p = none → S' p = none → H' p = some (.lst vs) → DqAll K S' vs zs → Q (.ref p) H'
section
variable {K : PySem.W.Frag} {W : WX} {S H : Hp}
theorem GivesL.new (e : Ex S H) {zs : List PyData} {Q : VK} (h : GivesL K S H zs Q) {p : Addr} (n : H p = none) {vs : List V} (q : DqAll K S vs zs) : Q (.ref p) (upd H p (.lst vs)) :=
  h S _ p vs (Grow.side e n) n (none_sub e n) upd_same q
end
section
variable {X : Cx} {W : WX} {p pos : Pos} {e : Expr} {es : List Expr} {m : MA}
def lfList (ds : List PyData) : Option (List PyData) := match ds with
  | [.list xs] => some xs
  | [.tuple xs] => some xs
  | _ => none
def allAlike (xs : List PyData) : Bool := xs.all fun d => xs.all fun e => PySem.W.alike d e
def sortable (xs : List PyData) : Bool := (xs.all fun d => match d with
  | .tuple (_ :: _) => true
  | _ => false) || (xs.all fun d => match d with
  | .none => false
  | .tuple _ => false
  | _ => true)
def srt (xs : List PyData) : List PyData := xs.mergeSort (PySem.W.dataLe false id)
def lfSorted (ds : List PyData) : Option (List PyData) := match ds with
  | [.list xs] => if allAlike xs = true ∧ sortable xs = true ∧ xs.length ≤ 100000 ∧ PyData.depthAll xs ≤ 40 then some (srt xs) else none
  | [.tuple xs] => if allAlike xs = true ∧ sortable xs = true ∧ xs.length ≤ 100000 ∧ PyData.depthAll xs ≤ 40 then some (srt xs) else none
  | _ => none
def lRg1 (m : ME) : ML := fun s A => (m s A).bind fun d A1 => match d with
  | .p (.int n) => if -(2 ^ 62) ≤ n ∧ n ≤ 16777216 then .ok (rangeD 0 n.toNat) A1 else .bad
  | _ => .bad
def fIx (a b : PyData) : Option PyData := match a, b with
  | .list xs, .int i => atI xs i
  | .tuple xs, .int i => atI xs i
  | .str z, .int i => if z.length ≤ 100000 then (atI z.cps.toList i).map fun c => .str ⟨#[c]⟩ else none
  | _, _ => none
theorem atI_vals {K : PySem.W.Frag} {S : Hp} {vs : List V} {ds : List PyData} {i : Int} {d : PyData} (q : DqAll K S vs ds) (h : atI ds i = some d) : ∃ v, atI vs i = some v ∧ Dq K S v d := by
  unfold atI at h ⊢
  rw [DqAll.length q]
  cases e : ixN ds.length i with
  | none => rw [e] at h; cases h
  | some j =>
    rw [e] at h
    exact q.get h
theorem xe_ix {a b : Expr} {ma mb : ME} (ha : PE X a (tE X.K W ma)) (hb : PE X b (tE X.K W mb)) (hs : PlainIx b) : PE X (.Subscript a b pos) (tE X.K W (mOp2 (lift2 fIx) ma mb)) := by
  refine pe_imp (pe_ix (r := rM2 X.K (lift2 fIx)) ?_ ha hb hs) t_op2
  intro value slice pins s σ H x y v u Q I rx ry h hs
  obtain ⟨S, d, e, z, ex, v1, v2, hf, q⟩ := m2_of h
  unfold fIx at hf
  split at hf
  · obtain ⟨a, vs, rfl, h1, h2⟩ := v1.list ex
    obtain ⟨w, h3, h4⟩ := atI_vals h2 hf
    exact ix_list value slice pins s σ H _ y v u Q I rx ry ⟨a, vs, _, w, rfl, v2.int, h1, h3, q.now ex h4⟩ hs
  · obtain ⟨a, vs, rfl, _, h1, h2⟩ := v1.tup ex
    obtain ⟨w, h3, h4⟩ := atI_vals h2 hf
    exact ix_tup value slice pins s σ H _ y v u Q I rx ry ⟨a, vs, _, w, rfl, v2.int, h1, h3, q.now ex h4⟩ hs
  · split at hf
    · rename_i c
      rename_i z' i'
      cases ec : atI z'.cps.toList i' with
      | none => rw [ec] at hf; cases hf
      | some k =>
        rw [ec] at hf
        cases hf
        exact ix_str value slice pins s σ H x y v u Q I rx ry ⟨_, _, k, v1.str, v2.int, small_line c, ec, q.now ex (.str _)⟩ hs
    · cases hf
  · cases hf
abbrev MP := Slt → Arn → Res (Option Int)
def pNo : MP := fun _ A => .ok none A
def pSome (m : ME) : MP := fun s A => (m s A).bind fun d A1 => match d with
  | .p (.int i) => .ok (some i) A1
  | _ => .bad
abbrev tP (K : PySem.W.Frag) (W : WX) (m : MP) : TO := tG K W (fun _ _ a b => a = b) m
theorem xp_no : PO X none (tP X.K W pNo) := ⟨fun pins s σ H Q I ⟨F, S, ρ, st, A, w, sr, h⟩ => po_none.run pins s σ H Q I (EndG.ok h w rfl)⟩
theorem xp_some {a : Expr} {k : ME} (ha : PE X a (tE X.K W k)) : PO X (some a) (tP X.K W (pSome k)) := ⟨fun pins s σ H Q I ⟨F, S, ρ, st, A, w, sr, h⟩ => (po_some ha).run pins s σ H Q I ⟨F, S, ρ, st, A, w, sr, (EndG.bind h).imp fun x H1 ⟨S1, ρ1, A1, d, l1, w1, r1, h1⟩ => by
    cases d with
    | ref n => exact h1.elim
    | scr n => exact h1.elim
    | p d =>
      cases d with
      | int i =>
        cases r1
        exact ⟨i, rfl, EndG.ok h1 w1 rfl⟩
      | none => exact h1.elim
      | bool i => exact h1.elim
      | str x => exact h1.elim
      | list x => exact h1.elim
      | tuple x => exact h1.elim
      | dict x => exact h1.elim⟩⟩
def cutD' {α : Type} (xs : List α) (lo hi : Option Int) : List α := (xs.drop (HT.sIx xs.length 0 lo)).take (HT.sIx xs.length xs.length hi - HT.sIx xs.length 0 lo)
def fSl (d : PyData) (lo hi : Option Int) : Option PyData := match d with
  | .tuple xs => some (.tuple (cutD' xs lo hi))
  | .str z => if z.length ≤ 100000 then some (.str (cutS z lo hi)) else none
  | _ => none
def lfSl (d : PyData) (lo hi : Option Int) : Option (List PyData) := match d with
  | .list xs => some (cutD' xs lo hi)
  | _ => none
theorem cut_vals {K : PySem.W.Frag} {S : Hp} {vs : List V} {ds : List PyData} (lo hi : Option Int) (q : DqAll K S vs ds) : DqAll K S (cutV vs lo hi) (cutD' ds lo hi) := by
  unfold cutV cutD'
  rw [DqAll.length q]
  exact (q.drop _).take _
def rSlD (K : PySem.W.Frag) : V → Option Int → Option Int → Hp → VK → Prop := fun x lo hi H Q => ∃ S d z, Ex S H ∧ Vw K S H x d ∧ fSl d lo hi = some z ∧ Gives K S H z Q
def rSlF (K : PySem.W.Frag) : V → Option Int → Option Int → Hp → VK → Prop := fun x lo hi H Q => ∃ S d z, Ex S H ∧ Vw K S H x d ∧ lfSl d lo hi = some z ∧ GivesL K S H z Q
theorem whole_cut {ds : List PyData} {lo hi : Option Int} (h : HT.sIx ds.length 0 lo = 0 ∧ HT.sIx ds.length ds.length hi = ds.length) : cutD' ds lo hi = ds := by
  unfold cutD'
  rw [h.1, h.2, List.drop_zero, Nat.sub_zero, List.take_length]
theorem s_val : SlR X (rSlD X.K) := by
  intro pins s σ H x v vl vu lo hi sl Q I rx hs pl pu ⟨S, d, z, ex, v1, hf, q⟩
  unfold fSl at hf
  split at hf
  · cases hf
    obtain ⟨a, vs, rfl, h0, h1, h2⟩ := v1.tup ex
    refine sl_tupA pins s σ H _ v vl vu lo hi sl Q I rx hs pl pu ⟨a, vs, rfl, h1, fun hw => ?_, fun hw p hp => q.tup ex hp (cut_vals lo hi h2)⟩
    rw [DqAll.length h2] at hw
    rw [whole_cut hw] at q
    exact q.now ex (.tup h0 h2)
  · split at hf
    · rename_i c
      cases hf
      exact sl_str pins s σ H x v vl vu lo hi sl Q I rx hs pl pu ⟨_, v1.str, small_line c, q.now ex (.str _)⟩
    · cases hf
  · cases hf
theorem s_lst : SlR X (rSlF X.K) := by
  intro pins s σ H x v vl vu lo hi sl Q I rx hs pl pu ⟨S, d, z, ex, v1, hf, q⟩
  unfold lfSl at hf
  split at hf
  · cases hf
    obtain ⟨a, vs, rfl, h1, h2⟩ := v1.list ex
    exact sl_list pins s σ H _ v vl vu lo hi sl Q I rx hs pl pu ⟨a, vs, rfl, h1, fun p hp => q.new ex hp (cut_vals lo hi h2)⟩
  · cases hf
end
end Mi
end

section
set_option maxHeartbeats 4000000
namespace Mi
open PySem PySem.Spec PyProof.Rows L2
open Evl (Ex)

def isL (d : D) (A : Arn) : Bool := match dataOf d A with
  | some (.list _) => true
  | _ => false
def isS (d : D) (A : Arn) : Bool := match dataOf d A with
  | some (.str _) => true
  | _ => false
def mMt (chk : D → Arn → Bool) (f : D → List D → Arn → Option (D × Arn)) (o : ME) (m : MA) : ME := fun s A => (o s A).bind fun a A1 => if chk a A1 = true then (m s A1).bind fun ds A2 => opt1 (f a ds A2) else .bad
def fAppend (a : D) (ds : List D) (A : Arn) : Option (D × Arn) := match a, ds with
  | .ref n, [.p y] => match A[n]? with
    | some (.lst xs) => if xs.length < 100000 then some (.p .none, A.set n (.lst (xs ++ [y]))) else none
    | _ => none
  | _, _ => none
def fPop (a : D) (ds : List D) (A : Arn) : Option (D × Arn) := match a, ds with
  | .ref n, [] => match A[n]? with
    | some (.lst xs) => (xs[xs.length - 1]?).map fun y => (.p y, A.set n (.lst xs.dropLast))
    | _ => none
  | _, _ => none
section
variable {K : PySem.W.Frag} {W : WX}
end
section
variable {X : Cx} {W : WX} {pos : Pos}
def putIx (o i v : D) (A : Arn) : Option Arn := match o, i, v with
  | .ref n, .p (.int k), .p y => match A[n]? with
    | some (.lst xs) => (ixN xs.length k).map fun j => A.set n (.lst (xs.set j y))
    | _ => none
  | _, _, _ => none
theorem putIx_ok {o i v : D} {A A' : Arn} (h : putIx o i v A = some A') : ∃ (n : Nat) (k : Int) (y : PyData) (xs : List PyData) (j : Nat), o = .ref n ∧ i = .p (.int k) ∧ v = .p y ∧ A[n]? = some (.lst xs) ∧ ixN xs.length k = some j ∧ A' = A.set n (.lst (xs.set j y)) := by
  unfold putIx at h
  split at h
  · split at h
    · rename_i xs hA
      rename_i n k y _
      cases ej : ixN xs.length k with
      | none => rw [ej] at h; cases h
      | some j =>
        rw [ej] at h
        cases h
        exact ⟨_, _, _, _, _, rfl, rfl, rfl, hA, ej, rfl⟩
    · cases h
  · cases h
def sPut (mv mo mi : ME) : MS := fun s A => fromR (mv s A) fun v A1 => fromR (mo s A1) fun o A2 => fromR (mi s A2) fun i A3 => match putIx o i v A3 with
  | some A4 => .nx s A4
  | none => .bad
theorem xs_put {o i e : Expr} {mv mo mi : ME} {p2 : Pos} (he : PE X e (tE X.K W mv)) (ho : PE X o (tE X.K W mo)) (hi : PE X i (tE X.K W mi))
    (ha : ∀ v, assign (.Subscript o i p2) X.env v = (do
      let ov ← holding [v] (eval o X.env)
      let iv ← holding [v, ov] (eval i X.env)
      standAt p2
      holding [v, ov, iv] (setItem ov iv v)
      release [v, ov, iv] []) := by intro _; rfl)
    (hs : swapsWithSole [.Subscript o i p2] e pos.line X.env = pure false := by rfl) (hw : swappedStores [.Subscript o i p2] e X.env = pure none := by rfl)
    (h1 : (assignEach [Expr.Subscript o i p2] X.env).map (·.2) = [assign (.Subscript o i p2) X.env] := by rfl) : PS X (.Assign [.Subscript o i p2] e pos) (tS X.K W (sPut mv mo mi)) := by
  refine ps_imp (ps_asg he (pg_sub ho hi set_list ha) hs hw h1) fun D σ H ⟨F, S, ρ, s, A, w, sr, h⟩ => ?_
  refine ⟨F, S, ρ, s, A, w, sr, (EndS.from h).imp fun x H1 ⟨S1, ρ1, A1, v, l1, w1, r1, h1⟩ => ?_⟩
  refine ⟨F, S1, ρ1, s, A1, w1, sr.mono l1, (EndS.from h1).imp fun y H2 ⟨S2, ρ2, A2, o', l2, w2, r2, h2⟩ => ?_⟩
  refine ⟨F, S2, ρ2, s, A2, w2, sr.mono (l1.trans l2), (EndS.from h2).imp fun z H3 ⟨S3, ρ3, A3, i', l3, w3, r3, h3⟩ => ?_⟩
  have r1' := r1.mono (l2.trans l3)
  have r2' := r2.mono l3
  cases e4 : putIx o' i' v A3 with
  | none => rw [e4] at h3; exact h3.elim
  | some A4 =>
    rw [e4] at h3
    obtain ⟨n, k, yv, xs, j, rfl, rfl, rfl, hA, ej, rfl⟩ := putIx_ok e4
    obtain ⟨p, rfl, hp⟩ := r2'
    obtain ⟨p', vs, g1, g2, g3, g4⟩ := w3.lst n xs hA
    rw [hp] at g1
    cases g1
    cases (show Dq X.K S3 z (.int k) from r3)
    refine ⟨p, vs, k, j, rfl, rfl, g3, by rw [DqAll.length g4]; exact ej, ?_⟩
    exact EndS.nx h3 (w3.set hA hp (g4.set r1' j)) (sr.mono ((l1.trans l2).trans l3))

def truthD (d : D) (A : Arn) : Option Bool := match dataOf d A with
  | some .none => some false
  | some (.bool b) => some b
  | some (.int i) => some (i != 0)
  | some (.str x) => if x.length ≤ 100000 then some (x.length != 0) else none
  | some (.list xs) => some (!xs.isEmpty)
  | some (.tuple xs) => some (!xs.isEmpty)
  | _ => none
def mTru (m : ME) : MT := fun s A => (m s A).bind fun d A1 => match truthD d A1 with
  | some b => .ok b A1
  | none => .bad
theorem empty_iff {K : PySem.W.Frag} {S : Hp} {vs : List V} {ds : List PyData} (q : DqAll K S vs ds) : vs.isEmpty = ds.isEmpty := by
  cases q <;> rfl
theorem xt_tru {a : Expr} {m : ME} (h : PE X a (tE X.K W m)) (he : ∀ whole, isTrue a X.env whole = (do let v ← whole; standAt a.pos; holding [v] (truthy v)) := by intro _; rfl) : PT X a (tT X.K W (mTru m)) := by
  refine pt_imp (pt_truth h he) fun σ H Q ⟨F, S, ρ, s, A, w, sr, h⟩ => ⟨F, S, ρ, s, A, w, sr, (EndG.bind h).imp fun x H1 ⟨S1, ρ1, A1, d, l1, w1, r1, h1⟩ => ?_⟩
  cases e : truthD d A1 with
  | none => rw [e] at h1; exact h1.elim
  | some b =>
    rw [e] at h1
    refine ⟨b, ?_, EndG.ok h1 w1 rfl⟩
    unfold truthD at e
    cases ed : dataOf d A1 with
    | none => rw [ed] at e; cases e
    | some y =>
      rw [ed] at e
      have v := vw_of w1 r1 ed
      cases y with
      | none => cases e; rw [v.non]; rfl
      | bool c => cases e; rw [v.bool]; rfl
      | int c => cases e; rw [v.int]; rfl
      | str z =>
        dsimp only at e
        split at e
        · rename_i hz
          cases e
          rw [v.str]
          exact ⟨small_line hz, by rw [Bool.eq_iff_iff]; simp⟩
        · cases e
      | list zs =>
        cases e
        obtain ⟨p, vs, rfl, h1, h2⟩ := v.list w1.sub
        exact .inl ⟨vs, h1, by rw [empty_iff h2]⟩
      | tuple zs =>
        cases e
        obtain ⟨p, vs, rfl, _, h1, h2⟩ := v.tup w1.sub
        exact .inr (.inl ⟨vs, h1, by rw [empty_iff h2]⟩)
      | dict zs => cases e
def mIsN (neg : Bool) (m : ME) : ME := fun s A => (m s A).bind fun d A1 => match d with
  | .p .none => .ok (.p (.bool (!neg))) A1
  | _ => .ok (.p (.bool neg)) A1
end
end Mi
end

section
set_option maxHeartbeats 4000000
namespace Mi
open PySem PySem.Spec PyProof.Rows L2
open Evl (Ex)

section
variable {K : PySem.W.Frag} {W : WX} {F S S' H H' : Hp} {ρ ρ' : List Addr} {σ : L2.St} {A : Arn} {s : Slt}
end
section
variable {X : Cx} {W : WX}
end
end Mi
end

section
set_option maxHeartbeats 4000000
namespace Mi
open PySem PySem.Spec PyProof.Rows L2
open Evl (Ex)

section
variable {K : PySem.W.Frag} {W : WX}
def asB (d : D) : Option Bool := match d with
  | .p (.bool b) => some b
  | _ => none
theorem asB_ok {S : Hp} {ρ : List Addr} {d : D} {v : V} {b : Bool} (h : asB d = some b) (r : RD K S ρ d v) : v = .bl b ∧ d = .p (.bool b) := by
  unfold asB at h
  split at h
  · cases h
    cases (show Dq K S v (.bool b) from r)
    exact ⟨rfl, rfl⟩
  · cases h
def withB {α : Type} (d : D) (A : Arn) (f : Bool → Arn → Res α) : Res α := match asB d with
  | some b => f b A
  | none => .bad
def mOrV (m k : ME) : ME := fun s A => (m s A).bind fun a A1 => withB a A1 fun b A2 => if b = true then .ok (.p (.bool true)) A2 else k s A2
def mAndV (m k : ME) : ME := fun s A => (m s A).bind fun a A1 => withB a A1 fun b A2 => if b = true then k s A2 else .ok (.p (.bool false)) A2
def mNotV (m : ME) : ME := fun s A => (m s A).bind fun a A1 => withB a A1 fun b A2 => .ok (.p (.bool (!b))) A2
theorem t_notV {m : ME} : ∀ σ H Q, tE K W (mNotV m) σ H Q → tNotV (tE K W m) σ H Q := fun σ H Q ⟨F, S, ρ, s, A, w, sr, h⟩ => ⟨F, S, ρ, s, A, w, sr, (EndG.bind h).imp fun x H1 ⟨S1, ρ1, A1, a, l1, w1, r1, h1⟩ => by
    unfold withB at h1
    cases e : asB a with
    | none => rw [e] at h1; exact h1.elim
    | some b =>
      rw [e] at h1
      obtain ⟨rfl, _⟩ := asB_ok e r1
      exact ⟨b, rfl, EndG.ok h1 w1 (.bl _)⟩⟩
end
section
variable {X : Cx} {W : WX} {a b : Expr} {m k : ME} {pos : Pos} {rest : List Expr}
theorem xe_not (ha : PE X a (tE X.K W m)) : PE X (.UnaryOp .Not a pos) (tE X.K W (mNotV m)) := pe_imp (pe_not ha) t_notV
theorem xe_dict : PE X (.Dict [] [] pos) (tE X.K W (mC (.dict []))) := pe_imp pe_dnewK fun σ H Q ⟨F, S, ρ, s, A, w, sr, h⟩ p hp => by
  have g := Grow.upd (o := HO.dK []) w.sub hp
  exact h _ ρ _ _ (g.le ρ) (w.grow g) (.dic upd_same .nil)
def fSlA (d : PyData) (lo hi : Option Int) : Option PyData := match d with
  | .list xs => some (.list (cutD' xs lo hi))
  | d => fSl d lo hi
def mSlA (m : ME) (k l : MP) : ME := fun s A => (m s A).bind fun d A1 => (k s A1).bind fun lo A2 => (l s A2).bind fun hi A3 => opt1 ((dataOf d A3).bind fun x => (fSlA x lo hi).map fun z => (.p z, A3))
def rSlX (K : PySem.W.Frag) : V → Option Int → Option Int → Hp → VK → Prop := fun x lo hi H Q => ∃ S d z, Ex S H ∧ Vw K S H x d ∧ fSlA d lo hi = some z ∧ Gives K S H z Q
theorem s_any : SlR X (rSlX X.K) := by
  intro pins s σ H x v vl vu lo hi sl Q I rx hs pl pu ⟨S, d, z, ex, v1, hf, q⟩
  unfold fSlA at hf
  split at hf
  · cases hf
    exact s_lst pins s σ H x v vl vu lo hi sl Q I rx hs pl pu ⟨S, _, _, ex, v1, rfl, fun S' H' p vs g hn hsn hp qa => by
      have w : Ex S' (L2.upd S' p (.lst vs)) := Ex.new hsn
      refine q (L2.upd S' p (.lst vs)) H' (.ref p) ⟨g.ex.trans w, g.exH, fun a u e => ?_, fun a z => ?_⟩ (.lst upd_same (DqAll.mono w _ _ qa))
      · by_cases h : a = p
        · subst h; rw [upd_same] at e; cases e; exact hp
        · rw [upd_ne h] at e; exact g.sub a u e
      · by_cases h : a = p
        · subst h; exact .inr hn
        · rw [upd_ne h] at z; exact g.new a z⟩
  · exact s_val pins s σ H x v vl vu lo hi sl Q I rx hs pl pu ⟨S, _, _, ex, v1, hf, q⟩
theorem xe_slA {e : Expr} {lo hi : Option Expr} {ma : ME} {k l : MP} {p2 : Pos} (ha : PE X e (tE X.K W ma)) (hl : PO X lo (tP X.K W k)) (hu : PO X hi (tP X.K W l)) : PE X (.Subscript e (.Slice lo hi none p2) pos) (tE X.K W (mSlA ma k l)) :=
  pe_imp (pe_slice s_any ha hl hu) fun σ H Q ⟨F, S, ρ, s, A, w, sr, h⟩ => ⟨F, S, ρ, s, A, w, sr, (EndG.bind h).imp fun x H1 ⟨S1, ρ1, A1, d, l1, w1, r1, h1⟩ => ⟨F, S1, ρ1, s, A1, w1, sr.mono l1, (EndG.bind h1).imp fun lo' H2 ⟨S2, ρ2, A2, lo2, l2, w2, r2, h2⟩ =>
    ⟨F, S2, ρ2, s, A2, w2, sr.mono (l1.trans l2), (EndG.bind h2).imp fun hi' H3 ⟨S3, ρ3, A3, hi2, l3, w3, r3, h3⟩ => by
      subst r2 r3
      cases e1 : dataOf d A3 with
      | none => rw [e1] at h3; exact h3.elim
      | some y =>
        rw [e1] at h3
        dsimp only [Option.bind_some] at h3
        cases e2 : fSlA y lo2 hi2 with
        | none => rw [e2] at h3; exact h3.elim
        | some z =>
          rw [e2] at h3
          exact ⟨S3, y, z, w3.sub, vw_of w3 (r1.mono (l2.trans l3)) e1, e2, .of w3 h3⟩⟩⟩⟩
end

def closeK (n : Nat) (d : D) (A : Arn) : Res D := if below n (A.take n) = true then (match d with
  | .ref m => if m < n then .bad else (match A[m]? with
    | some (.lst xs) => .ok (.ref n) (A.take n ++ [.lst xs])
    | _ => .bad)
  | _ => .bad) else .bad
def finishK (n : Nat) (o : Out) : Res D := match o with
  | .rt d A => closeK n d A
  | _ => .bad
def defK (names : Nat) (body : MS) : MF := fun ds A => finishK A.length (body (ds.map some ++ List.replicate (names - ds.length) none) A)
section
variable {K : PySem.W.Frag} {F S S' H H' : Hp} {ρ ρ' : List Addr} {A A' : Arn}
theorem closeK_ok {d v : D} {x : V} (l : Le S ρ S' ρ') (w : Wo K F S' ρ' H A) (r : RD K S' ρ' d x) (e : closeK ρ.length d A = .ok v A') : ∃ S2 ρ2, Le S ρ S2 ρ2 ∧ Wo K F S2 ρ2 H A' ∧ RD K S2 ρ2 v x := by
  unfold closeK at e
  split at e
  · rename_i hb
    have w1 := w.drop l.pre hb
    split at e
    · rename_i m
      by_cases hm : m < ρ.length
      · rw [if_pos hm] at e
        cases e
      · rw [if_neg hm] at e
        split at e
        · rename_i xs hx
          cases e
          obtain ⟨a, vs, h1, h2, h3, h4⟩ := w.lst m xs hx
          obtain ⟨b, rfl, hb2⟩ := r
          rw [h1] at hb2
          cases hb2
          have fr : Fresh F S' ρ (A.take ρ.length) a := by
            refine ⟨h2, w.flive m _ a hx (by simp) h1, fun n o en no z => ?_⟩
            have hn : n < ρ.length := (List.getElem?_eq_some_iff.mp z).1
            rw [List.getElem?_take_of_lt hn] at en
            have := w.inj n m o _ a en hx no (by simp) (l.pre.get z) h1
            omega
          refine ⟨S', ρ ++ [a], ⟨l.ex, Pre.snoc ρ a⟩, w1.alloc fr h3 h4, a, rfl, ?_⟩
          rw [List.getElem?_append_right (Nat.le_refl _), Nat.sub_self]
          rfl
        · cases e
    · cases e
  · cases e
theorem defK_body {N ps : List Str} {body : MS} {sc : Scope} {vs : List V} {Q : VK} {E : XK} (Sc : FnScope N ps sc) (h : spM K ps.length (defK N.length body) vs H Q E) : tS K (fun c d _ H => E c d H) body { nx := fun _ H' => Q .non H', rt := Q } (start N vs) H := by
  obtain ⟨F, S, ρ, Ar, ds, hd, r, wo, h⟩ := h
  have hl : ps.length ≤ N.length := by
    have := congrArg List.length Sc.pre
    rw [List.length_take] at this
    omega
  have hvs : vs.length = ps.length := by rw [← Paired.length r, hd]
  refine ⟨F, S, ρ, ds.map some ++ List.replicate (N.length - ds.length) none, Ar, wo, SR.start r (by omega), ?_⟩
  unfold defK at h
  rw [← wo.len] at h
  cases e : body (ds.map some ++ List.replicate (N.length - ds.length) none) Ar with
  | rt d A' =>
    rw [e] at h
    intro S' ρ' H' x l w' rr
    unfold finishK at h
    dsimp only at h
    cases ec : closeK ρ.length d A' with
    | bad => rw [ec] at h; exact h.elim
    | exn x A2 =>
      unfold closeK at ec
      split at ec
      · split at ec
        · split at ec
          · cases ec
          · split at ec <;> cases ec
        · cases ec
      · cases ec
    | ok v A2 =>
      rw [ec] at h
      obtain ⟨S2, ρ2, l2, w2, r2⟩ := closeK_ok l w' rr ec
      exact h S2 ρ2 H' x l2 w2 r2
  | nx s' A' => rw [e] at h; exact h.elim
  | exn x A' => rw [e] at h; exact h.elim
  | bk s' A' => rw [e] at h; exact h.elim
  | ct s' A' => rw [e] at h; exact h.elim
  | bad => rw [e] at h; exact h.elim
end
section
variable {P : Program} {w : World} {K : PySem.W.Frag} {mg : Str → Option Value} {base : Heap}
theorem defK_ok {x qual : Str} {st : Stmt} {f : Addr} {fd : FuncData} {N ps : List Str} {k : Nat} {body : MS} (Fu : Fun K x qual st f fd) (Sc : FnScope N ps (defScope st))
    (hbody : ∀ (cdv : Value) (A : Around) (outer : List Env) (s : Shared) (H : Hp) (E : XK), A.guards = some [] → Room k (A.deeper (envOfC qual (defScope st) s.heap.objs.size f cdv)) →
      PSs (cxOf (L2.CX P w) P w K mg base N qual (defScope st) f cdv A outer s H E) (defBody st) (tS K (fun c d _ H => E c d H) body)) :
    FnG P w K mg base (k + 1) f fd ps (defK N.length body) := by
  obtain ⟨oc, od, kV, doc, pm, an, cdv, ct, osl, rfl, lk, hcd⟩ := Fu.ex
  refine ⟨fun A outer s H args us vs Q E gd hr e0 hb r hsp => ?_⟩
  have room := hr.deeper (envOfC qual (defScope st) s.heap.objs.size f cdv)
  have bs : ∀ b o, base.get? b = some o → s.heap.get? b = some o := fun b o e => (e0.bs b o e).1
  have hin : K.In s.heap := e0.mod.kin.keeps bs
  have nolim : s.heap.NoLimit := e0.mod.nolimit.keeps bs
  refine codeAny_call_function hr.depth (hin _ _ lk) rfl Sc.co Sc.gen rfl (PySem.W.codeRec_of hin hcd) (hb _ _ _ _ (wpAny_newFunctionEnv_cells Sc.kind ?_ ?_))
  · rintro ⟨y, v⟩ hy
    have hy' := (List.of_mem_zip hy).1
    exact (Sc.par y hy').imp id fun q => ⟨q, PySem.W.cellsFrom_some _ _ _ (.inl q)⟩
  · rintro env he s1 x
    subst he
    refine ⟨nolim.keeps x.toInCall.keep, codeAny_func ?_⟩
    have I := inv_start (CX := L2.CX P w) (E := E) Sc hr.hd e0 (spM_len vs H Q E hsp) r x
    refine wpAny_mono ((hbody cdv A outer s H E gd room).run [] s1 (start N vs) H _ I (defK_body Sc hsp)) (fun fl s' hs => ?_) fun _ _ q => q
    cases fl with
    | ret u =>
      obtain ⟨v, _, H', J, rv, q⟩ := hs
      exact ⟨v, H', J.os, J.bare, J.base, J.hok, rv, q⟩
    | next =>
      obtain ⟨_, H', J, q⟩ := hs
      exact ⟨.non, H', J.os, J.bare, J.base, J.hok, rfl, q⟩
    | brk =>
      obtain ⟨_, _, _, q⟩ := hs
      exact q.elim
    | cont =>
      obtain ⟨_, _, _, q⟩ := hs
      exact q.elim
end

end Mi
end

section
set_option maxHeartbeats 4000000
namespace Mi
open PySem PySem.Spec PyProof.Rows L2
open Evl (Ex)

section
open HT
variable {prog : Program} {w : World} {A : Around} {E : Value → Shared → Prop} {s : Shared}
end

def fRev (d : PyData) : Option PyData := match d with
  | .tuple xs => some (.tuple xs.reverse)
  | _ => none
def mRev (m : ME) : ME := mOp1 (lift1 fRev) m
section
variable {X : Cx} {W : WX}
def fIntT (ds : List PyData) : Option PyData := match ds with
  | [.str a] => if a.length ≤ 640 then (PySem.intText? a).map PyData.int else none
  | ds => fInt ds
theorem c_intT : CallR X (.type "int") (rPN X.K fIntT) := by
  intro pins s σ H xs us Q I r ⟨S, ds, z, ex, va, hf, q⟩
  unfold fIntT at hf
  split at hf
  · split at hf
    · rename_i c
      obtain ⟨v, rfl, v1⟩ := va.one
      obtain rfl := v1.str
      rename_i a
      cases e : PySem.intText? a with
      | none => rw [e] at hf; cases hf
      | some n =>
        rw [e] at hf
        cases hf
        exact call_int_str pins s σ H _ us Q I r ⟨_, n, rfl, e, c, q.now ex (.int _)⟩
    · cases hf
  · exact c_int pins s σ H xs us Q I r ⟨S, ds, z, ex, va, hf, q⟩
def fStr (ds : List PyData) : Option PyData := match ds with
  | [.int i] => if i.natAbs.log2 < 1920 then some (.str (toString i)) else none
  | [.str a] => some (.str a)
  | _ => none
def lfCut (a b : PyData) : Option (List PyData) := match a, b with
  | .str a, .str b => if (b.length == 0) = false ∧ a.length ≤ 100000 then some ((Txt.split a b).map PyData.str) else none
  | _, _ => none
def lCut (m k : ME) : ML := fun s A => (m s A).bind fun a A1 => if isS a A1 = true then (k s A1).bind fun b A2 => opt0 ((dataOf a A2).bind fun x => (dataOf b A2).bind fun y => (lfCut x y).map fun z => (z, A2)) else .bad
end
section
variable {X : Cx} {W : WX}
theorem units65 {k : Nat} {A : Around} (h : Room k A) : A.units + 65 < cLine := by
  have := h.un
  omega
theorem xv (i : Nat) {x : Str} {pos : Pos} (hN : X.N[i]? = some x := by rfl) (hv : Vis X.env.scope x := by first | exact Or.inl rfl | exact Or.inr (Or.inl rfl) | exact Or.inr (Or.inr rfl)) (hd : (x == ("__debug__" : Str)) = false := by decide) (hcd : (x == ("__classdict__" : Str)) = false := by decide) : PE X (.Name x pos) (tE X.K W (mVar i)) := xe_var hN hv hd hcd
theorem pgv (i : Nat) {x : Str} {pos : Pos} (hN : X.N.Nodup) (hi : X.N[i]? = some x := by rfl) (hx : Loc X.env.scope x := by first | exact Or.inl rfl | exact Or.inr rfl) (hf : X.fn x = true ∨ X.env.scope.names.lookup x = some .local := by first | exact .inl rfl | exact .inr rfl | assumption) : PG X (.Name x pos) (gName i) := pg_name hN hi hx hf
theorem xs_letv (i : Nat) {a : Expr} {ma : ME} {pos : Pos} {x : Str} {p' : Pos} (hN : X.N.Nodup) (he : PE X a (tE X.K W ma)) (hi : X.N[i]? = some x := by rfl) (hx : Loc X.env.scope x := by first | exact Or.inl rfl | exact Or.inr rfl) (hs : swapsWith a (some (.Name x p')) pos.line X.env = pure false := by rfl) (hf : X.fn x = true ∨ X.env.scope.names.lookup x = some .local := by first | exact .inl rfl | exact .inr rfl | assumption) :
    PS X (.Assign [.Name x p'] a pos) (tS X.K W (sLet i ma)) := xs_let hN hi hx he hs hf
end
end Mi
end

section
set_option maxHeartbeats 4000000
namespace Mi
open PySem

@[irreducible] def Res.To {α : Type} (r : Res α) (P : α → Arn → Prop) : Prop := match r with
  | .ok a A => P a A
  | _ => False
@[irreducible] def Out.To (o : Out) (N : Slt → Arn → Prop) (R : D → Arn → Prop) : Prop := match o with
  | .nx s A => N s A
  | .rt d A => R d A
  | _ => False
section
variable {α β : Type} {r : Res α} {P Q : α → Arn → Prop} {o : Out} {N N' : Slt → Arn → Prop} {R R' : D → Arn → Prop} {s : Slt} {A : Arn}
theorem Res.To.mono (h : r.To P) (k : ∀ a A, P a A → Q a A) : r.To Q := by
  with_unfolding_all
    cases r with
    | ok a A => exact k _ _ h
    | exn e A => exact h
    | bad => exact h
theorem Res.To.ex (h : r.To P) : ∃ a A, r = .ok a A ∧ P a A := by
  with_unfolding_all
    cases r with
    | ok a A => exact ⟨a, A, rfl, h⟩
    | exn e A => exact h.elim
    | bad => exact h.elim
theorem Out.To.mono (h : o.To N R) (k : ∀ s A, N s A → N' s A) (l : ∀ d A, R d A → R' d A) : o.To N' R' := by
  with_unfolding_all
    cases o with
    | nx s A => exact k _ _ h
    | rt d A => exact l _ _ h
    | bk s A => exact h
    | ct s A => exact h
    | exn e A => exact h
    | bad => exact h
@[simp] theorem To_ok {a : α} : (Res.ok a A).To P ↔ P a A := by with_unfolding_all exact Iff.rfl
@[simp] theorem To_bad : (Res.bad : Res α).To P ↔ False := by with_unfolding_all exact Iff.rfl
@[simp] theorem To_bind {f : α → Arn → Res β} {P : β → Arn → Prop} : (r.bind f).To P ↔ r.To fun a A => (f a A).To P := by
  with_unfolding_all
    cases r with
    | ok a A => exact Iff.rfl
    | exn e A => exact Iff.rfl
    | bad => exact Iff.rfl
@[simp] theorem To_from {f : α → Arn → Out} : (fromR r f).To N R ↔ r.To fun a A => (f a A).To N R := by
  with_unfolding_all
    cases r with
    | ok a A => exact Iff.rfl
    | exn e A => exact Iff.rfl
    | bad => exact Iff.rfl
@[simp] theorem To_nx : (Out.nx s A).To N R ↔ N s A := by with_unfolding_all exact Iff.rfl
@[simp] theorem To_rt {d : D} : (Out.rt d A).To N R ↔ R d A := by with_unfolding_all exact Iff.rfl
@[simp] theorem To_badO : (Out.bad).To N R ↔ False := by with_unfolding_all exact Iff.rfl
@[simp] theorem To_seq {m k : MS} : (sSeq m k s A).To N R ↔ (m s A).To (fun s' A' => (k s' A').To N R) R := by
  with_unfolding_all
    unfold sSeq
    cases e : m s A <;> exact Iff.rfl
@[simp] theorem To_if {c : MT} {m k : MS} : (sIf c m k s A).To N R ↔ (c s A).To fun b A1 => if b = true then (m s A1).To N R else (k s A1).To N R := by
  with_unfolding_all
    unfold sIf
    rw [To_from]
    refine iff_of_eq (congrArg _ (funext fun b => funext fun A1 => ?_))
    cases b <;> rfl
@[simp] theorem To_ifE {c : MT} {m k : ME} {P : D → Arn → Prop} : (mIfE c m k s A).To P ↔ (c s A).To fun b A1 => if b = true then (m s A1).To P else (k s A1).To P := by
  with_unfolding_all
    unfold mIfE
    rw [To_bind]
    refine iff_of_eq (congrArg _ (funext fun b => funext fun A1 => ?_))
    cases b <;> rfl
@[simp] theorem To_for {m : MI} {g : MG} {b : MS} : (sFor m g b s A).To N R ↔ (m s A).To fun xs A1 => (forL (turnF g b) xs s A1).To N R := by with_unfolding_all exact To_from
theorem To_bk : (Out.bk s A).To N R ↔ False := by with_unfolding_all exact Iff.rfl
theorem To_ct : (Out.ct s A).To N R ↔ False := by with_unfolding_all exact Iff.rfl
theorem To_exO {e : Exn} : (Out.exn e A).To N R ↔ False := by with_unfolding_all exact Iff.rfl
theorem forL_inv (step : PyData → MS) {R : D → Arn → Prop} : ∀ (xs : List PyData) (I : Nat → Slt → Arn → Prop) (s : Slt) (A : Arn), (∀ i x s A, xs[i]? = some x → I i s A → (step x s A).To (I (i + 1)) R) → I 0 s A → (forL step xs s A).To (I xs.length) R
  | [], I, s, A, _, h0 => by
    show (Out.nx s A).To (I 0) R
    exact To_nx.mpr h0
  | x :: xs, I, s, A, h, h0 => by
    have h1 := h 0 x s A rfl h0
    show ((step x s A).turn (forL step xs)).To (I (xs.length + 1)) R
    cases e : step x s A with
    | nx s' A' =>
      rw [e, To_nx] at h1
      show (forL step xs s' A').To (I (xs.length + 1)) R
      exact forL_inv step xs (fun i => I (i + 1)) s' A' (fun i y t B hy => h (i + 1) y t B (by simpa using hy)) h1
    | rt d A' =>
      rw [e, To_rt] at h1
      show (Out.rt d A').To _ R
      exact To_rt.mpr h1
    | bk s' A' => rw [e, To_bk] at h1; exact h1.elim
    | ct s' A' => rw [e, To_ct] at h1; exact h1.elim
    | exn x A' => rw [e, To_exO] at h1; exact h1.elim
    | bad => rw [e, To_badO] at h1; exact h1.elim
theorem while_inv {c : MT} {b : MS} (I : Nat → Slt → Arn → Prop) (h : ∀ k s A, I k s A → (c s A).To fun t A1 => if t = true then 0 < k ∧ (b s A1).To (fun s' A' => ∃ k', k' < k ∧ I k' s' A') R else N s A1) : ∀ (n k : Nat) (s : Slt) (A : Arn), k < n → I k s A → (whileN c b n s A).To N R
  | 0, k, s, A, hk, _ => absurd hk (Nat.not_lt_zero k)
  | n + 1, k, s, A, hk, hi => by
    have h1 := h k s A hi
    show (fromR (c s A) fun t A1 => if t = true then (b s A1).turn (whileN c b n) else .nx s A1).To N R
    rw [To_from]
    refine h1.mono fun t A1 h2 => ?_
    cases t with
    | false =>
      rw [if_neg (by decide)] at h2 ⊢
      exact To_nx.mpr h2
    | true =>
      rw [if_pos rfl] at h2 ⊢
      obtain ⟨hk0, h2⟩ := h2
      cases e : b s A1 with
      | nx s' A' =>
        rw [e, To_nx] at h2
        obtain ⟨k', hlt, hi'⟩ := h2
        show (whileN c b n s' A').To N R
        exact while_inv I h n k' s' A' (by omega) hi'
      | rt d A' =>
        rw [e, To_rt] at h2
        show (Out.rt d A').To N R
        exact To_rt.mpr h2
      | bk s' A' => rw [e, To_bk] at h2; exact h2.elim
      | ct s' A' => rw [e, To_ct] at h2; exact h2.elim
      | exn x A' => rw [e, To_exO] at h2; exact h2.elim
      | bad => rw [e, To_badO] at h2; exact h2.elim
theorem compL_pure {step : PyData → Arn → Res (Option PyData)} {f : PyData → Option PyData} {A : Arn} : ∀ (xs acc : List PyData), (∀ x, x ∈ xs → step x A = .ok (f x) A) → acc.length + xs.length ≤ 100000 → compL step xs acc A = .ok (acc ++ xs.filterMap f) A
  | [], acc, _, _ => by rw [List.filterMap_nil, List.append_nil]; rfl
  | x :: xs, acc, h, hl => by
    have h1 := h x List.mem_cons_self
    rw [List.length_cons] at hl
    unfold compL
    rw [h1]
    show (if acc.length < 100000 then _ else _) = _
    rw [if_pos (by omega), List.filterMap_cons]
    cases e : f x with
    | none => exact compL_pure xs acc (fun y hy => h y (List.mem_cons_of_mem _ hy)) (by omega)
    | some y =>
      rw [compL_pure xs (acc ++ [y]) (fun y hy => h y (List.mem_cons_of_mem _ hy)) (by rw [List.length_append]; simp only [List.length_cons, List.length_nil]; omega), List.append_assoc]
      rfl
end

def plain (A : Arn) : Prop := ∀ (n : Nat) (ns : List Nat), A[n]? ≠ some (O.refs ns)
theorem plain_below {A : Arn} (h : plain A) (n m : Nat) : below n (A.take m) = true := by
  unfold below
  rw [List.all_eq_true]
  intro o ho
  cases o with
  | refs ns =>
    obtain ⟨i, hi, e⟩ := List.getElem_of_mem (List.mem_of_mem_take ho)
    exact absurd (by rw [List.getElem?_eq_getElem hi, e]) (h i ns)
  | lst xs => rfl
  | dc xs => rfl
  | tab xs => rfl
  | gone => rfl
theorem plain_set {A : Arn} (h : plain A) {n : Nat} {o : O} (ho : ∀ ns, o ≠ .refs ns) : plain (A.set n o) := fun m ns e => by
  by_cases q : m = n
  · subst q
    by_cases hl : m < A.length
    · rw [List.getElem?_set_self hl] at e
      exact ho ns (Option.some.inj e)
    · rw [List.getElem?_eq_none (by rw [List.length_set]; omega)] at e
      cases e
  · rw [List.getElem?_set_ne (Ne.symm q)] at e
    exact h m ns e
theorem plain_app {A B : Arn} (h : plain A) (k : plain B) : plain (A ++ B) := fun m ns e => by
  by_cases q : m < A.length
  · rw [List.getElem?_append_left q] at e
    exact h m ns e
  · rw [List.getElem?_append_right (Nat.le_of_not_lt q)] at e
    exact k _ ns e
theorem plain_one {xs : List PyData} : plain [.lst xs] := fun m ns e => by
  cases m with
  | zero => cases e
  | succ m => simp at e
theorem plain_nil : plain [] := fun m ns e => by simp at e

def Wl (A : Arn) (n : Nat) : Prop := ∃ a b c : Int, A[n]? = some (.lst [.int a, .int b, .int c])
def Wup (A : Arn) (n : Nat) (A' : Arn) : Prop := ∃ a b c : Int, A' = A.set n (.lst [.int a, .int b, .int c])
section
variable {A A' A'' B : Arn} {n : Nat}
theorem Wl.lt (h : Wl A n) : n < A.length := by
  obtain ⟨a, b, c, e⟩ := h
  exact (List.getElem?_eq_some_iff.mp e).1
theorem Wup.refl (h : Wl A n) : Wup A n A := by
  obtain ⟨a, b, c, e⟩ := h
  refine ⟨a, b, c, ?_⟩
  obtain ⟨hl, e2⟩ := List.getElem?_eq_some_iff.mp e
  rw [← e2, List.set_getElem_self]
theorem Wup.wl (u : Wup A n A') (h : Wl A n) : Wl A' n := by
  obtain ⟨a, b, c, rfl⟩ := u
  exact ⟨a, b, c, by rw [List.getElem?_set_self h.lt]⟩
theorem Wup.trans (u : Wup A n A') (v : Wup A' n A'') : Wup A n A'' := by
  obtain ⟨a, b, c, rfl⟩ := u
  obtain ⟨d, e, f, rfl⟩ := v
  exact ⟨d, e, f, by rw [List.set_set]⟩
theorem Wup.plain (u : Wup A n A') (h : plain A) : plain A' := by
  obtain ⟨a, b, c, rfl⟩ := u
  exact plain_set h fun ns e => by cases e
theorem Wup.length (u : Wup A n A') : A'.length = A.length := by
  obtain ⟨a, b, c, rfl⟩ := u
  rw [List.length_set]
theorem Wup.other (u : Wup A n A') {m : Nat} (h : m ≠ n) : A'[m]? = A[m]? := by
  obtain ⟨a, b, c, rfl⟩ := u
  rw [List.getElem?_set_ne (Ne.symm h)]
theorem Wup.app (u : Wup (A ++ B) n A') (h : n < A.length) : ∃ A1, A' = A1 ++ B ∧ Wup A n A1 := by
  obtain ⟨a, b, c, rfl⟩ := u
  exact ⟨_, by rw [List.set_append_left _ _ h], a, b, c, rfl⟩
theorem Wl.app (h : Wl A n) : Wl (A ++ B) n := by
  obtain ⟨a, b, c, e⟩ := h
  exact ⟨a, b, c, by rw [List.getElem?_append_left (List.getElem?_eq_some_iff.mp e).1]; exact e⟩
end
end Mi
end

section
set_option maxHeartbeats 4000000
namespace Lw
open PySem PySem.Spec PyProof.Rows L2 Mi
def b__law_well : MS :=
  (sSeq (sLet 2 (mIfE (mB (mOp2 (lift2 (ordD gLt)) (mVar 1) (mOpN (liftN fLen) (aCons (mVar 0) aNil)))) (mOpN (liftN fIntT) (aCons (mOp2 (lift2 fIx) (mVar 0) (mVar 1)) aNil)) (mC (.int 0))))
    (sSeq (sLet 3 (mOp2 (lift2o fAdd) (mC (.int 97)) (mOp2 (lift2 fMul) (mC (.int 32452843)) (mVar 1))))
    (sSeq (sFor (iS (mSlA (mVar 0) pNo (pSome (mC (.int 11))))) (gN 4) (sLet 3 (mOp2 (lift2 fMod) (mOpN (liftN fIntT) (aCons (mOp2 (lift2o fAdd) (mOp2 (lift2o fAdd) (mOp2 (lift2 fMul) (mVar 3) (mC (.int 22695))) (mOp2 (lift2 fMod) (mOpN (liftN fIntT) (aCons (mVar 4) aNil)) (mC (.int 2147483423)))) (mC (.int 53))) aNil)) (mC (.int 2147483399)))))
    (sSeq (sLet 3 (mOp2 (lift2 fMod) (mOpN (liftN fIntT) (aCons (mOp2 (lift2o fAdd) (mOp2 (lift2o fAdd) (mOp2 (lift2 fMul) (mVar 3) (mC (.int 41358))) (mOp2 (lift2 fMul) (mOp2 (lift2 fMod) (mOpN (liftN fIntT) (aCons (mVar 2) aNil)) (mC (.int 2147483423))) (mC (.int 10301)))) (mC (.int 23))) aNil)) (mC (.int 2147483399))))
    (sRet (mAl (lDisp (aCons (mIfE (mB (mOp2 (lift2 (ordD gGe)) (mOpN (liftN fAbs) (aCons (mVar 2) aNil)) (mOp2 (lift2 fPow) (mC (.int 10)) (mC (.int 16))))) (mOpN (liftN fAbs) (aCons (mVar 2) aNil)) (mC (.int 0))) (aCons (mVar 3) (aCons (mC (.int 0)) aNil))))))))))
def m__law_well : MF := defK 5 b__law_well
def b__law_draw : MS :=
  (sSeq (sIf (mB (mOp2 (lift2 (ordD gGt)) (mOp2 (lift2 fIx) (mVar 0) (mC (.int 0))) (mC (.int 0)))) (sSeq (sLet 3 (mOp2 (lift2 fMod) (mOpN (liftN fIntT) (aCons (mOp2 (lift2 fIx) (mVar 0) (mC (.int 0))) aNil)) (mVar 1)))
    (sSeq (sPut (mOp2 (lift2 fDiv) (mOp2 (lift2 fIx) (mVar 0) (mC (.int 0))) (mVar 1)) (mVar 0) (mC (.int 0)))
    (sRet (mVar 3)))) sSkip)
    (sSeq (sPut (mOp2 (lift2o fAdd) (mOp2 (lift2 fIx) (mVar 0) (mC (.int 2))) (mC (.int 1))) (mVar 0) (mC (.int 2)))
    (sSeq (sLet 2 (mOp2 (lift2 fMod) (mOpN (liftN fIntT) (aCons (mOp2 (lift2o fAdd) (mOp2 (lift2o fAdd) (mOp2 (lift2 fMul) (mOp2 (lift2 fIx) (mVar 0) (mC (.int 1))) (mC (.int 40692))) (mOp2 (lift2 fMul) (mC (.int 17093)) (mOp2 (lift2 fIx) (mVar 0) (mC (.int 2))))) (mC (.int 31))) aNil)) (mC (.int 2147483399))))
    (sSeq (sPut (mVar 2) (mVar 0) (mC (.int 1)))
    (sRet (mOp2 (lift2 fMod) (mOpN (liftN fIntT) (aCons (mOp2 (lift2 fDiv) (mOp2 (lift2 fMul) (mVar 2) (mOp2 (lift2o fAdd) (mOp2 (lift2 fMod) (mOpN (liftN fIntT) (aCons (mVar 2) aNil)) (mC (.int 28001))) (mC (.int 30011)))) (mC (.int 5003))) aNil)) (mVar 1)))))))
def m__law_draw : MF := defM 4 b__law_draw
def b__law_pick : MS :=
  (sRet (mOp2 (lift2 fIx) (mVar 1) (mCall m__law_draw (aCons (mVar 0) (aCons (mOpN (liftN fLen) (aCons (mVar 1) aNil)) aNil)))))
def m__law_pick : MF := defM 2 b__law_pick
def b__law_strange : MS :=
  (sSeq (sLet 1 (mTup (aCons (mC .none) (aCons (mC (.bool true)) (aCons (mC (.bool false)) (aCons (mC (.int 0)) (aCons (mC (.int 1)) (aCons (mC (.int 7)) (aCons (mOp1 (lift1 fNeg) (mC (.int 1))) (aCons (mC (.int 11)) (aCons (mOp2 (lift2 fPow) (mC (.int 10)) (mC (.int 30))) (aCons (mC (.str "")) (aCons (mC (.str "3:")) (aCons (mC (.str "3: 0-1")) (aCons (mTup aNil) (aCons (mTup (aCons (mC (.int 0)) aNil)) (aCons (mTup (aCons (mC (.int 0)) (aCons (mC (.int 1)) aNil))) (aCons (mTup (aCons (mC (.int 1)) (aCons (mC (.int 0)) aNil))) (aCons (mFr (lDisp aNil)) (aCons (mFr (lDisp (aCons (mC (.int 0)) (aCons (mC (.int 1)) aNil)))) aNil))))))))))))))))))))
    (sSeq (sLet 2 (mTup (aCons (mTup (aCons (mC (.int 3)) (aCons (mTup aNil) aNil))) (aCons (mTup (aCons (mC (.int 3)) (aCons (mTup (aCons (mTup (aCons (mC (.int 0)) (aCons (mC (.int 1)) aNil))) aNil)) aNil))) (aCons (mTup (aCons (mC (.int 3)) (aCons (mTup (aCons (mTup (aCons (mC (.int 1)) (aCons (mC (.int 0)) aNil))) aNil)) aNil))) (aCons (mTup (aCons (mC (.int 0)) (aCons (mTup aNil) aNil))) (aCons (mTup (aCons (mC (.int 11)) (aCons (mTup aNil) aNil))) (aCons (mTup (aCons (mC (.bool true)) (aCons (mTup aNil) aNil))) (aCons (mTup (aCons (mC (.int 2)) (aCons (mFr (lDisp (aCons (mTup (aCons (mC (.int 0)) (aCons (mC (.int 1)) aNil))) aNil))) aNil))) aNil)))))))))
    (sRet (mCall m__law_pick (aCons (mVar 0) (aCons (mOp2 (lift2o fAdd) (mOp2 (lift2o fAdd) (mVar 1) (mVar 2)) (mTup (aCons (mC (.dict [])) (aCons (mTup (aCons (mTup (aCons (mC (.int 0)) (aCons (mC (.int 1)) aNil))) (aCons (mTup (aCons (mC (.int 1)) (aCons (mC (.int 2)) aNil))) aNil))) aNil)))) aNil))))))
def m__law_strange : MF := defM 3 b__law_strange
def b__law_kept : MS :=
  (sSeq (sLet 2 (mAl (lDisp aNil)))
    (sSeq (sFor (iS (mVar 1)) (gTp (gMore (gN 3) (gMore (gN 4) gNone))) (sSeq (sLet 5 (mIfE (mB (mOp2 (lift2 (ordD gLt)) (mVar 3) (mVar 4))) (mTup (aCons (mVar 3) (aCons (mVar 4) aNil))) (mTup (aCons (mVar 4) (aCons (mVar 3) aNil)))))
    (sIf (mAnd (mB (mOp2 (lift2 fNe) (mVar 3) (mVar 4))) (mB (mOp2 (lift2 fNotIn) (mVar 5) (mVar 2)))) (sDrop (mMt isL fAppend (mVar 2) (aCons (mVar 5) aNil))) sSkip)))
    (sRet (mTup (aCons (mVar 0) (aCons (mOpN (liftN fTuple) (aCons (mFr (lOpN lfSorted (aCons (mVar 2) aNil))) aNil)) aNil))))))
def m__law_kept : MF := defM 6 b__law_kept
def b__law_edges_of : MS :=
  (sSeq (sLet 1 (mFr (lCut (mVar 0) (mC (.str " ")))))
    (sSeq (sLet 2 (mFr (lComp (iS (mSlA (mVar 1) (pSome (mC (.int 1))) pNo)) (gN 3) mYes (mFr (lCut (mVar 3) (mC (.str "-")))) [3])))
    (sRet (mCall m__law_kept (aCons (mOpN (liftN fIntT) (aCons (mSlA (mOp2 (lift2 fIx) (mVar 1) (mC (.int 0))) pNo (pSome (mOp1 (lift1 fNeg) (mC (.int 1))))) aNil)) (aCons (mFr (lComp (iS (mVar 2)) (gN 4) mYes (mTup (aCons (mOpN (liftN fIntT) (aCons (mOp2 (lift2 fIx) (mVar 4) (mC (.int 0))) aNil)) (aCons (mOpN (liftN fIntT) (aCons (mOp2 (lift2 fIx) (mVar 4) (mC (.int 1))) aNil)) aNil))) [4])) aNil))))))
def m__law_edges_of : MF := defM 5 b__law_edges_of
def b__law_family : MS :=
  (sSeq (sLet 1 (mTup (aCons (mTup (aCons (mC (.str "3: 0-1 0-2 1-2")) (aCons (mC (.str "4: 0-3 1-3 2-3")) aNil))) (aCons (mTup (aCons (mC (.str "4: 0-1 0-2 0-3 1-2 1-3 2-3")) (aCons (mC (.str "5: 0-2 0-3 0-4 1-2 1-3 1-4")) aNil))) (aCons (mTup (aCons (mC (.str "5: 0-1 0-2 0-3 0-4 1-2 1-3 1-4 2-3 2-4 3-4")) (aCons (mC (.str "6: 0-3 0-4 0-5 1-3 1-4 1-5 2-3 2-4 2-5")) aNil))) (aCons (mTup (aCons (mC (.str "6: 0-1 0-2 0-3 0-4 0-5 1-2 1-3 1-4 1-5 2-3 2-4 2-5 3-4 3-5 4-5")) (aCons (mC (.str "7: 0-3 0-4 0-5 0-6 1-3 1-4 1-5 1-6 2-3 2-4 2-5 2-6 3-6 4-6 5-6")) (aCons (mC (.str "7: 0-1 0-2 0-3 0-4 0-5 1-2 1-3 1-4 1-5 2-3 2-4 2-5 3-6 4-6 5-6")) (aCons (mC (.str "8: 0-4 0-5 0-6 0-7 1-4 1-5 1-6 1-7 2-4 2-5 2-6 2-7 3-4 3-5 3-6")) (aCons (mC (.str "8: 0-2 0-4 0-5 0-7 1-2 1-4 1-5 1-7 2-3 2-4 2-5 3-6 3-7 4-6 5-6")) (aCons (mC (.str "9: 0-5 0-7 0-8 1-2 1-4 1-5 1-7 2-3 2-5 2-8 3-6 3-7 4-6 4-8 5-6")) (aCons (mC (.str "10: 0-5 0-7 0-8 1-4 1-7 1-9 2-3 2-8 2-9 3-6 3-7 4-6 4-8 5-6 5-9")) aNil)))))))) aNil))))))
    (sRet (mFr (lComp (iS (mOp2 (lift2 fIx) (mVar 1) (mOp2 (lift2 fSub) (mVar 0) (mC (.int 1))))) (gN 2) mYes (mCall m__law_edges_of (aCons (mVar 2) aNil)) [2]))))
def m__law_family : MF := defM 3 b__law_family
def b__law_order : MS :=
  (sSeq (sPar 2 3 (aCons (mFr (lRg1 (mVar 1))) (aCons (mAl (lDisp aNil)) aNil)))
    (sSeq (sWhile 100000 (mB (mOp2 (lift2 fNe) (mVar 2) (mFr (lDisp aNil)))) (sSeq (sLet 4 (mCall m__law_pick (aCons (mVar 0) (aCons (mVar 2) aNil))))
    (sSeq (sDrop (mMt isL fAppend (mVar 3) (aCons (mVar 4) aNil)))
    (sLet 2 (mFr (lComp (iS (mVar 2)) (gN 5) (mB (mOp2 (lift2 fNe) (mVar 5) (mVar 4))) (mVar 5) [5]))))))
    (sRet (mVar 3))))
def m__law_order : MF := defM 6 b__law_order
def b__law_named : MS :=
  (sRet (mCall m__law_kept (aCons (mOp2 (lift2 fIx) (mVar 0) (mC (.int 0))) (aCons (mFr (lComp (iS (mOp2 (lift2 fIx) (mVar 0) (mC (.int 1)))) (gTp (gMore (gN 2) (gMore (gN 3) gNone))) mYes (mTup (aCons (mOp2 (lift2 fIx) (mVar 1) (mVar 2)) (aCons (mOp2 (lift2 fIx) (mVar 1) (mVar 3)) aNil))) [2, 3])) aNil))))
def m__law_named : MF := defM 4 b__law_named
def b__law_pairs_of : MS :=
  (sSeq (sLet 1 (mFr (lDisp aNil)))
    (sSeq (sFor (iR1 (aCons (mVar 0) aNil)) (gN 2) (sLet 1 (mOp2 (lift2o fAdd) (mVar 1) (mFr (lComp (iR2 (aCons (mOp2 (lift2o fAdd) (mVar 2) (mC (.int 1))) (aCons (mVar 0) aNil))) (gN 3) mYes (mTup (aCons (mVar 2) (aCons (mVar 3) aNil))) [3])))))
    (sRet (mVar 1))))
def m__law_pairs_of : MF := defM 4 b__law_pairs_of
def b__law_graph : MS :=
  (sSeq (sLet 3 (mOp2 (lift2o fAdd) (mC (.int 1)) (mCall m__law_draw (aCons (mVar 0) (aCons (mVar 1) aNil)))))
    (sSeq (sLet 4 (mCall m__law_pairs_of (aCons (mVar 3) aNil)))
    (sSeq (sIf (mB (mOp2 (lift2 fEq) (mCall m__law_draw (aCons (mVar 0) (aCons (mC (.int 3)) aNil))) (mC (.int 0)))) (sSeq (sLet 6 (mCall m__law_pick (aCons (mVar 0) (aCons (mCall m__law_family (aCons (mCall m__law_pick (aCons (mVar 0) (aCons (mTup (aCons (mC (.int 2)) (aCons (mC (.int 3)) (aCons (mC (.int 4)) aNil)))) aNil))) aNil)) aNil))))
    (sIf (mAnd (mB (mOp2 (lift2 (ordD gLe)) (mOp2 (lift2 fIx) (mVar 6) (mC (.int 0))) (mVar 1))) (mB (mOp2 (lift2 (ordD gLe)) (mOpN (liftN fLen) (aCons (mOp2 (lift2 fIx) (mVar 6) (mC (.int 1))) aNil)) (mVar 2)))) (sSeq (sLet 6 (mCall m__law_named (aCons (mVar 6) (aCons (mCall m__law_order (aCons (mVar 0) (aCons (mOp2 (lift2 fIx) (mVar 6) (mC (.int 0))) aNil))) aNil))))
    (sSeq (sLet 9 (mAl (lOpN lfList (aCons (mOp2 (lift2 fIx) (mVar 6) (mC (.int 1))) aNil))))
    (sSeq (sFor (iR1 (aCons (mCall m__law_draw (aCons (mVar 0) (aCons (mC (.int 4)) aNil))) aNil)) (gN 10) (sSeq (sLet 5 (mCall m__law_pick (aCons (mVar 0) (aCons (mCall m__law_pairs_of (aCons (mOp2 (lift2 fIx) (mVar 6) (mC (.int 0))) aNil)) aNil))))
    (sIf (mOr (mB (mOp2 (lift2 fEq) (mCall m__law_draw (aCons (mVar 0) (aCons (mC (.int 2)) aNil))) (mC (.int 0)))) (mB (mOp2 (lift2 (ordD gGe)) (mOpN (liftN fLen) (aCons (mVar 9) aNil)) (mVar 2)))) (sLet 9 (mAl (lCompK (mVar 9) (gN 11) (mB (mOp2 (lift2 fNe) (mVar 11) (mVar 5))) (mVar 11) [11]))) (sDrop (mMt isL fAppend (mVar 9) (aCons (mVar 5) aNil))))))
    (sRet (mCall m__law_kept (aCons (mOp2 (lift2 fIx) (mVar 6) (mC (.int 0))) (aCons (mVar 9) aNil))))))) sSkip)) sSkip)
    (sSeq (sPar 7 8 (aCons (mAl (lDisp aNil)) (aCons (mOp2 (lift2o fAdd) (mC (.int 1)) (mCall m__law_draw (aCons (mVar 0) (aCons (mC (.int 6)) aNil)))) aNil)))
    (sSeq (sFor (iS (mVar 4)) (gN 5) (sIf (mAnd (mB (mOp2 (lift2 (ordD gLt)) (mCall m__law_draw (aCons (mVar 0) (aCons (mC (.int 6)) aNil))) (mVar 8))) (mB (mOp2 (lift2 (ordD gLt)) (mOpN (liftN fLen) (aCons (mVar 7) aNil)) (mVar 2)))) (sDrop (mMt isL fAppend (mVar 7) (aCons (mVar 5) aNil))) sSkip))
    (sRet (mCall m__law_kept (aCons (mVar 3) (aCons (mVar 7) aNil)))))))))
def m__law_graph : MF := defM 12 b__law_graph
def b__law_full : MS :=
  (sSeq (sLet 2 (mAl (lDisp aNil)))
    (sSeq (sFor (iS (mSlA (mCall m__law_order (aCons (mVar 0) (aCons (mC (.int 45)) aNil))) pNo (pSome (mVar 1)))) (gN 3) (sDrop (mMt isL fAppend (mVar 2) (aCons (mOp2 (lift2 fIx) (mCall m__law_pairs_of (aCons (mC (.int 10)) aNil)) (mVar 3)) aNil))))
    (sRet (mCall m__law_kept (aCons (mC (.int 10)) (aCons (mVar 2) aNil))))))
def m__law_full : MF := defM 4 b__law_full
def b_is_whole : MS :=
  (sRet (mTyIs "int" false (mVar 0)))
def m_is_whole : MF := defM 1 b_is_whole
def b_is_row : MS :=
  (sRet (mAndV (mTyIs "tuple" false (mVar 0)) (mOp2 (lift2 fEq) (mOpN (liftN fLen) (aCons (mVar 0) aNil)) (mVar 1))))
def m_is_row : MF := defM 2 b_is_row
def b_is_ascending : MS :=
  (sRet (mOpN (liftN fAll) (aCons (mFr (lComp (iR1 (aCons (mOp2 (lift2 fSub) (mOpN (liftN fLen) (aCons (mVar 0) aNil)) (mC (.int 1))) aNil)) (gN 1) mYes (mOp2 (lift2 (ordD gLt)) (mOp2 (lift2 fIx) (mVar 0) (mVar 1)) (mOp2 (lift2 fIx) (mVar 0) (mOp2 (lift2o fAdd) (mVar 1) (mC (.int 1))))) [1])) aNil)))
def m_is_ascending : MF := defM 2 b_is_ascending
def b_are_whole : MS :=
  (sRet (mAndV (mTyIs "tuple" false (mVar 0)) (mOpN (liftN fAll) (aCons (mFr (lComp (iS (mVar 0)) (gN 1) mYes (mCall m_is_whole (aCons (mVar 1) aNil)) [1])) aNil))))
def m_are_whole : MF := defM 2 b_are_whole
def b_is_whole_row : MS :=
  (sRet (mAndV (mCall m_is_row (aCons (mVar 0) (aCons (mVar 1) aNil))) (mCall m_are_whole (aCons (mVar 0) aNil))))
def m_is_whole_row : MF := defM 2 b_is_whole_row
def b__could_be_edge : MS :=
  (sRet (mAndV (mCall m_is_whole_row (aCons (mVar 0) (aCons (mC (.int 2)) aNil))) (mCh (mC (.int 0)) (mLink (lift2 (ordD gLe)) (mOp2 (lift2 fIx) (mVar 0) (mC (.int 0))) (mLink (lift2 (ordD gLt)) (mOp2 (lift2 fIx) (mVar 0) (mC (.int 1))) (mLast (lift2 (ordD gLt)) (mVar 1)))))))
def m__could_be_edge : MF := defM 2 b__could_be_edge
def b_is_graph : MS :=
  (sSeq (sIf (mNot (mTru (mCall m_is_row (aCons (mVar 0) (aCons (mC (.int 2)) aNil))))) (sRet (mC (.bool false))) sSkip)
    (sSeq (sAsg (mVar 0) (gTp (gMore (gN 1) (gMore (gN 2) gNone))))
    (sSeq (sIf (mOr (mNot (mTru (mCall m_is_whole (aCons (mVar 1) aNil)))) (mNot (mB (mCh (mC (.int 1)) (mLink (lift2 (ordD gLe)) (mVar 1) (mLast (lift2 (ordD gLe)) (mC (.int 10)))))))) (sRet (mC (.bool false))) sSkip)
    (sSeq (sIf (mOr (mB (mTyIs "tuple" true (mVar 2))) (mB (mOp2 (lift2 (ordD gGt)) (mOpN (liftN fLen) (aCons (mVar 2) aNil)) (mC (.int 24))))) (sRet (mC (.bool false))) sSkip)
    (sRet (mAndV (mOpN (liftN fAll) (aCons (mFr (lComp (iS (mVar 2)) (gN 3) mYes (mCall m__could_be_edge (aCons (mVar 3) (aCons (mVar 1) aNil))) [3])) aNil)) (mCall m_is_ascending (aCons (mVar 2) aNil))))))))
def m_is_graph : MF := defM 4 b_is_graph
def b_check_graph : MS :=
  (sIf (mNot (mTru (mCall m_is_graph (aCons (mVar 0) aNil)))) sNever sSkip)
def m_check_graph : MF := defM 1 b_check_graph
end Lw
end

section
set_option maxHeartbeats 4000000
namespace Mi
open PySem PySem.W
section
variable {P : D → Arn → Prop} {PB : Bool → Arn → Prop} {PD : List D → Arn → Prop} {s : Slt} {A : Arn}
@[simp] theorem ap_C {d : PyData} : mC d s A = .ok (.p d) A := rfl
@[simp] theorem To_op1 {f : D → Arn → Option (D × Arn)} {m : ME} : (mOp1 f m s A).To P ↔ (m s A).To fun a A1 => (opt1 (f a A1)).To P := by with_unfolding_all exact To_bind
@[simp] theorem To_op2 {f : D → D → Arn → Option (D × Arn)} {m k : ME} : (mOp2 f m k s A).To P ↔ (m s A).To fun a A1 => (k s A1).To fun b A2 => (opt1 (f a b A2)).To P := by
  with_unfolding_all
    unfold mOp2
    simp only [To_bind]
@[simp] theorem To_opN {f : List D → Arn → Option (D × Arn)} {m : MA} : (mOpN f m s A).To P ↔ (m s A).To fun a A1 => (opt1 (f a A1)).To P := by with_unfolding_all exact To_bind
@[simp] theorem To_nil : (aNil s A).To PD ↔ PD [] A := by with_unfolding_all exact Iff.rfl
@[simp] theorem To_cons {m : ME} {k : MA} : (aCons m k s A).To PD ↔ (m s A).To fun a A1 => (k s A1).To fun as A2 => PD (a :: as) A2 := by
  with_unfolding_all
    unfold aCons
    simp only [To_bind, To_ok]
@[simp] theorem To_call {f : MF} {m : MA} : (mCall f m s A).To P ↔ (m s A).To fun as A1 => (f as A1).To P := by with_unfolding_all exact To_bind
@[simp] theorem To_o1 {d : D} {A' : Arn} : (opt1 (some (d, A'))).To P ↔ P d A' := by with_unfolding_all exact Iff.rfl
@[simp] theorem To_B {m : ME} : (mB m s A).To PB ↔ (m s A).To fun a A1 => ∃ b, a = .p (.bool b) ∧ PB b A1 := by
  with_unfolding_all
    unfold mB
    rw [To_bind]
    refine iff_of_eq (congrArg _ (funext fun a => funext fun A1 => ?_))
    cases a with
    | ref n => simp
    | scr n => simp
    | p d => cases d <;> simp
@[simp] theorem To_not {m : MT} : (mNot m s A).To PB ↔ (m s A).To fun b A1 => PB (!b) A1 := by
  with_unfolding_all
    unfold mNot
    simp only [To_bind, To_ok]
@[simp] theorem To_and {m k : MT} : (mAnd m k s A).To PB ↔ (m s A).To fun b A1 => if b = true then (k s A1).To PB else PB false A1 := by
  with_unfolding_all
    unfold mAnd
    rw [To_bind]
    refine iff_of_eq (congrArg _ (funext fun b => funext fun A1 => ?_))
    cases b <;> rfl
@[simp] theorem To_or {m k : MT} : (mOr m k s A).To PB ↔ (m s A).To fun b A1 => if b = true then PB true A1 else (k s A1).To PB := by
  with_unfolding_all
    unfold mOr
    rw [To_bind]
    refine iff_of_eq (congrArg _ (funext fun b => funext fun A1 => ?_))
    cases b <;> rfl
@[simp] theorem To_tru {m : ME} : (mTru m s A).To PB ↔ (m s A).To fun d A1 => ∃ b, truthD d A1 = some b ∧ PB b A1 := by
  with_unfolding_all
    unfold mTru
    rw [To_bind]
    refine iff_of_eq (congrArg _ (funext fun a => funext fun A1 => ?_))
    cases truthD a A1 <;> simp
theorem To_withB {d : D} {f : Bool → Arn → Res D} : (withB d A f).To P ↔ ∃ b, d = .p (.bool b) ∧ (f b A).To P := by
  with_unfolding_all
    unfold withB asB
    cases d with
    | ref n => simp
    | scr n => simp
    | p d => cases d <;> simp
@[simp] theorem To_orV {m k : ME} : (mOrV m k s A).To P ↔ (m s A).To fun a A1 => ∃ b, a = .p (.bool b) ∧ if b = true then P (.p (.bool true)) A1 else (k s A1).To P := by
  with_unfolding_all
    unfold mOrV
    simp only [To_bind, To_withB]
    refine iff_of_eq (congrArg _ (funext fun a => funext fun A1 => propext (exists_congr fun b => and_congr_right fun _ => ?_)))
    cases b <;> exact Iff.rfl
@[simp] theorem To_andV {m k : ME} : (mAndV m k s A).To P ↔ (m s A).To fun a A1 => ∃ b, a = .p (.bool b) ∧ if b = true then (k s A1).To P else P (.p (.bool false)) A1 := by
  with_unfolding_all
    unfold mAndV
    simp only [To_bind, To_withB]
    refine iff_of_eq (congrArg _ (funext fun a => funext fun A1 => propext (exists_congr fun b => and_congr_right fun _ => ?_)))
    cases b <;> exact Iff.rfl
@[simp] theorem To_notV {m : ME} : (mNotV m s A).To P ↔ (m s A).To fun a A1 => ∃ b, a = .p (.bool b) ∧ P (.p (.bool (!b))) A1 := by
  with_unfolding_all
    unfold mNotV
    simp only [To_bind, To_withB]
    exact Iff.rfl
variable {N : Slt → Arn → Prop} {R : D → Arn → Prop}
@[simp] theorem To_let {i : Nat} {m : ME} : (sLet i m s A).To N R ↔ (m s A).To fun d A1 => N (s.set i (some d)) A1 := by with_unfolding_all exact To_from
@[simp] theorem To_drop {m : ME} : (sDrop m s A).To N R ↔ (m s A).To fun _ A1 => N s A1 := by with_unfolding_all exact To_from
@[simp] theorem To_ret {m : ME} : (sRet m s A).To N R ↔ (m s A).To fun d A1 => R d A1 := by with_unfolding_all exact To_from
@[simp] theorem To_skip : (sSkip s A).To N R ↔ N s A := by with_unfolding_all exact Iff.rfl
@[simp] theorem To_put {mv mo mi : ME} : (sPut mv mo mi s A).To N R ↔ (mv s A).To fun v A1 => (mo s A1).To fun o A2 => (mi s A2).To fun i A3 => ∃ A4, putIx o i v A3 = some A4 ∧ N s A4 := by
  with_unfolding_all
    unfold sPut
    simp only [To_from]
    refine iff_of_eq (congrArg _ (funext fun a => funext fun A1 => congrArg _ (funext fun b => funext fun A2 => congrArg _ (funext fun c => funext fun A3 => ?_))))
    cases putIx b c a A3 <;> simp
@[simp] theorem To_forK {m : ME} {g : MG} {b : MS} : (sForK m g b s A).To N R ↔ (m s A).To fun d A1 => ∃ n xs, d = .ref n ∧ A1[n]? = some (.lst xs) ∧ (reviveO n xs (forL (turnF g b) xs s (A1.set n .gone))).To N R := by
  with_unfolding_all
    unfold sForK
    simp only [To_from]
    refine iff_of_eq (congrArg _ (funext fun a => funext fun A1 => ?_))
    cases a with
    | p d => simp
    | scr d => simp
    | ref n =>
      cases e : A1[n]? with
      | none => simp [e]
      | some o => cases o <;> simp [e]
@[simp] theorem To_var0 {d : D} {r : Slt} : (mVar 0 (some d :: r) A).To P ↔ P d A := by with_unfolding_all exact Iff.rfl
@[simp] theorem To_varS {i : Nat} {o : Option D} {r : Slt} : (mVar (i + 1) (o :: r) A).To P ↔ (mVar i r A).To P := by with_unfolding_all exact Iff.rfl
@[simp] theorem To_one {o : Option D} {r : Slt} : (mVar 1 (o :: r) A).To P ↔ (mVar 0 r A).To P := by with_unfolding_all exact Iff.rfl
@[simp] theorem To_two {o : Option D} {r : Slt} : (mVar 2 (o :: r) A).To P ↔ (mVar 1 r A).To P := by with_unfolding_all exact Iff.rfl
@[simp] theorem To_three {o : Option D} {r : Slt} : (mVar 3 (o :: r) A).To P ↔ (mVar 2 r A).To P := by with_unfolding_all exact Iff.rfl
@[simp] theorem To_four {o : Option D} {r : Slt} : (mVar 4 (o :: r) A).To P ↔ (mVar 3 r A).To P := by with_unfolding_all exact Iff.rfl
@[simp] theorem To_five {o : Option D} {r : Slt} : (mVar 5 (o :: r) A).To P ↔ (mVar 4 r A).To P := by with_unfolding_all exact Iff.rfl
@[simp] theorem To_six {o : Option D} {r : Slt} : (mVar 6 (o :: r) A).To P ↔ (mVar 5 r A).To P := by with_unfolding_all exact Iff.rfl
@[simp] theorem To_seven {o : Option D} {r : Slt} : (mVar 7 (o :: r) A).To P ↔ (mVar 6 r A).To P := by with_unfolding_all exact Iff.rfl
@[simp] theorem To_eight {o : Option D} {r : Slt} : (mVar 8 (o :: r) A).To P ↔ (mVar 7 r A).To P := by with_unfolding_all exact Iff.rfl
@[simp] theorem To_nine {o : Option D} {r : Slt} : (mVar 9 (o :: r) A).To P ↔ (mVar 8 r A).To P := by with_unfolding_all exact Iff.rfl
@[simp] theorem To_ten {o : Option D} {r : Slt} : (mVar 10 (o :: r) A).To P ↔ (mVar 9 r A).To P := by with_unfolding_all exact Iff.rfl
@[simp] theorem To_eleven {o : Option D} {r : Slt} : (mVar 11 (o :: r) A).To P ↔ (mVar 10 r A).To P := by with_unfolding_all exact Iff.rfl
@[simp] theorem data_p {d : PyData} : dataOf (.p d) A = some d := rfl
@[simp] theorem own_p {d : PyData} : dataOwn (.p d) A = some d := rfl
def lst (A : Arn) (n : Nat) : Option (List PyData) := match A[n]? with
  | some (.lst xs) => some xs
  | _ => none
theorem lst_iff {n : Nat} {xs : List PyData} : lst A n = some xs ↔ A[n]? = some (.lst xs) := by
  unfold lst
  cases e : A[n]? with
  | none => simp
  | some o => cases o <;> simp
theorem lst_set {n : Nat} {xs : List PyData} (h : n < A.length) : lst (A.set n (.lst xs)) n = some xs := by
  unfold lst
  rw [List.getElem?_set_self h]
@[simp] theorem lst_new {xs : List PyData} : lst (A ++ [.lst xs]) A.length = some xs := by
  unfold lst
  rw [List.getElem?_append_right (Nat.le_refl _), Nat.sub_self]
  rfl
theorem lst_old {n : Nat} {B : Arn} (h : n < A.length) : lst (A ++ B) n = lst A n := by
  unfold lst
  rw [List.getElem?_append_left h]
@[simp] theorem set_new {o o' : O} : (A ++ [o]).set A.length o' = A ++ [o'] := by
  rw [List.set_append_right _ _ (Nat.le_refl _), Nat.sub_self]
  rfl
@[simp] theorem data_ref {n : Nat} : dataOf (.ref n) A = (lst A n).map .list := by
  unfold dataOf lst
  dsimp only
  cases e : A[n]? with
  | none => rfl
  | some o => cases o <;> rfl
@[simp] theorem own_ref {n : Nat} : dataOwn (.ref n) A = (lst A n).map .list := data_ref
@[simp] theorem data_s {ns : List Int} : dataOf (.scr ns) A = some (.list (ns.map .int)) := rfl
@[simp] theorem lift2_p {f : PyData → PyData → Option PyData} {a b : PyData} : lift2 f (.p a) (.p b) A = (f a b).map fun z => (.p z, A) := rfl
@[simp] theorem lift2o_p {f : PyData → PyData → Option PyData} {a b : PyData} : lift2o f (.p a) (.p b) A = (f a b).map fun z => (.p z, A) := rfl
@[simp] theorem lift1_p {f : PyData → Option PyData} {a : PyData} : lift1 f (.p a) A = (f a).map fun z => (.p z, A) := rfl
@[simp] theorem lift2_ref {f : PyData → PyData → Option PyData} {n : Nat} {b : PyData} : lift2 f (.ref n) (.p b) A = (lst A n).bind fun xs => (f (.list xs) b).map fun z => (.p z, A) := by
  unfold lift2
  rw [data_ref]
  cases lst A n <;> rfl
@[simp] theorem lift2_to {f : PyData → PyData → Option PyData} {n : Nat} {b : PyData} : lift2 f (.p b) (.ref n) A = (lst A n).bind fun xs => (f b (.list xs)).map fun z => (.p z, A) := by
  unfold lift2
  rw [data_ref]
  cases lst A n <;> rfl
@[simp] theorem lift2o_ref {f : PyData → PyData → Option PyData} {n : Nat} {b : PyData} : lift2o f (.ref n) (.p b) A = (lst A n).bind fun xs => (f (.list xs) b).map fun z => (.p z, A) := by
  unfold lift2o
  rw [own_ref]
  cases lst A n <;> rfl
@[simp] theorem liftN_1 {f : List PyData → Option PyData} {a : PyData} : liftN f [.p a] A = (f [a]).map fun z => (.p z, A) := rfl
@[simp] theorem liftN_2 {f : List PyData → Option PyData} {a b : PyData} : liftN f [.p a, .p b] A = (f [a, b]).map fun z => (.p z, A) := rfl
@[simp] theorem liftN_r {f : List PyData → Option PyData} {n : Nat} : liftN f [.ref n] A = (lst A n).bind fun xs => (f [.list xs]).map fun z => (.p z, A) := by
  unfold liftN datasOf datasOf
  rw [data_ref]
  cases lst A n <;> rfl
@[simp] theorem liftN_s {f : List PyData → Option PyData} {ns : List Int} : liftN f [.scr ns] A = (f [.list (ns.map .int)]).map fun z => (.p z, A) := rfl
@[simp] theorem put_r {n : Nat} {k : Int} {y : PyData} : putIx (.ref n) (.p (.int k)) (.p y) A = (lst A n).bind fun xs => (L2.ixN xs.length k).map fun j => A.set n (.lst (xs.set j y)) := by
  unfold putIx lst
  dsimp only
  cases e : A[n]? with
  | none => rfl
  | some o => cases o <;> rfl
@[simp] theorem at_0 {α : Type} {x : α} {r : List α} : L2.atI (x :: r) 0 = some x := by
  unfold L2.atI L2.ixN
  rw [if_pos (by omega), if_pos (by simp)]
  rfl
@[simp] theorem at_1 {α : Type} {x y : α} {r : List α} : L2.atI (x :: y :: r) 1 = some y := by
  unfold L2.atI L2.ixN
  rw [if_pos (by omega), if_pos (by simp; omega)]
  rfl
@[simp] theorem at_2 {α : Type} {x y z : α} {r : List α} : L2.atI (x :: y :: z :: r) 2 = some z := by
  unfold L2.atI L2.ixN
  rw [if_pos (by omega), if_pos (by simp; omega)]
  rfl
@[simp] theorem ix_0 : L2.ixN 3 0 = some 0 := rfl
@[simp] theorem ix_1 : L2.ixN 3 1 = some 1 := rfl
@[simp] theorem ix_2 : L2.ixN 3 2 = some 2 := rfl
@[simp] theorem fIx_l {xs : List PyData} {i : Int} : fIx (.list xs) (.int i) = L2.atI xs i := rfl
@[simp] theorem fIx_t {xs : List PyData} {i : Int} : fIx (.tuple xs) (.int i) = L2.atI xs i := rfl
@[simp] theorem add_ii {i j : Int} : fAdd (.int i) (.int j) = some (.int (i + j)) := rfl
@[simp] theorem sub_ii {i j : Int} : fSub (.int i) (.int j) = some (.int (i - j)) := rfl
theorem mul_ii {i j : Int} (h : (-(2 ^ 64) < i ∧ i < 2 ^ 64) ∨ (-(2 ^ 64) < j ∧ j < 2 ^ 64)) : fMul (.int i) (.int j) = some (.int (i * j)) := if_pos h
theorem div_ii {i j : Int} (h : j ≠ 0 ∧ j.natAbs < 1073741824) : fDiv (.int i) (.int j) = some (.int (i.fdiv j)) := if_pos h
theorem mod_ii {i j : Int} (h : j ≠ 0) : fMod (.int i) (.int j) = some (.int (i.fmod j)) := if_pos h
@[simp] theorem neg_i {i : Int} : fNeg (.int i) = some (.int (-i)) := rfl
@[simp] theorem int_i {i : Int} : fIntT [.int i] = some (.int i) := rfl
@[simp] theorem int_b {b : Bool} : fIntT [.bool b] = some (.int (if b then 1 else 0)) := rfl
@[simp] theorem abs_i {i : Int} : fAbs [.int i] = some (.int (if i < 0 then -i else i)) := rfl
theorem ord_ii {g : PyData → PyData → Bool} {i j : Int} : ordD g (.int i) (.int j) = some (.bool (g (.int i) (.int j))) := by
  unfold ordD
  rw [if_pos]
  refine ⟨?_, rfl, rfl⟩
  unfold comparable
  simp only [alike, Bool.true_and, decide_eq_true_eq]
  simp [PyData.depth]
@[simp] theorem lt_ii {i j : Int} : ordD gLt (.int i) (.int j) = some (.bool (decide (i < j))) := by rw [ord_ii]; unfold gLt; rw [dataLt_int]
@[simp] theorem gt_ii {i j : Int} : ordD gGt (.int i) (.int j) = some (.bool (decide (j < i))) := by rw [ord_ii]; unfold gGt; rw [dataLt_int]
@[simp] theorem le_ii {i j : Int} : ordD gLe (.int i) (.int j) = some (.bool (decide (i ≤ j))) := by
  rw [ord_ii]; unfold gLe; rw [dataLt_int]
  congr 2
  rw [← decide_not]
  exact decide_eq_decide.mpr Int.not_lt
@[simp] theorem ge_ii {i j : Int} : ordD gGe (.int i) (.int j) = some (.bool (decide (j ≤ i))) := by
  rw [ord_ii]; unfold gGe; rw [dataLt_int]
  congr 2
  rw [← decide_not]
  exact decide_eq_decide.mpr Int.not_lt
theorem at_nat {α : Type} {xs : List α} {i : Nat} {x : α} (h : xs[i]? = some x) : L2.atI xs (i : Int) = some x := by
  have hl := (List.getElem?_eq_some_iff.mp h).1
  unfold L2.atI L2.ixN
  rw [if_pos (by omega), if_pos (by omega)]
  exact h
theorem To_def {names : Nat} {body : MS} {ds : List D} {P : D → Arn → Prop} (h : (body (ds.map some ++ List.replicate (names - ds.length) none) A).To (fun _ A' => below A.length (A'.take A.length) = true ∧ P (.p .none) (A'.take A.length)) fun d A' => (closeV A.length d A').To P) : (defM names body ds A).To P := by
  with_unfolding_all
    unfold defM finish
    cases e : body (ds.map some ++ List.replicate (names - ds.length) none) A with
    | nx s A' =>
      rw [e] at h
      show (closeV A.length (.p .none) A').To P
      unfold closeV
      rw [if_pos h.1]
      exact h.2
    | rt d A' => rw [e] at h; exact h
    | bk s A' => rw [e] at h; exact h.elim
    | ct s A' => rw [e] at h; exact h.elim
    | exn s A' => rw [e] at h; exact h.elim
    | bad => rw [e] at h; exact h.elim
@[simp] theorem To_close {n : Nat} {x : PyData} {A' : Arn} (h : plain A') : (closeV n (.p x) A').To P ↔ P (.p x) (A'.take n) := by
  with_unfolding_all
    unfold closeV
    rw [if_pos (plain_below h n n)]
    exact Iff.rfl
theorem close_r {n m : Nat} {xs : List PyData} {A' : Arn} (h : plain A') (hm : n ≤ m) (e : lst A' m = some xs) : (closeV n (.ref m) A').To P ↔ P (.p (.list xs)) (A'.take n) := by
  with_unfolding_all
    unfold closeV
    rw [if_pos (plain_below h n n)]
    dsimp only
    rw [if_neg (by omega), lst_iff.mp e]
    exact Iff.rfl
@[simp] theorem plain_setL {n : Nat} {xs : List PyData} (h : plain A) : plain (A.set n (.lst xs)) := plain_set h fun ns e => by cases e
@[simp] theorem plain_setG {n : Nat} (h : plain A) : plain (A.set n .gone) := plain_set h fun ns e => by cases e
@[simp] theorem plain_snoc {xs : List PyData} (h : plain A) : plain (A ++ [.lst xs]) := plain_app h plain_one
@[simp] theorem take_set {n : Nat} {o : O} : (A.set n o).take A.length = A.set n o := List.take_of_length_le (by rw [List.length_set]; exact Nat.le_refl _)
@[simp] theorem below_plain {n m : Nat} (h : plain A) : below n (A.take m) = true := plain_below h n m
end
end Mi
namespace Lw
open PySem PySem.W Mi
theorem draw {A : Arn} {n : Nat} {k : Int} (hw : Wl A n) (hp : plain A) (hk : 0 < k) (hk2 : k < 1000000) : (m__law_draw [.ref n, .p (.int k)] A).To fun d A' => (∃ i : Int, d = .p (.int i) ∧ 0 ≤ i ∧ i < k) ∧ Wup A n A' := by
  with_unfolding_all
    have hlt := hw.lt
    obtain ⟨a, b, c, hA⟩ := hw
    have hL := lst_iff.mpr hA
    have kne : k ≠ 0 := by omega
    have hf : ∀ x : Int, 0 ≤ x.fmod k ∧ x.fmod k < k := fun x => ⟨Int.fmod_nonneg_of_pos x hk, Int.fmod_lt_of_pos x hk⟩
    unfold m__law_draw
    refine To_def ?_
    unfold b__law_draw
    have hs : ∀ x : Int, (-(2 ^ 64) < x.fmod 2147483399 ∧ x.fmod 2147483399 < 2 ^ 64) := fun x => by
      have h1 := Int.fmod_nonneg_of_pos x (show (0 : Int) < 2147483399 by decide)
      have h2 := Int.fmod_lt_of_pos x (show (0 : Int) < 2147483399 by decide)
      omega
    have hd : k.natAbs < 1073741824 := by omega
    have hm : ∀ x y : Int, fMul (.int (x.fmod 2147483399)) (.int y) = some (.int (x.fmod 2147483399 * y)) := fun x y => mul_ii (.inl (hs x))
    simp [hL, lst_set hlt, mod_ii, mul_ii, div_ii, kne, hd, hm, hp, hf]
    rcases Int.lt_or_le 0 a with h | h
    · exact .inr ⟨h, _, _, _, rfl⟩
    · exact .inl ⟨h, _, _, _, rfl⟩
end Lw
end

section
set_option maxHeartbeats 4000000
namespace Lw
open PySem PySem.W Mi
abbrev Ed := Int × Int
def encP (p : Ed) : PyData := .tuple [.int p.1, .int p.2]
def encE (es : List Ed) : List PyData := es.map encP
def encG (v : Int) (es : List Ed) : PyData := .tuple [.int v, .tuple (encE es)]
theorem layP : ∀ es : List Ed, PyData.canLayAll0 (encE es) = true
  | [] => rfl
  | p :: es => by
    show PyData.canLayAll0 (encP p :: encE es) = true
    rw [PyData.canLayAll0, layP es]
    rfl
theorem depthP : ∀ es : List Ed, PyData.depthAll (encE es) ≤ 1
  | [] => Nat.zero_le _
  | p :: es => by
    show PyData.depthAll (encP p :: encE es) ≤ 1
    rw [PyData.depthAll]
    exact Nat.max_le.mpr ⟨by simp [encP, PyData.depth, PyData.depthAll], depthP es⟩
theorem shP (p : Ed) : SeqAt.shaped (encP p) = true := by
  unfold SeqAt.shaped
  simp [encP, PyData.canLay0, PyData.canLayAll0, PyData.depth, PyData.depthAll]
theorem shL (es : List Ed) : SeqAt.shaped (.list (encE es)) = true := by
  unfold SeqAt.shaped
  rw [PyData.canLay0, PyData.depth, layP, Bool.true_and, decide_eq_true_eq]
  have := depthP es
  omega
@[simp] theorem shI (i : Int) : SeqAt.shaped (.int i) = true := by
  unfold SeqAt.shaped
  simp [PyData.canLay0, PyData.depth]
theorem eqvP (p q : Ed) : PyData.eqv (encP p) (encP q) = decide (p = q) := by
  unfold encP
  rw [PyData.eqv, PyData.eqvAll, PyData.eqvAll, PyData.eqvAll, PyData.eqv, PyData.eqv]
  obtain ⟨a, b⟩ := p
  obtain ⟨c, d⟩ := q
  simp only [Prod.mk.injEq, Bool.and_true]
  by_cases h1 : a = c <;> by_cases h2 : b = d <;> simp [h1, h2]
@[simp] theorem ne_ii {i j : Int} : fNe (.int i) (.int j) = some (.bool (decide (i ≠ j))) := by
  unfold fNe
  dsimp only
  rw [if_pos ⟨shI i, shI j⟩, PyData.eqv]
  by_cases h : i = j <;> simp [h]
@[simp] theorem eq_ii {i j : Int} : fEq (.int i) (.int j) = some (.bool (decide (i = j))) := by
  unfold fEq
  rw [if_pos ⟨shI i, shI j⟩, PyData.eqv]
  by_cases h : i = j <;> simp [h]
theorem any_pp (p : Ed) (es : List Ed) : ((encE es).any fun z => PyData.eqv z (encP p)) = decide (p ∈ es) := by
  unfold encE
  rw [List.any_map]
  rw [Bool.eq_iff_iff, List.any_eq_true, decide_eq_true_eq]
  constructor
  · rintro ⟨q, hq, e⟩
    have e : PyData.eqv (encP q) (encP p) = true := e
    rw [eqvP, decide_eq_true_eq] at e
    rw [← e]
    exact hq
  · intro h
    refine ⟨p, h, ?_⟩
    show PyData.eqv (encP p) (encP p) = true
    rw [eqvP]
    simp
theorem notIn_pp {p : Ed} {es : List Ed} : fNotIn (encP p) (.list (encE es)) = some (.bool (decide (p ∉ es))) := by
  unfold fNotIn
  dsimp only
  rw [if_pos ⟨shP p, shL es⟩, any_pp]
  by_cases h : p ∈ es <;> simp [h]
theorem in_pp {p : Ed} {es : List Ed} : fIn (encP p) (.list (encE es)) = some (.bool (decide (p ∈ es))) := by
  unfold fIn
  dsimp only
  rw [if_pos ⟨shP p, shL es⟩, any_pp]
def pLt (p q : Ed) : Prop := p.1 < q.1 ∨ (p.1 = q.1 ∧ p.2 < q.2)
instance (p q : Ed) : Decidable (pLt p q) := inferInstanceAs (Decidable (_ ∨ _))
def pLe (p q : Ed) : Bool := decide (¬ pLt q p)
theorem lt_pp (p q : Ed) : dataLt (encP p) (encP q) = decide (pLt p q) := dataLt_ii _ _ _ _
theorem le_pp (p q : Ed) : dataLe false id (encP p) (encP q) = pLe p q := by
  rw [dataLe_eq]
  show (!dataLt (encP q) (encP p)) = pLe p q
  rw [lt_pp]
  unfold pLe
  rw [← decide_not]
theorem srt_pp (es : List Ed) : srt (encE es) = encE (es.mergeSort pLe) := by
  unfold srt encE
  exact (List.map_mergeSort fun a _ b _ => (le_pp a b).symm).symm
theorem alikeP (p q : Ed) : alike (encP p) (encP q) = true := by
  unfold encP
  rw [alike, alikeAll, alikeAll, alikeAll, alike, alike]
  rfl
theorem sorted_pp {es : List Ed} (h : es.length ≤ 100000) : lfSorted [.list (encE es)] = some (encE (es.mergeSort pLe)) := by
  unfold lfSorted
  dsimp only
  rw [if_pos, srt_pp]
  refine ⟨?_, ?_, by unfold encE; rw [List.length_map]; exact h, Nat.le_trans (depthP es) (by decide)⟩
  · unfold allAlike encE
    simp only [List.all_eq_true, List.mem_map]
    rintro _ ⟨p, _, rfl⟩ _ ⟨q, _, rfl⟩
    exact alikeP p q
  · unfold Mi.sortable encE
    rw [Bool.or_eq_true]
    refine .inl ?_
    simp only [List.all_eq_true, List.mem_map]
    rintro _ ⟨p, _, rfl⟩
    rfl
theorem pLe_trans (a b c : Ed) (h : pLe a b = true) (k : pLe b c = true) : pLe a c = true := by
  unfold pLe pLt at *
  simp only [decide_eq_true_eq] at *
  omega
theorem pLe_total (a b : Ed) : (pLe a b || pLe b a) = true := by
  unfold pLe pLt
  simp only [Bool.or_eq_true, decide_eq_true_eq]
  omega
theorem pLt_of {a b : Ed} (h : pLe a b = true) (ne : a ≠ b) : pLt a b := by
  unfold pLe at h
  simp only [decide_eq_true_eq] at h
  unfold pLt at *
  obtain ⟨a1, a2⟩ := a
  obtain ⟨b1, b2⟩ := b
  simp only [ne_eq, Prod.mk.injEq, not_and] at *
  by_cases e : a1 = b1
  · have := ne e
    omega
  · omega
def nrm (p : Ed) : Ed := if p.1 < p.2 then p else (p.2, p.1)
def ddS (acc : List Ed) (p : Ed) : List Ed := if p.1 ≠ p.2 ∧ nrm p ∉ acc then acc ++ [nrm p] else acc
def dd (es : List Ed) : List Ed := es.foldl ddS []
def keptE (es : List Ed) : List Ed := (dd es).mergeSort pLe
theorem dd_snoc (es : List Ed) (p : Ed) : dd (es ++ [p]) = ddS (dd es) p := by
  unfold dd
  rw [List.foldl_append]
  rfl
theorem dd_aux : ∀ (es acc : List Ed), acc.Nodup → (es.foldl ddS acc).Nodup ∧ (∀ q, q ∈ es.foldl ddS acc ↔ q ∈ acc ∨ ∃ p, p ∈ es ∧ p.1 ≠ p.2 ∧ nrm p = q) ∧ (es.foldl ddS acc).length ≤ acc.length + es.length
  | [], acc, h => ⟨h, fun q => by simp, by simp⟩
  | p :: es, acc, h => by
    have hs : (ddS acc p).Nodup ∧ (∀ q, q ∈ ddS acc p ↔ q ∈ acc ∨ (p.1 ≠ p.2 ∧ nrm p = q)) ∧ (ddS acc p).length ≤ acc.length + 1 := by
      unfold ddS
      by_cases c : p.1 ≠ p.2 ∧ nrm p ∉ acc
      · rw [if_pos c]
        refine ⟨?_, fun q => ?_, by simp⟩
        · rw [List.nodup_append]
          refine ⟨h, by simp, fun a ha b hb => ?_⟩
          rw [List.mem_singleton] at hb
          subst hb
          rintro rfl
          exact c.2 ha
        · rw [List.mem_append, List.mem_singleton]
          exact or_congr_right ⟨fun e => ⟨c.1, e.symm⟩, fun e => e.2.symm⟩
      · rw [if_neg c]
        refine ⟨h, fun q => ⟨.inl, ?_⟩, by omega⟩
        rintro (m | ⟨e1, rfl⟩)
        · exact m
        · by_cases m : nrm p ∈ acc
          · exact m
          · exact absurd ⟨e1, m⟩ c
    obtain ⟨h1, h2, h3⟩ := dd_aux es (ddS acc p) hs.1
    refine ⟨h1, fun q => ?_, by rw [List.length_cons]; have := hs.2.2; exact Nat.le_trans h3 (by omega)⟩
    refine (h2 q).trans ?_
    rw [hs.2.1 q]
    constructor
    · rintro ((m | e) | ⟨r, a, b, e⟩)
      · exact .inl m
      · exact .inr ⟨p, List.mem_cons_self, e.1, e.2⟩
      · exact .inr ⟨r, List.mem_cons_of_mem _ a, b, e⟩
    · rintro (m | ⟨r, a, b, e⟩)
      · exact .inl (.inl m)
      · rcases List.mem_cons.mp a with rfl | a
        · exact .inl (.inr ⟨b, e⟩)
        · exact .inr ⟨r, a, b, e⟩
theorem dd_spec (es : List Ed) : (dd es).Nodup ∧ (∀ q, q ∈ dd es ↔ ∃ p, p ∈ es ∧ p.1 ≠ p.2 ∧ nrm p = q) ∧ (dd es).length ≤ es.length := by
  obtain ⟨h1, h2, h3⟩ := dd_aux es [] List.nodup_nil
  exact ⟨h1, fun q => (h2 q).trans (by simp), by rw [List.length_nil, Nat.zero_add] at h3; exact h3⟩
theorem kept_mem {es : List Ed} {q : Ed} : q ∈ keptE es ↔ ∃ p, p ∈ es ∧ p.1 ≠ p.2 ∧ nrm p = q := by
  unfold keptE
  rw [List.mem_mergeSort]
  exact (dd_spec es).2.1 q
theorem kept_length (es : List Ed) : (keptE es).length ≤ es.length := by
  unfold keptE
  rw [List.length_mergeSort]
  exact (dd_spec es).2.2
end Lw
end

section
set_option maxHeartbeats 4000000
namespace Mi
open PySem PySem.W
section
variable {P : D → Arn → Prop} {PB : Bool → Arn → Prop} {PD : List D → Arn → Prop} {PL : List PyData → Arn → Prop} {PO : Option Int → Arn → Prop} {N : Slt → Arn → Prop} {R : D → Arn → Prop} {s : Slt} {A : Arn}
@[simp] theorem To_o0 {α : Type} {P : α → Arn → Prop} {a : α} {A' : Arn} : (opt0 (some (a, A'))).To P ↔ P a A' := by with_unfolding_all exact Iff.rfl
@[simp] theorem To_fr {m : ML} : (mFr m s A).To P ↔ (m s A).To fun xs A1 => P (.p (.list xs)) A1 := by with_unfolding_all exact To_bind
@[simp] theorem To_al {m : ML} : (mAl m s A).To P ↔ (m s A).To fun xs A1 => P (.ref A1.length) (A1 ++ [.lst xs]) := by with_unfolding_all exact To_bind
@[simp] theorem To_disp {m : MA} : (lDisp m s A).To PL ↔ (m s A).To fun ds A1 => (opt0 ((frzs ds A1).bind fun x => if x.1.length ≤ 100000 then some x else none)).To PL := by with_unfolding_all exact To_bind
@[simp] theorem To_mtup {m : MA} : (mTup m s A).To P ↔ (m s A).To fun ds A1 => (opt1 ((frzs ds A1).bind fun x => if x.1.length ≤ 100000 then some (.p (.tuple x.1), x.2) else none)).To P := by with_unfolding_all exact To_bind
@[simp] theorem frzs_nil : frzs [] A = some ([], A) := rfl
@[simp] theorem frzs_p {d : PyData} {ds : List D} : frzs (.p d :: ds) A = (frzs ds A).map fun xs => (d :: xs.1, xs.2) := rfl
@[simp] theorem frz_p {d : PyData} : frz (.p d) A = some (d, A) := rfl
@[simp] theorem frz_r {n : Nat} : frz (.ref n) A = (lst A n).map fun xs => (.list xs, A.set n .gone) := by
  unfold frz lst
  dsimp only
  cases e : A[n]? with
  | none => rfl
  | some o => cases o <;> rfl
@[simp] theorem To_lop {f : List PyData → Option (List PyData)} {m : MA} : (lOpN f m s A).To PL ↔ (m s A).To fun ds A1 => (opt0 ((datasOf ds A1).bind fun xs => (f xs).map fun zs => (zs, A1))).To PL := by with_unfolding_all exact To_bind
@[simp] theorem datas_nil : datasOf [] A = some [] := rfl
@[simp] theorem datas_p {d : PyData} {ds : List D} : datasOf (.p d :: ds) A = (datasOf ds A).map fun xs => d :: xs := rfl
@[simp] theorem datas_r {n : Nat} {ds : List D} : datasOf (.ref n :: ds) A = (lst A n).bind fun x => (datasOf ds A).map fun xs => .list x :: xs := by
  show ((dataOf (.ref n) A).bind fun x => (datasOf ds A).map fun xs => x :: xs) = _
  rw [data_ref]
  cases lst A n <;> rfl
@[simp] theorem To_mt {chk : D → Arn → Bool} {f : D → List D → Arn → Option (D × Arn)} {o : ME} {m : MA} : (mMt chk f o m s A).To P ↔ (o s A).To fun a A1 => chk a A1 = true ∧ (m s A1).To fun ds A2 => (opt1 (f a ds A2)).To P := by
  with_unfolding_all
    unfold mMt
    rw [To_bind]
    refine iff_of_eq (congrArg _ (funext fun a => funext fun A1 => ?_))
    by_cases c : chk a A1 = true
    · rw [if_pos c]; simp [c]
    · rw [if_neg c]; simp [c]
@[simp] theorem isL_r {n : Nat} : isL (.ref n) A = (lst A n).isSome := by
  unfold isL
  rw [data_ref]
  cases lst A n <;> rfl
@[simp] theorem app_r {n : Nat} {y : PyData} : fAppend (.ref n) [.p y] A = (lst A n).bind fun xs => if xs.length < 100000 then some (.p .none, A.set n (.lst (xs ++ [y]))) else none := by
  unfold fAppend lst
  dsimp only
  cases e : A[n]? with
  | none => rfl
  | some o => cases o <;> rfl
@[simp] theorem To_iS {m : ME} : (iS m s A).To PL ↔ (m s A).To fun d A1 => (opt0 ((frz d A1).bind fun x => (itemsOf x.1).map fun xs => (xs, x.2))).To PL := by with_unfolding_all exact To_bind
def small (j : Int) : Prop := -1000000 ≤ j ∧ j ≤ 1000000
theorem rng1_small {j : Int} (h : small j) : rng1 [j] = some (rangeD 0 j.toNat) := by
  unfold small at h
  unfold rng1
  dsimp only
  exact if_pos (by omega)
theorem rng2_small {i j : Int} (h : small i) (k : small j) : rng2 [i, j] = some (rangeD i (j - i).toNat) := by
  unfold small at h k
  unfold rng2
  dsimp only
  exact if_pos (by omega)
theorem To_iR1 {m : MA} (h : (m s A).To fun ds A1 => ∃ j : Int, ds = [.p (.int j)] ∧ small j ∧ PL (rangeD 0 j.toNat) A1) : (iR1 m s A).To PL := by
  with_unfolding_all
    unfold iR1
    refine To_bind.mpr (h.mono fun ds A1 => ?_)
    rintro ⟨j, rfl, hj, q⟩
    show (opt0 ((rng1 [j]).map fun xs => (xs, A1))).To PL
    rw [rng1_small hj]
    exact q
theorem To_iR2 {m : MA} (h : (m s A).To fun ds A1 => ∃ i j : Int, ds = [.p (.int i), .p (.int j)] ∧ small i ∧ small j ∧ PL (rangeD i (j - i).toNat) A1) : (iR2 m s A).To PL := by
  with_unfolding_all
    unfold iR2
    refine To_bind.mpr (h.mono fun ds A1 => ?_)
    rintro ⟨i, j, rfl, hi, hj, q⟩
    show (opt0 ((rng2 [i, j]).map fun xs => (xs, A1))).To PL
    rw [rng2_small hi hj]
    exact q
@[simp] theorem items_l {xs : List PyData} : itemsOf (.list xs) = some xs := rfl
@[simp] theorem items_t {xs : List PyData} : itemsOf (.tuple xs) = some xs := rfl
@[simp] theorem intsD_nil : intsD [] = some [] := rfl
@[simp] theorem intsD_i {i : Int} {ds : List D} : intsD (.p (.int i) :: ds) = (intsD ds).map fun ns => i :: ns := rfl
@[simp] theorem To_turnF {g : MG} {b : MS} {x : PyData} : (turnF g b x s A).To N R ↔ ∃ s', g x s = some s' ∧ (b s' A).To N R := by
  with_unfolding_all
    unfold turnF
    cases g x s <;> simp
@[simp] theorem gN_ap {i : Nat} {x : PyData} : gN i x s = some (s.set i (some (.p x))) := rfl
@[simp] theorem gNone_ap : gNone [] s = some s := rfl
@[simp] theorem gMore_ap {g : MG} {r : List PyData → Slt → Option Slt} {x : PyData} {xs : List PyData} : gMore g r (x :: xs) s = (g x s).bind (r xs) := rfl
@[simp] theorem gTp_ap {r : List PyData → Slt → Option Slt} {xs : List PyData} : gTp r (.tuple xs) s = r xs s := rfl
@[simp] theorem To_asg {m : ME} {g : MG} : (sAsg m g s A).To N R ↔ (m s A).To fun d A1 => ∃ x s', d = .p x ∧ g x s = some s' ∧ N s' A1 := by
  with_unfolding_all
    unfold sAsg
    rw [To_from]
    refine iff_of_eq (congrArg _ (funext fun a => funext fun A1 => ?_))
    cases a with
    | ref n => simp
    | scr n => simp
    | p d =>
      show ((optS (g d s) A1).To N R) = _
      unfold optS
      cases e : g d s with
      | none => simp [e]
      | some t => simp [e]
@[simp] theorem To_par {i j : Nat} {m : MA} : (sPar i j m s A).To N R ↔ (m s A).To fun ds A1 => ∃ d e, ds = [d, e] ∧ N ((s.set i (some d)).set j (some e)) A1 := by
  with_unfolding_all
    unfold sPar
    rw [To_from]
    refine iff_of_eq (congrArg _ (funext fun a => funext fun A1 => ?_))
    cases a with
    | nil => simp
    | cons d r =>
      cases r with
      | nil => simp
      | cons e r =>
        cases r with
        | nil => exact propext ⟨fun h => ⟨d, e, rfl, h⟩, fun ⟨_, _, q, h⟩ => by cases q; exact h⟩
        | cons f r => simp
@[simp] theorem To_slA {m : ME} {k l : MP} : (mSlA m k l s A).To P ↔ (m s A).To fun d A1 => (k s A1).To fun lo A2 => (l s A2).To fun hi A3 => (opt1 ((dataOf d A3).bind fun x => (fSlA x lo hi).map fun z => (.p z, A3))).To P := by
  with_unfolding_all
    unfold mSlA
    simp only [To_bind]
@[simp] theorem To_pNo : (pNo s A).To PO ↔ PO none A := by with_unfolding_all exact Iff.rfl
@[simp] theorem To_pSome {m : ME} : (pSome m s A).To PO ↔ (m s A).To fun d A1 => ∃ i, d = .p (.int i) ∧ PO (some i) A1 := by
  with_unfolding_all
    unfold pSome
    rw [To_bind]
    refine iff_of_eq (congrArg _ (funext fun a => funext fun A1 => ?_))
    cases a with
    | ref n => simp
    | scr n => simp
    | p d => cases d <;> simp
@[simp] theorem To_rev {m : ME} : (mRev m s A).To P ↔ (m s A).To fun a A1 => (opt1 (lift1 fRev a A1)).To P := by with_unfolding_all exact To_op1
@[simp] theorem To_cut {m k : ME} : (lCut m k s A).To PL ↔ (m s A).To fun a A1 => isS a A1 = true ∧ (k s A1).To fun b A2 => (opt0 ((dataOf a A2).bind fun x => (dataOf b A2).bind fun y => (lfCut x y).map fun z => (z, A2))).To PL := by
  with_unfolding_all
    unfold lCut
    rw [To_bind]
    refine iff_of_eq (congrArg _ (funext fun a => funext fun A1 => ?_))
    by_cases c : isS a A1 = true
    · rw [if_pos c]; simp [c]
    · rw [if_neg c]; simp [c]
def isiF (T : String) (ds : List PyData) : Option PyData := match ds with
  | [d] => (isInst d T).map PyData.bool
  | _ => none
def tyF (T : String) (neg : Bool) (ds : List PyData) : Option PyData := match ds with
  | [d] => some (.bool (if neg then !decide (tyName d = T) else decide (tyName d = T)))
  | _ => none
@[simp] theorem isiF_1 {T : String} {d : PyData} : isiF T [d] = (isInst d T).map PyData.bool := rfl
@[simp] theorem tyF_1 {T : String} {neg : Bool} {d : PyData} : tyF T neg [d] = some (.bool (if neg then !decide (tyName d = T) else decide (tyName d = T))) := rfl
@[simp] theorem To_isi {T : String} {m : ME} : (mIsi T m s A).To P ↔ (m s A).To fun a A1 => (opt1 (liftN (isiF T) [a] A1)).To P := by
  with_unfolding_all
    show (mOpN (liftN (isiF T)) (aCons m aNil) s A).To P ↔ _
    simp only [To_opN, To_cons, To_nil]
@[simp] theorem To_tyIs {T : String} {neg : Bool} {m : ME} : (mTyIs T neg m s A).To P ↔ (m s A).To fun a A1 => (opt1 (liftN (tyF T neg) [a] A1)).To P := by
  with_unfolding_all
    show (mOpN (liftN (tyF T neg)) (aCons m aNil) s A).To P ↔ _
    simp only [To_opN, To_cons, To_nil]
@[simp] theorem To_chain {m : ME} {r : MD} : (mCh m r s A).To P ↔ (m s A).To fun a A1 => (r a s A1).To P := by with_unfolding_all exact To_bind
@[simp] theorem To_last {f : D → D → Arn → Option (D × Arn)} {k : ME} {a : D} : (mLast f k a s A).To P ↔ (k s A).To fun b A1 => (opt1 (f a b A1)).To P := by with_unfolding_all exact To_bind
@[simp] theorem To_link {f : D → D → Arn → Option (D × Arn)} {k : ME} {r : MD} {a : D} : (mLink f k r a s A).To P ↔ (k s A).To fun b A1 => (opt1 (f a b A1)).To fun c A2 => ∃ t, c = .p (.bool t) ∧ if t = true then (r b s A2).To P else P (.p (.bool false)) A2 := by
  with_unfolding_all
    unfold mLink
    simp only [To_bind]
    refine iff_of_eq (congrArg _ (funext fun b => funext fun A1 => congrArg _ (funext fun c => funext fun A2 => ?_)))
    unfold cutD
    cases c with
    | ref n => simp
    | scr n => simp
    | p d =>
      cases d with
      | bool t => cases t <;> simp
      | none => simp
      | int i => simp
      | str i => simp
      | list i => simp
      | tuple i => simp
      | dict i => simp
@[simp] theorem tru_b {b : Bool} : truthD (.p (.bool b)) A = some b := rfl
@[simp] theorem tru_l {n : Nat} : truthD (.ref n) A = (lst A n).map fun xs => !xs.isEmpty := by
  unfold truthD
  rw [data_ref]
  cases lst A n <;> rfl
@[simp] theorem To_lRg1 {m : ME} : (lRg1 m s A).To PL ↔ (m s A).To fun d A1 => ∃ n : Int, d = .p (.int n) ∧ -(2 ^ 62) ≤ n ∧ n ≤ 16777216 ∧ PL (rangeD 0 n.toNat) A1 := by
  with_unfolding_all
    unfold lRg1
    rw [To_bind]
    refine iff_of_eq (congrArg _ (funext fun a => funext fun A1 => ?_))
    cases a with
    | ref n => simp
    | scr n => simp
    | p d =>
      cases d with
      | int i =>
        dsimp only
        by_cases c : -(2 ^ 62) ≤ i ∧ i ≤ 16777216
        · rw [if_pos c]; simp [c.1, c.2]; omega
        · rw [if_neg c]; simp; omega
      | none => simp
      | bool i => simp
      | str i => simp
      | list i => simp
      | tuple i => simp
      | dict i => simp
theorem To_comp (f : PyData → Option PyData) {it : MI} {gm : MG} {tt : MT} {te : ME} {vs : List Nat} (hi : (it s A).To fun xs A1 => A1 = A ∧ xs.length ≤ 100000 ∧ (∀ x, x ∈ xs → turnC gm tt te (wipeS s vs) x A = .ok (f x) A) ∧ PL (xs.filterMap f) A) : (lComp it gm tt te vs s A).To PL := by
  with_unfolding_all
    unfold lComp
    refine To_bind.mpr (hi.mono fun xs A1 => ?_)
    rintro ⟨rfl, hl, h, q⟩
    show (compL _ xs [] A1).To PL
    rw [compL_pure xs [] h (by simpa using hl)]
    exact q
@[simp] theorem To_yes : (mYes s A).To PB ↔ PB true A := by with_unfolding_all exact Iff.rfl
theorem turn_of {gm : MG} {tt : MT} {te : ME} {s0 : Slt} {x : PyData} {f : PyData → Option PyData} (h : ∃ s', gm x s0 = some s' ∧ (tt s' A).To fun b A1 => if b = true then (te s' A1).To fun d A2 => ∃ y, frz d A2 = some (y, A) ∧ f x = some y else f x = none ∧ A1 = A) : turnC gm tt te s0 x A = .ok (f x) A := by
  with_unfolding_all
    obtain ⟨s', e, h⟩ := h
    unfold turnC
    rw [e]
    dsimp only
    unfold turnB
    obtain ⟨b, A1, e1, h⟩ := h.ex
    rw [e1]
    show (if b = true then _ else _) = _
    cases b with
    | false =>
      obtain ⟨hf, rfl⟩ := h
      rw [if_neg (by decide), hf]
    | true =>
      rw [if_pos rfl]
      obtain ⟨d, A2, e2, y, e3, e4⟩ := h.ex
      rw [e2]
      show opt0 ((frz d A2).map fun y => (some y.1, y.2)) = _
      rw [e3, e4]
      rfl
theorem To_defK {A : Arn} {names : Nat} {body : MS} {ds : List D} {P : D → Arn → Prop} (h : (body (ds.map some ++ List.replicate (names - ds.length) none) A).To (fun _ _ => False) fun d A' => ∃ m xs, d = .ref m ∧ A.length ≤ m ∧ plain A' ∧ lst A' m = some xs ∧ P (.ref A.length) (A'.take A.length ++ [.lst xs])) : (defK names body ds A).To P := by
  with_unfolding_all
    unfold defK finishK
    cases e : body (ds.map some ++ List.replicate (names - ds.length) none) A with
    | nx s A' => rw [e] at h; first | exact (To_nx.mp h).elim | exact (To_bk.mp h).elim | exact (To_ct.mp h).elim | exact (To_exO.mp h).elim | exact (To_badO.mp h).elim
    | rt d A' =>
      rw [e, To_rt] at h
      obtain ⟨m, xs, rfl, hm, hp, hl, hq⟩ := h
      show (closeK A.length (.ref m) A').To P
      unfold closeK
      rw [if_pos (plain_below hp _ _)]
      dsimp only
      rw [if_neg (by omega), lst_iff.mp hl]
      exact hq
    | bk s A' => rw [e] at h; first | exact (To_nx.mp h).elim | exact (To_bk.mp h).elim | exact (To_ct.mp h).elim | exact (To_exO.mp h).elim | exact (To_badO.mp h).elim
    | ct s A' => rw [e] at h; first | exact (To_nx.mp h).elim | exact (To_bk.mp h).elim | exact (To_ct.mp h).elim | exact (To_exO.mp h).elim | exact (To_badO.mp h).elim
    | exn s A' => rw [e] at h; first | exact (To_nx.mp h).elim | exact (To_bk.mp h).elim | exact (To_ct.mp h).elim | exact (To_exO.mp h).elim | exact (To_badO.mp h).elim
    | bad => rw [e] at h; first | exact (To_nx.mp h).elim | exact (To_bk.mp h).elim | exact (To_ct.mp h).elim | exact (To_exO.mp h).elim | exact (To_badO.mp h).elim
theorem forL_to (I : Nat → Slt → Arn → Prop) {step : PyData → MS} {xs : List PyData} (hI : ∀ i x s A, xs[i]? = some x → I i s A → (step x s A).To (I (i + 1)) R) (h0 : I 0 s A) (hN : ∀ s A, I xs.length s A → N s A) : (forL step xs s A).To N R :=
  (forL_inv step xs I s A hI h0).mono hN fun _ _ h => h
end
end Mi
end

section
set_option maxHeartbeats 4000000
namespace Lw
open PySem PySem.W Mi
theorem pick {A : Arn} {n : Nat} {xs : List PyData} {c : PyData} (hw : Wl A n) (hp : plain A) (h0 : xs ≠ []) (h1 : xs.length < 100000) (hc : c = .tuple xs ∨ c = .list xs) :
    (m__law_pick [.ref n, .p c] A).To fun d A' => (∃ x, d = .p x ∧ x ∈ xs) ∧ Wup A n A' := by
  have hlen : fLen [c] = some (.int xs.length) := by
    rcases hc with rfl | rfl
    · exact if_pos (by omega)
    · exact if_pos (by omega)
  have hpos : 0 < xs.length := List.length_pos_iff.mpr h0
  unfold m__law_pick
  refine To_def ?_
  unfold b__law_pick
  simp [hlen]
  refine (draw hw hp (k := (xs.length : Int)) (by omega) (by omega)).mono fun d A' h => ?_
  obtain ⟨⟨i, rfl, i0, i1⟩, u⟩ := h
  have hi : i.toNat < xs.length := by omega
  have e : fIx c (.int i) = some xs[i.toNat] := by
    obtain ⟨j, rfl⟩ := Int.eq_ofNat_of_zero_le i0
    rcases hc with rfl | rfl
    · exact at_nat (List.getElem?_eq_getElem hi)
    · exact at_nat (List.getElem?_eq_getElem hi)
  have ht : A'.take A.length = A' := List.take_of_length_le (Nat.le_of_eq u.length)
  simp [e, u.plain hp, ht]
  exact u
@[simp] theorem gTp_P {r : List PyData → Slt → Option Slt} {p : Ed} {s : Slt} : gTp r (encP p) s = r [.int p.1, .int p.2] s := rfl
theorem encE_snoc (es : List Ed) (p : Ed) : encE es ++ [encP p] = encE (es ++ [p]) := by
  unfold encE
  rw [List.map_append]
  rfl
theorem kept_step {v x3 x4 x5 : Option D} {e : Option D} {A : Arn} {acc : List Ed} {p : Ed} (hl : acc.length < 100000) {R : D → Arn → Prop} :
    (turnF (gTp (gMore (gN 3) (gMore (gN 4) gNone))) (sSeq (sLet 5 (mIfE (mB (mOp2 (lift2 (ordD gLt)) (mVar 3) (mVar 4))) (mTup (aCons (mVar 3) (aCons (mVar 4) aNil))) (mTup (aCons (mVar 4) (aCons (mVar 3) aNil)))))
    (sIf (mAnd (mB (mOp2 (lift2 fNe) (mVar 3) (mVar 4))) (mB (mOp2 (lift2 fNotIn) (mVar 5) (mVar 2)))) (sDrop (mMt isL fAppend (mVar 2) (aCons (mVar 5) aNil))) sSkip)) (encP p) [v, e, some (.ref A.length), x3, x4, x5] (A ++ [.lst (encE acc)])).To
    (fun s B => (∃ y3 y4 y5, s = [v, e, some (.ref A.length), y3, y4, y5]) ∧ B = A ++ [.lst (encE (ddS acc p))]) R := by
  have hL : lst (A ++ [O.lst (encE acc)]) A.length = some (encE acc) := lst_new
  have hN : (encE acc).length < 100000 := by unfold encE; rw [List.length_map]; exact hl
  obtain ⟨a, b⟩ := p
  have ht : ∀ x y : Int, PyData.tuple [.int x, .int y] = encP (x, y) := fun _ _ => rfl
  by_cases c : a < b
  · have e : nrm (a, b) = (a, b) := if_pos c
    have e2 : a ≠ b := by omega
    by_cases d : (a, b) ∈ acc
    · simp [c, hL, ht, notIn_pp, e2, d, ddS, e]
    · simp [c, hL, ht, notIn_pp, e2, d, ddS, e, hN, encE_snoc]
  · have e : nrm (a, b) = (b, a) := if_neg c
    by_cases e2 : a = b
    · subst e2
      simp [hL, ddS]
    · by_cases d : (b, a) ∈ acc
      · simp [c, hL, ht, notIn_pp, e2, d, ddS, e]
      · simp [c, hL, ht, notIn_pp, e2, d, ddS, e, hN, encE_snoc]
theorem dd_take {es : List Ed} {i : Nat} {p : Ed} (h : es[i]? = some p) : ddS (dd (es.take i)) p = dd (es.take (i + 1)) := by
  rw [← dd_snoc, List.take_succ, h]
  rfl
theorem getE {es : List Ed} {i : Nat} {x : PyData} (h : (encE es)[i]? = some x) : ∃ p, es[i]? = some p ∧ x = encP p := by
  unfold encE at h
  rw [List.getElem?_map] at h
  cases e : es[i]? with
  | none => rw [e] at h; cases h
  | some p => rw [e] at h; cases h; exact ⟨p, rfl, rfl⟩
@[simp] theorem encE_nil : encE [] = [] := rfl
theorem kept_core {A A1 : Arn} {v : PyData} {e : D} {x : PyData} {es : List Ed} (hp : plain A1) (hf : frz e A = some (x, A1)) (hx : itemsOf x = some (encE es)) (hl : es.length ≤ 2000) (hlen : A1.length = A.length) (hold : ∀ B, frz e (A ++ B) = some (x, A1 ++ B)) :
    (m__law_kept [.p v, e] A).To fun d A' => d = .p (.tuple [v, .tuple (encE (keptE es))]) ∧ A' = A1 := by
  unfold m__law_kept
  refine To_def ?_
  unfold b__law_kept
  have h2 := hold [.lst []]
  simp [h2, hx]
  refine forL_to (fun i s B => ∃ y3 y4 y5, s = [some (.p v), some e, some (.ref A1.length), y3, y4, y5] ∧ B = A1 ++ [.lst (encE (dd (es.take i)))]) ?_ ⟨none, none, none, by rw [hlen], rfl⟩ ?_
  · rintro i y s B hy ⟨y3, y4, y5, rfl, rfl⟩
    obtain ⟨p, hp2, rfl⟩ := getE hy
    have hd : (dd (es.take i)).length < 100000 := by
      have := (dd_spec (es.take i)).2.2
      rw [List.length_take] at this
      omega
    refine (kept_step hd).mono ?_ (fun _ _ h => h)
    rintro s' B' ⟨⟨z3, z4, z5, rfl⟩, rfl⟩
    exact ⟨z3, z4, z5, rfl, by rw [dd_take hp2]⟩
  · rintro s B ⟨y3, y4, y5, rfl, rfl⟩
    have hle : (encE es).length = es.length := by unfold encE; rw [List.length_map]
    rw [hle, List.take_length]
    have hL : lst (A1 ++ [O.lst (encE (dd es))]) A1.length = some (encE (dd es)) := lst_new
    have hs : lfSorted [.list (encE (dd es))] = some (encE (keptE es)) := sorted_pp (Nat.le_trans (dd_spec es).2.2 (by omega))
    simp [hL, hs, fTuple, hp, ← hlen]
theorem kept {A : Arn} {v : PyData} {c : PyData} {es : List Ed} (hp : plain A) (hc : c = .list (encE es) ∨ c = .tuple (encE es)) (hl : es.length ≤ 2000) :
    (m__law_kept [.p v, .p c] A).To fun d A' => d = .p (.tuple [v, .tuple (encE (keptE es))]) ∧ A' = A := by
  refine kept_core (x := c) hp rfl ?_ hl rfl fun B => rfl
  rcases hc with rfl | rfl <;> rfl
theorem keptR {A : Arn} {v : PyData} {m : Nat} {es : List Ed} (hp : plain A) (hm : lst A m = some (encE es)) (hl : es.length ≤ 2000) :
    (m__law_kept [.p v, .ref m] A).To fun d A' => d = .p (.tuple [v, .tuple (encE (keptE es))]) ∧ A' = A.set m .gone := by
  have hlt : m < A.length := (List.getElem?_eq_some_iff.mp (lst_iff.mp hm)).1
  refine kept_core (x := .list (encE es)) (plain_setG hp) ?_ rfl hl (by rw [List.length_set]) fun B => ?_
  · rw [frz_r, hm]; rfl
  · rw [frz_r, lst_old hlt, hm, List.set_append_left _ _ hlt]; rfl
end Lw
end

section
set_option maxHeartbeats 4000000
namespace Mi
open PySem PySem.W
theorem cut_mem {α : Type} {xs : List α} {lo hi : Option Int} {x : α} (h : x ∈ cutD' xs lo hi) : x ∈ xs := by
  unfold cutD' at h
  exact List.mem_of_mem_drop (List.mem_of_mem_take h)
theorem mem_ints {ns : List Int} {x : PyData} (h : x ∈ ns.map PyData.int) : ∃ i, x = .int i := by
  obtain ⟨i, _, rfl⟩ := List.mem_map.mp h
  exact ⟨i, rfl⟩
@[simp] theorem pow_16 : fPow (.int 10) (.int 16) = some (.int 10000000000000000) := rfl
@[simp] theorem slA_l {xs : List PyData} {lo hi : Option Int} : fSlA (.list xs) lo hi = some (.list (cutD' xs lo hi)) := rfl
@[simp] theorem slA_t {xs : List PyData} {lo hi : Option Int} : fSlA (.tuple xs) lo hi = some (.tuple (cutD' xs lo hi)) := rfl
@[simp] theorem frz_s {ns : List Int} {A : Arn} : frz (.scr ns) A = none := rfl
end Mi
namespace Lw
open PySem PySem.W Mi
theorem well {A : Arn} {ns : List Int} {t : Nat} (hp : plain A) (hn : ns.length ≤ 63) :
    (m__law_well [.scr ns, .p (.int t)] A).To fun d A' => d = .ref A.length ∧ ∃ a b c : Int, A' = A ++ [.lst [.int a, .int b, .int c]] := by
  have hlen : fLen [.list (ns.map PyData.int)] = some (.int ns.length) := by
    unfold fLen
    dsimp only
    rw [if_pos (by rw [List.length_map]; omega), List.length_map]
  unfold m__law_well
  refine To_defK ?_
  unfold b__law_well
  have core : ∀ own : Int, (forL (turnF (gN 4) (sLet 3 (mOp2 (lift2 fMod) (mOpN (liftN fIntT) (aCons (mOp2 (lift2o fAdd) (mOp2 (lift2o fAdd) (mOp2 (lift2 fMul) (mVar 3) (mC (.int 22695))) (mOp2 (lift2 fMod) (mOpN (liftN fIntT) (aCons (mVar 4) aNil)) (mC (.int 2147483423)))) (mC (.int 53))) aNil)) (mC (.int 2147483399))))) (cutD' (ns.map PyData.int) none (some 11)) [some (.scr ns), some (.p (.int t)), some (.p (.int own)), some (.p (.int (97 + 32452843 * t))), none] A).To
      (fun s B => (∃ (m : Int) (y : Option D), s = [some (.scr ns), some (.p (.int t)), some (.p (.int own)), some (.p (.int m)), y]) ∧ B = A) (fun _ _ => False) := by
    intro own
    refine forL_to (fun _ s B => (∃ (m : Int) (y : Option D), s = [some (.scr ns), some (.p (.int t)), some (.p (.int own)), some (.p (.int m)), y]) ∧ B = A) ?_ ⟨⟨_, _, rfl⟩, rfl⟩ fun _ _ h => h
    rintro i x s B hx ⟨⟨m, y, rfl⟩, rfl⟩
    obtain ⟨j, rfl⟩ := mem_ints (cut_mem (List.mem_of_getElem? hx))
    simp [mul_ii, mod_ii]
  have ixs : ∀ (h : t < ns.length), lift2 fIx (.scr ns) (.p (.int t)) A = some (.p (.int ns[t]), A) := fun h => by
    unfold lift2
    rw [data_s]
    show ((fIx (.list (ns.map .int)) (.int t)).map fun z => (D.p z, A)) = _
    rw [fIx_l, at_nat (x := .int ns[t]) (by rw [List.getElem?_map, List.getElem?_eq_getElem h]; rfl)]
    rfl
  by_cases c : t < ns.length
  · simp [hlen, mul_ii, c, ixs c]
    refine (core ns[t]).mono ?_ fun _ _ h => h.elim
    rintro s B ⟨⟨m, y, rfl⟩, rfl⟩
    simp [mul_ii, mod_ii, hp]
    by_cases d : (10000000000000000 : Int) ≤ (if ns[t] < 0 then -ns[t] else ns[t])
    · simp [d]
    · simp [d, Int.not_le.mp d]
  · simp [hlen, mul_ii, c]
    refine (core 0).mono ?_ fun _ _ h => h.elim
    rintro s B ⟨⟨m, y, rfl⟩, rfl⟩
    simp [mul_ii, mod_ii, hp]
theorem rangeD_get {n i : Nat} {x : PyData} (h : (rangeD 0 n)[i]? = some x) : i < n ∧ x = .int (i : Int) := by
  have hl := (List.getElem?_eq_some_iff.mp h).1
  have hi : i < n := by simpa [rangeD] using hl
  unfold rangeD at h
  rw [List.getElem?_map, List.getElem?_range hi] at h
  refine ⟨hi, ?_⟩
  have := (Option.some.inj h).symm
  rw [this]
  simp
def rowA (v a : Nat) : List Ed := (List.range (v - (a + 1))).map fun j => ((a : Int), ((a + 1 + j : Nat) : Int))
def pairsTo (v n : Nat) : List Ed := (List.range n).flatMap (rowA v)
theorem rowA_mem {v a : Nat} {p : Ed} (h : p ∈ rowA v a) : p.1 = a ∧ p.1 < p.2 ∧ p.2 < v := by
  obtain ⟨j, hj, rfl⟩ := List.mem_map.mp h
  have := List.mem_range.mp hj
  dsimp only
  omega
theorem pairsTo_succ (v n : Nat) : pairsTo v (n + 1) = pairsTo v n ++ rowA v n := by
  unfold pairsTo
  rw [List.range_succ, List.flatMap_append]
  simp
theorem pairsTo_mem {v n : Nat} {p : Ed} (h : p ∈ pairsTo v n) : 0 ≤ p.1 ∧ p.1 < p.2 ∧ p.2 < v := by
  obtain ⟨a, _, h⟩ := List.mem_flatMap.mp h
  have := rowA_mem h
  omega
theorem pairsTo_length (v : Nat) : ∀ n, (pairsTo v n).length ≤ n * v
  | 0 => by simp [pairsTo]
  | n + 1 => by
    rw [pairsTo_succ, List.length_append, Nat.succ_mul]
    have h1 := pairsTo_length v n
    have h2 : (rowA v n).length ≤ v := by unfold rowA; rw [List.length_map, List.length_range]; omega
    omega
theorem rowA_length (v a : Nat) : (rowA v a).length = v - (a + 1) := by unfold rowA; rw [List.length_map, List.length_range]
theorem encE_app (es fs : List Ed) : encE es ++ encE fs = encE (es ++ fs) := by
  unfold encE
  rw [List.map_append]
theorem encE_length (es : List Ed) : (encE es).length = es.length := by
  unfold encE
  rw [List.length_map]
theorem row_comp {v a : Nat} : (rangeD ((a : Int) + 1) (v - (a + 1))).filterMap (fun x => match x with
    | .int b => some (encP ((a : Int), b))
    | _ => none) = encE (rowA v a) := by
  unfold rangeD encE rowA
  rw [List.filterMap_map, List.map_map]
  show List.filterMap (some ∘ fun (j : Nat) => encP ((a : Int), (a : Int) + 1 + (j : Int))) _ = _
  rw [List.filterMap_eq_map]
  refine List.map_congr_left fun j _ => ?_
  show encP ((a : Int), (a : Int) + 1 + (j : Int)) = encP ((a : Int), ((a + 1 + j : Nat) : Int))
  rw [show (a : Int) + 1 + (j : Int) = ((a + 1 + j : Nat) : Int) by omega]
theorem pairs_of {A : Arn} {v : Nat} (hp : plain A) (hv : v ≤ 10) : (m__law_pairs_of [.p (.int v)] A).To fun d A' => d = .p (.list (encE (pairsTo v v))) ∧ A' = A := by
  unfold m__law_pairs_of
  refine To_def ?_
  unfold b__law_pairs_of
  simp
  refine To_iR1 ?_
  simp
  refine ⟨(by unfold small; omega), ?_⟩
  refine forL_to (fun i s B => (∃ y, s = [some (.p (.int v)), some (.p (.list (encE (pairsTo v i)))), y, none]) ∧ B = A) ?_ ⟨⟨none, rfl⟩, rfl⟩ ?_
  · rintro i x s B hx ⟨⟨y, rfl⟩, rfl⟩
    obtain ⟨hi, rfl⟩ := rangeD_get hx
    simp
    refine To_comp (fun x => match x with
      | .int b => some (encP ((i : Int), b))
      | _ => none) (To_iR2 ?_)
    have hrow := rowA_length v i
    have hto := pairsTo_length v i
    have hb1 : i * v ≤ 100 := Nat.mul_le_mul (Nat.le_trans (Nat.le_of_lt hi) hv) hv
    have en : ((v : Int) - ((i : Int) + 1)).toNat = v - (i + 1) := by omega
    simp
    refine ⟨_, _, ⟨rfl, rfl⟩, by unfold small; omega, by unfold small; omega, ?_⟩
    rw [en]
    refine ⟨by unfold rangeD; rw [List.length_map, List.length_range]; omega, ?_, ?_⟩
    · intro x hx
      obtain ⟨j, _, rfl⟩ := List.mem_map.mp hx
      refine turn_of (f := fun x => match x with
        | .int b => some (encP ((i : Int), b))
        | _ => none) ⟨_, rfl, ?_⟩
      simp [wipeS, encP]
    · rw [row_comp]
      have hsum : (pairsTo v i).length + (rowA v i).length ≤ 100000 := by omega
      simp [fAdd, encE_length, encE_app, pairsTo_succ, hsum]
  · rintro s B ⟨⟨y, rfl⟩, rfl⟩
    have : (rangeD 0 v).length = v := by unfold rangeD; rw [List.length_map, List.length_range]
    simp [hp, this]
def encI (ns : List Int) : List PyData := ns.map PyData.int
theorem encI_length (ns : List Int) : (encI ns).length = ns.length := by unfold encI; rw [List.length_map]
theorem layI : ∀ ns : List Int, PyData.canLayAll0 (encI ns) = true
  | [] => rfl
  | n :: ns => by
    show PyData.canLayAll0 (.int n :: encI ns) = true
    rw [PyData.canLayAll0, layI ns]
    rfl
theorem depthI : ∀ ns : List Int, PyData.depthAll (encI ns) ≤ 0
  | [] => Nat.le_refl _
  | n :: ns => by
    show PyData.depthAll (.int n :: encI ns) ≤ 0
    rw [PyData.depthAll]
    exact Nat.max_le.mpr ⟨by simp [PyData.depth], depthI ns⟩
theorem shIs (ns : List Int) : SeqAt.shaped (.list (encI ns)) = true := by
  unfold SeqAt.shaped
  rw [PyData.canLay0, PyData.depth, layI, Bool.true_and, decide_eq_true_eq]
  have := depthI ns
  omega
theorem ne_nil {ns : List Int} : fNe (.list (encI ns)) (.list []) = some (.bool (decide (ns ≠ []))) := by
  unfold fNe
  dsimp only
  rw [if_pos ⟨shIs ns, shIs []⟩, PyData.eqv]
  cases ns with
  | nil => rfl
  | cons a b => rfl
def keepNe (m : Int) (x : PyData) : Option PyData := match x with
  | .int j => if j = m then none else some (.int j)
  | _ => none
theorem keepNe_map (m : Int) : ∀ left : List Int, (encI left).filterMap (keepNe m) = encI (left.filter (fun x => x != m))
  | [] => rfl
  | a :: r => by
    show List.filterMap (keepNe m) (.int a :: encI r) = _
    rw [List.filterMap_cons, List.filter_cons, keepNe_map m r]
    by_cases q : a = m
    · subst q; simp [keepNe]
    · simp [keepNe, q, encI]
theorem order {A : Arn} {n k : Nat} (hw : Wl A n) (hp : plain A) (hk : k ≤ 1000) :
    (m__law_order [.ref n, .p (.int k)] A).To fun d A' => (∃ os : List Int, d = .p (.list (encI os)) ∧ os.length = k ∧ os.Nodup ∧ ∀ x, x ∈ os ↔ 0 ≤ x ∧ x < k) ∧ Wup A n A' := by
  unfold m__law_order
  refine To_def ?_
  unfold b__law_order
  have hlt := hw.lt
  simp
  refine ⟨by omega, _, _, ⟨rfl, rfl⟩, ?_⟩
  show (whileN _ _ 100000 _ _).To _ _
  refine while_inv (fun j s B => ∃ (left os : List Int) (y4 y5 : Option D) (A1 : Arn), s = [some (.ref n), some (.p (.int k)), some (.p (.list (encI left))), some (.ref A.length), y4, y5] ∧ B = A1 ++ [.lst (encI os)] ∧ Wup A n A1 ∧ left.Nodup ∧ os.Nodup ∧ (∀ x, x ∈ os → x ∉ left) ∧ (∀ x, (x ∈ os ∨ x ∈ left) ↔ 0 ≤ x ∧ x < k) ∧ os.length + left.length = k ∧ j = left.length) ?_ 100000 k _ _ (by omega) ?_
  · rintro j s B ⟨left, os, y4, y5, A1, rfl, rfl, up, n1, n2, dis, mem, len, rfl⟩
    have hp1 := up.plain hp
    have hw1 := up.wl hw
    have hl1 : A1.length = A.length := up.length
    simp [ne_nil]
    by_cases c : left = []
    · subst c
      left
      have hL : lst (A1 ++ [O.lst (encI os)]) A.length = some (encI os) := by rw [← hl1]; exact lst_new
      refine ⟨rfl, ?_⟩
      rw [close_r (plain_snoc hp1) (Nat.le_refl _) hL, ← hl1, List.take_left]
      exact ⟨⟨os, rfl, by simpa using len, n2, fun x => by simpa using mem x⟩, up⟩
    · right
      have hpos : 0 < left.length := List.length_pos_iff.mpr c
      refine ⟨c, hpos, (pick (c := .list (encI left)) (xs := encI left) hw1.app (plain_snoc hp1) (fun e => ?_) (by rw [encI_length]; omega) (.inr rfl)).mono ?_⟩
      · have := congrArg List.length e
        rw [encI_length, List.length_nil] at this
        omega
      rintro d B ⟨⟨x, rfl, hx⟩, u⟩
      obtain ⟨m, hm, rfl⟩ := List.mem_map.mp hx
      obtain ⟨A2, rfl, u2⟩ := u.app (by omega)
      have up2 := up.trans u2
      have hl2 : A2.length = A.length := up2.length
      have hL : lst (A2 ++ [O.lst (encI os)]) A.length = some (encI os) := by rw [← hl2]; exact lst_new
      have hS : ∀ o o' : O, (A2 ++ [o]).set A.length o' = A2 ++ [o'] := fun o o' => by rw [← hl2]; exact set_new
      have hE : encI os ++ [PyData.int m] = encI (os ++ [m]) := by unfold encI; rw [List.map_append]; rfl
      have hlo : os.length < 100000 := by omega
      simp [hL, hS, encI_length, hlo, hE]
      refine To_comp (keepNe m) ?_
      simp
      refine ⟨by rw [encI_length]; omega, ?_, ?_⟩
      · intro x hx
        obtain ⟨j, _, rfl⟩ := List.mem_map.mp hx
        refine turn_of (f := keepNe m) ⟨_, rfl, ?_⟩
        simp [wipeS, keepNe]
        by_cases q : j = m <;> simp [q]
      · have hf : (encI left).filterMap (keepNe m) = encI (left.erase m) := by
          rw [n1.erase_eq_filter, keepNe_map]
        refine ⟨(left.erase m).length, ?_, left.erase m, hf, os ++ [m], A2, ⟨rfl, rfl⟩, up2, n1.erase m, ?_, ?_, ?_, ?_, rfl⟩
        · rw [List.length_erase_of_mem hm]; omega
        · rw [List.nodup_append]
          refine ⟨n2, by simp, fun a ha b hb => ?_⟩
          rw [List.mem_singleton] at hb
          subst hb
          rintro rfl
          exact dis a ha hm
        · intro x hx
          rw [n1.mem_erase_iff]
          rcases List.mem_append.mp hx with hx | hx
          · exact fun h => dis x hx h.2
          · rw [List.mem_singleton] at hx
            exact fun h => h.1 hx
        · intro x
          rw [← mem x, n1.mem_erase_iff, List.mem_append, List.mem_singleton]
          by_cases q : x = m
          · subst q; simp [hm]
          · simp [q]
        · rw [List.length_append, List.length_erase_of_mem hm, List.length_cons, List.length_nil]; omega
  · refine ⟨(List.range k).map fun (i : Nat) => (i : Int), [], none, none, A, ?_, rfl, Wup.refl hw, ?_, List.nodup_nil, fun x h => by simp at h, fun x => ?_, by simp, by simp⟩
    · simp [encI, rangeD]
    · rw [List.nodup_iff_pairwise_ne, List.pairwise_map]
      exact List.nodup_range.imp fun h e => h (by omega)
    · simp only [List.not_mem_nil, false_or, List.mem_map, List.mem_range]
      constructor
      · rintro ⟨i, hi, rfl⟩; omega
      · rintro ⟨h0, h1⟩; exact ⟨x.toNat, by omega, by omega⟩
end Lw
end

section
set_option maxHeartbeats 4000000
namespace Lw
open PySem PySem.W Mi
def In (v : Int) (p : Ed) : Prop := 0 ≤ p.1 ∧ p.1 < v ∧ 0 ≤ p.2 ∧ p.2 < v
structure GOkay (v : Int) (es : List Ed) : Prop where
  lo : 1 ≤ v
  hi : v ≤ 10
  len : es.length ≤ 24
  asc : es.Pairwise pLt
  inn : ∀ p, p ∈ es → 0 ≤ p.1 ∧ p.1 < p.2 ∧ p.2 < v
theorem nrm_in {v : Int} {p : Ed} (h : In v p) : In v (nrm p) := by
  unfold nrm In at *
  split
  · exact h
  · exact ⟨h.2.2.1, h.2.2.2, h.1, h.2.1⟩
def ren (os : List Int) (p : Ed) : Ed := (os.getD p.1.toNat 0, os.getD p.2.toNat 0)
def renF (os : List Int) (x : PyData) : Option PyData := match x with
  | .tuple [.int a, .int b] => some (encP (ren os (a, b)))
  | _ => none
theorem renF_map (os : List Int) : ∀ es : List Ed, (encE es).filterMap (renF os) = encE (es.map (ren os))
  | [] => rfl
  | p :: r => by
    show List.filterMap (renF os) (encP p :: encE r) = _
    rw [List.filterMap_cons, renF_map os r]
    rfl
theorem at_enc {os : List Int} {i : Int} (h0 : 0 ≤ i) (h1 : i < os.length) : L2.atI (encI os) i = some (.int (os.getD i.toNat 0)) := by
  obtain ⟨j, rfl⟩ := Int.eq_ofNat_of_zero_le h0
  have hj : j < os.length := by omega
  refine at_nat ?_
  unfold encI
  rw [List.getElem?_map, List.getElem?_eq_getElem hj]
  simp [List.getD, hj]
theorem named {A : Arn} {v : Int} {es : List Ed} {os : List Int} (hp : plain A) (hl : es.length ≤ 2000) (h : ∀ p, p ∈ es → In os.length p) :
    (m__law_named [.p (encG v es), .p (.list (encI os))] A).To fun d A' => d = .p (encG v (keptE (es.map (ren os)))) ∧ A' = A := by
  unfold m__law_named
  refine To_def ?_
  unfold b__law_named
  simp [encG]
  refine To_comp (renF os) ?_
  simp
  refine ⟨by rw [encE_length]; omega, ?_, ?_⟩
  · intro x hx
    obtain ⟨p, hp2, rfl⟩ := List.mem_map.mp hx
    have hin := h p hp2
    unfold In at hin
    refine turn_of (f := renF os) ⟨_, rfl, ?_⟩
    simp [wipeS, at_enc hin.1 hin.2.1, at_enc hin.2.2.1 hin.2.2.2]
    rfl
  · rw [renF_map]
    refine (kept (es := es.map (ren os)) hp (.inl rfl) (by rw [List.length_map]; exact hl)).mono ?_
    rintro d A' ⟨rfl, rfl⟩
    simp [hp]
theorem cut_tail {α : Type} {x : α} {xs : List α} : cutD' (x :: xs) (some 1) none = xs := by
  unfold cutD' HT.sIx
  simp
end Lw
end

section
set_option maxHeartbeats 4000000
namespace Mi
open PySem PySem.W
def Lg (A : Arn) (n : Nat) (B : Arn) : Prop := ∃ A1 G, B = A1 ++ G ∧ Wup A n A1 ∧ plain G
section
variable {A B B' : Arn} {n m : Nat}
theorem Lg.refl (h : Wl A n) : Lg A n A := ⟨A, [], by rw [List.append_nil], Wup.refl h, plain_nil⟩
theorem Lg.draw (h : Lg A n B) (hw : Wl A n) (u : Wup B n B') : Lg A n B' := by
  obtain ⟨A1, G, rfl, u1, pg⟩ := h
  obtain ⟨A2, rfl, u2⟩ := u.app (by rw [u1.length]; exact hw.lt)
  exact ⟨A2, G, rfl, u1.trans u2, pg⟩
theorem Lg.wl (h : Lg A n B) (hw : Wl A n) : Wl B n := by
  obtain ⟨A1, G, rfl, u1, pg⟩ := h
  exact (u1.wl hw).app
theorem Lg.plain (h : Lg A n B) (hp : Mi.plain A) : Mi.plain B := by
  obtain ⟨A1, G, rfl, u1, pg⟩ := h
  exact plain_app (u1.plain hp) pg
theorem Lg.len (h : Lg A n B) : A.length ≤ B.length := by
  obtain ⟨A1, G, rfl, u1, pg⟩ := h
  rw [List.length_append, u1.length]
  omega
theorem Lg.take (h : Lg A n B) : Wup A n (B.take A.length) := by
  obtain ⟨A1, G, rfl, u1, pg⟩ := h
  rw [← u1.length, List.take_left]
  exact u1
theorem Lg.snoc (h : Lg A n B) (xs : List PyData) : Lg A n (B ++ [.lst xs]) := by
  obtain ⟨A1, G, rfl, u1, pg⟩ := h
  exact ⟨A1, G ++ [.lst xs], by rw [List.append_assoc], u1, plain_app pg plain_one⟩
theorem Lg.setO (h : Lg A n B) (hm : A.length ≤ m) {o : O} (ho : ∀ ns, o ≠ .refs ns) : Lg A n (B.set m o) := by
  obtain ⟨A1, G, rfl, u1, pg⟩ := h
  refine ⟨A1, G.set (m - A1.length) o, ?_, u1, plain_set pg ho⟩
  rw [List.set_append_right _ _ (by rw [u1.length]; exact hm)]
theorem Lg.set (h : Lg A n B) (hm : A.length ≤ m) (xs : List PyData) : Lg A n (B.set m (.lst xs)) := h.setO hm fun ns e => by cases e
theorem Lg.gone (h : Lg A n B) (hm : A.length ≤ m) : Lg A n (B.set m .gone) := h.setO hm fun ns e => by cases e
theorem Wup.lst (u : Wup B n B') (h : m ≠ n) : lst B' m = lst B m := by
  unfold Mi.lst
  rw [u.other h]
theorem Lg.close {P : D → Arn → Prop} (h : Lg A n B) (hp : Mi.plain A) {x : PyData} (k : P (.p x) (B.take A.length)) : (closeV A.length (.p x) B).To P := (To_close (h.plain hp)).mpr k
theorem lst_lt {xs : List PyData} (h : Mi.lst B m = some xs) : m < B.length := (List.getElem?_eq_some_iff.mp (lst_iff.mp h)).1
theorem lst_snoc {xs : List PyData} : Mi.lst (B ++ [.lst xs]) B.length = some xs := lst_new
end
end Mi
namespace Lw
open PySem PySem.W Mi
theorem pairsTo_In {v : Nat} {p : Ed} (h : p ∈ pairsTo v v) : In v p := by
  have := pairsTo_mem h
  unfold In
  omega
theorem len_E {es : List Ed} (h : es.length ≤ 100000) : fLen [.list (encE es)] = some (.int es.length) := by
  unfold fLen
  dsimp only
  rw [if_pos (by rw [encE_length]; exact h), encE_length]
theorem len_T {es : List Ed} (h : es.length ≤ 100000) : fLen [.tuple (encE es)] = some (.int es.length) := by
  unfold fLen
  dsimp only
  rw [if_pos (by rw [encE_length]; exact h), encE_length]
@[simp] theorem encG_0 {v : Int} {es : List Ed} : fIx (encG v es) (.int 0) = some (.int v) := at_0
@[simp] theorem encG_1 {v : Int} {es : List Ed} : fIx (encG v es) (.int 1) = some (.tuple (encE es)) := at_1
theorem ren_in {os : List Int} {v : Nat} (hl : os.length = v) (h : ∀ x, x ∈ os ↔ 0 ≤ x ∧ x < (v : Int)) {p : Ed} (hp : In v p) : In v (ren os p) := by
  unfold In at hp
  have g : ∀ i : Int, 0 ≤ i → i < v → 0 ≤ os.getD i.toNat 0 ∧ os.getD i.toNat 0 < (v : Int) := fun i h0 h1 => by
    have hi : i.toNat < os.length := by omega
    have : os.getD i.toNat 0 = os[i.toNat] := by simp [List.getD, hi]
    rw [this]
    exact (h _).mp (List.getElem_mem hi)
  have h1 := g p.1 hp.1 hp.2.1
  have h2 := g p.2 hp.2.2.1 hp.2.2.2
  exact ⟨h1.1, h1.2, h2.1, h2.2⟩
end Lw
end

section
set_option maxHeartbeats 4000000
namespace Lw
open PySem PySem.W Mi
mutual
/-- no row is long -/
def lenB : PyData → Bool
  | .tuple xs => decide (xs.length ≤ 1000) && lenBAll xs
  | .list xs => decide (xs.length ≤ 1000) && lenBAll xs
  | _ => true
def lenBAll : List PyData → Bool
  | [] => true
  | x :: xs => lenB x && lenBAll xs
end
theorem lenB_mem : ∀ {xs : List PyData} {x : PyData}, lenBAll xs = true → x ∈ xs → lenB x = true
  | [], _, _, h => by simp at h
  | y :: ys, x, h, hx => by
    rw [lenBAll, Bool.and_eq_true] at h
    rcases List.mem_cons.mp hx with rfl | hx
    · exact h.1
    · exact lenB_mem h.2 hx
theorem lenB_tup {xs : List PyData} (h : lenB (.tuple xs) = true) : xs.length ≤ 1000 ∧ lenBAll xs = true := by
  rw [lenB, Bool.and_eq_true, decide_eq_true_eq] at h
  exact h
def isIntD (d : PyData) : Bool := match d with
  | .int _ => true
  | _ => false
def isRow2 (d : PyData) : Bool := match d with
  | .tuple [_, _] => true
  | _ => false
def isWR (d : PyData) : Bool := match d with
  | .tuple [.int _, .int _] => true
  | _ => false
def isE (v : Int) (d : PyData) : Bool := match d with
  | .tuple [.int a, .int b] => decide (0 ≤ a) && decide (a < b) && decide (b < v)
  | _ => false
section
variable {A : Arn} {d : PyData}
theorem is_whole (hp : plain A) : (m_is_whole [.p d] A).To fun r A' => r = .p (.bool (isIntD d)) ∧ A' = A := by
  unfold m_is_whole
  refine To_def ?_
  unfold b_is_whole
  simp [hp]
  cases d <;> simp [tyName, isIntD]
theorem is_row (hp : plain A) (hl : lenB d = true) : (m_is_row [.p d, .p (.int 2)] A).To fun r A' => r = .p (.bool (isRow2 d)) ∧ A' = A := by
  unfold m_is_row
  refine To_def ?_
  unfold b_is_row
  cases d with
  | tuple xs =>
    have h := lenB_tup hl
    have hf : fLen [.tuple xs] = some (.int xs.length) := by
      unfold fLen
      dsimp only
      rw [if_pos (by omega)]
    have e : isRow2 (.tuple xs) = decide ((xs.length : Int) = 2) := by
      match xs with
      | [] => rfl
      | [a] => rfl
      | [a, b] => rfl
      | a :: b :: c :: r =>
        have : ¬ (((a :: b :: c :: r).length : Int) = 2) := by simp only [List.length_cons]; omega
        rw [decide_eq_false this]
        rfl
    simp [hp, tyName, hf, e]
  | none => simp [hp, tyName, isRow2]
  | bool b => simp [hp, tyName, isRow2]
  | int b => simp [hp, tyName, isRow2]
  | str b => simp [hp, tyName, isRow2]
  | list b => simp [hp, tyName, isRow2]
  | dict b => simp [hp, tyName, isRow2]
theorem boolsOf_map (f : PyData → Bool) : ∀ xs : List PyData, boolsOf (xs.filterMap fun x => some (.bool (f x))) = some (xs.map f)
  | [] => rfl
  | x :: xs => by
    rw [List.filterMap_cons]
    show boolsOf (.bool (f x) :: _) = _
    unfold boolsOf
    rw [boolsOf_map f xs]
    rfl
theorem all_map (f : PyData → Bool) (xs : List PyData) : fAll [.list (xs.filterMap fun x => some (.bool (f x)))] = some (.bool (xs.all f)) := by
  unfold fAll
  dsimp only
  rw [boolsOf_map]
  simp
theorem all_map2 (f : PyData → Bool) (xs : List PyData) : fAll [.list (xs.map fun x => .bool (f x))] = some (.bool (xs.all f)) := by
  rw [← all_map, ← List.filterMap_eq_map]
  rfl
def isWs (d : PyData) : Bool := match d with
  | .tuple xs => xs.all isIntD
  | _ => false
theorem are_whole (hp : plain A) (hl : lenB d = true) : (m_are_whole [.p d] A).To fun r A' => r = .p (.bool (isWs d)) ∧ A' = A := by
  unfold m_are_whole
  refine To_def ?_
  unfold b_are_whole
  cases d with
  | tuple xs =>
    simp [hp, tyName]
    refine To_comp (fun x => some (.bool (isIntD x))) ?_
    have ht : ∀ x, turnC (gN 1) mYes (mCall m_is_whole (aCons (mVar 1) aNil)) (wipeS [some (.p (.tuple xs)), none] [1]) x A = .ok (some (.bool (isIntD x))) A := fun x => by
      refine turn_of (f := fun x => some (.bool (isIntD x))) ⟨_, rfl, ?_⟩
      simp [wipeS]
      refine (is_whole hp).mono ?_
      rintro r A2 ⟨rfl, rfl⟩
      simp
    simp only [To_iS, To_var0, frz_p, Option.bind_some, items_t, Option.map_some, To_o0]
    refine ⟨trivial, by have := (lenB_tup hl).1; omega, fun x _ => ht x, ?_⟩
    rw [all_map]
    simp [hp, isWs]
  | none => simp [hp, tyName, isWs]
  | bool b => simp [hp, tyName, isWs]
  | int b => simp [hp, tyName, isWs]
  | str b => simp [hp, tyName, isWs]
  | list b => simp [hp, tyName, isWs]
  | dict b => simp [hp, tyName, isWs]
theorem is_whole_row (hp : plain A) (hl : lenB d = true) : (m_is_whole_row [.p d, .p (.int 2)] A).To fun r A' => r = .p (.bool (isWR d)) ∧ A' = A := by
  unfold m_is_whole_row
  refine To_def ?_
  unfold b_is_whole_row
  simp
  refine (is_row hp hl).mono ?_
  rintro r A' ⟨rfl, rfl⟩
  cases hr : isRow2 d with
  | false =>
    have : isWR d = false := by
      unfold isWR
      unfold isRow2 at hr
      split
      · simp at hr
      · rfl
    simp [hp, this]
  | true =>
    obtain ⟨a, b, rfl⟩ : ∃ a b, d = .tuple [a, b] := by
      unfold isRow2 at hr
      split at hr
      · exact ⟨_, _, rfl⟩
      · cases hr
    have e : isWR (.tuple [a, b]) = isWs (.tuple [a, b]) := by
      cases a <;> cases b <;> rfl
    simp
    refine (are_whole hp hl).mono ?_
    rintro r A2 ⟨rfl, rfl⟩
    simp [hp, e]
theorem could_be_edge (hp : plain A) (hl : lenB d = true) {v : Int} : (m__could_be_edge [.p d, .p (.int v)] A).To fun r A' => r = .p (.bool (isE v d)) ∧ A' = A := by
  unfold m__could_be_edge
  refine To_def ?_
  unfold b__could_be_edge
  simp
  refine (is_whole_row hp hl).mono ?_
  rintro r A' ⟨rfl, rfl⟩
  cases hr : isWR d with
  | false =>
    have : isE v d = false := by
      unfold isE
      unfold isWR at hr
      split
      · simp at hr
      · rfl
    simp [hp, this]
  | true =>
    obtain ⟨a, b, rfl⟩ : ∃ a b, d = .tuple [.int a, .int b] := by
      unfold isWR at hr
      split at hr
      · exact ⟨_, _, rfl⟩
      · cases hr
    by_cases c1 : 0 ≤ a
    · by_cases c2 : a < b
      · have c2' : ¬ b ≤ a := by omega
        simp [hp, c1, c2, c2', isE]
      · have c2' : b ≤ a := by omega
        simp [hp, c1, c2, c2', isE]
    · have c1' : a < 0 := by omega
      simp [hp, c1, c1', isE]
def ascB : List Ed → Bool
  | [] => true
  | [_] => true
  | p :: q :: r => decide (pLt p q) && ascB (q :: r)
theorem depth_P (p : Ed) : (encP p).depth = 1 := by
  simp [encP, PyData.depth, PyData.depthAll]
theorem cmpP (p q : Ed) : comparable (encP p) (encP q) = true := by
  unfold comparable
  rw [alikeP, depth_P, depth_P]
  rfl
theorem ndP (p : Ed) : Mi.noDict (encP p) = true := rfl
theorem lt_P (p q : Ed) : ordD gLt (encP p) (encP q) = some (.bool (decide (pLt p q))) := by
  unfold ordD
  rw [if_pos ⟨cmpP p q, ndP p, ndP q⟩]
  unfold gLt
  rw [lt_pp]
theorem asc_range : ∀ es : List Ed, ((List.range (es.length - 1)).all fun k => decide (pLt (es.getD k (0, 0)) (es.getD (k + 1) (0, 0)))) = ascB es
  | [] => rfl
  | [_] => rfl
  | p :: q :: r => by
    have ih := asc_range (q :: r)
    have e : (p :: q :: r).length - 1 = ((q :: r).length - 1) + 1 := by simp
    rw [e, List.range_succ_eq_map, List.all_cons, List.all_map, ascB, ← ih]
    rfl
theorem asc_iff : ∀ es : List Ed, ascB es = true ↔ es.Pairwise pLt
  | [] => by simp [ascB]
  | [_] => by simp [ascB]
  | p :: q :: r => by
    rw [ascB, Bool.and_eq_true, decide_eq_true_eq, asc_iff (q :: r), List.pairwise_cons (a := p)]
    have tr : ∀ a b c : Ed, pLt a b → pLt b c → pLt a c := fun a b c h k => by unfold pLt at *; omega
    constructor
    · rintro ⟨h, k⟩
      refine ⟨fun x hx => ?_, k⟩
      rcases List.mem_cons.mp hx with rfl | hx
      · exact h
      · exact tr _ _ _ h ((List.pairwise_cons.mp k).1 x hx)
    · rintro ⟨h, k⟩
      exact ⟨h q List.mem_cons_self, k⟩
theorem at_E {es : List Ed} {k : Nat} (h : k < es.length) : L2.atI (encE es) (k : Int) = some (encP (es.getD k (0, 0))) := by
  refine at_nat ?_
  unfold encE
  rw [List.getElem?_map, List.getElem?_eq_getElem h]
  simp [List.getD, h]
def ascF (es : List Ed) (x : PyData) : Bool := match x with
  | .int k => decide (pLt (es.getD k.toNat (0, 0)) (es.getD (k.toNat + 1) (0, 0)))
  | _ => true
theorem all_range (f : PyData → Bool) (n : Nat) : ((rangeD 0 n).all f) = (List.range n).all fun k => f (.int (k : Int)) := by
  unfold rangeD
  rw [List.all_map]
  congr 1
  funext k
  simp
theorem is_ascending {A : Arn} (hp : plain A) {es : List Ed} (hl : es.length ≤ 1000) : (m_is_ascending [.p (.tuple (encE es))] A).To fun r A' => r = .p (.bool (ascB es)) ∧ A' = A := by
  unfold m_is_ascending
  refine To_def ?_
  unfold b_is_ascending
  simp
  refine To_comp (fun x => some (.bool (ascF es x))) (To_iR1 ?_)
  have hlen := len_T (es := es) (by omega)
  simp [hlen]
  have en : ((es.length : Int) - 1).toNat = es.length - 1 := by omega
  refine ⟨by unfold small; omega, by unfold rangeD; rw [List.length_map, List.length_range]; omega, ?_, ?_⟩
  · intro x hx
    obtain ⟨k, hk, rfl⟩ := List.mem_map.mp hx
    have hk := List.mem_range.mp hk
    refine turn_of (f := fun x => some (.bool (ascF es x))) ⟨_, rfl, ?_⟩
    have e1 := at_E (es := es) (k := k) (by omega)
    have e2 : L2.atI (encE es) ((k : Int) + 1) = some (encP (es.getD (k + 1) (0, 0))) := at_E (es := es) (k := k + 1) (by omega)
    simp only [wipeS, To_op2, To_varS, To_var0, To_one, ap_C, To_ok, lift2_p, lift2o_p, fIx_t, e1, Option.map_some, To_o1, add_ii, e2, lt_P, To_yes, List.foldl_cons, List.foldl_nil]
    simp [e1, e2, lt_P, ascF]
  · rw [all_map2, all_range]
    have : ((List.range (es.length - 1)).all fun k => ascF es (.int (k : Int))) = ascB es := by
      rw [← asc_range]
      rfl
    rw [this]
    simp [hp]
def toE (d : PyData) : Ed := match d with
  | .tuple [.int a, .int b] => (a, b)
  | _ => (0, 0)
theorem isE_toE {v : Int} {d : PyData} (h : isE v d = true) : d = encP (toE d) := by
  unfold isE at h
  split at h
  · rfl
  · cases h
theorem toE_map {v : Int} : ∀ {xs : List PyData}, xs.all (isE v) = true → encE (xs.map toE) = xs
  | [], _ => rfl
  | x :: xs, h => by
    rw [List.all_cons, Bool.and_eq_true] at h
    show encP (toE x) :: encE (xs.map toE) = x :: xs
    rw [toE_map h.2, ← isE_toE h.1]
def isG (d : PyData) : Bool := match d with
  | .tuple [.int v, .tuple xs] => decide (1 ≤ v) && decide (v ≤ 10) && decide (xs.length ≤ 24) && xs.all (isE v) && ascB (xs.map toE)
  | _ => false
theorem is_graph {A : Arn} {d : PyData} (hp : plain A) (hl : lenB d = true) : (m_is_graph [.p d] A).To fun r A' => r = .p (.bool (isG d)) ∧ A' = A := by
  unfold m_is_graph
  refine To_def ?_
  unfold b_is_graph
  simp
  refine (is_row hp hl).mono ?_
  rintro r A' ⟨rfl, rfl⟩
  cases hr : isRow2 d with
  | false =>
    have : isG d = false := by
      unfold isG
      unfold isRow2 at hr
      split
      · simp at hr
      · rfl
    simp [hp, this]
  | true =>
    obtain ⟨a, b, rfl⟩ : ∃ a b, d = .tuple [a, b] := by
      unfold isRow2 at hr
      split at hr
      · exact ⟨_, _, rfl⟩
      · cases hr
    have hl2 := (lenB_tup hl).2
    have hlb : lenB b = true := lenB_mem hl2 (by simp)
    simp
    refine (is_whole hp).mono ?_
    rintro r A2 ⟨rfl, rfl⟩
    cases ha : isIntD a with
    | false =>
      have : isG (.tuple [a, b]) = false := by
        unfold isG
        split
        · rename_i e
          cases e
          simp [isIntD] at ha
        · rfl
      simp [hp, this]
    | true =>
      obtain ⟨v, rfl⟩ : ∃ v, a = .int v := by
        unfold isIntD at ha
        split at ha
        · exact ⟨_, rfl⟩
        · cases ha
      by_cases c1 : 1 ≤ v
      · by_cases c2 : v ≤ 10
        · have c1' : ¬ v < 1 := by omega
          have c2' : ¬ 10 < v := by omega
          cases b with
          | tuple xs =>
            have hx := lenB_tup hlb
            have hf : fLen [.tuple xs] = some (.int xs.length) := by
              unfold fLen
              dsimp only
              rw [if_pos (by omega)]
            by_cases c3 : xs.length ≤ 24
            · have c3' : ¬ (24 : Int) < (xs.length : Int) := by omega
              have c3'' : (xs.length : Int) ≤ 24 := by omega
              simp [c1, c2, c1', c2', tyName, hf, c3', c3'']
              refine To_comp (fun x => some (.bool (isE v x))) ?_
              simp only [To_iS, To_varS, To_var0, To_two, To_one, frz_p, Option.bind_some, items_t, Option.map_some, To_o0]
              refine ⟨trivial, by omega, fun x hxm => ?_, ?_⟩
              · refine turn_of (f := fun x => some (.bool (isE v x))) ⟨_, rfl, ?_⟩
                simp [wipeS]
                refine (could_be_edge hp (lenB_mem hx.2 hxm)).mono ?_
                rintro r A3 ⟨rfl, rfl⟩
                simp
              · rw [all_map]
                cases hall : xs.all (isE v) with
                | false => simp [hp, isG, hall]
                | true =>
                  have he := toE_map hall
                  simp
                  rw [← he]
                  refine (is_ascending hp (by rw [List.length_map]; omega)).mono ?_
                  rintro r A3 ⟨rfl, rfl⟩
                  simp [hp, isG, he, hall, c1, c2, c3]
            · have c3' : (24 : Int) < (xs.length : Int) := by omega
              simp [c1, c2, c1', c2', tyName, hf, c3', hp, isG, c3]
          | none => simp [c1, c2, c1', c2', tyName, hp, isG]
          | bool b => simp [c1, c2, c1', c2', tyName, hp, isG]
          | int b => simp [c1, c2, c1', c2', tyName, hp, isG]
          | str b => simp [c1, c2, c1', c2', tyName, hp, isG]
          | list b => simp [c1, c2, c1', c2', tyName, hp, isG]
          | dict b => simp [c1, c2, c1', c2', tyName, hp, isG]
        · have c2' : 10 < v := by omega
          have c1' : ¬ v < 1 := by omega
          have : isG (.tuple [.int v, b]) = false := by
            unfold isG
            split
            · rename_i e
              cases e
              simp [c2]
            · rfl
          simp [c1, c1', c2, c2', hp, this]
      · have c1' : v < 1 := by omega
        have : isG (.tuple [.int v, b]) = false := by
          unfold isG
          split
          · rename_i e
            cases e
            simp [c1]
          · rfl
        simp [c1, c1', hp, this]
theorem GOkay.isG {v : Int} {es : List Ed} (h : GOkay v es) : Lw.isG (encG v es) = true := by
  have h1 : (encE es).all (isE v) = true := by
    rw [List.all_eq_true]
    intro x hx
    obtain ⟨p, hp, rfl⟩ := List.mem_map.mp hx
    have := h.inn p hp
    unfold encP isE
    simp
    omega
  have h2 : (encE es).map toE = es := by
    unfold encE
    rw [List.map_map]
    exact List.map_id' _
  unfold encG Lw.isG
  dsimp only
  rw [h1, h2, (asc_iff es).mpr h.asc, encE_length]
  simp [h.lo, h.hi, h.len]
end
end Lw
end

section
set_option maxHeartbeats 4000000
namespace Lw
open PySem PySem.W Mi
section
variable {A : Arn} {d : PyData}
end
end Lw
end

section
set_option maxHeartbeats 4000000
namespace Lw
open PySem PySem.W Mi
structure Sm (k w : Nat) (d : PyData) : Prop where
  shw : d.showable = true
  lvs : PyData.leavesShort 50 d = true
  len : lenB d = true
  dep : d.depth ≤ k
  wgt : d.weight ≤ w
def smB (k w : Nat) (d : PyData) : Bool := d.showable && PyData.leavesShort 50 d && lenB d && decide (d.depth ≤ k) && decide (d.weight ≤ w)
theorem smB_ok {k w : Nat} {d : PyData} (h : smB k w d = true) : Sm k w d := by
  unfold smB at h
  simp only [Bool.and_eq_true, decide_eq_true_eq] at h
  exact ⟨h.1.1.1.1, h.1.1.1.2, h.1.1.2, h.1.2, h.2⟩
theorem Sm.mono {k w k2 w2 : Nat} {d : PyData} (h : Sm k w d) (a : k ≤ k2) (b : w ≤ w2) : Sm k2 w2 d := ⟨h.shw, h.lvs, h.len, Nat.le_trans h.dep a, Nat.le_trans h.wgt b⟩
theorem sm_int {i : Int} (h0 : -30 ≤ i) (h1 : i ≤ 30) : Sm 0 5 (.int i) := by
  have h : ∀ n : Fin 61, smB 0 5 (.int ((n.val : Int) - 30)) = true := by decide +kernel
  have := h ⟨(i + 30).toNat, by omega⟩
  have e : (((i + 30).toNat : Nat) : Int) - 30 = i := by omega
  dsimp only at this
  rw [e] at this
  exact smB_ok this
theorem sm_all {k w : Nat} : ∀ {xs : List PyData}, (∀ x, x ∈ xs → Sm k w x) → PyData.showableAll xs = true ∧ PyData.leavesShortAll 50 xs = true ∧ lenBAll xs = true ∧ PyData.depthAll xs ≤ k ∧ PyData.weightAll xs ≤ xs.length * (w + 1)
  | [], _ => ⟨rfl, rfl, rfl, Nat.zero_le _, by simp [PyData.weightAll]⟩
  | x :: xs, h => by
    obtain ⟨a, b, c, d, e⟩ := sm_all fun y hy => h y (List.mem_cons_of_mem _ hy)
    have hx := h x List.mem_cons_self
    refine ⟨by rw [PyData.showableAll, hx.shw, a]; rfl, by rw [PyData.leavesShortAll, hx.lvs, b]; rfl, by rw [lenBAll, hx.len, c]; rfl, by rw [PyData.depthAll]; exact Nat.max_le.mpr ⟨hx.dep, d⟩, ?_⟩
    rw [PyData.weightAll, List.length_cons, Nat.succ_mul]
    have := hx.wgt
    omega
theorem sm_tup {k w : Nat} {xs : List PyData} (h : ∀ x, x ∈ xs → Sm k w x) (hl : xs.length ≤ 1000) : Sm (k + 1) (xs.length * (w + 1)) (.tuple xs) := by
  obtain ⟨a, b, c, d, e⟩ := sm_all h
  exact ⟨by rw [PyData.showable]; exact a, by rw [PyData.leavesShort]; exact b, by rw [lenB, c, decide_eq_true hl]; rfl, by rw [PyData.depth]; omega, by rw [PyData.weight]; exact e⟩
def Nd (d : PyData) : Prop := Mi.noDict d = true ∨ noList d = true
theorem nd_all {xs : List PyData} (h : ∀ x, x ∈ xs → Mi.noDict x = true) : noDictAll xs = true := by
  induction xs with
  | nil => rfl
  | cons x xs ih => rw [noDictAll, h x List.mem_cons_self, ih fun y hy => h y (List.mem_cons_of_mem _ hy)]; rfl
def Th (d : PyData) : Prop := ∃ k w, k ≤ 20 ∧ w ≤ 100000 ∧ Sm k w d ∧ Nd d
theorem Th.len {d : PyData} (h : Th d) : lenB d = true := by
  obtain ⟨k, w, _, _, s, _⟩ := h
  exact s.len
theorem Th.repr {d : PyData} (h : Th d) : fRepr [d] = some (.str d.shown) := by
  obtain ⟨k, w, hk, hw, s, n⟩ := h
  unfold fRepr
  dsimp only
  have h1 := PyData.shown_le 50 (by decide) d s.lvs
  have h2 := s.wgt
  have h3 : (50 + 2) * d.weight ≤ 52 * 100000 := Nat.mul_le_mul_left 52 (by omega)
  have h4 : 52 * 100000 + 50 ≤ sizeLine := by decide
  exact if_pos ⟨s.shw, n, Nat.le_trans s.dep (by omega), by omega⟩
def stranges : List PyData := [.none, .bool true, .bool false, .int 0, .int 1, .int 7, .int (-1), .int 11, .int (10 ^ 30), .str "", .str "3:", .str "3: 0-1", .tuple [], .tuple [.int 0], .tuple [.int 0, .int 1], .tuple [.int 1, .int 0], .list [], .list [.int 0, .int 1],
  .tuple [.int 3, .tuple []], .tuple [.int 3, .tuple [.tuple [.int 0, .int 1]]], .tuple [.int 3, .tuple [.tuple [.int 1, .int 0]]], .tuple [.int 0, .tuple []], .tuple [.int 11, .tuple []], .tuple [.bool true, .tuple []], .tuple [.int 2, .list [.tuple [.int 0, .int 1]]],
  .dict [], .tuple [.tuple [.int 0, .int 1], .tuple [.int 1, .int 2]]]
theorem strange_ok {x : PyData} (h : x ∈ stranges) : Sm 4 200 x ∧ (Mi.noDict x = true ∨ noList x = true) := by
  have : stranges.all (fun x => smB 4 200 x && (Mi.noDict x || noList x)) = true := by decide +kernel
  have := List.all_eq_true.mp this x h
  rw [Bool.and_eq_true, Bool.or_eq_true] at this
  exact ⟨smB_ok this.1, this.2⟩
theorem pow_30 : fPow (.int 10) (.int 30) = some (.int (10 ^ 30)) := rfl
theorem strange {A : Arn} {n : Nat} (hw : Wl A n) (hp : plain A) : (m__law_strange [.ref n] A).To fun d A' => (∃ x, d = .p x ∧ x ∈ stranges) ∧ Wup A n A' := by
  unfold m__law_strange
  refine To_def ?_
  unfold b__law_strange
  simp [pow_30]
  simp [fAdd]
  refine (pick (c := .tuple stranges) (xs := stranges) hw hp (by simp [stranges]) (by decide) (.inl rfl)).mono ?_
  rintro d A' ⟨⟨x, rfl, hx⟩, u⟩
  have ht : A'.take A.length = A' := List.take_of_length_le (Nat.le_of_eq u.length)
  simp [u.plain hp, ht]
  exact ⟨hx, u⟩
end Lw
end

section
set_option maxHeartbeats 4000000
namespace Lw
open PySem PySem.W Mi
def Lo (p : Ed) : Prop := -20 ≤ p.1 ∧ p.1 ≤ 20 ∧ -20 ≤ p.2 ∧ p.2 ≤ 20
theorem sm_P {p : Ed} (h : Lo p) : Sm 1 12 (encP p) := by
  unfold Lo at h
  refine (sm_tup (k := 0) (w := 5) (xs := [.int p.1, .int p.2]) (fun x hx => ?_) (by simp)).mono (by omega) (by simp)
  rcases List.mem_cons.mp hx with rfl | hx
  · exact sm_int (by omega) (by omega)
  · rw [List.mem_singleton] at hx
    subst hx
    exact sm_int (by omega) (by omega)
structure El (x : PyData) : Prop where
  sm : Sm 6 400 x
  nd : Mi.noDict x = true ∨ noList x = true
theorem El.P {p : Ed} (h : Lo p) : El (encP p) := ⟨(sm_P h).mono (by omega) (by omega), .inl (ndP p)⟩
theorem El.strange {x : PyData} (h : x ∈ stranges) : El x := ⟨(strange_ok h).1.mono (by omega) (by omega), (strange_ok h).2⟩
theorem th_tup {xs : List PyData} {k w : Nat} (h : ∀ x, x ∈ xs → Sm k w x ∧ Mi.noDict x = true) (hk : k ≤ 19) (hl : xs.length ≤ 10) (hw : w ≤ 9000) : Th (.tuple xs) := by
  have s := sm_tup (fun x hx => (h x hx).1) (by omega)
  have hm : xs.length * (w + 1) ≤ 10 * 9001 := Nat.mul_le_mul hl (by omega)
  refine ⟨k + 1, xs.length * (w + 1), by omega, by omega, s, .inl ?_⟩
  rw [Mi.noDict]
  exact nd_all fun x hx => (h x hx).2
theorem sm_E {es : List Ed} (h : ∀ p, p ∈ es → Lo p) (hl : es.length ≤ 100) : Sm 2 1300 (.tuple (encE es)) ∧ Mi.noDict (.tuple (encE es)) = true := by
  have a : ∀ x, x ∈ encE es → Sm 1 12 x := fun x hx => by
    obtain ⟨p, hp, rfl⟩ := List.mem_map.mp hx
    exact sm_P (h p hp)
  have hm : (encE es).length * (12 + 1) ≤ 100 * 13 := Nat.mul_le_mul_right 13 (by rw [encE_length]; exact hl)
  refine ⟨(sm_tup a (by rw [encE_length]; omega)).mono (by omega) (by omega), ?_⟩
  rw [Mi.noDict]
  exact nd_all fun x hx => by
    obtain ⟨p, hp, rfl⟩ := List.mem_map.mp hx
    exact ndP p
theorem sm_I {v : Int} (h : -20 ≤ v ∧ v ≤ 20) : Sm 2 1300 (.int v) ∧ Mi.noDict (.int v) = true := ⟨(sm_int (by omega) (by omega)).mono (by omega) (by omega), rfl⟩
theorem th_G {v : Int} {es : List Ed} (hv : -20 ≤ v ∧ v ≤ 20) (h : ∀ p, p ∈ es → Lo p) (hl : es.length ≤ 100) : Th (encG v es) :=
  th_tup (k := 2) (w := 1300) (fun x hx => by
    rcases List.mem_cons.mp hx with rfl | hx
    · exact sm_I hv
    · rw [List.mem_singleton] at hx
      rw [hx]
      exact sm_E h hl) (by omega) (by simp) (by omega)
theorem GOkay.lo_ {v : Int} {es : List Ed} (h : GOkay v es) : ∀ p, p ∈ es → Lo p := fun p hp => by
  have := h.inn p hp
  have := h.hi
  unfold Lo
  omega
theorem full {A : Arn} {n : Nat} {e : Nat} (hw : Wl A n) (hp : plain A) (he : e ≤ 45) : (m__law_full [.ref n, .p (.int e)] A).To fun d A' => (∃ x, d = .p x ∧ Th x) ∧ Wup A n A' := by
  have hlt := hw.lt
  unfold m__law_full
  refine To_def ?_
  unfold b__law_full
  simp
  have hB := (Lg.refl hw).snoc []
  refine (order (k := 45) (hB.wl hw) (hB.plain hp) (by omega)).mono ?_
  rintro d B ⟨⟨os, rfl, ol, ond, omem⟩, u⟩
  have hB1 := hB.draw hw u
  have hl1 : lst B A.length = some (encE []) := by
    rw [u.lst (by omega)]
    exact lst_snoc
  simp
  refine forL_to (fun i s C => ∃ (es : List Ed) (y : Option D), s = [some (.ref n), some (.p (.int e)), some (.ref A.length), y] ∧ Lg A n C ∧ lst C A.length = some (encE es) ∧ es.length = i ∧ ∀ p, p ∈ es → In 10 p) ?_ ⟨[], none, rfl, hB1, hl1, rfl, fun p hp => by simp at hp⟩ ?_
  · rintro i x s C hx ⟨es, y, rfl, hC, hl, hle, hin⟩
    have hx2 := cut_mem (List.mem_of_getElem? hx)
    have hlc : i < (cutD' (encI os) none (some (e : Int))).length := (List.getElem?_eq_some_iff.mp hx).1
    have hlc2 : (cutD' (encI os) none (some (e : Int))).length ≤ (encI os).length := by
      unfold cutD'
      rw [List.length_take, List.length_drop]
      omega
    rw [encI_length, ol] at hlc2
    obtain ⟨k, hk, rfl⟩ := List.mem_map.mp hx2
    have hk2 := (omem k).mp hk
    simp [hl]
    refine (pairs_of (v := 10) (hC.plain hp) (by omega)).mono ?_
    rintro d _ ⟨rfl, rfl⟩
    have hpl : (pairsTo 10 10).length = 45 := by decide +kernel
    obtain ⟨j, rfl⟩ := Int.eq_ofNat_of_zero_le hk2.1
    have e1 := at_E (es := pairsTo 10 10) (k := j) (by omega)
    have hpm : (pairsTo 10 10).getD j (0, 0) ∈ pairsTo 10 10 := by
      have hj : j < (pairsTo 10 10).length := by omega
      have : (pairsTo 10 10).getD j (0, 0) = (pairsTo 10 10)[j] := by simp [List.getD, hj]
      rw [this]
      exact List.getElem_mem hj
    have hpi := pairsTo_In hpm
    generalize (pairsTo 10 10).getD j (0, 0) = pp at *
    have e100 : es.length < 100000 := by omega
    simp [e1, hl, encE_length, e100]
    refine ⟨hC.set (Nat.le_refl _) _, es ++ [pp], ?_, ?_, fun a b hq => ?_⟩
    · rw [lst_set (lst_lt hl), encE_snoc]
    · rw [List.length_append, List.length_cons, List.length_nil]; omega
    · rcases List.mem_append.mp hq with hq | hq
      · exact hin _ hq
      · rw [List.mem_singleton] at hq
        rw [hq]
        exact hpi
  · rintro s C ⟨es, y, rfl, hC, hl, hle, hin⟩
    have hlc2 : (cutD' (encI os) none (some (e : Int))).length ≤ (encI os).length := by
      unfold cutD'
      rw [List.length_take, List.length_drop]
      omega
    rw [encI_length, ol] at hlc2
    simp
    refine (keptR (es := es) (hC.plain hp) hl (by omega)).mono ?_
    rintro d C1 ⟨rfl, rfl⟩
    have hg := hC.gone (m := A.length) (Nat.le_refl _)
    refine hg.close hp ⟨⟨_, rfl, th_G (by omega) (fun p hp => ?_) ?_⟩, hg.take⟩
    · obtain ⟨q, hq, _, rfl⟩ := kept_mem.mp hp
      have := nrm_in (hin q hq)
      unfold In at this
      unfold Lo
      omega
    · have := kept_length es
      omega
end Lw
end

section
set_option maxHeartbeats 4000000
namespace Mi
open PySem PySem.W
section
variable {P : D → Arn → Prop} {PL : List PyData → Arn → Prop} {s : Slt} {A : Arn}
end
end Mi
namespace Lw
open PySem PySem.W Mi
def nb (es : List Ed) (i : Int) : List Int := es.flatMap fun p => (if p.1 = i then [p.2] else []) ++ (if p.2 = i then [p.1] else [])
def iLe (a b : Int) : Bool := decide (a ≤ b)
def srtI (xs : List Int) : List Int := xs.mergeSort iLe
end Lw
end

section
set_option maxHeartbeats 4000000
namespace Mi
open PySem PySem.W
section
variable {A : Arn} {a b : List PyData}
@[simp] theorem two_0 : lst (A ++ [.lst a, .lst b]) A.length = some a := by
  rw [lst_iff, List.getElem?_append_right (Nat.le_refl _), Nat.sub_self]
  rfl
@[simp] theorem two_1 : lst (A ++ [.lst a, .lst b]) (A.length + 1) = some b := by
  rw [lst_iff, List.getElem?_append_right (by omega), Nat.add_sub_cancel_left]
  rfl
@[simp] theorem set2_0 {x y o : O} : (A ++ [x, y]).set A.length o = A ++ [o, y] := by
  rw [List.set_append_right _ _ (Nat.le_refl _), Nat.sub_self]
  rfl
@[simp] theorem set2_1 {x y o : O} : (A ++ [x, y]).set (A.length + 1) o = A ++ [x, o] := by
  rw [List.set_append_right _ _ (by omega), Nat.add_sub_cancel_left]
  rfl
@[simp] theorem pop_r {n : Nat} : fPop (.ref n) [] A = (lst A n).bind fun xs => (xs[xs.length - 1]?).map fun y => (.p y, A.set n (.lst xs.dropLast)) := by
  unfold fPop lst
  dsimp only
  cases e : A[n]? with
  | none => rfl
  | some o => cases o <;> rfl
end
end Mi
namespace Lw
open PySem PySem.W Mi
def adj (es : List Ed) (x y : Int) : Prop := (x, y) ∈ es ∨ (y, x) ∈ es
inductive Rch (es : List Ed) (x : Int) : Int → Prop
  | refl : Rch es x x
  | step {y z : Int} (h : Rch es x y) (a : adj es y z) : Rch es x z
def unr (v : Nat) (rs : List Int) : List Nat := (List.range v).filter fun i => decide ((i : Int) ∉ rs)
theorem GOkay.adj {v : Int} {es : List Ed} (ok : GOkay v es) {x y : Int} (h : Lw.adj es x y) : 0 ≤ x ∧ x < v ∧ 0 ≤ y ∧ y < v := by
  rcases h with h | h
  · have := ok.inn _ h
    dsimp only at this
    omega
  · have := ok.inn _ h
    dsimp only at this
    omega
structure Go (v : Nat) (es : List Ed) (s : Int) (rs ws : List Int) : Prop where
  nd : rs.Nodup
  sub : ∀ w, w ∈ ws → w ∈ rs
  rch : ∀ y, y ∈ rs → Rch es s y ∧ 0 ≤ y ∧ y < v
  st : s ∈ rs
  un : rs.length + (unr v rs).length = v
  ms : 2 * (unr v rs).length + ws.length ≤ 2 * v
end Lw
end

section
set_option maxHeartbeats 4000000
namespace Lw
open PySem PySem.W Mi
open Classical in
noncomputable def cls (es : List Ed) (v : Nat) (s : Nat) : List Int := srtI (((List.range v).map fun (i : Nat) => (i : Int)).filter fun y => decide (Rch es s y))
open Classical in
open Classical in
open Classical in
noncomputable def reps (es : List Ed) : Nat → List Nat
  | 0 => []
  | k + 1 => if ∃ r, r ∈ reps es k ∧ Rch es (r : Int) (k : Int) then reps es k else reps es k ++ [k]
noncomputable def clsD (es : List Ed) (v : Nat) (r : Nat) : PyData := .tuple (encI (cls es v r))
noncomputable def comps (es : List Ed) (v k : Nat) : List PyData := (reps es k).map (clsD es v)
theorem below_all {A : Arn} (h : plain A) (n : Nat) : below n A = true := by
  have := plain_below h n A.length
  rw [List.take_length] at this
  exact this
theorem check_graph {A : Arn} {v : Int} {es : List Ed} (hp : plain A) (ok : GOkay v es) : (m_check_graph [.p (encG v es)] A).To fun r A' => r = .p .none ∧ A' = A := by
  have hl : lenB (encG v es) = true := (th_G (by have := ok.lo; have := ok.hi; omega) ok.lo_ (by have := ok.len; omega)).len
  unfold m_check_graph
  refine To_def ?_
  unfold b_check_graph
  simp
  refine (is_graph hp hl).mono ?_
  rintro r A' ⟨rfl, rfl⟩
  simp [ok.isG, hp, below_all hp]
end Lw
end

section
set_option maxHeartbeats 4000000
namespace Lw
open PySem PySem.W Mi
structure Gl2 (v : Nat) (es : List Ed) (s : Int) (ls fs : List Int) : Prop where
  nd : fs.Nodup
  rch : ∀ y, y ∈ fs → Rch es s y ∧ 0 ≤ y ∧ y < v ∧ y ∈ ls
  st : s ∈ fs
  un : fs.length + (unr v fs).length = v
end Lw
end

section
set_option maxHeartbeats 4000000
namespace Mi
open PySem PySem.Spec PyProof.Rows L2
open Evl (Ex)
section
variable {X : Cx}
end
end Mi
end

section
set_option maxHeartbeats 4000000
namespace Mi
open PySem PySem.Spec PyProof.Rows L2
open Evl (Ex)
def okP (d : PyData) : Bool := match d with
  | .tuple [.int a, .int b] => decide (0 ≤ a) && decide (a < 64) && decide (0 ≤ b) && decide (b < 64)
  | _ => false
def unP (d : PyData) : Lw.Ed := match d with
  | .tuple [.int a, .int b] => (a, b)
  | _ => (0, 0)
def bk2 (p : Lw.Ed) : List Int := [p.1, p.2]
def uniS (acc : List Lw.Ed) (p : Lw.Ed) : List Lw.Ed := if p ∈ acc then acc else acc ++ [p]
def setS (ps : List Lw.Ed) : List Lw.Ed := (ps.foldl uniS []).mergeSort Lw.pLe
theorem uni_spec : ∀ (ps acc : List Lw.Ed), acc.Nodup → (ps.foldl uniS acc).Nodup ∧ (∀ q, q ∈ ps.foldl uniS acc ↔ q ∈ acc ∨ q ∈ ps) ∧ (ps.foldl uniS acc).length ≤ acc.length + ps.length
  | [], acc, h => ⟨h, fun q => by simp, by simp⟩
  | p :: ps, acc, h => by
    rw [List.foldl_cons]
    by_cases c : p ∈ acc
    · have e : uniS acc p = acc := if_pos c
      rw [e]
      obtain ⟨h1, h2, h3⟩ := uni_spec ps acc h
      refine ⟨h1, fun q => ?_, by rw [List.length_cons]; omega⟩
      rw [h2 q, List.mem_cons]
      constructor
      · rintro (m | m)
        · exact .inl m
        · exact .inr (.inr m)
      · rintro (m | rfl | m)
        · exact .inl m
        · exact .inl c
        · exact .inr m
    · have e : uniS acc p = acc ++ [p] := if_neg c
      rw [e]
      have hn : (acc ++ [p]).Nodup := by
        rw [List.nodup_append]
        refine ⟨h, by simp, fun a ha b hb => ?_⟩
        rw [List.mem_singleton] at hb
        subst hb
        rintro rfl
        exact c ha
      obtain ⟨h1, h2, h3⟩ := uni_spec ps _ hn
      refine ⟨h1, fun q => ?_, by rw [List.length_append] at h3; simp only [List.length_cons, List.length_nil] at *; omega⟩
      rw [h2 q, List.mem_append, List.mem_singleton, List.mem_cons, or_assoc]
theorem setS_mem {ps : List Lw.Ed} {q : Lw.Ed} : q ∈ setS ps ↔ q ∈ ps := by
  unfold setS
  rw [List.mem_mergeSort, (uni_spec ps [] List.nodup_nil).2.1 q]
  simp
theorem setS_asc (ps : List Lw.Ed) : (setS ps).Pairwise Lw.pLt := by
  have h1 : (setS ps).Pairwise (fun a b => Lw.pLe a b = true) := List.pairwise_mergeSort Lw.pLe_trans Lw.pLe_total _
  have h2 : (setS ps).Nodup := (List.mergeSort_perm _ _).nodup_iff.mpr (uni_spec ps [] List.nodup_nil).1
  exact (h1.and h2).imp fun h => Lw.pLt_of h.1 h.2
theorem setS_length (ps : List Lw.Ed) : (setS ps).length ≤ ps.length := by
  unfold setS
  rw [List.length_mergeSort]
  have := (uni_spec ps [] List.nodup_nil).2.2
  simpa using this
def pairsIn (ys : List PyData) : Option (List Lw.Ed) := if ys.length < 63 ∧ ys.all okP = true then some (ys.map unP) else none
structure SeR (K : PySem.W.Frag) (S : Hp) (L : List (Addr × List Int)) (acc : List PyData) : Prop where
  tup : ∀ p ∈ L, SqT K S p.1 (p.2.map V.int)
  from' : ∀ p ∈ L, ∃ d, d ∈ acc ∧ p.2 = bk2 (unP d)
  nd : (L.map (·.2)).Nodup
  all : ∀ d, d ∈ acc → bk2 (unP d) ∈ L.map (·.2)
  len : L.length ≤ acc.length
theorem SeR.mono {K : PySem.W.Frag} {S S' : Hp} {L : List (Addr × List Int)} {acc : List PyData} (h : SeR K S L acc) (e : Ex S S') : SeR K S' L acc :=
  ⟨fun p hp => Evl.ex_t e (h.tup p hp), h.from', h.nd, h.all, h.len⟩
theorem SeR.more {K : PySem.W.Frag} {S : Hp} {L L' : List (Addr × List Int)} {acc : List PyData} {d : PyData} {x : Addr} (h : SeR K S L acc) (hx : SqT K S x ((bk2 (unP d)).map V.int)) (m : bk2 (unP d) ∉ L.map (·.2)) (pm : L'.Perm ((x, bk2 (unP d)) :: L)) : SeR K S L' (acc ++ [d]) where
  tup := fun p hp => by
    rcases List.mem_cons.mp (pm.mem_iff.mp hp) with rfl | hp
    · exact hx
    · exact h.tup p hp
  from' := fun p hp => by
    rcases List.mem_cons.mp (pm.mem_iff.mp hp) with rfl | hp
    · exact ⟨d, by simp, rfl⟩
    · obtain ⟨e, he, q⟩ := h.from' p hp
      exact ⟨e, List.mem_append_left _ he, q⟩
  nd := by
    rw [(pm.map (·.2)).nodup_iff, List.map_cons, List.nodup_cons]
    exact ⟨m, h.nd⟩
  all := fun e he => by
    rw [(pm.map (·.2)).mem_iff, List.map_cons, List.mem_cons]
    rcases List.mem_append.mp he with he | he
    · exact .inr (h.all e he)
    · rw [List.mem_singleton] at he
      rw [he]
      exact .inl rfl
  len := by
    have := h.len
    rw [pm.length_eq, List.length_append, List.length_cons, List.length_cons, List.length_nil]
    omega
section
variable {K : PySem.W.Frag} {W : WX} {F S S' H H' : Hp} {ρ ρ' : List Addr} {σ : L2.St} {A : Arn} {s : Slt} {P : Program} {w : World}
end
end Mi
end

section
set_option maxHeartbeats 4000000
namespace Mi
open PySem PySem.Spec PyProof.Rows L2
open Evl (Ex)
section
variable {K : PySem.W.Frag} {S : Hp}
end
section
variable {K : PySem.W.Frag} {W : WX} {P : Program} {w : World}
end
section
variable {X : Cx} {W : WX} {p pos : Pos}
end
section
variable {PL : List PyData → Arn → Prop} {s : Slt} {A : Arn}
end
end Mi
end

section
set_option maxHeartbeats 4000000
namespace Mi
open PySem PySem.Spec PyProof.Rows L2
open Evl (Ex)
def least1 (ns : List Int) : Option PyData := match ns with
  | n :: r => some (.int (r.foldl min n))
  | [] => none
def most1 (ns : List Int) : Option PyData := match ns with
  | n :: r => some (.int (r.foldl max n))
  | [] => none
def fMin1 (ds : List PyData) : Option PyData := match ds with
  | [.list xs] => (intsOf xs).bind least1
  | [.tuple xs] => (intsOf xs).bind least1
  | _ => none
def fMax1 (ds : List PyData) : Option PyData := match ds with
  | [.list xs] => (intsOf xs).bind most1
  | [.tuple xs] => (intsOf xs).bind most1
  | _ => none
section
variable {X : Cx}
end
def permL {α : Type} (π : List Nat) (xs : List α) : List α := π.filterMap fun i => xs[i]?
def mPerm (π : List Nat) (m : MA) : MA := fun s A => (m s A).bind fun ds A1 => .ok (permL π ds) A1
theorem Paired.get {α β : Type} {R : α → β → Prop} : ∀ {xs : List α} {ys : List β}, Paired R xs ys → ∀ i : Nat, (xs[i]? = none ∧ ys[i]? = none) ∨ ∃ x y, xs[i]? = some x ∧ ys[i]? = some y ∧ R x y
  | _, _, .nil, i => .inl ⟨by simp, by simp⟩
  | _, _, .cons h q, 0 => .inr ⟨_, _, rfl, rfl, h⟩
  | _, _, .cons h q, i + 1 => by simpa using Paired.get q i
section
variable {X : Cx} {W : WX} {k : Nat} {f : Addr} {fd : FuncData} {ps ks : List Str} {n : Nat} {fm : MF} {x : Str} {p pos : Pos} {π : List Nat} {m : MA}
@[simp] theorem To_perm {P : List D → Arn → Prop} {s : Slt} {A : Arn} : (mPerm π m s A).To P ↔ (m s A).To fun ds A1 => P (permL π ds) A1 := by
  unfold mPerm
  rw [To_bind]
  simp only [To_ok]
@[simp] theorem perm_10 {α : Type} {a b : α} : permL [1, 0] [a, b] = [b, a] := rfl
end
end Mi
end

section
set_option maxHeartbeats 4000000
namespace Mi
open PySem PySem.Spec PyProof.Rows L2
open Evl (Ex)
end Mi
end

section
set_option maxHeartbeats 4000000
namespace Lw
open PySem PySem.W Mi
theorem GOkay.lenB {v : Int} {es : List Ed} (ok : GOkay v es) : Lw.lenB (encG v es) = true :=
  (th_G (by have := ok.lo; have := ok.hi; omega) ok.lo_ (by have := ok.len; omega)).len
section
variable {A : Arn} {v x : Int} {es : List Ed} {e : Ed}
end
end Lw
end

section
set_option maxHeartbeats 4000000
namespace Lw
open PySem PySem.W Mi
def dn (g x : Int) : Int := if x > g then x - 1 else x
section
variable {A : Arn} {v x g : Int} {es : List Ed} {e : Ed}
def mv (k g x : Int) : Int := if x = g then k else x
def mm (p : Ed) : Ed := (min p.1 p.2, max p.1 p.2)
theorem mm_nrm {p : Ed} (h : p.1 ≠ p.2) : mm p = nrm p := by
  unfold mm nrm
  by_cases c : p.1 < p.2
  · rw [if_pos c, Int.min_eq_left (by omega), Int.max_eq_right (by omega)]
  · rw [if_neg c, Int.min_eq_right (by omega), Int.max_eq_left (by omega)]
theorem min_L {a b : Int} : fMin1 [.list [.int a, .int b]] = some (.int (min a b)) := rfl
theorem max_L {a b : Int} : fMax1 [.list [.int a, .int b]] = some (.int (max a b)) := rfl
end
end Lw
end

section
set_option maxHeartbeats 4000000
namespace Lw
open PySem PySem.W Mi
section
variable {A : Arn} {v x g : Int} {es : List Ed} {e : Ed}
end
end Lw
end

section
set_option maxHeartbeats 4000000
namespace Lw
open PySem PySem.W Mi
@[simp] theorem ne_str {a b : Str} : fNe (.str a) (.str b) = some (.bool (!decide (a = b))) := rfl
end Lw
end

section
set_option maxHeartbeats 4000000
namespace Mi
open PySem PySem.Spec PyProof.Rows L2
open Evl (Ex)
def starOf (d : D) : Option (List PyData) := match d with
  | .p (.list xs) => some xs
  | .p (.tuple xs) => some xs
  | _ => none
def aStar (m : ME) (k : MA) : MA := fun s A => (m s A).bind fun d A1 => match starOf d with
  | some xs => (k s A1).bind fun ds A2 => .ok (xs.map D.p ++ ds) A2
  | none => .bad
section
variable {K : PySem.W.Frag} {W : WX} {X : Cx}
theorem Paired.app {α β : Type} {R : α → β → Prop} : ∀ {xs : List α} {ys : List β} {us : List α} {vs : List β}, Paired R xs ys → Paired R us vs → Paired R (xs ++ us) (ys ++ vs)
  | _, _, _, _, .nil, r => r
  | _, _, _, _, .cons h q, r => .cons h (Paired.app q r)
def gLs (r : List PyData → Slt → Option Slt) : MG := fun x s => match x with
  | .list xs => r xs s
  | _ => none
@[simp] theorem gLs_ap {r : List PyData → Slt → Option Slt} {xs : List PyData} {s : Slt} : gLs r (.list xs) s = r xs s := rfl
@[simp] theorem To_star {m : ME} {k : MA} {s : Slt} {A : Arn} {P : List D → Arn → Prop} : (aStar m k s A).To P ↔ (m s A).To fun d A1 => ∃ xs, starOf d = some xs ∧ (k s A1).To fun ds A2 => P (xs.map D.p ++ ds) A2 := by
  unfold aStar
  rw [To_bind]
  refine iff_of_eq (congrArg _ (funext fun d => funext fun A1 => ?_))
  cases e : starOf d with
  | none => simp
  | some xs => simp
@[simp] theorem starOf_l {xs : List PyData} : starOf (.p (.list xs)) = some xs := rfl
@[simp] theorem starOf_t {xs : List PyData} : starOf (.p (.tuple xs)) = some xs := rfl
end
end Mi
end

section
set_option maxHeartbeats 4000000
namespace Mi
open PySem PySem.Spec PyProof.Rows L2
open Evl (Ex)
section
variable {X : Cx} {pins : List (Addr × Obj)} {σ : L2.St} {H : Hp} {s : Shared}
end
end Mi
end

section
set_option maxHeartbeats 4000000
namespace Mi
open PySem PySem.Spec PyProof.Rows L2 PySem.W
open Evl (Ex)
def cnt (k : Int) (i : Nat) (xs : List PyData) : List PyData := match xs with
  | [] => []
  | x :: r => .tuple [.int (k + (i : Nat)), x] :: cnt k (i + 1) r
theorem cnt_length (k : Int) : ∀ (xs : List PyData) (i : Nat), (cnt k i xs).length = xs.length
  | [], _ => rfl
  | x :: r, i => by
    show (cnt k (i + 1) r).length + 1 = r.length + 1
    rw [cnt_length k r]
theorem cnt_get (k : Int) : ∀ (xs : List PyData) (i j : Nat), (cnt k i xs)[j]? = (xs[j]?).map fun x => .tuple [.int (k + ((i + j : Nat) : Int)), x]
  | [], _, _ => by simp [cnt]
  | x :: r, i, 0 => by simp [cnt]
  | x :: r, i, j + 1 => by
    show (cnt k (i + 1) r)[j]? = _
    rw [cnt_get k r (i + 1) j, List.getElem?_cons_succ]
    congr 1
    funext y
    congr 4
    omega
def rowOf (d : D) : Option (Bool × List PyData) := match d with
  | .p (.list xs) => some (false, xs)
  | .p (.tuple xs) => some (true, xs)
  | _ => none
def iEnS (k : Int) (m : ME) : MI := fun s A => (m s A).bind fun d A1 => match rowOf d with
  | some (_, xs) => .ok (cnt k 0 xs) A1
  | none => .bad
section
variable {K : PySem.W.Frag} {W : WX} {X : Cx}
end
end Mi
end

section
set_option maxHeartbeats 4000000
namespace Mi
open PySem PySem.Spec PyProof.Rows L2
open Evl (Ex)
def mS1 (f : PyData → PyData → Option PyData) (m k : ME) : ME := fun s A => (m s A).bind fun a A1 => if isS a A1 = true then (k s A1).bind fun b A2 => opt1 (lift2 f a b A2) else .bad
section
variable {K : PySem.W.Frag} {W : WX} {X : Cx}
def fEnds (a b : PyData) : Option PyData := match a, b with
  | .str a, .str b => some (.bool (Txt.endswith a b))
  | _, _ => none
def strsOf : List PyData → Option (List Str)
  | [] => some []
  | .str x :: r => (strsOf r).map fun xs => x :: xs
  | _ :: _ => none
theorem strsOf_map : ∀ xs : List Str, strsOf (xs.map PyData.str) = some xs
  | [] => rfl
  | x :: r => by
    show (strsOf (r.map PyData.str)).map _ = _
    rw [strsOf_map r]
    rfl
def fJoin (a b : PyData) : Option PyData := match a, b with
  | .str a, .list ds => (strsOf ds).bind fun ys => if (ys.map (·.length)).sum + ys.length * a.length ≤ 100000 then some (.str (Txt.join a ys)) else none
  | _, _ => none
def fFmt (d : PyData) : Option PyData := match d with
  | .int i => if i.natAbs.log2 < 1920 then some (.str (toString i)) else none
  | .str y => if y.length ≤ 100000 then some (.str y) else none
  | _ => none
def mFmt (m : ME) : ME := mOp1 (lift1 fFmt) m
def mJs : List ME → Str → ME
  | [], acc => fun _ A => .ok (.p (.str acc)) A
  | m :: ms, acc => fun s A => (m s A).bind fun d A1 => match d with
    | .p (.str y) => if (acc ++ y).length ≤ 100000 then mJs ms (acc ++ y) s A1 else .bad
    | _ => .bad
@[simp] theorem To_S1 {f : PyData → PyData → Option PyData} {m k : ME} {s : Slt} {A : Arn} {P : D → Arn → Prop} : (mS1 f m k s A).To P ↔ (m s A).To fun a A1 => isS a A1 = true ∧ (k s A1).To fun b A2 => (opt1 (lift2 f a b A2)).To P := by
  unfold mS1
  rw [To_bind]
  refine iff_of_eq (congrArg _ (funext fun a => funext fun A1 => ?_))
  by_cases c : isS a A1 = true
  · rw [if_pos c]; simp [c]
  · rw [if_neg c]; simp [c]
@[simp] theorem To_fmt {m : ME} {s : Slt} {A : Arn} {P : D → Arn → Prop} : (mFmt m s A).To P ↔ (m s A).To fun a A1 => (opt1 (lift1 fFmt a A1)).To P := To_op1
@[simp] theorem To_js0 {acc : Str} {s : Slt} {A : Arn} {P : D → Arn → Prop} : (mJs [] acc s A).To P ↔ P (.p (.str acc)) A := To_ok
@[simp] theorem To_jsS {m : ME} {ms : List ME} {acc : Str} {s : Slt} {A : Arn} {P : D → Arn → Prop} : (mJs (m :: ms) acc s A).To P ↔ (m s A).To fun d A1 => ∃ y, d = .p (.str y) ∧ (acc ++ y).length ≤ 100000 ∧ (mJs ms (acc ++ y) s A1).To P := by
  show ((m s A).bind _).To P ↔ _
  rw [To_bind]
  refine iff_of_eq (congrArg _ (funext fun a => funext fun A1 => ?_))
  cases a with
  | ref n => simp
  | scr n => simp
  | p d =>
    cases d with
    | str y =>
      by_cases c : (acc ++ y).length ≤ 100000
      · simp [c]
      · simp [c]
    | none => simp
    | int i => simp
    | bool x => simp
    | list x => simp
    | tuple x => simp
    | dict x => simp
@[simp] theorem To_enS {k : Int} {m : ME} {s : Slt} {A : Arn} {P : List PyData → Arn → Prop} : (iEnS k m s A).To P ↔ (m s A).To fun d A1 => ∃ tp xs, rowOf d = some (tp, xs) ∧ P (cnt k 0 xs) A1 := by
  unfold iEnS
  rw [To_bind]
  refine iff_of_eq (congrArg _ (funext fun a => funext fun A1 => ?_))
  cases e : rowOf a with
  | none => simp
  | some z =>
    obtain ⟨tp, xs⟩ := z
    exact propext ⟨fun h => ⟨tp, xs, rfl, To_ok.mp h⟩, fun ⟨tp', xs', q, h⟩ => by cases q; exact To_ok.mpr h⟩
@[simp] theorem rowOf_l {xs : List PyData} : rowOf (.p (.list xs)) = some (false, xs) := rfl
@[simp] theorem rowOf_t {xs : List PyData} : rowOf (.p (.tuple xs)) = some (true, xs) := rfl
end
end Mi
end

section
set_option maxHeartbeats 4000000
namespace Lw
open PySem PySem.W Mi TL
def cutL (s : Nat) : List Nat → List Nat → List (List Nat)
  | acc, [] => [acc]
  | acc, c :: r => if c = s then acc :: cutL s [] r else cutL s (acc ++ [c]) r
theorem spl_cut (s : Nat) : ∀ (l acc : List Nat), spl [s] 0 acc l = cutL s acc l
  | [], acc => spl_nil _ _ _
  | c :: r, acc => by
    by_cases h : c = s
    · subst h
      have hp : pre [c] (c :: r) = true := by simp [pre]
      rw [spl_hit hp]
      show acc :: spl [c] 0 [] r = _
      rw [spl_cut c r []]
      unfold cutL
      rw [if_pos rfl]
      cases r <;> rfl
    · have hp : pre [s] (c :: r) = false := by simp [pre, h]
      rw [spl_miss hp, spl_cut s r]
      conv => rhs; unfold cutL
      rw [if_neg h]
def wrds (l : List Nat) : List (List Nat) := (cutL 32 [] l).filter fun w => !w.isEmpty
theorem cutL_nil (s : Nat) (acc : List Nat) : cutL s acc [] = [acc] := rfl
theorem cutL_cons (s c : Nat) (acc r : List Nat) : cutL s acc (c :: r) = if c = s then acc :: cutL s [] r else cutL s (acc ++ [c]) r := rfl
def wV (v : Nat) : List Nat := numL v ++ [58]
def wP (p : Ed) : List Nat := [48 + p.1.toNat, 45, 48 + p.2.toNat]
def Fig (p : Ed) : Prop := 0 ≤ p.1 ∧ p.1 < 10 ∧ 0 ≤ p.2 ∧ p.2 < 10
def txt (v : Nat) (es : List Ed) : List Nat := wV v ++ es.flatMap fun p => 32 :: wP p
theorem joinL_txt (v : Nat) : ∀ es : List Ed, joinL [32] (wV v :: es.map wP) = txt v es := by
  have key : ∀ (es : List Ed) (w : List Nat), joinL [32] (w :: es.map wP) = w ++ es.flatMap fun p => 32 :: wP p := fun es => by
    induction es with
    | nil => intro w; simp [joinL]
    | cons p es ih =>
      intro w
      show w ++ ([32] ++ joinL [32] (wP p :: es.map wP)) = _
      rw [ih, List.flatMap_cons]
      simp
  exact fun es => key es (wV v)
theorem GOkay.fig {v : Int} {es : List Ed} (ok : GOkay v es) : ∀ p, p ∈ es → Fig p := fun p hp => by
  have := ok.inn p hp
  have := ok.hi
  unfold Fig
  omega
end Lw
end

section
set_option maxHeartbeats 4000000
namespace Lw
open PySem PySem.W Mi TL
def b_show_graph : MS :=
  (sSeq (sDrop (mCall m_check_graph (aCons (mVar 0) aNil)))
    (sSeq (sAsg (mVar 0) (gTp (gMore (gN 1) (gMore (gN 2) gNone))))
    (sRet (mS1 fJoin (mC (.str " ")) (mOp2 (lift2o fAdd) (mFr (lDisp (aCons (mJs [(mFmt (mVar 1)), (mC (.str ":"))] Str.empty) aNil))) (mFr (lComp (iS (mVar 2)) (gTp (gMore (gN 3) (gMore (gN 4) gNone))) mYes (mJs [(mFmt (mVar 3)), (mC (.str "-")), (mFmt (mVar 4))] Str.empty) [3, 4])))))))
def m_show_graph : MF := defM 5 b_show_graph
def b__number_told : MS :=
  (sSeq (sFor (iR2 (aCons (mVar 1) (aCons (mOp2 (lift2o fAdd) (mVar 2) (mC (.int 1))) aNil))) (gN 3) (sIf (mB (mOp2 (lift2 fEq) (mOpN (liftN fStr) (aCons (mVar 3) aNil)) (mVar 0))) (sRet (mVar 3)) sSkip))
    (sRet (mC .none)))
def m__number_told : MF := defM 4 b__number_told
def b__vertices_told : MS :=
  (sSeq (sIf (mOr (mNot (mTru (mVar 0))) (mNot (mTru (mS1 fEnds (mOp2 (lift2 fIx) (mVar 0) (mC (.int 0))) (mC (.str ":")))))) (sRet (mC .none)) sSkip)
    (sRet (mCall m__number_told (aCons (mSlA (mOp2 (lift2 fIx) (mVar 0) (mC (.int 0))) pNo (pSome (mOp1 (lift1 fNeg) (mC (.int 1))))) (aCons (mC (.int 1)) (aCons (mC (.int 10)) aNil))))))
def m__vertices_told : MF := defM 1 b__vertices_told
def b__edge_told : MS :=
  (sSeq (sLet 2 (mFr (lComp (iS (mFr (lCut (mVar 0) (mC (.str "-"))))) (gN 3) mYes (mCall m__number_told (aCons (mVar 3) (aCons (mC (.int 0)) (aCons (mOp2 (lift2 fSub) (mVar 1) (mC (.int 1))) aNil)))) [3])))
    (sSeq (sIf (mOr (mB (mOp2 (lift2 fNe) (mOpN (liftN fLen) (aCons (mVar 2) aNil)) (mC (.int 2)))) (mOr (mB (mOp2 (lift2 fIn) (mC .none) (mVar 2))) (mB (mOp2 (lift2 fEq) (mOp2 (lift2 fIx) (mVar 2) (mC (.int 0))) (mOp2 (lift2 fIx) (mVar 2) (mC (.int 1))))))) (sRet (mC .none)) sSkip)
    (sRet (mTup (aCons (mOpN (liftN fMin1) (aCons (mVar 2) aNil)) (aCons (mOpN (liftN fMax1) (aCons (mVar 2) aNil)) aNil))))))
def m__edge_told : MF := defM 4 b__edge_told
def b_read_graph : MS :=
  (sSeq (sIf (mB (mTyIs "str" true (mVar 0))) sNever sSkip)
    (sSeq (sLet 1 (mFr (lComp (iS (mFr (lCut (mVar 0) (mC (.str " "))))) (gN 5) (mTru (mVar 5)) (mVar 5) [5])))
    (sSeq (sLet 2 (mCall m__vertices_told (aCons (mVar 1) aNil)))
    (sSeq (sIf (mB (mIsN false (mVar 2))) sNever sSkip)
    (sSeq (sLet 3 (mAl (lDisp aNil)))
    (sSeq (sFor (iEnS 1 (mSlA (mVar 1) (pSome (mC (.int 1))) pNo)) (gTp (gMore (gN 4) (gMore (gN 5) gNone))) (sSeq (sLet 6 (mCall m__edge_told (aCons (mVar 5) (aCons (mVar 2) aNil))))
    (sSeq (sIf (mOr (mB (mIsN false (mVar 6))) (mOr (mB (mOp2 (lift2 fIn) (mVar 6) (mVar 3))) (mB (mOp2 (lift2 fEq) (mOpN (liftN fLen) (aCons (mVar 3) aNil)) (mC (.int 24)))))) sNever sSkip)
    (sDrop (mMt isL fAppend (mVar 3) (aCons (mVar 6) aNil))))))
    (sRet (mTup (aCons (mVar 2) (aCons (mOpN (liftN fTuple) (aCons (mFr (lOpN lfSorted (aCons (mVar 3) aNil))) aNil)) aNil))))))))))
def m_read_graph : MF := defM 7 b_read_graph
def nS (n : Nat) : Str := Str.ofString (toString ((n : Nat) : Int))
theorem tl_nS (n : Nat) : tl (nS n) = numL n := tl_num n
theorem str_n {n : Nat} (h : n ≤ 100) : fStr [.int (n : Int)] = some (.str (nS n)) := by
  have : (n : Int).natAbs.log2 < 1920 := by
    have := Nat.log2_le_self n
    have e : (n : Int).natAbs = n := Int.natAbs_natCast n
    rw [e]
    omega
  show (if (n : Int).natAbs.log2 < 1920 then some _ else none) = _
  rw [if_pos this]
  rfl
theorem fmt_n {n : Nat} (h : n ≤ 100) : fFmt (.int (n : Int)) = some (.str (nS n)) := by
  have : (n : Int).natAbs.log2 < 1920 := by
    have := Nat.log2_le_self n
    have e : (n : Int).natAbs = n := Int.natAbs_natCast n
    rw [e]
    omega
  show (if (n : Int).natAbs.log2 < 1920 then some _ else none) = _
  rw [if_pos this]
  rfl
theorem sh_s {x : Str} (h : PyData.strOk x = true) : SeqAt.shaped (.str x) = true := by
  unfold SeqAt.shaped
  simp [PyData.canLay0, PyData.depth, h]
theorem eq_ss {a b : Str} (ha : PyData.strOk a = true) (hb : PyData.strOk b = true) : fEq (.str a) (.str b) = some (.bool (decide (a = b))) := by
  unfold fEq
  rw [if_pos ⟨sh_s ha, sh_s hb⟩, PyData.eqv]
  rfl
theorem ok_tl {x : Str} (h : ∀ c, c ∈ tl x → c < 1114112) : PyData.strOk x = true := by
  unfold PyData.strOk
  rw [← Array.all_toList, List.all_eq_true]
  intro c hc
  exact decide_eq_true (h c hc)
theorem ok_num {x : Str} {n : Nat} (h : tl x = numL n) : PyData.strOk x = true := ok_tl fun c hc => by
  rw [h] at hc
  have := numL_digits n c hc
  omega
theorem nS_eq {n m : Nat} {w : Str} (h : tl w = numL n) : nS m = w ↔ m = n := by
  constructor
  · intro e
    have := congrArg tl e
    rw [tl_nS, h] at this
    exact numL_inj this
  · rintro rfl
    exact ext_tl ((tl_nS m).trans h.symm)
section
variable {A : Arn}
theorem number_told (hp : plain A) {w : Str} {n lo hi : Nat} (hw : tl w = numL n) (h0 : lo ≤ n) (h1 : n ≤ hi) (h2 : hi ≤ 10) :
    (m__number_told [.p (.str w), .p (.int lo), .p (.int hi)] A).To fun r A' => r = .p (.int n) ∧ A' = A := by
  unfold m__number_told
  refine To_def ?_
  unfold b__number_told
  simp
  refine To_iR2 ?_
  simp
  refine ⟨_, _, ⟨rfl, rfl⟩, by unfold small; omega, by unfold small; omega, ?_⟩
  have en : ((hi : Int) + 1 - (lo : Int)).toNat = hi + 1 - lo := by omega
  rw [en]
  refine forL_to (fun i s C => (∃ y, s = [some (.p (.str w)), some (.p (.int lo)), some (.p (.int hi)), y]) ∧ C = A ∧ lo + i ≤ n) ?_ ⟨⟨none, rfl⟩, rfl, h0⟩ ?_
  · rintro i x s C hx ⟨⟨y, rfl⟩, rfl, hle⟩
    unfold rangeD at hx
    rw [List.getElem?_map] at hx
    have hi2 : i < hi + 1 - lo := by
      by_cases c : i < hi + 1 - lo
      · exact c
      · rw [List.getElem?_eq_none (by simp; omega)] at hx
        cases hx
    rw [List.getElem?_range hi2] at hx
    cases hx
    have ei : (lo : Int) + (i : Int) = ((lo + i : Nat) : Int) := by omega
    show (turnF _ _ (PyData.int ((lo : Int) + (i : Int))) _ _).To _ _
    rw [ei]
    have hs := str_n (n := lo + i) (by omega)
    have he := eq_ss (ok_num (tl_nS (lo + i))) (ok_num hw)
    have hq : nS (lo + i) = w ↔ lo + i = n := nS_eq hw
    generalize hm : lo + i = m at *
    by_cases c : m = n
    · subst c
      simp [hs, he, hq, hp]
    · simp [hs, he, hq, c]
      omega
  · rintro s C ⟨⟨y, rfl⟩, rfl, hle⟩
    have : (rangeD (lo : Int) (hi + 1 - lo)).length = hi + 1 - lo := by unfold rangeD; rw [List.length_map, List.length_range]
    rw [this] at hle
    omega
def figF (x : PyData) : Option PyData := match x with
  | .str s => some (.int (((tl s).headD 48 : Nat) - 48 : Int))
  | _ => none
theorem split_P {w : Str} {p : Ed} (h : Fig p) (hw : tl w = wP p) : ∃ x y : Str, Txt.split w "-" = [x, y] ∧ tl x = numL p.1.toNat ∧ tl y = numL p.2.toNat := by
  have e := split_spl w "-" (by decide +kernel) (kind_ok (by decide +kernel))
  have e45 : tl ("-" : Str) = [45] := by decide +kernel
  rw [e45, spl_cut, hw] at e
  have h1 : numL p.1.toNat = [48 + p.1.toNat] := numL_lt (by unfold Fig at h; omega)
  have h2 : numL p.2.toNat = [48 + p.2.toNat] := numL_lt (by unfold Fig at h; omega)
  have hc : cutL 45 [] (wP p) = [[48 + p.1.toNat], [48 + p.2.toNat]] := by
    have n1 : ¬ 48 + p.1.toNat = 45 := by omega
    have n2 : ¬ 48 + p.2.toNat = 45 := by omega
    unfold wP
    rw [cutL_cons, if_neg n1, cutL_cons, if_pos rfl, cutL_cons, if_neg n2, cutL_nil]
    rfl
  rw [hc] at e
  have el := congrArg List.length e
  rw [List.length_map] at el
  obtain ⟨x, y, hL⟩ : ∃ x y, Txt.split w "-" = [x, y] := by
    generalize Txt.split w "-" = L at el
    match L, el with
    | [x, y], _ => exact ⟨x, y, rfl⟩
  rw [hL, List.map_cons, List.map_cons, List.map_nil] at e
  rw [List.cons.injEq, List.cons.injEq] at e
  exact ⟨x, y, hL, by rw [h1]; exact e.1, by rw [h2]; exact e.2.1⟩
theorem lfCut_P {w : Str} {p : Ed} (h : Fig p) (hw : tl w = wP p) : ∃ x y : Str, lfCut (.str w) (.str "-") = some [.str x, .str y] ∧ tl x = numL p.1.toNat ∧ tl y = numL p.2.toNat := by
  obtain ⟨x, y, e, hx, hy⟩ := split_P h hw
  refine ⟨x, y, ?_, hx, hy⟩
  have hl : w.length ≤ 100000 := by
    rw [len_tl, hw]
    simp [wP]
  unfold lfCut
  dsimp only
  rw [if_pos ⟨by decide +kernel, hl⟩, e]
  rfl
theorem in_none2 {a b : Int} : fIn .none (.list [.int a, .int b]) = some (.bool false) := by
  unfold fIn
  dsimp only
  rw [if_pos ⟨by decide, shIs [a, b]⟩]
  simp [PyData.eqv]
theorem edge_told (hp : plain A) {w : Str} {p : Ed} {v : Nat} (hv : v ≤ 10) (h : Fig p) (hw : tl w = wP p) (hne : p.1 ≠ p.2) (h1 : p.1 < v) (h2 : p.2 < v) :
    (m__edge_told [.p (.str w), .p (.int v)] A).To fun r A' => r = .p (encP (nrm p)) ∧ A' = A := by
  obtain ⟨x, y, hc, hx, hy⟩ := lfCut_P h hw
  have hf := h
  unfold Fig at hf
  unfold m__edge_told
  refine To_def ?_
  unfold b__edge_told
  simp
  refine To_comp figF ?_
  simp [isS, hc]
  have fx : figF (.str x) = some (.int p.1) := by
    unfold figF
    dsimp only
    rw [hx, numL_lt (by omega)]
    simp
    omega
  have fy : figF (.str y) = some (.int p.2) := by
    unfold figF
    dsimp only
    rw [hy, numL_lt (by omega)]
    simp
    omega
  have one : ∀ (z : Str) (n : Nat), tl z = numL n → n < v → figF (.str z) = some (.int n) → turnC (gN 3) mYes (mCall m__number_told (aCons (mVar 3) (aCons (mC (.int 0)) (aCons (mOp2 (lift2 fSub) (mVar 1) (mC (.int 1))) aNil)))) (wipeS [some (.p (.str w)), some (.p (.int v)), none, none] [3]) (.str z) A = .ok (figF (.str z)) A := fun z n hz hn hfz => by
    refine turn_of (f := figF) ⟨_, rfl, ?_⟩
    rw [hfz]
    simp [wipeS]
    have e1 : (v : Int) - 1 = ((v - 1 : Nat) : Int) := by omega
    rw [e1]
    refine (number_told (lo := 0) (hi := v - 1) hp hz (by omega) (by omega) (by omega)).mono ?_
    rintro _ _ ⟨rfl, rfl⟩
    simp
  have ex : ((p.1.toNat : Nat) : Int) = p.1 := by omega
  have ey : ((p.2.toNat : Nat) : Int) = p.2 := by omega
  refine ⟨⟨one x p.1.toNat hx (by omega) (by rw [ex]; exact fx), one y p.2.toNat hy (by omega) (by rw [ey]; exact fy)⟩, ?_⟩
  have hm : List.filterMap figF [.str x, .str y] = [.int p.1, .int p.2] := by
    simp [fx, fy]
  rw [hm]
  have hl : fLen [.list [.int p.1, .int p.2]] = some (.int 2) := rfl
  simp [hl, in_none2, hne, min_L, max_L, hp]
  have := mm_nrm hne
  unfold mm at this
  rw [← this]
  rfl
theorem ends_V {w : Str} {v : Nat} (hw : tl w = wV v) : Txt.endswith w ":" = true := by
  have e58 : tl (":" : Str) = [58] := by decide +kernel
  unfold Txt.endswith
  have hl : (":" : Str).length = 1 := by decide +kernel
  have hwl : w.length = (numL v).length + 1 := by
    rw [len_tl, hw]
    simp [wV]
  rw [Bool.and_eq_true, decide_eq_true_eq]
  refine ⟨by omega, ?_⟩
  rw [PySem.StrLaws.subAt_eq, hl, hwl]
  show (((tl w).drop _).take 1 == tl (":" : Str)) = true
  rw [hw, e58]
  unfold wV
  simp
theorem cut_V {w : Str} {v : Nat} (hw : tl w = wV v) : tl (L2.cutS w none (some (-1))) = numL v := by
  have hwl : w.length = (numL v).length + 1 := by
    rw [len_tl, hw]
    simp [wV]
  unfold L2.cutS
  rw [tl_mk]
  show ((tl w).drop _).take _ = _
  rw [hw]
  have e1 : HT.sIx w.length 0 none = 0 := rfl
  have e2 : HT.sIx w.length w.length (some (-1)) = (numL v).length := by
    unfold HT.sIx
    dsimp only
    rw [if_pos (by decide)]
    omega
  rw [e1, e2]
  unfold wV
  simp
theorem vertices_told (hp : plain A) {w : Str} {ws : List Str} {v : Nat} (hv : v ≤ 10) (h1 : 1 ≤ v) (hw : tl w = wV v) :
    (m__vertices_told [.p (.list ((w :: ws).map .str))] A).To fun r A' => r = .p (.int v) ∧ A' = A := by
  have hl : w.length ≤ 100000 := by
    rw [len_tl, hw]
    unfold wV
    rw [List.length_append]
    have := numL_len (n := v) (k := 3) (by omega) (by omega)
    simp
    omega
  have hs : fSlA (.str w) none (some (-1)) = some (.str (L2.cutS w none (some (-1)))) := by
    show fSl (.str w) none (some (-1)) = _
    unfold fSl
    dsimp only
    rw [if_pos hl]
  have he : fEnds (.str w) (.str ":") = some (.bool true) := by
    unfold fEnds
    dsimp only
    rw [ends_V hw]
  have ht : ∀ A : Arn, truthD (.p (.list (.str w :: ws.map .str))) A = some true := fun _ => rfl
  have hix : L2.atI (PyData.str w :: ws.map .str) 0 = some (.str w) := at_nat (i := 0) rfl
  unfold m__vertices_told
  refine To_def ?_
  unfold b__vertices_told
  simp [ht, isS, he, hs, hix]
  refine (number_told (lo := 1) (hi := 10) hp (cut_V hw) h1 hv (by omega)).mono ?_
  rintro _ _ ⟨rfl, rfl⟩
  simp [hp]
end
end Lw
end

section
set_option maxHeartbeats 4000000
namespace Mi
@[simp] theorem To_isN {neg : Bool} {m : ME} {s : Slt} {A : Arn} {P : D → Arn → Prop} : (mIsN neg m s A).To P ↔ (m s A).To fun d A1 => match d with
    | .p .none => P (.p (.bool (!neg))) A1
    | _ => P (.p (.bool neg)) A1 := by
  unfold mIsN
  rw [To_bind]
  refine iff_of_eq (congrArg _ (funext fun a => funext fun A1 => ?_))
  cases a with
  | ref n => cases neg <;> simp
  | scr n => cases neg <;> simp
  | p d => cases d <;> cases neg <;> simp
end Mi
namespace Lw
open PySem PySem.W Mi TL
def mkS (l : List Nat) : Str := ⟨l.toArray⟩
def tS (v : Nat) (es : List Ed) : Str := mkS (txt v es)
theorem of_tS {v : Nat} {es : List Ed} {x : Str} (h : tl x = txt v es) : x = tS v es := ext_tl h
theorem tl32 : tl (" " : Str) = [32] := by decide +kernel
theorem tl45 : tl ("-" : Str) = [45] := by decide +kernel
theorem tl58 : tl (":" : Str) = [58] := by decide +kernel
theorem fig_num {i : Int} (h0 : 0 ≤ i) (h1 : i < 10) : numL i.toNat = [48 + i.toNat] := numL_lt (by omega)
theorem str_i {i : Int} (h0 : 0 ≤ i) (h1 : i ≤ 10) : fStr [.int i] = some (.str (nS i.toNat)) := by
  have e : ((i.toNat : Nat) : Int) = i := by omega
  have := str_n (n := i.toNat) (by omega)
  rw [e] at this
  exact this
theorem fmt_i {i : Int} (h0 : 0 ≤ i) (h1 : i ≤ 10) : fFmt (.int i) = some (.str (nS i.toNat)) := by
  have e : ((i.toNat : Nat) : Int) = i := by omega
  have := fmt_n (n := i.toNat) (by omega)
  rw [e] at this
  exact this
section
variable {A : Arn} {es : List Ed}
def wS (p : Ed) : Str := mkS (wP p)
def jsF (x : PyData) : Option PyData := match x with
  | .tuple [.int a, .int b] => some (.str (wS (a, b)))
  | _ => none
theorem jsF_map : ∀ es : List Ed, (encE es).filterMap jsF = (es.map wS).map .str
  | [] => rfl
  | p :: es => by
    have hf : jsF (encP p) = some (.str (wS p)) := rfl
    show List.filterMap jsF (encP p :: encE es) = _
    rw [List.filterMap_cons, jsF_map es, hf]
    rfl
theorem sum_le {n : Nat} : ∀ xs : List Nat, (∀ x, x ∈ xs → x ≤ n) → xs.sum ≤ xs.length * n
  | [], _ => by simp
  | x :: xs, h => by
    rw [List.sum_cons, List.length_cons, Nat.succ_mul]
    have := sum_le xs fun y hy => h y (List.mem_cons_of_mem _ hy)
    have := h x List.mem_cons_self
    omega
theorem show_graph {v : Nat} (hp : plain A) (ok : GOkay v es) : (m_show_graph [.p (encG v es)] A).To fun r A' => r = .p (.str (tS v es)) ∧ A' = A := by
  have hv := ok.hi
  have hl := ok.len
  have l0 : (numL v).length ≤ 3 := numL_len (by omega) (by omega)
  have hvs := fmt_n (n := v) (by omega)
  unfold m_show_graph
  refine To_def ?_
  unfold b_show_graph
  simp
  refine (check_graph hp ok).mono ?_
  rintro _ A1 ⟨rfl, rfl⟩
  unfold encG
  have lv : (nS v).length ≤ 3 := by rw [len_tl, tl_nS]; exact l0
  have le0 : ∀ y : Str, (Str.empty ++ y).length = y.length := fun y => by rw [len_tl, tl_append, len_tl]; rfl
  have lc : (Str.empty ++ nS v ++ (":" : Str)).length ≤ 100000 := by
    rw [len_tl, tl_append, tl_append, tl_nS, tl58]
    show ([] ++ numL v ++ [58]).length ≤ 100000
    simp
    omega
  simp [isS, hvs, le0, lc]
  refine ⟨by omega, ?_⟩
  refine To_comp jsF ?_
  simp
  refine ⟨by rw [encE_length]; omega, fun y hy => ?_, ?_⟩
  · obtain ⟨p, hpm, rfl⟩ := List.mem_map.mp hy
    have hin := ok.inn p hpm
    have n1 := fmt_i (i := p.1) (by omega) (by omega)
    have n2 := fmt_i (i := p.2) (by omega) (by omega)
    have f1 := fig_num (i := p.1) (by omega) (by omega)
    have f2 := fig_num (i := p.2) (by omega) (by omega)
    refine turn_of (f := jsF) ⟨_, rfl, ?_⟩
    have hf : jsF (encP p) = some (.str (wS p)) := rfl
    rw [hf]
    have k1 : (nS p.1.toNat).length ≤ 100000 := by rw [len_tl, tl_nS, f1]; show 1 ≤ 100000; decide
    have k2 : (Str.empty ++ nS p.1.toNat ++ ("-" : Str)).length ≤ 100000 := by
      rw [len_tl, tl_append, tl_append, tl_nS, tl45, f1]
      show 2 ≤ 100000
      decide
    have k3 : (Str.empty ++ nS p.1.toNat ++ ("-" : Str) ++ nS p.2.toNat).length ≤ 100000 := by
      rw [len_tl, tl_append, tl_append, tl_append, tl_nS, tl_nS, tl45, f1, f2]
      show 3 ≤ 100000
      decide
    have es : Str.empty ++ nS p.1.toNat ++ ("-" : Str) ++ nS p.2.toNat = wS p := ext_tl (by
      rw [tl_append, tl_append, tl_append, tl_nS, tl_nS, tl45, f1, f2]
      rfl)
    rw [es] at k3
    simp [wipeS, n1, n2, le0, k1, k2, k3, es]
  · rw [jsF_map]
    have hadd : fAdd (.list [.str (Str.empty ++ nS v ++ (":" : Str))]) (.list ((es.map wS).map .str)) = some (.list (((Str.empty ++ nS v ++ (":" : Str)) :: es.map wS).map .str)) := by
      show (if 1 + ((es.map wS).map PyData.str).length ≤ 100000 then some (PyData.list ([PyData.str _] ++ _)) else none) = _
      rw [if_pos (by rw [List.length_map, List.length_map]; omega)]
      rfl
    have hwl : ∀ p : Ed, (wS p).length = 3 := fun p => by rw [len_tl]; rfl
    have hj : fJoin (.str " ") (.list (((Str.empty ++ nS v ++ (":" : Str)) :: es.map wS).map .str)) = some (.str (tS v es)) := by
      unfold fJoin
      dsimp only
      rw [strsOf_map]
      dsimp only [Option.bind_some]
      have hlen1 : (" " : Str).length = 1 := by decide +kernel
      have hsum : (((Str.empty ++ nS v ++ (":" : Str)) :: es.map wS).map (·.length)).sum ≤ ((Str.empty ++ nS v ++ (":" : Str)) :: es.map wS).length * 4 := by
        have := sum_le (n := 4) (((Str.empty ++ nS v ++ (":" : Str)) :: es.map wS).map (·.length)) (fun x hx => by
          obtain ⟨y, hy, rfl⟩ := List.mem_map.mp hx
          rcases List.mem_cons.mp hy with rfl | hy
          · rw [len_tl, tl_append, tl_append, tl_nS, tl58]
            show ([] ++ numL v ++ [58]).length ≤ 4
            simp
            omega
          · obtain ⟨p, _, rfl⟩ := List.mem_map.mp hy
            rw [hwl]
            omega)
        rw [List.length_map] at this
        exact this
      rw [List.length_cons, List.length_map] at hsum
      rw [if_pos (by rw [hlen1, List.length_cons, List.length_map]; omega)]
      congr 2
      refine of_tS ?_
      rw [join_eq, tl_join, tl32, ← joinL_txt]
      congr 1
      rw [List.map_cons, List.map_map]
      congr 1
      rw [tl_append, tl_append, tl_nS, tl58]
      rfl
    simp only [List.map_cons, List.map_map] at hadd hj
    simp [hadd, hj, hp]
end
end Lw
end

section
set_option maxHeartbeats 4000000
namespace Lw
open PySem PySem.W Mi TL
def neS (s : Str) : Bool := !(tl s).isEmpty
def wF (x : PyData) : Option PyData := match x with
  | .str s => if neS s = true then some (.str s) else none
  | _ => none
theorem wF_map : ∀ L : List Str, (L.map PyData.str).filterMap wF = (L.filter neS).map .str
  | [] => rfl
  | s :: L => by
    have hf : wF (.str s) = if neS s = true then some (.str s) else none := rfl
    rw [List.map_cons, List.filterMap_cons, wF_map L, hf, List.filter_cons]
    by_cases c : neS s = true <;> simp [c]
theorem cut_len_le (s : Nat) : ∀ (l acc w : List Nat), w ∈ cutL s acc l → w.length ≤ acc.length + l.length
  | [], acc, w, h => by
    rw [cutL_nil, List.mem_singleton] at h
    rw [h]
    simp
  | c :: r, acc, w, h => by
    rw [cutL_cons] at h
    by_cases k : c = s
    · rw [if_pos k] at h
      rcases List.mem_cons.mp h with rfl | h
      · simp
      · have := cut_len_le s r [] w h
        simp at this
        simp
        omega
    · rw [if_neg k] at h
      have := cut_len_le s r _ w h
      simp at this
      simp
      omega
theorem cut_count (s : Nat) : ∀ (l acc : List Nat), (cutL s acc l).length ≤ l.length + 1
  | [], acc => by rw [cutL_nil]; simp
  | c :: r, acc => by
    rw [cutL_cons]
    by_cases k : c = s
    · rw [if_pos k, List.length_cons, List.length_cons]
      have := cut_count s r []
      omega
    · rw [if_neg k, List.length_cons]
      have := cut_count s r (acc ++ [c])
      omega
theorem split32 (x : Str) : (Txt.split x " ").map tl = cutL 32 [] (tl x) := by
  have e := split_spl x " " (by decide +kernel) (kind_ok (by decide +kernel))
  rw [tl32, spl_cut] at e
  exact e
theorem wrds_split (x : Str) : ((Txt.split x " ").filter neS).map tl = wrds (tl x) := by
  unfold wrds
  rw [← split32]
  generalize Txt.split x " " = L
  induction L with
  | nil => rfl
  | cons s L ih =>
    rw [List.map_cons, List.filter_cons, List.filter_cons]
    unfold neS
    by_cases c : (!(tl s).isEmpty) = true
    · rw [if_pos c, if_pos c, List.map_cons, ← ih]
      rfl
    · rw [if_neg c, if_neg c, ← ih]
      rfl
structure Rd (x : Str) (v : Nat) (qs : List Ed) : Prop where
  wd : wrds (tl x) = wV v :: qs.map wP
  len : (tl x).length ≤ 2000
  lo : 1 ≤ v
  hi : v ≤ 10
  inn : ∀ q, q ∈ qs → Fig q ∧ q.1 ≠ q.2 ∧ q.1 < v ∧ q.2 < v
  nd : (qs.map nrm).Nodup
  cnt : qs.length ≤ 24
theorem truth_s {s : Str} {A : Arn} (h : s.length ≤ 100000) : truthD (.p (.str s)) A = some (neS s) := by
  show (if s.length ≤ 100000 then some (s.length != 0) else none) = _
  rw [if_pos h, len_tl]
  unfold neS
  cases tl s <;> rfl
theorem map_get {α β : Type} {f : α → β} {g : List β} {xs : List α} (h : xs.map f = g) {i : Nat} {x : α} (hx : xs[i]? = some x) : g[i]? = some (f x) := by
  rw [← h, List.getElem?_map, hx]
  rfl
def RdI (x : Str) (W : List PyData) (v L : Nat) (A : Arn) (ns : List Ed) (i : Nat) (s : Slt) (C : Arn) : Prop :=
  ∃ y4 y5 y6 : Option D, s = [some (.p (.str x)), some (.p (.list W)), some (.p (.int v)), some (.ref L), y4, y5, y6] ∧ C = A ++ [.lst (encE (ns.take i))]
theorem read_graph {A : Arn} {x : Str} {v : Nat} {qs : List Ed} (hp : plain A) (r : Rd x v qs) : (m_read_graph [.p (.str x)] A).To fun d A' => d = .p (encG v ((qs.map nrm).mergeSort pLe)) ∧ A' = A := by
  have hv := r.hi
  have h1 := r.lo
  have hc := r.cnt
  have hxl : x.length ≤ 100000 := by rw [len_tl]; have := r.len; omega
  have e0 := wrds_split x
  rw [r.wd] at e0
  obtain ⟨w, ws, hW, hw, hws⟩ : ∃ w ws, (Txt.split x " ").filter neS = w :: ws ∧ tl w = wV v ∧ ws.map tl = qs.map wP := by
    generalize (Txt.split x " ").filter neS = L at e0
    cases L with
    | nil => cases e0
    | cons w ws =>
      rw [List.map_cons, List.cons.injEq] at e0
      exact ⟨w, ws, rfl, e0.1, e0.2⟩
  have hcut : lfCut (.str x) (.str " ") = some ((Txt.split x " ").map .str) := by
    unfold lfCut
    dsimp only
    rw [if_pos ⟨by decide +kernel, hxl⟩]
  have hwl : ws.length = qs.length := by
    have := congrArg List.length hws
    simpa using this
  unfold m_read_graph
  refine To_def ?_
  unfold b_read_graph
  simp [tyName]
  refine To_comp wF ?_
  simp [isS, hcut]
  refine ⟨?_, fun s hs => ?_, ?_⟩
  · have := congrArg List.length (split32 x)
    rw [List.length_map] at this
    have h2 := cut_count 32 (tl x) []
    have := r.len
    omega
  · refine turn_of (f := wF) ⟨_, rfl, ?_⟩
    have hsl : s.length ≤ 100000 := by
      have hm : tl s ∈ cutL 32 [] (tl x) := by
        rw [← split32]
        exact List.mem_map.mpr ⟨s, hs, rfl⟩
      have := cut_len_le 32 _ _ _ hm
      have := r.len
      rw [len_tl]
      simp at *
      all_goals omega
    simp [wipeS, truth_s hsl, wF]
  have hfm : (List.map PyData.str (Txt.split x " ")).filterMap wF = (w :: ws).map .str := by rw [wF_map, hW]
  have hfm2 : List.filterMap (wF ∘ PyData.str) (Txt.split x " ") = (w :: ws).map .str := by
    rw [← hfm, List.filterMap_map]
  first
    | rw [hfm]
    | rw [hfm2]
  refine (vertices_told hp hv h1 hw).mono ?_
  rintro _ A1 ⟨rfl, rfl⟩
  simp [cut_tail]
  have hlst : ∀ xs : List PyData, lst (A1 ++ [.lst xs]) A1.length = some xs := fun xs => lst_new
  refine forL_to (fun i s C => RdI x ((w :: ws).map .str) v A1.length A1 (qs.map nrm) i s C) ?_ ⟨_, _, _, rfl, rfl⟩ ?_
  · rintro i z s C hz ⟨y4, y5, y6, rfl, rfl⟩
    rw [cnt_get] at hz
    cases hwi : (ws.map PyData.str)[i]? with
    | none => rw [hwi] at hz; cases hz
    | some u =>
      rw [hwi] at hz
      cases hz
      rw [List.getElem?_map] at hwi
      cases hwi2 : ws[i]? with
      | none => rw [hwi2] at hwi; cases hwi
      | some t =>
        rw [hwi2] at hwi
        cases hwi
        have hg := map_get hws hwi2
        rw [List.getElem?_map] at hg
        cases hqi : qs[i]? with
        | none => rw [hqi] at hg; cases hg
        | some q =>
          rw [hqi] at hg
          have ht : tl t = wP q := (Option.some.inj hg).symm
          have hqm := List.mem_of_getElem? hqi
          obtain ⟨i1, i2, i3, i4⟩ := r.inn q hqm
          have hil : i < qs.length := (List.getElem?_eq_some_iff.mp hqi).1
          have hni : (qs.map nrm)[i]? = some (nrm q) := by rw [List.getElem?_map, hqi]; rfl
          have nd := r.nd
          have hnl : (qs.map nrm).length = qs.length := List.length_map ..
          generalize hns : qs.map nrm = ns at *
          have hsplit : ns = ns.take i ++ nrm q :: ns.drop (i + 1) := by
            have h := List.take_append_drop i ns
            have hin : i < ns.length := by omega
            rw [List.drop_eq_getElem_cons hin] at h
            rw [(List.getElem?_eq_some_iff.mp hni).2] at h
            exact h.symm
          have hp1 : plain (A1 ++ [.lst (encE (ns.take i))]) := plain_snoc hp
          simp
          refine (edge_told hp1 hv i1 ht i2 i3 i4).mono ?_
          rintro _ A2 ⟨rfl, rfl⟩
          have hnot : nrm q ∉ ns.take i := fun hm => by
            rw [hsplit, List.nodup_append] at nd
            exact nd.2.2 _ hm _ List.mem_cons_self rfl
          have hlen : fLen [.list (encE (ns.take i))] = some (.int i) := by
            rw [len_E (by rw [List.length_take]; omega), List.length_take, Nat.min_eq_left (by omega)]
          have hin := in_pp (p := nrm q) (es := ns.take i)
          have hne : ¬ (i : Int) = 24 := by omega
          have hll : (encE (ns.take i)).length < 100000 := by rw [encE_length, List.length_take]; omega
          unfold encP at hin ⊢
          simp only [hnot, decide_false] at hin
          simp [hlst, hin, hlen, hne, hll]
          refine ⟨_, _, _, rfl, ?_⟩
          rw [List.take_succ, hni]
          show _ = A1 ++ [.lst (encE (ns.take i ++ [nrm q]))]
          rw [← encE_app]
          rfl
  · rintro s C ⟨y4, y5, y6, rfl, rfl⟩
    rw [cnt_length, List.length_map, hwl, List.take_of_length_le (by rw [List.length_map]; exact Nat.le_refl _)]
    have hs := sorted_pp (es := qs.map nrm) (by rw [List.length_map]; omega)
    simp [hlst, hs, fTuple, hp, encG]
end Lw
end

section
set_option maxHeartbeats 4000000
namespace Lw
open PySem PySem.W Mi TL
section
variable {A : Arn} {n : Nat}
end
end Lw
end

section
set_option maxHeartbeats 4000000
namespace Er
open PySem PySem.W PySem.Calls PyProof.Rows PySem.HandSPX

def IsRows (fld : Str) (body : List Stmt) : Prop := ∃ (msg : Str) (p0 p1 p2 p3 p4 p5 q1 q2 q3 q4 : Pos) (j : Nat),
  (p2.endLine == p4.line) = true ∧ body = [.Expr (.Call (.Attribute (.Call (.Name "super" p0) [] [] p1) "__init__" p2) [.Constant (.str msg) j p3] [] p4) p5, .Assign [.Attribute (.Name "self" q1) fld q2] (.Name fld q3) q4]
def IsHead (fld : Str) (ps : Arguments) : Prop := ∃ p1 p2 : Pos, ps = { posonlyargs := [], args := [{ arg := "self", annotation := none, pos := p1 }, { arg := fld, annotation := none, pos := p2 }], vararg := none, kwonlyargs := [], kw_defaults := [], kwarg := none, defaults := [] }
def IsNames (fld : Str) (sc : Scope) : Prop := sc.kind = .function ∧ sc.isCoroutine = false ∧ sc.isGenerator = false ∧ (∀ x ∈ sc.names, x.2 ≠ .cell) ∧ sc.names.lookup ("self" : Str) = some .local ∧ sc.names.lookup fld = some .local ∧
  sc.names.lookup ("super" : Str) = some .globalImplicit ∧ sc.names.lookup ("__class__" : Str) = some .free
structure Txt (prog : Program) (K : Frag) (mg : Str → Option Value) (nm fld : Str) (C fI : Addr) : Prop where
  gC : mg nm = some (.ref C)
  cls : ∃ nm q N bs bm sn sub ab col dd k0 k1 k2 k3 k5, K.lookup C = some (excClassObj nm q C N bs bm true sn sub ab col dd k0 k1 k2 k3 k5 "ValueError.__new__") ∧ refsVE bm = true
  sa : findIn K (.ref C) "__setattr__" = some (some (.builtin "object.__setattr__"))
  xf : L2.XfC K C
  no : findIn K (.ref C) fld = some none
  iC : findIn K (.ref C) "__init__" = some (some (.ref fI))
  tC : typeIn K (.ref fI) = some (.type "function")
  kC : keepIn K (.ref C) = true
  tyC : typeIn K (.ref C) = some (.type "type")
  te : exmOne K (.ref C) (.ref C) = some true
  sup : ks_superIn K C C "__init__" = some (some (.builtin "ValueError.__init__"))
  inV : subIn K (.ref C) (.type "ValueError") = some true
  inC : mroIn K C (.ref C) = some true
  opq : nsIn K cStatics "thirdparty.any" = some none
  gS : mg "super" = none
  top : (prog.main.scope.names.lookup ("super" : Str)).isSome = false
  fk : fld = "given" ∨ fld = "index"
  fn : ∃ (oc : Value) (od : Option Addr) (qual : Str) (params : Arguments) (body : List Stmt) (scope : Scope) (doc pm : Value) (an : Option Addr) (cda cc : Addr) (ct : Value) (osl : Array (Option Value)) (ccl cl : Value) (cdd cld : Option Addr) (vs : Array Value) (file : Str) (tf : Tok) (ccs csl : Array (Option Value)),
    K.lookup fI = some ⟨oc, od, .func (ksFn "__init__" qual params body scope .none .none doc pm an (.ref cda) ct cc), osl⟩ ∧ codeIn K (.ref cda) qual = true ∧ K.lookup cda = some ⟨ccl, cdd, .fields vs, ccs⟩ ∧ vs[2]? = some (.str file tf) ∧ ((prog.main.file : Str) == file) = true ∧
      K.lookup cc = some ⟨cl, cld, .cell (some (.ref C)), csl⟩ ∧ IsRows fld body ∧ IsHead fld params ∧ IsNames fld scope

theorem one_fits (v : Value) : [v].length ≤ sizeLine := by
  rw [sizeLine_eq]
  exact (by decide : 1 ≤ 16777216)
structure Left (h h' : Heap) (x C dx t1 : Addr) (fld : Str) (v : Value) : Prop where
  keep : ∀ b o, b ≠ x → h.get? b = some o → h'.get? b = some o
  obj : h'.get? x = some { cls := .ref C, dict := some dx, data := .fields #[.ref t1, .none, .none, .none, .bool false, .none] }
  big : h.objs.size ≤ dx
  ne : dx ≠ x
  ns : h'.Ns1 dx (fun y => if y = fld then some v else none)
structure Made (h h' : Heap) (e C d : Addr) (fld : Str) (v : Value) : Prop where
  keep : ∀ b o, h.get? b = some o → h'.get? b = some o
  new : h.objs.size ≤ e
  obj : ∃ oe vs, h'.get? e = some oe ∧ oe.cls = .ref C ∧ oe.dict = some d ∧ oe.data = .fields vs ∧ vs[1]? = some .none
  big : h.objs.size ≤ d
  ne : d ≠ e
  ns : h'.Ns1 d (fun y => if y = fld then some v else none)
section
variable {prog : Program} {w : World} {A : Around} {E : Value → Shared → Prop} {R : Result → Shared → Prop} {s : Shared} {K : Frag} {mg : Str → Option Value} {nm fld : Str} {C fI : Addr}
theorem fk_self (h : fld = "given" ∨ fld = "index") : (("self" : Str) == fld) = false := by
  rcases h with rfl | rfl <;> decide
theorem fk_dbg (h : fld = "given" ∨ fld = "index") : (fld == ("__debug__" : Str)) = false := by
  rcases h with rfl | rfl <;> decide
theorem call_form {env : Env} {o : Expr} {name : Str} {apos pos ap : Pos} {c : Const} {j : Nat} (h : (apos.endLine == pos.line) = true) :
    eval (.Call (.Attribute o name apos) [.Constant c j ap] [] pos) env = (do
      let ov ← attributeBase o name env (eval o env)
      standAt apos.atName
      let (f, first) ← holding [ov] (getMethod ov name (do return (← importBound o env).getD true))
      callWith pos f first (backTo pos (starEach [.Constant c j ap] env)) []) := by
  show (do
      let ov ← attributeBase o name env (eval o env)
      standAt apos.atName
      methodCall o name apos pos env ov 1 (backTo pos (starEach [.Constant c j ap] env)) (backToKw pos (keywordEach [] env))) = _
  have e : methodCallPos true o env apos pos = pure pos := by
    unfold methodCallPos
    rw [if_pos (by rw [h]; rfl)]
  unfold methodCall
  have f : methodCallForm 1 (backTo pos (starEach [.Constant c j ap] env)) (backToKw pos (keywordEach [] env)) = true := rfl
  rw [f, e]
  rfl
theorem init_run (T : Txt prog K mg nm fld C fI) {x t0 : Addr} {v : Value} (X : K.In s.heap) (G : s.heap.Ns mainGlobals mg) (B : ∃ mb, s.heap.Ns builtinsNs mb ∧ ∀ y : Str, y ≠ "__name__" → mb y = bootBuiltins y) (lim : s.heap.NoLimit)
    (hx : s.heap.get? x = some (excO C t0)) (hnx : K.lookup x = none) (deep : A.depth < recursionLimit) {ar : Args} (har : ar = ⟨[.ref x, v], []⟩ ∨ ar = ⟨[.ref x], [(fld, v)]⟩)
    (hq : ∀ h' tk dx t1, Left s.heap h' x C dx t1 fld v → R (.ok (.ret .none)) { s with heap := h', toks := tk }) :
    codeAny (model prog w) A (.call (.ref fI) ar) R s := by
  obtain ⟨oc, od, qual, params, body, scope, doc, pm, an, cda, cc, ct, osl, ccl, cl, cdd, cld, vs, file, tf, ccs, csl, ho, hcd, hcode, hvs, hfile, hcell, hb, hh, hn⟩ := T.fn
  obtain ⟨msg, p0, p1, p2, p3, p4, p5, q1, q2, q3, q4, j, hpos, rfl⟩ := hb
  obtain ⟨a1, a2, rfl⟩ := hh
  obtain ⟨n1, n2, n3, n4, n5, n6, n7, n8⟩ := hn
  obtain ⟨cn, q, N, bs, bm, sn, sub, ab, col, dd, k0, k1, k2, k3, k5, hC, hbm⟩ := T.cls
  have hcl : clsIn K C = some { name := cn, bases := bs, mro := .ref C :: bm, ns := N, qualname := q, hasDict := true, slotNames := sn, subclasses := sub, abstract := ab, collection := col, hasDel := false } := by unfold clsIn; rw [hC] <;> rfl
  have fs := fk_self T.fk
  refine ks_codeAny_call_defAt (fd := ksFn "__init__" qual _ _ scope .none .none doc pm an (.ref cda) ct cc) (binds := [("self", .ref x), (fld, v)]) deep (X _ _ ho) rfl lim (codeRec_of X hcd) rfl
    (BindsTo.of_eq (by rcases har with hr | hr <;> subst hr <;> rcases T.fk with h | h <;> subst h <;> first | rfl | with_unfolding_all rfl)) n4 (fun y hy => ?_) (fun h₁ hns k => ?_) n2 n3 n1
  · rcases List.mem_cons.mp hy with rfl | hy
    · exact n5
    · rcases List.mem_cons.mp hy with rfl | hy
      · exact n6
      · cases hy
  have mself : (fun y => ([("self", Value.ref x), (fld, v)] : List (Str × Value)).reverse.lookup y) "self" = some (.ref x) := by
    show List.lookup ("self" : Str) [(fld, v), ("self", Value.ref x)] = _
    simp [List.lookup, fs]
  have mfld : (fun y => ([("self", Value.ref x), (fld, v)] : List (Str × Value)).reverse.lookup y) fld = some v := by
    show List.lookup fld [(fld, v), ("self", Value.ref x)] = _
    simp [List.lookup]
  have X1 : K.In h₁ := X.keeps k
  have hx1 := k _ _ hx
  have I1 : InstAt h₁ x (excO C t0) C none := ⟨hx1, rfl, rfl, trivial⟩
  have noI : ∀ (sc : Scope) (e : Env), sc.kind = .function → e.scope = sc → interactive e = false := fun sc e h1 h2 => by
    unfold interactive
    rw [h2, h1]
    rfl
  obtain ⟨mb, B1, B2⟩ := B
  refine ks_wpAt_execs_cons (ks_wpAt_Expr_any (ks_wpAt_MethodCall ?_ (call_form hpos)) (noI scope _ n1 rfl) rfl)
  refine ks_wpAt_super_base n7 n8 (by decide) rfl (k _ _ (X _ _ ho)) rfl rfl rfl (k _ _ (X _ _ hcode)) rfl hvs hfile T.top ?_
  refine ks_loadName_global n1 n7 (loadGlobal_builtin (mb := mb) (G.keeps k) T.gS (B1.keeps k) ((B2 "super" (by decide)).trans (by decide +kernel)) ⟨rfl, ?_⟩)
  refine wpAny_loadName_free n1 n8 rfl ⟨_, k _ _ (X _ _ hcell), rfl⟩ ?_
  refine wpAny_loadName_local n1 n5 hns mself ?_
  refine ks_wpAny_isType_cls (k _ _ (X _ _ hC)) rfl ⟨rfl, ?_⟩
  obtain ⟨hp, g, dr, tk, os⟩ := s
  refine ks_wpAny_call_super (k _ _ (X _ _ hC)) rfl hx1 rfl (fun c e => nomatch e) (looks_mroIn X1 T.inC) (fun h2 e2 k2 => ?_)
  have X2 : K.In h2 := X1.keeps k2
  have I2 : InstAt h2 x (excO C t0) C none := ⟨k2 _ _ hx1, rfl, rfl, trivial⟩
  have hsup := T.sup
  unfold ks_superIn at hsup
  rw [hcl] at hsup
  refine kxs_getMethod kxs_ValueError e2 (looks_opaque X2 T.opq) (l₀ := .ref C :: bm) (fun A Q E s k q => wpAny_bind ((looks_clsIn X2 hcl) A _ E s k (wpAny_pure q))) rfl X2 hsup (I2.type.andThen (looks_subIn X2 T.inV)) (ks_ne X2 I2 hcl) (by decide) ?_
  have e3 : (h2.push (kxs_mw "ValueError.__init__" x)).get? h2.objs.size = some (kxs_mw "ValueError.__init__" x) := Heap.get?_push_size _ rfl
  have k3 : ∀ b o, h2.get? b = some o → (h2.push (kxs_mw "ValueError.__init__" x)).get? b = some o := fun b o e => Heap.get?_push_of_some _ e
  generalize h2.push (kxs_mw "ValueError.__init__" x) = h3 at e3 k3
  refine kxs_callWith (i := "ValueError.__init__") (x := x) rfl (evalArgs_plain ?_)
  show wpAny _ _ (spliced ((false, eval (.Constant (.str msg) j p3) _) :: [])) _ _ _
  refine spliced_cons (wpAny_Constant_str (spliced_nil ⟨e3, ?_⟩))
  have X3 : K.In h3 := X2.keeps k3
  have hx3 := k3 _ _ (k2 _ _ hx1)
  refine wpAny_call (codeAny_of_tree ?_)
  show wpAny _ _ (callAny (.ref h2.objs.size) ⟨[] ++ [Value.str msg _], []⟩) _ _ _
  simp only [callAny]
  refine wpAny_bind (wpAny_load e3 ?_)
  have y : (Value.type "method-wrapper" == Value.type "method" || Value.type "method-wrapper" == Value.type "builtin_function_or_method" || Value.type "method-wrapper" == Value.type "method-wrapper") = true := by decide
  simp only [y, if_true]
  refine KFB.if_so (by decide) ?_
  refine wpAny_bind (check_bound_init F.excBase_ValueError.toExcCallFacts (X3 _ _ hC) hx3 rfl ?_)
  refine wpAny_bind (wpAny_pure (wpAny_pure ?_))
  refine ⟨plainId_quiet F.excBase_ValueError.init.plain _, codeAny_builtin F.excBase_ValueError.initEntry ?_⟩
  refine exc_init_tree (cls := .ref C) (t0 := t0) (dv := none) (c2 := .none) (c3 := .none) (b4 := .bool false) hx3 (one_fits _) fun h5 k5 x5 _ => ?_
  have X5 : K.In h5 := fun b o e => k5 b o (fun z => by rw [z, hnx] at e; cases e) (X3 b o e)
  obtain ⟨oL, es, ep, hL, hr⟩ := hns
  have nL : hp.objs.size ≠ x := Nat.ne_of_gt (Heap.lt_size hx)
  have k15 : ∀ b o, b ≠ x → h₁.get? b = some o → h5.get? b = some o := fun b o n e => k5 b o n (k3 b o (k2 b o e))
  have hns5 : h5.Ns hp.objs.size (fun y => ([("self", Value.ref x), (fld, v)] : List (Str × Value)).reverse.lookup y) := ⟨oL, es, ep, k15 _ _ nL hL, hr⟩
  show PySem.wpAt _ _ _ (execs _ _) _ _ _
  refine ks_wpAt_execs_cons (ks_wpAt_Assign_Attr (wpAt_of_wpAny (wpAny_Name (wpAny_loadName_local n1 n6 hns5 mfld (wpAny_Name (wpAny_loadName_local n1 n5 hns5 mself ?_) (by decide))) (fk_dbg T.fk))))
  refine set_plain X5 (ox := excO C h3.objs.size) (od := none) ⟨x5, rfl, rfl, trivial⟩ T.sa ?_
  refine exc_osa X5 x5 hcl (show refsVE (.ref C :: bm) = true from hbm) rfl T.no (fun h6 tk6 dx k6 dn dne hx6 hn6 => ?_)
  show PySem.wpAt _ _ _ (execs _ _) _ _ _
  refine wpAt_of_wpAny (wpAny_execs_nil (hq h6 tk6 dx h3.objs.size ⟨fun b o hb e => k6 b o hb (k15 b o hb (k b o e)), hx6, ?_, dne, hn6⟩))
  exact Nat.le_trans (Nat.le_of_lt (Heap.lt_size (k15 _ _ nL hL))) dn
theorem made (T : Txt prog K mg nm fld C fI) {v : Value} (X : K.In s.heap) (G : s.heap.Ns mainGlobals mg) (B : ∃ mb, s.heap.Ns builtinsNs mb ∧ ∀ y : Str, y ≠ "__name__" → mb y = bootBuiltins y) (lim : s.heap.NoLimit) (deep : A.depth + 1 < recursionLimit)
    (hq : ∀ h' tk e d, Made s.heap h' e C d fld v → R (.ok (.ret (.ref e))) { s with heap := h', toks := tk }) :
    codeAny (model prog w) A (.call (.ref C) ⟨[v], []⟩) R s := by
  obtain ⟨cn, q, N, bs, bm, sn, sub, ab, col, dd, k0, k1, k2, k3, k5, hC, hbm⟩ := T.cls
  obtain ⟨hp, g, dr, tk, os⟩ := s
  have k : ∀ b o, hp.get? b = some o → ((hp.push (kdv_tup [v])).push (excO C hp.objs.size)).get? b = some o := fun b o e => Heap.get?_push_of_some _ (Heap.get?_push_of_some _ e)
  have at_ : ((hp.push (kdv_tup [v])).push (excO C hp.objs.size)).get? (hp.objs.size + 1) = some (excO C hp.objs.size) := by heap_get
  have free : K.lookup (hp.objs.size + 1) = none := by
    cases e : K.lookup (hp.objs.size + 1) with
    | none => rfl
    | some o => exact absurd (Nat.lt_of_succ_lt (Heap.lt_size (show hp.get? (hp.objs.size + 1) = some o from X _ _ e))) (Nat.lt_irrefl _)
  obtain ⟨mb, B1, B2⟩ := B
  refine call_own F.excBase_ValueError (fun X => refsVE_contains X bm hbm) (X _ _ hC) (looks_findIn X T.iC) (fun self => bind_fn X self T.tC) (one_fits v) ?_
  refine init_run (s := ⟨(hp.push (kdv_tup [v])).push (excO C hp.objs.size), g, dr, tk, os⟩) T (X.keeps k) (G.keeps k) ⟨mb, B1.keeps k, B2⟩ (lim.keeps k) at_ free deep (.inl rfl) fun h' tk' dx t1 ⟨k', hx, dn, dne, hns⟩ => ?_
  have old : ∀ b o, hp.get? b = some o → h'.get? b = some o := fun b o e => k' b o (Nat.ne_of_lt (Nat.lt_succ_of_lt (Heap.lt_size e))) (k b o e)
  have z : hp.objs.size + 1 + 1 ≤ dx := by
    have q := dn
    rw [Heap.size_push, Heap.size_push] at q
    exact q
  exact ⟨rfl, hq h' tk' (hp.objs.size + 1) dx ⟨old, Nat.le_succ _, ⟨_, _, hx, rfl, rfl, rfl, rfl⟩, Nat.le_trans (Nat.le_trans (Nat.le_succ _) (Nat.le_succ _)) z, dne, hns⟩⟩
end
end Er
namespace L2
open PySem PySem.Spec PyProof.Rows
theorem er_lookup {fld : Str} {v : V} {v' : Value} (r : RelV v v') (f : Str) : RelO (List.lookup f [(fld, v)]) (if f = fld then some v' else none) := by
  by_cases h : f = fld
  · subst h
    have q : List.lookup f [(f, v)] = some v := by simp [List.lookup]
    rw [if_pos rfl, q]
    exact r
  · have e : (f == fld) = false := by simpa using h
    rw [if_neg h]
    simp [List.lookup, e, RelO]
section
variable {X : Cx} {C fI : Addr} {nm fld : Str}
def tEr (C : Addr) (fld : Str) (ta : TA) : St → Hp → XK → Prop := fun σ H Q => ta σ H fun vs H1 => ∃ v, vs = [v] ∧ ∀ d, H1 d = none → Q (.ref C) (some d) (upd H1 d (.xd [(fld, v)]))
theorem pmk_er {a : Expr} {ta : TA} {p pos : Pos} {k : Nat} (T : Er.Txt X.prog X.K X.mg nm fld C fI) (hr : Room k X.A) (ha : PA X [a] ta) (hg : Gl X nm) (hd : (nm == ("__debug__" : Str)) = false := by decide)
    (he : starEach (a :: []) X.env = (false, eval a X.env) :: starEach [] X.env := by rfl) (hpl : (backTo pos (starEach [] X.env)).any (·.1) = false := by rfl) :
    PMk X (.Call (.Name nm p) [a] [] pos) (tEr C fld ta) := by
  intro pins s σ H Q I h
  refine wpAny_Call_Name_kw (ld_glob I hg T.gC ?_ hd)
  refine PySem.W.callWith_K (h₀ := X.base) I.ok.mod.kin T.kC (thn (ha.run pos pins s σ H _ I h) fun us s1 hh => ?_) he hpl
  obtain ⟨vs, H1, I1, r1, v, ev, q1⟩ := hh
  subst ev
  refine ⟨I1.kIn, ?_⟩
  cases r1 with
  | @cons _ v' _ us' rv rn =>
    cases rn
    show wpAny _ _ (call (.ref C) [v']) _ _ _
    have lim := I1.nolimit
    obtain ⟨mb, B1, B2⟩ := I1.mod.blt
    have bk := I1.bk
    have gl := I1.mod.glob.keeps bk
    have bl : ∃ mb, s1.heap.Ns builtinsNs mb ∧ ∀ y : Str, y ≠ "__name__" → mb y = bootBuiltins y := ⟨mb, B1.keeps bk, B2⟩
    obtain ⟨hp, g, dr, tk, os⟩ := s1
    refine wpAny_call (Er.made T I1.kIn gl bl lim (by have := hr.dp; omega) fun h' tk' e d M => ?_)
    show MkP X pins σ Q (.ref e) ⟨h', g, dr, tk', os⟩
    obtain ⟨oe, fv, hoe, hc, hdd, hdat, h1⟩ := M.obj
    obtain ⟨G', g1, g2⟩ := restrict h' fun b => decide (b ≠ e)
    have gk : ∀ b, b ≠ e → G'.get? b = h'.get? b := fun b hb => g1 b (decide_eq_true hb)
    have ge : G'.get? e = none := g2 e (by simp)
    have old : ∀ b o, hp.get? b = some o → G'.get? b = some o := fun b o q => (gk b (Nat.ne_of_lt (Nat.lt_of_lt_of_le (Heap.lt_size q) M.new))).trans (M.keep b o q)
    have ob : ObjOk X.prog X.w (upd H1 d (.xd [(fld, v)])) G' d (.xd [(fld, v)]) := ⟨_, M.ns.at (fun o q => (gk d M.ne).trans q), fun f => er_lookup rv f⟩
    have J : Inv X pins σ (upd H1 d (.xd [(fld, v)])) ⟨G', g, dr, tk', os⟩ := I1.laid (t' := tk') old M.big ob
    refine ⟨e, oe, fv, ⟨G', g, dr, tk', os⟩, _, .ref C, some d, rfl, J, fun b o q => ?_, ge, hoe, ⟨hc, hdd⟩, hdat, h1, ?_, rfl, I1.bare, raises_own T.xf.exC T.tyC, q1 d (I1.hok.fresh M.big)⟩
    · by_cases hb : b = e
      · have q' : G'.get? b = some o := q
        rw [hb, ge] at q'
        cases q'
      · exact (gk b hb).symm.trans q
    · rw [upd_ne (Ne.symm M.ne)]
      exact I1.hok.fresh M.new
end
end L2
end

section
set_option maxHeartbeats 4000000
namespace L2
open PySem PySem.Spec PyProof.Rows

abbrev TSx := Addr → Value → Option Addr → TS
def dset (i : Nat) (D : Ends) : Ends := ⟨fun σ H => D.nx (σ.set i none) H, D.rt, fun σ H => D.bk (σ.set i none) H, fun σ H => D.ct (σ.set i none) H⟩
abbrev Clause := Value × Option Nat × TSx
def goHd (D : Ends) (o : Option Nat) (ts : TSx) (cls : Value) (d : Option Addr) (σ : St) (H : Hp) : Prop := ∀ a, H a = none → match o with
  | some i => ts a cls d (dset i D) (σ.set i (some (.ref a))) H
  | none => ts a cls d D σ H
def wHd (K : PySem.W.Frag) (Wout : WX) (D : Ends) : List Clause → WX
  | [] => Wout
  | (c, o, ts) :: r => fun cls d σ H => ∃ b, PySem.W.exmOne K cls c = some b ∧ (b = true → goHd D o ts cls d σ H) ∧ (b = false → wHd K Wout D r cls d σ H)
def wTr (n : Nat) (K : PySem.W.Frag) (Wout : WX) (D : Ends) (l : List Clause) : WX := fun cls d σ H => σ.length = n → wHd K Wout D l cls d σ H
def SuiteOk (X : Cx) (sts : List Stmt) (ts : TSx) : Prop := ∀ (a : Addr) (oe : Obj) (cls : Value) (d : Option Addr) (pn : List (Addr × Obj)), Zc cls d oe → (∃ vs, oe.data = .fields vs) → PSs (X.suite a ((a, oe) :: pn)) sts (ts a cls d)
inductive Hds (X : Cx) : List ExceptHandler → List Clause → Prop
  | nil : Hds X [] []
  | anon {x : Str} {c : Value} {ts : TSx} {b : Stmt} {rest : List Stmt} {p q : Pos} {hds : List ExceptHandler} {l : List Clause} (hc : Names X x c) (hs : SuiteOk X (b :: rest) ts) (r : Hds X hds l) : Hds X (.ExceptHandler (some (.Name x p)) none (b :: rest) q :: hds) ((c, none, ts) :: l)
  | as_ {x n : Str} {c : Value} {i : Nat} {ts : TSx} {b : Stmt} {rest : List Stmt} {p q : Pos} {hds : List ExceptHandler} {l : List Clause} (hi : X.N[i]? = some n) (hn : X.env.kindOf n = some .local) (hc : Names X x c) (hs : SuiteOk X (b :: rest) ts) (r : Hds X hds l) :
      Hds X (.ExceptHandler (some (.Name x p)) (some n) (b :: rest) q :: hds) ((c, some i, ts) :: l)
section
variable {X : Cx} {body : List Stmt} {h₀ : ExceptHandler} {hds : List ExceptHandler} {l : List Clause} {pos : Pos} {tb : WX → TS} {Wout : WX}
theorem ps_trys (eS : X.stack = X.env :: X.outer) (eF : X.env.frame = some X.env.locals) (nd : X.N.Nodup) (tk : Takes X Wout)
    (hb : ∀ (W : WX) (pn : List (Addr × Obj)) (xe : Value → Shared → Prop), Takes (X.tr pn xe) W → PassesOwn (model X.prog X.w) X.A X.env xe → PSs (X.tr pn xe) body (tb W)) (hh : Hds X (h₀ :: hds) l) :
    PS X (.Try body (h₀ :: hds) [] [] pos) (fun D σ H => tb (wTr X.N.length X.K Wout D l) D σ H) := by
  refine ⟨fun pins s σ H D I h => ?_⟩
  have k := I.ok
  have frs_ : X.A.frames = some (X.env :: X.outer) := by rw [k.frames, eS]
  refine wpAny_Try_except (wpAny_mono ((hb (wTr X.N.length X.K Wout D l) (X.pn ++ pins) (fun e t1 => wpAny (model X.prog X.w) X.A (noteFrame e X.env) (fun _ t2 => wpAny (model X.prog X.w) X.A (setFlight e none) (fun _ t3 =>
    wpAny (model X.prog X.w) X.A (handleBy e X.env (h₀ :: hds)) (SP X pins D) X.xe t3) X.xe t2) X.xe t1) (fun u z zz => ?_) PassesOwn.looking).run [] s σ H D (I.toTry _) h) (fun f z hz => ?_) (fun e z he => he))
  · obtain ⟨a, B, sI, pins', τ, G, cls, d, rfl, J', nb, up, sky, na, os, ag, w⟩ := zz
    have J : Inv X pins τ G sI := J'.ofTry k
    have w := w J.len
    have sk2 : Sky B (X.env :: X.outer) a (Zc cls d) X.env.locals z.heap := by rw [← eS]; exact sky
    show wpAny (model X.prog X.w) X.A (noteFrame (.ref a) X.env) _ _ _
    refine Sky.land Zc.steady frs_ eF sk2 fun g1 f1 u1 => ?_
    have J1 : Inv X pins τ G { z with heap := g1 } := J.landed nb f1.1 (up.trans u1) os ag
    obtain ⟨o1, vs1, a1, z1, d1⟩ := f1.there
    have far : a ∉ frs (X.env :: X.outer) := fun hm => by
      obtain ⟨_, o', e', hnf⟩ := f1.2.2.1.mem hm
      rw [a1] at e'
      cases e'
      exact hnf _ d1
    have nL : a ≠ X.env.locals := fun y => far (List.mem_filterMap.mpr ⟨X.env, List.mem_cons_self, by rw [eF, y]⟩)
    have nF : a ∉ X.fs := fun hm => by
      obtain ⟨e, he, q⟩ := List.mem_filterMap.mp hm
      exact far (List.mem_filterMap.mpr ⟨e, List.mem_cons_of_mem _ he, q⟩)
    have S1 := J1.suite a1 d1 na nL nF
    have looks : ∀ {c : Value} {b : Bool}, PySem.W.exmOne X.K cls c = some b → _ := fun {c b} hb1 => PySem.W.exm_one (M := model X.prog X.w) (b := b) J1.kIn (fun A Q E s k q => wpAny_typeOf_ref (k _ _ a1) (by rw [z1.1]; exact q)) hb1
    have named : ∀ {x : Str} {c : Value} {p : Pos} {Q : Value → Shared → Prop} {E : Value → Shared → Prop}, Names X x c → Q c { z with heap := g1 } → wpAny (model X.prog X.w) (X.A.mark (some (.ref a))) (eval (.Name x p) X.env) Q E { z with heap := g1 } := fun {x c p Q E} hc q => by
      obtain ⟨hg, hdbg, hm | ⟨hm, hv, hnn⟩⟩ := hc
      · exact ld_glob (X := X.suite a ((a, o1) :: (X.pn ++ pins))) S1 hg hm q hdbg
      · exact ld_blt (X := X.suite a ((a, o1) :: (X.pn ++ pins))) S1 hg hm hv q hnn hdbg
    have go : ∀ {hs2 : List ExceptHandler} {l2 : List Clause}, Hds X hs2 l2 → wHd X.K Wout D l2 cls d τ G → wpAny (model X.prog X.w) X.A (handleBy (.ref a) X.env hs2) (SP X pins D) X.xe { z with heap := g1 } := by
      intro hs2 l2 hk
      induction hk with
      | nil =>
        intro w
        refine wpAny_handleBy_nil ?_
        obtain ⟨_, _, _, oe, vs, T, oT, ts, he, _, hd, h1, _⟩ := id f1
        unfold PySem.passOn
        refine wpAny_bind (wpAny_field he hd h1 ?_)
        rw [if_neg (show ¬ ((Value.ref T == Value.none) = true) from by simp)]
        have fin : wpAny (model X.prog X.w) X.A (setFlight (.ref a) X.env.frame) (fun _ t4 => wpAny (model X.prog X.w) X.A (throw (.ref a) : Sem Flow) (SP X pins D) X.xe t4) X.xe { z with heap := g1 } := by
          rw [eF]
          refine HandSPX.setFlight_upZ f1 fun g2 f2 u2 => wpAny_throw (tk _ _ ⟨a, B, sI, pins, τ, G, cls, d, rfl, J, nb, (up.trans u1).trans u2, .inr (.inr (by rw [eS]; exact f2)), na, os, ag, w⟩)
        first
          | exact wpAny_bind (wpAny_pure (wpAny_bind fin))
          | exact wpAny_bind fin
      | @anon x c ts b rest p q hds3 l3 hc hs r ih =>
        rintro ⟨b1, e1, yes, no⟩
        refine wpAny_handleBy_cons (codeAny_handlers_test (named hc ((looks e1).here ?_))) (by intro y; cases y)
        cases b1 with
        | false => exact ih (no rfl)
        | true =>
          refine codeAny_handlers_suite (HandSPX.lands_againZ f1 fun g2 f2 u2 => ?_)
          have J2 : Inv X pins τ G { z with heap := g2 } := J.landed nb f2.1 ((up.trans u1).trans u2) os ag
          obtain ⟨o2, vs2, a2, z2, d2⟩ := f2.there
          have S2 := J2.suite a2 d2 na nL nF
          have g := yes rfl a na
          refine wpAny_mono ((hs a o2 cls d (X.pn ++ pins) z2 ⟨_, d2⟩).run [] _ _ G _ S2 g) (fun f t6 y => ?_) (fun _ _ y => False.elim y)
          cases f with
          | ret u =>
            obtain ⟨v6, σ6, H6, S6, r6, q6⟩ := y
            exact ⟨_, _, _, S6.unsuite k, r6, q6⟩
          | next =>
            obtain ⟨σ6, H6, S6, q6⟩ := y
            exact ⟨_, _, S6.unsuite k, q6⟩
          | brk =>
            obtain ⟨σ6, H6, S6, q6⟩ := y
            exact ⟨_, _, S6.unsuite k, q6⟩
          | cont =>
            obtain ⟨σ6, H6, S6, q6⟩ := y
            exact ⟨_, _, S6.unsuite k, q6⟩
      | @as_ x n c i ts b rest p q hds3 l3 hi hn hc hs r ih =>
        rintro ⟨b1, e1, yes, no⟩
        refine wpAny_handleBy_cons (codeAny_handlers_test (named hc ((looks e1).here ?_))) (by intro y; cases y)
        cases b1 with
        | false => exact ih (no rfl)
        | true =>
          refine codeAny_handlers_suite_as (HandSPX.lands_againZ f1 fun g2 f2 u2 => ?_)
          have J2 : Inv X pins τ G { z with heap := g2 } := J.landed nb f2.1 ((up.trans u1).trans u2) os ag
          obtain ⟨o2, vs2, a2, z2, d2⟩ := f2.there
          have S2 := J2.suite a2 d2 na nL nF
          have g : ts a cls d (dset i D) (τ.set i (some (.ref a))) G := yes rfl a na
          refine store_ok (X := X.suite a ((a, o2) :: (X.pn ++ pins))) (v := .ref a) S2 nd hi (.inl hn) rfl (fun t5 S5 => ?_) (.inr hn)
          refine wpAny_mono ((hs a o2 cls d (X.pn ++ pins) z2 ⟨_, d2⟩).run [] t5 _ G _ S5 g) (fun f t6 y => ?_) (fun _ _ y => False.elim y)
          have out : ∀ {σ6 : St} {H6 : Hp} {Q : Shared → Prop}, Inv (X.suite a ((a, o2) :: (X.pn ++ pins))) [] σ6 H6 t6 → (∀ t7, Inv X pins (σ6.set i none) H6 t7 → Q t7) →
              wpAny (model X.prog X.w) X.A (do bindName X.env n .none; unbindBehindTheSuite X.env n q) (fun _ t7 => Q t7) X.xe t6 := fun S6 hq => gone_ok (S6.unsuite k) nd hi hn hq
          cases f with
          | ret u =>
            obtain ⟨v6, σ6, H6, S6, r6, q6⟩ := y
            exact out S6 fun t7 J7 => ⟨_, _, _, J7, r6, q6⟩
          | next =>
            obtain ⟨σ6, H6, S6, q6⟩ := y
            exact out S6 fun t7 J7 => ⟨_, _, J7, q6⟩
          | brk =>
            obtain ⟨σ6, H6, S6, q6⟩ := y
            exact out S6 fun t7 J7 => ⟨_, _, J7, q6⟩
          | cont =>
            obtain ⟨σ6, H6, S6, q6⟩ := y
            exact out S6 fun t7 J7 => ⟨_, _, J7, q6⟩
    exact go hh w
  · cases f with
    | ret u =>
      obtain ⟨v, τ, G, J, r, q⟩ := hz
      exact ⟨v, τ, G, J.ofTry k, r, q⟩
    | next =>
      obtain ⟨τ, G, J, q⟩ := hz
      exact wpAny_execs_nil ⟨τ, G, J.ofTry k, q⟩
    | brk =>
      obtain ⟨τ, G, J, q⟩ := hz
      exact ⟨τ, G, J.ofTry k, q⟩
    | cont =>
      obtain ⟨τ, G, J, q⟩ := hz
      exact ⟨τ, G, J.ofTry k, q⟩
end

structure IsC (K : PySem.W.Frag) (C : Addr) : Prop where
  xf : XfC K C
  cl : (PySem.W.clsIn K C).isSome = true
  ha : PySem.W.findIn K (.ref C) "__class__" = some (some (.builtin "object.__class__"))
  hn : PySem.W.specialIn K (.builtin "object.__class__") "__get__" = some (some (.builtin "getset_descriptor.__get__"))
  ht : PySem.W.takesIn K (.builtin "object.__class__") = some true
  hm : PySem.W.mroIn K C (.type "object") = some true
def rIsD (K : PySem.W.Frag) (cls : Value) (d : Option Addr) (a : Addr) : List V → Hp → VK → Prop := fun xs H Q => ∃ (C : Addr) (c : V) (cv : Value) (b : Bool) (dd : Addr) (fs : List (Str × V)), xs = [.ref a, c] ∧ cls = .ref C ∧ d = some dd ∧ IsC K C ∧ H dd = some (.xd fs) ∧ (∀ u, RelV c u → u = cv) ∧ PySem.W.kitOne K (.ref C) cv = some b ∧ Q (.bl b) H
theorem call_isD {X : Cx} {a : Addr} {cls : Value} {d : Option Addr} {oe : Obj} {pn : List (Addr × Obj)} (hz : Zc cls d oe) (hf : ∃ vs, oe.data = .fields vs) : CallR (X.suite a ((a, oe) :: pn)) (.builtin "isinstance") (rIsD X.K cls d a) := by
  intro pins s σ H xs us Q I r h
  obtain ⟨C, c, cv, b, dd, fs, rfl, rfl, rfl, T, ea, hcv, e, q⟩ := h
  cases r with
  | cons rx rr =>
    cases rr with
    | cons rt rr =>
      cases rr
      cases rx
      obtain rfl := hcv _ rt
      obtain ⟨hget, _⟩ := I.pin (a, oe) (List.mem_append.mpr (.inl List.mem_cons_self))
      obtain ⟨vs, hv⟩ := hf
      have hx : ObjOk X.prog X.w H s.heap dd (.xd fs) := I.hok dd _ ea
      obtain ⟨mA, hns, _⟩ := hx
      obtain ⟨od, ho, _⟩ := lookIn_ns hns
      have J : PySem.W.InstAt s.heap a oe C (some od) := ⟨hget, hz.1, by unfold PySem.W.notCls; rw [hv] <;> rfl, by rw [hz.2]; exact ho⟩
      exact PySem.W.kia_one (PySem.W.kitx_exc T.cl T.xf.ga T.xf.gg T.xf.exC T.ha T.hn T.ht T.hm) I.kIn J e (fun z => nomatch z) fun tk => ⟨.bl b, H, I.kept (t' := tk) fun _ _ z => z, rfl, q⟩
end L2
end

section
set_option maxHeartbeats 4000000
namespace Mi
open PySem PySem.Spec PyProof.Rows L2
open Evl (Ex)

def sRaise (cls fld : Str) (m : ME) : MS := fun s A => fromR (m s A) fun d A1 => match frz d A1 with
  | some (x, A2) => .exn ⟨cls, fld, x⟩ A2
  | none => .bad
section
variable {X : Cx} {W : WX}
end

section
variable {K : PySem.W.Frag} {F S S1 H H1 : Hp} {ρ : List Addr} {A : Arn} {n : Nat} {q : Str} {P : Addr}
end

section
variable {X : Cx} {pins : List (Addr × Obj)} {σ : L2.St} {H : Hp} {s : Shared}
end

section
variable {X : Cx} {pins : List (Addr × Obj)} {σ : L2.St} {H : Hp} {s : Shared}
end

abbrev Thunk := Arn → Res D
abbrev MGd := Thunk → Arn → Res D
abbrev WK (E : XK) : WX := fun c d _ H => E c d H
def TTm (K : PySem.W.Frag) (G : MGd) : (XK → Hp → VK → Prop) → Hp → VK → Prop := fun tl H Q => ∃ (F S : Hp) (ρ : List Addr) (A : Arn) (th : Thunk), Wo K F S ρ H A ∧
  (∀ (E : XK) (S' : Hp) (ρ' : List Addr) (H' : Hp) (A' : Arn) (Q' : VK), Le S ρ S' ρ' → Wo K F S' ρ' H' A' → EndG K (WK E) F (RD K) S' ρ' [] Q' (th A') → tl E H' Q') ∧
  (match G th A with
    | .ok v A' => ∀ S' ρ' H' x, Le S ρ S' ρ' → Wo K F S' ρ' H' A' → RD K S' ρ' v x → Q x H'
    | _ => False)
structure GdOk (P : Program) (w : World) (K : PySem.W.Frag) (mg : Str → Option Value) (base : Heap) (x a : Str) (g : Addr) (G : MGd) : Prop where
  ex : ∃ (oc : Value) (od : Option Addr) (pg : Arguments) (bg : List Stmt) (sg : Scope) (dV kV doc pm cdv ct : Value) (an : Option Addr) (osl : Array (Option Value)) (Ng : List Str), K.lookup g = some ⟨oc, od, .func (PySem.W.fnOf x x pg bg sg dV kV doc pm an cdv ct), osl⟩ ∧ PySem.W.codeIn K cdv x = true ∧
    L2.Binds K (PySem.W.fnOf x x pg bg sg dV kV doc pm an cdv ct) [a] [] ∧ FnScope Ng [a] sg ∧ Ng[0]? = some a ∧ Vis sg a ∧
    ∀ (X : Cx) (q : Str), X.prog = P → X.w = w → X.K = K → X.mg = mg → X.base = base → X.A.guards = some [] → Room 2 X.A → LamX.GivesTo X Ng x sg g cdv bg a q (TTm X.K G)
end Mi
end

section
set_option maxHeartbeats 4000000
namespace Mi
open PySem PySem.Spec PyProof.Rows L2
open Evl (Ex)

abbrev Tbs := List (Str × Addr)
structure TbsOk (K : PySem.W.Frag) (h : Heap) (ts : Tbs) : Prop where
  at_ : ∀ p ∈ ts, h.get? p.2 = some { cls := .none, data := .fields #[] }
  out : ∀ p ∈ ts, K.lookup p.2 = none
  def_ : ∀ p ∈ ts, TabAt K p.1 p.2
  nd : (ts.map (·.2)).Nodup
def TbsAt (mg : Str → Option Value) (base : Heap) (ts : Tbs) : Prop := ∀ p ∈ ts, base.BuiltinsAt mg p.2 ∧ mainGlobals ≠ p.2
theorem law_endT {P : Program} {w : World} {K : PySem.W.Frag} {mg mb : Str → Option Value} {k : Nat} {fa a : Addr} {fd : FuncData} {x : Str} {fm : MF} {s₁ : Shared} {vs : List Value} {ns : List Int} {ts : Tbs}
    (KX : K.In s₁.heap) (hns : s₁.heap.Ns mainGlobals mg) (hb : s₁.heap.Ns builtinsNs mb) (hbb : ∀ x : Str, x ≠ "__name__" → mb x = bootBuiltins x) (hlim : s₁.heap.NoLimit) (hg : s₁.gens = #[]) (hT : TbsOk K s₁.heap ts)
    (hbm : ∃ (bm : Addr) (ob : Obj), mg "__builtins__" = some (.ref bm) ∧ bm ≠ builtinsNs ∧ s₁.heap.get? bm = some ob ∧ ob.cls = .type "module" ∧ ob.dict = some builtinsNs ∧ ob.data = .plain)
    (ha : s₁.heap.get? a = some { cls := .type "list", data := .seq vs.toArray }) (hi : IntsAre vs ns) (hl : ns.length ≤ sizeLine) (hr : Room k callerA)
    (F : ∀ base : Heap, K.In base → base.Ns mainGlobals mg → TbsAt mg base ts → FnG P w K mg base k fa fd [x] fm) (hbind : ∀ (s : Shared) (u : Value), BindsTo s fd ⟨[u], []⟩ [(x, u)])
    (hm : ∃ A', fm [.scr ns] (ts.map fun p => O.tab p.1) = .ok (.p (.bool true)) A') :
    codeAny (model P w) callerA (.call (.ref fa) ⟨[.ref a], []⟩) (fun r s' => r = .ok (.ret (.bool true)) ∧ PySem.OldK s₁.heap s'.heap ∧ s'.os = s₁.os ∧ AllBare s'.gens) s₁ := by
  have rv : Vals (ns.map V.int) vs := vals_ints hi
  have isT : ∀ b, b ∈ ts.map (·.2) → s₁.heap.get? b = some { cls := .none, data := .fields #[] } := fun b hb => by
    obtain ⟨p, hp, e⟩ := List.mem_map.mp hb
    rw [← e]
    exact hT.at_ p hp
  have aT : a ∉ ts.map (·.2) := fun z => by
    have q := isT a z
    rw [ha] at q
    have z' : Data.seq vs.toArray _ = Data.fields #[] := congrArg Obj.data (Option.some.inj q)
    cases z'
  have go : ∀ H : Hp, (∀ b o, H b = some o → (b = a ∧ o = .frz { cls := .type "list", data := .seq vs.toArray } (.lst (ns.map V.int))) ∨ (b ∈ ts.map (·.2) ∧ o = .tbl #[])) → (∀ b ∈ ts.map (·.2), H b = some (.tbl #[])) → SqL K H a (ns.map V.int) → (H a ≠ none → K.lookup a = none) →
      codeAny (model P w) callerA (.call (.ref fa) ⟨[.ref a], []⟩) (fun r s' => r = .ok (.ret (.bool true)) ∧ PySem.OldK s₁.heap s'.heap ∧ s'.os = s₁.os ∧ AllBare s'.gens) s₁ := by
    intro H only hTH hS hK
    have out : ∀ {b : Addr}, b ≠ a → b ∉ ts.map (·.2) → H b = none := fun {b} hne hnt => by
      cases q : H b with
      | none => rfl
      | some o =>
        rcases only b o q with ⟨z, _⟩ | ⟨z, _⟩
        · exact absurd z hne
        · exact absurd z hnt
    have kept : ∀ {b : Addr} {o : Obj}, s₁.heap.get? b = some o → H b = none → (hidT s₁.heap H).get? b = some o := fun e n => hidT_get e n
    have free : ∀ {b : Addr} {o : Obj}, s₁.heap.get? b = some o → (∀ xs n, o.data ≠ .seq xs n) → o.data ≠ .fields #[] → H b = none := fun {b o} e n1 n2 => out (by
      rintro rfl
      rw [ha] at e
      cases e
      exact n1 _ _ rfl) fun z => by
        rw [isT b z] at e
        cases e
        exact n2 rfl
    have ndict : ∀ {b : Addr} {o : Obj} {es : Array DictEntry} {ep : Nat}, s₁.heap.get? b = some o → o.data = .dict es ep → H b = none := fun {b o es ep} e d => free e (fun xs n z => by rw [d] at z; cases z) (fun z => by rw [d] at z; cases z)
    have nsK : ∀ {b : Addr} {m : Str → Option Value}, s₁.heap.Ns b m → (hidT s₁.heap H).Ns b m := fun {b m} ⟨o, es, ep, e, d, r⟩ => ⟨o, es, ep, kept e (ndict e d), d, r⟩
    have inB : K.In (hidT s₁.heap H) := fun b o e => kept (KX b o e) (by
      cases q : H b with
      | none => rfl
      | some u =>
        rcases only b u q with ⟨rfl, _⟩ | ⟨z, _⟩
        · rw [hK (by rw [q]; simp)] at e
          cases e
        · obtain ⟨p, hp, ep⟩ := List.mem_map.mp z
          rw [← ep, hT.out p hp] at e
          cases e)
    have hok : HOk P w H s₁.heap := fun b o e => by
      rcases only b o e with ⟨rfl, rfl⟩ | ⟨z, rfl⟩
      · exact ⟨ha, by rw [List.length_map]; exact hl, vs, _, rv, ha⟩
      · exact isT b z
    have nl : (hidT s₁.heap H).NoLimit := by
      obtain ⟨mc, h1, h2⟩ := hlim
      exact ⟨mc, nsK h1, h2⟩
    have tbs : TbsAt mg (hidT s₁.heap H) ts := fun p hp => by
      refine ⟨?_, fun z => ?_⟩
      · obtain ⟨bm, ob, b1, b2, b3, b4, b5, b6⟩ := hbm
        refine ⟨bm, ob, b1, b2, fun z => ?_, fun z => ?_, kept b3 (free b3 (fun xs n z => by rw [b6] at z; cases z) (fun z => by rw [b6] at z; cases z)), b4, b5, b6⟩
        · obtain ⟨o, es, ep, e, d, _⟩ := hns
          rw [z, e] at b3
          cases b3
          rw [d] at b6
          cases b6
        · rw [z, hT.at_ p hp] at b3
          cases b3
          cases b6
      · obtain ⟨o, es, ep, e, d, _⟩ := hns
        rw [z, hT.at_ p hp] at e
        cases e
        cases d
    have e0 : Env0 P w K mg (hidT s₁.heap H) callerA [] s₁ H := ⟨rfl, ⟨inB, nsK hns, ⟨mb, nsK hb, hbb⟩, nl⟩, fun b o e => of_hidT e, Nat.le_of_eq (hidT_size _ _), trivial, fun b hb => (by cases hb), hok, AllBare.of_eq hg⟩
    obtain ⟨A', hfm⟩ := hm
    -- the script stands for others, the tables stand in the arena
    have hsp : spM K 1 fm [.ref a] H (fun v _ => v = .bl true) (fun _ _ _ => False) := by
      have get : ∀ {n : Nat} {o : O}, (ts.map fun p => O.tab p.1)[n]? = some o → ∃ p, ts[n]? = some p ∧ p ∈ ts ∧ o = .tab p.1 ∧ (ts.map (·.2))[n]? = some p.2 := fun {n o} e => by
        rw [List.getElem?_map] at e
        cases q : ts[n]? with
        | none => rw [q] at e; cases e
        | some p =>
          rw [q] at e
          exact ⟨p, rfl, List.mem_of_getElem? q, by simpa using e.symm, by rw [List.getElem?_map, q]; rfl⟩
      let S : Hp := fun b => if b ∈ ts.map (·.2) then none else H b
      have subS : Ex S H := fun b o e => by
        by_cases hb : b ∈ ts.map (·.2)
        · have : S b = none := if_pos hb
          rw [this] at e
          cases e
        · have : S b = H b := if_neg hb
          rw [← this]
          exact e
      have sa : S a = H a := if_neg aT
      have hS2 : SqL K S a (ns.map V.int) := by
        rcases hS with (z | ⟨o, z⟩) | z
        · exact .inl (.inl (by rw [sa]; exact z))
        · exact .inl (.inr ⟨o, by rw [sa]; exact z⟩)
        · exact .inr z
      refine ⟨fun _ => none, S, ts.map (·.2), ts.map fun p => O.tab p.1, [.scr ns], rfl, .cons ⟨a, rfl, hS2⟩ .nil, ⟨subS, fun b o e => (by cases e), fun b e => absurd rfl e, fun n o b e ne g => rfl, by simp, fun n xs e => ?_, fun n xs e => ?_, fun n xs e => ?_, fun n q e => ?_, fun n m o u b e1 e2 n1 n2 g1 g2 => ?_⟩, ?_⟩
      · obtain ⟨p, _, _, z, _⟩ := get e; cases z
      · obtain ⟨p, _, _, z, _⟩ := get e; cases z
      · obtain ⟨p, _, _, z, _⟩ := get e; cases z
      · obtain ⟨p, _, hp, z, g⟩ := get e
        cases z
        have hm2 : p.2 ∈ ts.map (·.2) := List.mem_map.mpr ⟨p, hp, rfl⟩
        exact ⟨p.2, g, if_pos hm2, hT.def_ p hp, #[], hTH _ hm2, True.intro, fun pos cv hc => by
          have z : codeAmong pos [] = some cv := hc
          simp [codeAmong] at z⟩
      · have hn := (List.getElem?_eq_some_iff.mp g1).1
        exact (List.getElem?_inj hn hT.nd).mp (g1.trans g2.symm)
      · rw [hfm]
        intro S' ρ' H' x l w' r
        cases (show Dq K S' x (.bool true) from r)
        rfl
    refine codeAny_mono ((F _ inB (nsK hns) tbs).run callerA [] s₁ H ⟨[.ref a], []⟩ [.ref a] [.ref a] _ _ rfl hr e0 (hbind s₁ (.ref a)) (.cons rfl .nil) hsp) fun r s' h => ?_
    cases r with
    | error e =>
      exfalso
      obtain ⟨_, _, _, _, _, _, _, _, _, _, _, _, z⟩ := h
      exact z.elim
    | ok fl =>
      cases fl with
      | next => exact False.elim h
      | brk => exact False.elim h
      | cont => exact False.elim h
      | ret u =>
        obtain ⟨v, H', os, bare, un, hok', r', q⟩ := h
        obtain rfl : v = .bl true := q
        obtain rfl : u = Value.bool true := r'
        have key : ∀ b o, b ∉ ts.map (·.2) → s₁.heap.get? b = some o → s'.heap.get? b = some o := fun b o nb e => by
          cases q : H b with
          | none => exact un.keep b o e q (fun z => by cases z) (fun z => by cases z)
          | some u =>
            rcases only b u q with ⟨rfl, rfl⟩ | ⟨z, _⟩
            · obtain ⟨e1, _⟩ := hok b _ q
              obtain ⟨e2, _⟩ := hok' b _ (un.frzs b _ _ q)
              rw [e] at e1
              rw [e1]
              exact e2
            · exact absurd z nb
        have grown : ∀ p ∈ ts, ∃ more : Array Value, s'.heap.get? p.2 = some { cls := .none, data := .fields more } := fun p hp => by
          obtain ⟨more, z⟩ := un.tbls p.2 #[] (hTH _ (List.mem_map.mpr ⟨p, hp, rfl⟩))
          exact ⟨_, hok' p.2 _ z⟩
        refine ⟨rfl, ⟨fun b o e => ?_, fun b o e => ?_⟩, os, bare⟩
        · by_cases hb : b ∈ ts.map (·.2)
          · obtain ⟨p, hp, ep⟩ := List.mem_map.mp hb
            obtain ⟨more, hmo⟩ := grown p hp
            obtain ⟨f, of, fd', c, _, _, _, _, hh⟩ := hT.def_ p hp
            rw [← ep] at e ⊢
            rw [hT.at_ p hp] at e
            cases e
            exact .inr (.inl ⟨((PySem.W.codeHd_of_K KX hh).tab (hT.at_ p hp)).isCodeTable, rfl, #[], more, rfl, by rw [Array.empty_append]; exact hmo⟩)
          · exact .inl (key b o hb e)
        · by_cases hb : b ∈ ts.map (·.2)
          · obtain ⟨p, hp, ep⟩ := List.mem_map.mp hb
            obtain ⟨more, hmo⟩ := grown p hp
            rw [← ep]
            exact ⟨_, hmo⟩
          · exact ⟨o, key b o hb e⟩
  cases hk : K.lookup a with
  | some o =>
    have e := KX a o hk
    rw [ha] at e
    cases e
    refine go (fun b => if b ∈ ts.map (·.2) then some (.tbl #[]) else none) (fun b o e => ?_) (fun b hb => if_pos hb) (.inr ⟨_, vs.toArray, _, hk, rfl, rfl, rfl, by rw [List.size_toArray, hi.length]; exact hl, by simpa using rv⟩) fun z => absurd (if_neg aT) z
    by_cases hb : b ∈ ts.map (·.2)
    · have z := (if_pos hb).symm.trans e
      cases z
      exact .inr ⟨hb, rfl⟩
    · have z := (if_neg hb).symm.trans e
      cases z
  | none =>
    refine go (fun b => if b = a then some (.frz { cls := .type "list", data := .seq vs.toArray } (.lst (ns.map V.int))) else if b ∈ ts.map (·.2) then some (.tbl #[]) else none) (fun b o e => ?_) (fun b hb => (if_neg (show ¬ b = a from fun z => aT (by rw [← z]; exact hb))).trans (if_pos hb)) (.inl (.inr ⟨{ cls := .type "list", data := .seq vs.toArray }, if_pos rfl⟩)) fun _ => hk
    by_cases hb : b = a
    · have z := (if_pos hb).symm.trans e
      cases z
      exact .inl ⟨hb, rfl⟩
    · have z := (if_neg hb).symm.trans e
      by_cases hb2 : b ∈ ts.map (·.2)
      · have z := (if_pos hb2).symm.trans z
        cases z
        exact .inr ⟨hb2, rfl⟩
      · have z := (if_neg hb2).symm.trans z
        cases z
theorem law_ofT {l : PySem.W.OpenLaw} {n k : Nat} {q : Program} {loose : List Str} {XP : (Str → Option Value) → Heap → Prop} {YP : World → Heap → Prop} {d : PySem.DefRec} {K : PySem.Params → PySem.W.Frag} {x : Str} {fm : MF} {qs : List Str}
    (hn : l.most = some n) (hn2 : n ≤ sizeLine) (hdf : d.params.defaults = []) (hr : Room k callerA) (hY : ∀ (w : World) (h : Heap), YP w h → (K w.params).In h)
    (F : ∀ (w : World) (mg : Str → Option Value) (fa : Addr) (h : Heap), YP w h → (K w.params).In h → h.Ns mainGlobals mg → mg d.name = some (.ref fa) →
      ∃ (fd : FuncData) (ts : Tbs), ts.map (·.1) = qs ∧ TbsOk (K w.params) h ts ∧ (∀ (s : Shared) (u : Value), BindsTo s fd ⟨[u], []⟩ [(x, u)]) ∧ ∀ base : Heap, (K w.params).In base → base.Ns mainGlobals mg → TbsAt mg base ts → FnG l.prog w (K w.params) mg base k fa fd [x] fm)
    (hm : ∀ ns : List Int, ns.length ≤ n → ∃ A', fm [.scr ns] (qs.map O.tab) = .ok (.p (.bool true)) A') : PySem.W.WalkO q loose XP YP l.row.toRowW d [] (fun f vs => PySem.call f vs) := by
  refine Att.attach_call hn hdf fun w s₀ s₁ mg mb fa o pm cd doc a vs ns G Y ho hd hcd hmg hobj hints hlen hg => ?_
  have KX := hY w _ Y
  obtain ⟨fd, ts, hqs, hT, hb, hF⟩ := F w mg fa _ Y KX G.T.g hmg
  refine law_endT KX G.T.g G.T.b G.T.builtins G.T.nolimit hg hT G.T.bmain hobj hints (Nat.le_trans hlen hn2) hr hF hb ?_
  have e : (ts.map fun p => O.tab p.1) = qs.map O.tab := by rw [← hqs, List.map_map]; rfl
  rw [e]
  exact hm ns hlen
end Mi
end

section
set_option maxHeartbeats 4000000
namespace Mi
open PySem PySem.Spec PyProof.Rows L2
open Evl (Ex)

structure ErF (P : Program) (K : PySem.W.Frag) (mg : Str → Option Value) (nm fld : Str) (C fI : Addr) : Prop where
  t : Er.Txt P K mg nm fld C fI
  k : PySem.W.nsIn K mainGlobals nm = some (some (.ref C))
  i : IsC K C
theorem lookup_one {f : Str} {v : V} : List.lookup f [(f, v)] = some v := by simp [List.lookup]
theorem set_at {α : Type} {l : List α} {i n : Nat} {x : α} (h : l.length = n) (hi : i < n) : (l.set i x)[i]? = some x := by
  rw [List.getElem?_set_self (by rw [h]; exact hi)]
section
variable {K : PySem.W.Frag} {F S H : Hp} {ρ : List Addr} {A : Arn}
end

end Mi
end

section
set_option maxHeartbeats 4000000
namespace Mi
open PySem PySem.Spec PyProof.Rows L2
open Evl (Ex)
section
variable {P : Program} {w : World} {K : PySem.W.Frag} {mg : Str → Option Value} {base : Heap}
end
end Mi
end

section
set_option maxHeartbeats 4000000
namespace Mi
open PySem

@[irreducible] def Res.Wp {α : Type} (r : Res α) (P : α → Arn → Prop) (E : Exn → Arn → Prop) : Prop := match r with
  | .ok a A => P a A
  | .exn e A => E e A
  | .bad => False
@[irreducible] def Out.Wp (o : Out) (N : Slt → Arn → Prop) (R : D → Arn → Prop) (E : Exn → Arn → Prop) : Prop := match o with
  | .nx s A => N s A
  | .rt d A => R d A
  | .exn e A => E e A
  | _ => False
section
variable {α β : Type} {r : Res α} {P Q : α → Arn → Prop} {o : Out} {N N' : Slt → Arn → Prop} {R R' : D → Arn → Prop} {E E' : Exn → Arn → Prop} {s : Slt} {A : Arn}
theorem Res.Wp.mono (h : r.Wp P E) (k : ∀ a A, P a A → Q a A) (l : ∀ e A, E e A → E' e A) : r.Wp Q E' := by
  with_unfolding_all
    cases r with
    | ok a A => exact k _ _ h
    | exn e A => exact l _ _ h
    | bad => exact h
theorem Out.Wp.mono (h : o.Wp N R E) (k : ∀ s A, N s A → N' s A) (l : ∀ d A, R d A → R' d A) (m : ∀ e A, E e A → E' e A) : o.Wp N' R' E' := by
  with_unfolding_all
    cases o with
    | nx s A => exact k _ _ h
    | rt d A => exact l _ _ h
    | bk s A => exact h
    | ct s A => exact h
    | exn e A => exact m _ _ h
    | bad => exact h
theorem Res.To.wp (h : r.To P) : r.Wp P E := by
  with_unfolding_all
    cases r with
    | ok a A => exact h
    | exn e A => exact h.elim
    | bad => exact h
theorem Out.To.wp (h : o.To N R) : o.Wp N R E := by
  with_unfolding_all
    cases o with
    | nx s A => exact h
    | rt d A => exact h
    | bk s A => exact h
    | ct s A => exact h
    | exn e A => exact h.elim
    | bad => exact h
theorem Wp_exn {e : Exn} : (Res.exn e A : Res α).Wp P E ↔ E e A := by with_unfolding_all exact Iff.rfl
theorem Wp_from {f : α → Arn → Out} : (fromR r f).Wp N R E ↔ r.Wp (fun a A => (f a A).Wp N R E) E := by
  with_unfolding_all
    cases r with
    | ok a A => exact Iff.rfl
    | exn e A => exact Iff.rfl
    | bad => exact Iff.rfl
theorem Wp_nx : (Out.nx s A).Wp N R E ↔ N s A := by with_unfolding_all exact Iff.rfl
theorem Wp_rt {d : D} : (Out.rt d A).Wp N R E ↔ R d A := by with_unfolding_all exact Iff.rfl
theorem Wp_ex {e : Exn} : (Out.exn e A).Wp N R E ↔ E e A := by with_unfolding_all exact Iff.rfl
theorem Wp_seq {m k : MS} (h : (m s A).Wp (fun s' A' => (k s' A').Wp N R E) R E) : (sSeq m k s A).Wp N R E := by
  with_unfolding_all
    unfold sSeq
    cases e : m s A <;> (rw [e] at h; exact h)
theorem Wp_if {c : MT} {m k : MS} (h : (c s A).To fun b A1 => (b = true → (m s A1).Wp N R E) ∧ (b = false → (k s A1).Wp N R E)) : (sIf c m k s A).Wp N R E := by
  with_unfolding_all
    unfold sIf
    rw [Wp_from]
    refine h.wp.mono (fun b A1 h => ?_) fun _ _ h => h
    cases b with
    | true => exact h.1 rfl
    | false => exact h.2 rfl
theorem Wp_skip (h : N s A) : (sSkip s A).Wp N R E := Wp_nx.mpr h
theorem Wp_let {i : Nat} {m : ME} (h : (m s A).Wp (fun d A1 => N (s.set i (some d)) A1) E) : (sLet i m s A).Wp N R E := Wp_from.mpr (h.mono (fun _ _ h => Wp_nx.mpr h) fun _ _ h => h)
theorem Wp_drop {m : ME} (h : (m s A).Wp (fun _ A1 => N s A1) E) : (sDrop m s A).Wp N R E := Wp_from.mpr (h.mono (fun _ _ h => Wp_nx.mpr h) fun _ _ h => h)
theorem Wp_ret {m : ME} (h : (m s A).Wp R E) : (sRet m s A).Wp N R E := Wp_from.mpr (h.mono (fun _ _ h => Wp_rt.mpr h) fun _ _ h => h)
theorem Wp_raise {cls fld : Str} {m : ME} (h : (m s A).To fun d A1 => ∃ x A2, frz d A1 = some (x, A2) ∧ E ⟨cls, fld, x⟩ A2) : (sRaise cls fld m s A).Wp N R E := by
  unfold sRaise
  refine Wp_from.mpr (h.wp.mono (fun d A1 ⟨x, A2, e, h⟩ => ?_) fun _ _ h => h)
  rw [e]
  exact Wp_ex.mpr h
theorem Wp_def {names : Nat} {body : MS} {ds : List D} {P : D → Arn → Prop} (hp : plain A)
    (h : (body (ds.map some ++ List.replicate (names - ds.length) none) A).Wp (fun _ A' => (closeV A.length (.p .none) A').To P) (fun d A' => (closeV A.length d A').To P) (fun e A' => plain A' ∧ E e (A'.take A.length))) : (defM names body ds A).Wp P E := by
  unfold defM
  generalize body (ds.map some ++ List.replicate (names - ds.length) none) A = o at h
  unfold finish
  cases o with
  | nx s' A' => exact (Wp_nx.mp h).wp
  | rt d A' => exact (Wp_rt.mp h).wp
  | exn e A' =>
    obtain ⟨h1, h2⟩ := Wp_ex.mp h
    dsimp only
    rw [if_pos (plain_below h1 _ _)]
    exact Wp_exn.mpr h2
  | bk s' A' => with_unfolding_all exact h
  | ct s' A' => with_unfolding_all exact h
  | bad => with_unfolding_all exact h
theorem forL_wp (step : PyData → MS) : ∀ (xs : List PyData) (I : Nat → Slt → Arn → Prop) (s : Slt) (A : Arn), (∀ i x s A, xs[i]? = some x → I i s A → (step x s A).Wp (I (i + 1)) R E) → I 0 s A → (forL step xs s A).Wp (I xs.length) R E
  | [], I, s, A, _, h0 => by
    show (Out.nx s A).Wp (I 0) R E
    exact Wp_nx.mpr h0
  | x :: xs, I, s, A, h, h0 => by
    have h1 := h 0 x s A rfl h0
    show ((step x s A).turn (forL step xs)).Wp (I (xs.length + 1)) R E
    cases e : step x s A with
    | nx s' A' =>
      rw [e, Wp_nx] at h1
      show (forL step xs s' A').Wp (I (xs.length + 1)) R E
      exact forL_wp step xs (fun i => I (i + 1)) s' A' (fun i y t B hy => h (i + 1) y t B (by simpa using hy)) h1
    | rt d A' =>
      rw [e, Wp_rt] at h1
      show (Out.rt d A').Wp _ R E
      exact Wp_rt.mpr h1
    | exn x A' =>
      rw [e, Wp_ex] at h1
      show (Out.exn x A').Wp _ R E
      exact Wp_ex.mpr h1
    | bk s' A' => rw [e] at h1; exact absurd h1 (by with_unfolding_all exact id)
    | ct s' A' => rw [e] at h1; exact absurd h1 (by with_unfolding_all exact id)
    | bad => rw [e] at h1; exact absurd h1 (by with_unfolding_all exact id)
theorem Wp_for {m : MI} {g : MG} {b : MS} (I : Nat → Slt → Arn → Prop) {xs : List PyData} (hm : (m s A).To fun ys A1 => ys = xs ∧ I 0 s A1) (h : ∀ i x s A, xs[i]? = some x → I i s A → (turnF g b x s A).Wp (I (i + 1)) R E) (hN : ∀ s A, I xs.length s A → N s A) : (sFor m g b s A).Wp N R E := by
  unfold sFor
  refine Wp_from.mpr (hm.wp.mono (fun ys A1 ⟨e, h0⟩ => ?_) fun _ _ h => h)
  subst e
  exact (forL_wp _ ys I s A1 h h0).mono hN (fun _ _ h => h) fun _ _ h => h
theorem Wp_turn {g : MG} {b : MS} {x : PyData} {s' : Slt} (h : g x s = some s') (k : (b s' A).Wp N R E) : (turnF g b x s A).Wp N R E := by
  unfold turnF
  rw [h]
  exact k
end
end Mi
end

section
set_option maxHeartbeats 4000000
namespace Lx
open PySem PySem.W Mi TL Lw
def b_words_of : MS :=
  (sRet (mFr (lComp (iS (mFr (lCut (mVar 0) (mC (.str " "))))) (gN 1) (mTru (mVar 1)) (mVar 1) [1])))
def m_words_of : MF := defM 2 b_words_of
def b_number_told : MS :=
  (sSeq (sFor (iR2 (aCons (mVar 1) (aCons (mOp2 (lift2o fAdd) (mVar 2) (mC (.int 1))) aNil))) (gN 3) (sIf (mB (mOp2 (lift2 fEq) (mOpN (liftN fStr) (aCons (mVar 3) aNil)) (mVar 0))) (sRet (mVar 3)) sSkip))
    (sRet (mC .none)))
def m_number_told : MF := defM 4 b_number_told
def b_ends_told : MS :=
  (sSeq (sLet 2 (mFr (lComp (iS (mFr (lCut (mVar 0) (mC (.str "-"))))) (gN 3) mYes (mCall m_number_told (aCons (mVar 3) (aCons (mC (.int 0)) (aCons (mVar 1) aNil)))) [3])))
    (sSeq (sIf (mOr (mB (mOp2 (lift2 fNe) (mOpN (liftN fLen) (aCons (mVar 2) aNil)) (mC (.int 2)))) (mOr (mB (mOp2 (lift2 fIn) (mC .none) (mVar 2))) (mB (mOp2 (lift2 fEq) (mOp2 (lift2 fIx) (mVar 2) (mC (.int 0))) (mOp2 (lift2 fIx) (mVar 2) (mC (.int 1))))))) (sRet (mC .none)) sSkip)
    (sRet (mOpN (liftN fTuple) (aCons (mVar 2) aNil)))))
def m_ends_told : MF := defM 4 b_ends_told

def numIn (lo top : Nat) (l : List Nat) : Option Nat := (List.range top).find? fun n => decide (lo ≤ n) && decide (l = numL n)
theorem numIn_some {lo top n : Nat} {l : List Nat} : numIn lo top l = some n ↔ lo ≤ n ∧ n < top ∧ l = numL n := by
  unfold numIn
  constructor
  · intro h
    have h1 := List.find?_some h
    have h2 := List.mem_of_find?_eq_some h
    simp at h1 h2
    exact ⟨h1.1, h2, h1.2⟩
  · rintro ⟨h1, h2, h3⟩
    cases e : (List.range top).find? fun n => decide (lo ≤ n) && decide (l = numL n) with
    | none =>
      have := List.find?_eq_none.mp e n (List.mem_range.mpr h2)
      simp [h1, h3] at this
    | some m =>
      have g := List.find?_some e
      simp at g
      rw [numL_inj (g.2.symm.trans h3)]
theorem numIn_none {lo top : Nat} {l : List Nat} : numIn lo top l = none ↔ ∀ n, lo ≤ n → n < top → l ≠ numL n := by
  constructor
  · intro h n h1 h2 h3
    rw [numIn_some.mpr ⟨h1, h2, h3⟩] at h
    cases h
  · intro h
    cases e : numIn lo top l with
    | none => rfl
    | some n =>
      obtain ⟨h1, h2, h3⟩ := numIn_some.mp e
      exact absurd h3 (h n h1 h2)
def oI : Option Nat → PyData
  | none => .none
  | some n => .int n
section
variable {A : Arn}
theorem nS_is {n : Nat} {w : Str} : nS n = w ↔ tl w = numL n := by
  constructor
  · rintro rfl
    exact tl_nS n
  · intro h
    exact ext_tl ((tl_nS n).trans h.symm)
theorem ok_nS (n : Nat) : PyData.strOk (nS n) = true := ok_num (tl_nS n)
theorem number_told (hp : plain A) {w : Str} {lo top : Nat} {hi : Int} (hw : PyData.strOk w = true) (ht : hi + 1 = (top : Int)) (h2 : top ≤ 101) (h1 : lo ≤ 101) :
    (m_number_told [.p (.str w), .p (.int lo), .p (.int hi)] A).To fun r A' => r = .p (oI (numIn lo top (tl w))) ∧ A' = A := by
  unfold m_number_told
  refine To_def ?_
  unfold b_number_told
  simp
  refine To_iR2 ?_
  simp
  refine ⟨_, _, ⟨rfl, rfl⟩, by unfold small; omega, by unfold small; omega, ?_⟩
  have en : (hi + 1 - (lo : Int)).toNat = top - lo := by omega
  rw [en]
  refine forL_to (fun i s C => (∃ y, s = [some (.p (.str w)), some (.p (.int lo)), some (.p (.int hi)), y]) ∧ C = A ∧ ∀ n, lo ≤ n → n < lo + i → tl w ≠ numL n) ?_ ⟨⟨none, rfl⟩, rfl, fun n h1 h2 => by omega⟩ ?_
  · rintro i x s C hx ⟨⟨y, rfl⟩, rfl, hno⟩
    unfold rangeD at hx
    rw [List.getElem?_map] at hx
    have hi2 : i < top - lo := by
      by_cases c : i < top - lo
      · exact c
      · rw [List.getElem?_eq_none (by simp; omega)] at hx
        cases hx
    rw [List.getElem?_range hi2] at hx
    cases hx
    have ei : (lo : Int) + (i : Int) = ((lo + i : Nat) : Int) := by omega
    show (turnF _ _ (PyData.int ((lo : Int) + (i : Int))) _ _).To _ _
    rw [ei]
    have hs := str_n (n := lo + i) (by omega)
    have he := eq_ss (ok_nS (lo + i)) hw
    have hq : nS (lo + i) = w ↔ tl w = numL (lo + i) := nS_is
    generalize hm : lo + i = m at *
    by_cases c : tl w = numL m
    · have : numIn lo top (tl w) = some m := numIn_some.mpr ⟨by omega, by omega, c⟩
      simp [hs, he, hq, c, hp]
      rw [← c, this]
      rfl
    · simp [hs, he, hq, c]
      intro n h1 h2
      by_cases e : n = m
      · rw [e]; exact c
      · exact hno n h1 (by omega)
  · rintro s C ⟨⟨y, rfl⟩, rfl, hno⟩
    have hl : (rangeD (lo : Int) (top - lo)).length = top - lo := by unfold rangeD; rw [List.length_map, List.length_range]
    rw [hl] at hno
    have : numIn lo top (tl w) = none := numIn_none.mpr fun n h1 h2 => hno n h1 (by omega)
    simp [this, hp, oI]
theorem cut_sub (s : Nat) : ∀ (l acc w : List Nat), w ∈ cutL s acc l → ∀ c, c ∈ w → c ∈ acc ∨ c ∈ l
  | [], acc, w, h, c, hc => by
    rw [cutL_nil, List.mem_singleton] at h
    rw [h] at hc
    exact .inl hc
  | d :: r, acc, w, h, c, hc => by
    rw [cutL_cons] at h
    by_cases k : d = s
    · rw [if_pos k] at h
      rcases List.mem_cons.mp h with rfl | h
      · exact .inl hc
      · rcases cut_sub s r [] w h c hc with z | z
        · cases z
        · exact .inr (List.mem_cons_of_mem _ z)
    · rw [if_neg k] at h
      rcases cut_sub s r _ w h c hc with z | z
      · rcases List.mem_append.mp z with z | z
        · exact .inl z
        · rw [List.mem_singleton] at z
          rw [z]
          exact .inr List.mem_cons_self
      · exact .inr (List.mem_cons_of_mem _ z)
theorem ok_mem {x : Str} (h : PyData.strOk x = true) : ∀ c, c ∈ tl x → c < 1114112 := fun c hc => by
  unfold PyData.strOk at h
  rw [← Array.all_toList, List.all_eq_true] at h
  exact of_decide_eq_true (h c hc)
theorem split45 (x : Str) : (Txt.split x "-").map tl = cutL 45 [] (tl x) := by
  have e := split_spl x "-" (by decide +kernel) (kind_ok (by decide +kernel))
  rw [tl45, spl_cut] at e
  exact e
theorem piece_ok {s : Nat} {x : Str} {L : List Str} (e : L.map tl = cutL s [] (tl x)) (hx : PyData.strOk x = true) {w : Str} (hw : w ∈ L) : PyData.strOk w = true ∧ w.length ≤ x.length := by
  have hm : tl w ∈ cutL s [] (tl x) := by
    rw [← e]
    exact List.mem_map.mpr ⟨w, hw, rfl⟩
  refine ⟨ok_tl fun c hc => ?_, ?_⟩
  · rcases cut_sub s _ _ _ hm c hc with z | z
    · cases z
    · exact ok_mem hx c z
  · have := cut_len_le s _ _ _ hm
    rw [len_tl, len_tl]
    simpa using this
theorem pieces_len {s : Nat} {x : Str} {L : List Str} (e : L.map tl = cutL s [] (tl x)) : L.length ≤ x.length + 1 := by
  have := congrArg List.length e
  rw [List.length_map] at this
  have h2 := cut_count s (tl x) []
  rw [len_tl]
  omega
theorem cut32 {x : Str} (h : x.length ≤ 90000) : lfCut (.str x) (.str " ") = some ((Txt.split x " ").map .str) := by
  unfold lfCut
  dsimp only
  rw [if_pos ⟨by decide +kernel, by omega⟩]
theorem cut45 {x : Str} (h : x.length ≤ 90000) : lfCut (.str x) (.str "-") = some ((Txt.split x "-").map .str) := by
  unfold lfCut
  dsimp only
  rw [if_pos ⟨by decide +kernel, by omega⟩]
def wordsOf (x : Str) : List Str := (Txt.split x " ").filter neS
theorem words_of (hp : plain A) {x : Str} (hx : PyData.strOk x = true) (hl : x.length ≤ 90000) : (m_words_of [.p (.str x)] A).To fun r A' => r = .p (.list ((wordsOf x).map .str)) ∧ A' = A := by
  have hcut := cut32 hl
  have hn := pieces_len (split32 x)
  unfold m_words_of
  refine To_def ?_
  unfold b_words_of
  simp
  refine To_comp wF ?_
  simp [isS, hcut]
  refine ⟨by omega, fun s hs => ?_, ?_⟩
  · refine turn_of (f := wF) ⟨_, rfl, ?_⟩
    have hsl : s.length ≤ 100000 := by have := (piece_ok (split32 x) hx hs).2; omega
    simp [wipeS, truth_s hsl, wF]
  · have hfm : (List.map PyData.str (Txt.split x " ")).filterMap wF = (wordsOf x).map .str := wF_map _
    have hfm2 : List.filterMap (wF ∘ PyData.str) (Txt.split x " ") = (wordsOf x).map .str := by
      rw [← hfm, List.filterMap_map]
    first
      | rw [hfm]
      | rw [hfm2]
    simp [hp]
def nF (top : Nat) (x : PyData) : Option PyData := match x with
  | .str s => some (oI (numIn 0 top (tl s)))
  | _ => none
theorem nF_map (top : Nat) : ∀ L : List Str, (L.map PyData.str).filterMap (nF top) = (L.map fun s => numIn 0 top (tl s)).map oI
  | [] => rfl
  | s :: L => by
    have hf : nF top (.str s) = some (oI (numIn 0 top (tl s))) := rfl
    rw [List.map_cons, List.filterMap_cons, nF_map top L, hf]
    rfl
theorem sh_o2 (a b : Option Nat) : SeqAt.shaped (.list [oI a, oI b]) = true := by
  unfold SeqAt.shaped
  cases a <;> cases b <;> simp [oI, PyData.canLay0, PyData.canLayAll0, PyData.depth, PyData.depthAll]
theorem in_o2 (a b : Option Nat) : fIn .none (.list [oI a, oI b]) = some (.bool (decide (a = none) || decide (b = none))) := by
  unfold fIn
  dsimp only
  rw [if_pos ⟨by decide, sh_o2 a b⟩]
  cases a <;> cases b <;> simp [oI, PyData.eqv]
def endsIn (top : Nat) (ns : List (Option Nat)) : Option Ed := match ns with
  | [some a, some b] => if a = b then none else some ((a : Int), (b : Int))
  | _ => none
def endsOf (top : Nat) (w : Str) : Option Ed := endsIn top ((Txt.split w "-").map fun s => numIn 0 top (tl s))
def oE : Option Ed → PyData
  | none => .none
  | some p => encP p
theorem ends_told (hp : plain A) {w : Str} {top : Nat} {hi : Int} (hw : PyData.strOk w = true) (hl : w.length ≤ 90000) (ht : hi + 1 = (top : Int)) (h2 : top ≤ 101) :
    (m_ends_told [.p (.str w), .p (.int hi)] A).To fun r A' => r = .p (oE (endsOf top w)) ∧ A' = A := by
  have hcut := cut45 hl
  have hn := pieces_len (split45 w)
  unfold m_ends_told
  refine To_def ?_
  unfold b_ends_told
  simp
  refine To_comp (nF top) ?_
  simp [isS, hcut]
  refine ⟨by omega, fun s hs => ?_, ?_⟩
  · refine turn_of (f := nF top) ⟨_, rfl, ?_⟩
    simp [wipeS]
    refine (number_told (lo := 0) hp (piece_ok (split45 w) hw hs).1 ht h2 (by omega)).mono ?_
    rintro _ _ ⟨rfl, rfl⟩
    simp [nF]
  · have hfm : (List.map PyData.str (Txt.split w "-")).filterMap (nF top) = ((Txt.split w "-").map fun s => numIn 0 top (tl s)).map oI := nF_map top _
    have hfm2 : List.filterMap (nF top ∘ PyData.str) (Txt.split w "-") = ((Txt.split w "-").map fun s => numIn 0 top (tl s)).map oI := by
      rw [← hfm, List.filterMap_map]
    first
      | rw [hfm]
      | rw [hfm2]
    unfold endsOf
    have hnl : ((Txt.split w "-").map fun s => numIn 0 top (tl s)).length ≤ 90001 := by rw [List.length_map]; omega
    generalize (Txt.split w "-").map (fun s => numIn 0 top (tl s)) = ns at *
    have hlen : fLen [.list (ns.map oI)] = some (.int ns.length) := by
      unfold fLen
      dsimp only
      rw [if_pos (by rw [List.length_map]; omega), List.length_map]
    by_cases c2 : ns.length = 2
    · match ns, c2 with
      | [a, b], _ =>
        have hin := in_o2 a b
        have hl2 : fLen [.list [oI a, oI b]] = some (.int 2) := rfl
        cases a with
        | none => simp [hl2, hin, endsIn, oE, hp]
        | some a =>
          cases b with
          | none => simp [hl2, hin, endsIn, oE, hp]
          | some b =>
            have hl3 : fLen [.list [.int (a : Int), .int (b : Int)]] = some (.int 2) := rfl
            by_cases c : a = b
            · subst c
              simp [oI] at hin
              simp [hl3, hin, endsIn, oE, oI, hp]
            · simp [oI] at hin
              have c4 : ¬ (a : Int) = (b : Int) := by omega
              simp [hl3, hin, endsIn, oE, oI, hp, c, c4, fTuple, encP]
    · have e : endsIn top ns = none := by
        unfold endsIn
        split
        · exact absurd rfl c2
        · rfl
      have c3 : ¬ (ns.length : Int) = 2 := by omega
      simp [hlen, c3, e, oE, hp]
end
end Lx
end

section
set_option maxHeartbeats 4000000
namespace Lx
open PySem PySem.W Mi TL Lw
def b__vertices_told : MS :=
  (sSeq (sIf (mOr (mNot (mTru (mVar 0))) (mNot (mTru (mS1 fEnds (mOp2 (lift2 fIx) (mVar 0) (mC (.int 0))) (mC (.str ":")))))) (sRet (mC .none)) sSkip)
    (sRet (mCall m_number_told (aCons (mSlA (mOp2 (lift2 fIx) (mVar 0) (mC (.int 0))) pNo (pSome (mOp1 (lift1 fNeg) (mC (.int 1))))) (aCons (mC (.int 1)) (aCons (mC (.int 10)) aNil))))))
def m__vertices_told : MF := defM 1 b__vertices_told
def b__edge_told : MS :=
  (sSeq (sLet 2 (mCall m_ends_told (aCons (mVar 0) (aCons (mOp2 (lift2 fSub) (mVar 1) (mC (.int 1))) aNil))))
    (sRet (mIfE (mB (mIsN false (mVar 2))) (mC .none) (mOpN (liftN fTuple) (aCons (mFr (lOpN lfSorted (aCons (mVar 2) aNil))) aNil)))))
def m__edge_told : MF := defM 3 b__edge_told
def b_read_graph : MS :=
  (sSeq (sIf (mB (mTyIs "str" true (mVar 0))) (sRaise "InvalidText" "index" (mC .none)) sSkip)
    (sSeq (sLet 1 (mCall m_words_of (aCons (mVar 0) aNil)))
    (sSeq (sLet 2 (mCall m__vertices_told (aCons (mVar 1) aNil)))
    (sSeq (sIf (mB (mIsN false (mVar 2))) (sRaise "InvalidText" "index" (mC (.int 0))) sSkip)
    (sSeq (sLet 3 (mAl (lDisp aNil)))
    (sSeq (sFor (iEnS 1 (mSlA (mVar 1) (pSome (mC (.int 1))) pNo)) (gTp (gMore (gN 4) (gMore (gN 5) gNone))) (sSeq (sLet 6 (mCall m__edge_told (aCons (mVar 5) (aCons (mVar 2) aNil))))
    (sSeq (sIf (mOr (mB (mIsN false (mVar 6))) (mOr (mB (mOp2 (lift2 fIn) (mVar 6) (mVar 3))) (mB (mOp2 (lift2 fEq) (mOpN (liftN fLen) (aCons (mVar 3) aNil)) (mC (.int 24)))))) (sRaise "InvalidText" "index" (mVar 4)) sSkip)
    (sDrop (mMt isL fAppend (mVar 3) (aCons (mVar 6) aNil))))))
    (sRet (mTup (aCons (mVar 2) (aCons (mOpN (liftN fTuple) (aCons (mFr (lOpN lfSorted (aCons (mVar 3) aNil))) aNil)) aNil))))))))))
def m_read_graph : MF := defM 7 b_read_graph
def edgeOf (v : Nat) (w : Str) : Option Ed := (endsOf v w).map nrm
theorem srt2 (a b : Int) : lfSorted [.tuple [.int a, .int b]] = some (if a ≤ b then [.int a, .int b] else [.int b, .int a]) := by
  unfold lfSorted
  dsimp only
  rw [if_pos]
  · unfold srt
    have h : PySem.W.dataLe false id (.int a) (.int b) = decide (a ≤ b) := congrFun (congrFun (PySem.W.dataLe_int (β := Int) id) a) b
    simp [List.mergeSort, List.MergeSort.Internal.splitInTwo, List.merge, h]
  · exact ⟨rfl, rfl, by simp, by simp [PyData.depthAll, PyData.depth]⟩
theorem ends_in {v : Nat} {w : Str} {p : Ed} (h : endsOf v w = some p) : 0 ≤ p.1 ∧ p.1 < v ∧ 0 ≤ p.2 ∧ p.2 < v ∧ p.1 ≠ p.2 := by
  unfold endsOf endsIn at h
  split at h
  · rename_i a b e
    by_cases c : a = b
    · rw [if_pos c] at h; cases h
    · rw [if_neg c] at h
      cases h
      have ha : some a ∈ (Txt.split w "-").map fun s => numIn 0 v (tl s) := by rw [e]; simp
      have hb : some b ∈ (Txt.split w "-").map fun s => numIn 0 v (tl s) := by rw [e]; simp
      obtain ⟨x, _, hx⟩ := List.mem_map.mp ha
      obtain ⟨y, _, hy⟩ := List.mem_map.mp hb
      have hx := (numIn_some.mp hx).2.1
      have hy := (numIn_some.mp hy).2.1
      dsimp only
      omega
  · cases h
theorem edge_in {v : Nat} {w : Str} {p : Ed} (h : edgeOf v w = some p) : 0 ≤ p.1 ∧ p.1 < p.2 ∧ p.2 < v := by
  unfold edgeOf at h
  cases e : endsOf v w with
  | none => rw [e] at h; cases h
  | some q =>
    rw [e] at h
    cases h
    have := ends_in e
    unfold nrm
    split <;> (try dsimp only) <;> omega
section
variable {A : Arn}
theorem edge_told (hp : plain A) {w : Str} {v : Nat} (hw : PyData.strOk w = true) (hl : w.length ≤ 90000) (h2 : v ≤ 101) :
    (m__edge_told [.p (.str w), .p (.int v)] A).To fun r A' => r = .p (oE (edgeOf v w)) ∧ A' = A := by
  unfold m__edge_told
  refine To_def ?_
  unfold b__edge_told
  simp
  refine (ends_told (top := v) (hi := (v : Int) - 1) hp hw hl (by omega) h2).mono ?_
  rintro _ _ ⟨rfl, rfl⟩
  unfold edgeOf
  cases e : endsOf v w with
  | none => simp [oE, hp]
  | some p =>
    have hs := srt2 p.1 p.2
    have hne := (ends_in e).2.2.2.2
    by_cases c : p.1 ≤ p.2
    · have c2 : p.1 < p.2 := by omega
      simp [oE, encP, hs, c, fTuple, hp, nrm, c2]
    · have c2 : ¬ p.1 < p.2 := by omega
      simp [oE, encP, hs, c, fTuple, hp, nrm, c2]
def vertW (w : Str) : Option Nat := if Txt.endswith w ":" = true then numIn 1 11 (tl (L2.cutS w none (some (-1)))) else none
def vertOf : List Str → Option Nat
  | [] => none
  | w :: _ => vertW w
theorem cutS_ok {w : Str} {lo hi : Option Int} (h : PyData.strOk w = true) : PyData.strOk (L2.cutS w lo hi) = true := by
  refine ok_tl fun c hc => ok_mem h c ?_
  unfold L2.cutS at hc
  rw [tl_mk] at hc
  exact List.mem_of_mem_drop (List.mem_of_mem_take hc)
theorem vert_in {W : List Str} {v : Nat} (h : vertOf W = some v) : 1 ≤ v ∧ v ≤ 10 := by
  unfold vertOf at h
  split at h
  · cases h
  · unfold vertW at h
    split at h
    · have := numIn_some.mp h
      omega
    · cases h
theorem vertices_told (hp : plain A) {W : List Str} (hW : ∀ w, w ∈ W → PyData.strOk w = true ∧ w.length ≤ 90000) :
    (m__vertices_told [.p (.list (W.map .str))] A).To fun r A' => r = .p (oI (vertOf W)) ∧ A' = A := by
  unfold m__vertices_told
  refine To_def ?_
  unfold b__vertices_told
  cases W with
  | nil =>
    have ht : ∀ A : Arn, truthD (.p (.list [])) A = some false := fun _ => rfl
    simp [ht, vertOf, oI, hp]
  | cons w ws =>
    obtain ⟨h1, h2⟩ := hW w List.mem_cons_self
    have ht : ∀ A : Arn, truthD (.p (.list (.str w :: ws.map .str))) A = some true := fun _ => rfl
    have hix : L2.atI (PyData.str w :: ws.map .str) 0 = some (.str w) := at_nat (i := 0) rfl
    have hs : fSlA (.str w) none (some (-1)) = some (.str (L2.cutS w none (some (-1)))) := by
      show fSl (.str w) none (some (-1)) = _
      unfold fSl
      dsimp only
      rw [if_pos (by omega)]
    have he : fEnds (.str w) (.str ":") = some (.bool (Txt.endswith w ":")) := rfl
    show _
    unfold vertOf vertW
    by_cases c : Txt.endswith w ":" = true
    · simp [ht, isS, he, hs, hix, c]
      refine (number_told (lo := 1) (top := 11) (hi := 10) hp (cutS_ok h1) (by omega) (by omega) (by omega)).mono ?_
      rintro _ _ ⟨rfl, rfl⟩
      simp [hp]
    · have c2 : Txt.endswith w ":" = false := by simpa using c
      simp [ht, isS, he, hs, hix, c2, hp, oI]
def rdGo (v : Nat) : Nat → List Ed → List Str → Except Nat (List Ed)
  | _, acc, [] => .ok acc
  | i, acc, w :: W => match edgeOf v w with
    | none => .error i
    | some p => if p ∈ acc ∨ acc.length = 24 then .error i else rdGo v (i + 1) (acc ++ [p]) W
theorem rdGo_cons (v i : Nat) (acc : List Ed) (w : Str) (W : List Str) : rdGo v i acc (w :: W) = match edgeOf v w with
    | none => .error i
    | some p => if p ∈ acc ∨ acc.length = 24 then .error i else rdGo v (i + 1) (acc ++ [p]) W := rfl
def rdAll (W : List Str) : Except Nat (Nat × List Ed) := match vertOf W with
  | none => .error 0
  | some v => match rdGo v 1 [] W.tail with
    | .error i => .error i
    | .ok es => .ok (v, es)
structure Acc (v : Nat) (acc : List Ed) : Prop where
  inn : ∀ p, p ∈ acc → 0 ≤ p.1 ∧ p.1 < p.2 ∧ p.2 < v
  nd : acc.Nodup
  len : acc.length ≤ 24
theorem Acc.snoc {v : Nat} {acc : List Ed} {p : Ed} {w : Str} (h : Acc v acc) (e : edgeOf v w = some p) (n : ¬ (p ∈ acc ∨ acc.length = 24)) : Acc v (acc ++ [p]) := by
  refine ⟨fun q hq => ?_, ?_, ?_⟩
  · rcases List.mem_append.mp hq with hq | hq
    · exact h.inn q hq
    · rw [List.mem_singleton] at hq
      rw [hq]
      exact edge_in e
  · rw [List.nodup_append]
    refine ⟨h.nd, by simp, fun a ha b hb => ?_⟩
    rw [List.mem_singleton] at hb
    rw [hb]
    rintro rfl
    exact n (.inl ha)
  · have := h.len
    rw [List.length_append, List.length_cons, List.length_nil]
    have : acc.length ≠ 24 := fun e => n (.inr e)
    omega
def RxI (x : Str) (W T : List Str) (v L : Nat) (A : Arn) (i : Nat) (s : Slt) (C : Arn) : Prop :=
  ∃ (acc : List Ed) (y4 y5 y6 : Option D), s = [some (.p (.str x)), some (.p (.list (W.map .str))), some (.p (.int v)), some (.ref L), y4, y5, y6] ∧ C = A ++ [.lst (encE acc)] ∧ Acc v acc ∧ rdGo v 1 [] T = rdGo v (1 + i) acc (T.drop i)
theorem read_graph (hp : plain A) {x : Str} (hx : PyData.strOk x = true) (hl : x.length ≤ 90000) : (m_read_graph [.p (.str x)] A).Wp (fun d A' => (∃ v es, rdAll (wordsOf x) = .ok (v, es) ∧ d = .p (encG (v : Int) (es.mergeSort pLe))) ∧ A' = A)
    fun e A' => (∃ i : Nat, rdAll (wordsOf x) = .error i ∧ e = ⟨"InvalidText", "index", .int i⟩) ∧ A' = A := by
  have hW : ∀ w, w ∈ wordsOf x → PyData.strOk w = true ∧ w.length ≤ 90000 := fun w hw => by
    unfold wordsOf at hw
    have := piece_ok (split32 x) hx (List.mem_filter.mp hw).1
    exact ⟨this.1, by omega⟩
  unfold m_read_graph
  refine Wp_def hp ?_
  unfold b_read_graph
  refine Wp_seq (Wp_if ?_)
  simp [tyName]
  refine Wp_skip ?_
  refine Wp_seq (Wp_let (Res.To.wp ?_))
  simp
  refine (words_of hp hx hl).mono ?_
  rintro _ _ ⟨rfl, rfl⟩
  refine Wp_seq (Wp_let (Res.To.wp ?_))
  simp
  refine (vertices_told hp hW).mono ?_
  rintro _ _ ⟨rfl, rfl⟩
  refine Wp_seq (Wp_if ?_)
  cases hv : vertOf (wordsOf x) with
  | none =>
    simp [oI]
    refine Wp_raise ?_
    simp [frz, hp]
    exact ⟨_, _, ⟨rfl, rfl⟩, hp, ⟨0, by unfold rdAll; rw [hv], rfl⟩, List.take_length⟩
  | some v =>
    have hvb := vert_in hv
    simp [oI]
    refine Wp_skip ?_
    refine Wp_seq (Wp_let (Res.To.wp ?_))
    simp
    rename_i A
    refine Wp_seq (Wp_for (xs := cnt 1 0 ((wordsOf x).tail.map .str)) (fun i s C => RxI x (wordsOf x) (wordsOf x).tail v A.length A i s C) ?_ ?_ ?_)
    · simp
      have h1 : cutD' (List.map PyData.str (wordsOf x)) (some 1) none = (List.map PyData.str (wordsOf x)).tail := by
        cases wordsOf x with
        | nil => rfl
        | cons w ws => exact cut_tail
      rw [h1]
      exact ⟨rfl, [], _, _, _, rfl, rfl, ⟨fun p hp => by simp at hp, List.nodup_nil, by simp⟩, rfl⟩
    · rintro i z s C hz ⟨acc, y4, y5, y6, rfl, rfl, ha, hgo⟩
      rw [cnt_get, List.getElem?_map] at hz
      cases hwi : (wordsOf x).tail[i]? with
      | none => rw [hwi] at hz; cases hz
      | some t =>
        rw [hwi] at hz
        cases hz
        have htm : t ∈ wordsOf x := List.mem_of_mem_tail (List.mem_of_getElem? hwi)
        obtain ⟨t1, t2⟩ := hW t htm
        have hp1 : plain (A ++ [.lst (encE acc)]) := plain_snoc hp
        have hd : (wordsOf x).tail.drop i = t :: (wordsOf x).tail.drop (i + 1) := by
          have := List.getElem?_eq_some_iff.mp hwi
          rw [List.drop_eq_getElem_cons this.1, this.2]
        rw [hd] at hgo
        have ei : (1 : Int) + ((0 + i : Nat) : Int) = ((1 + i : Nat) : Int) := by omega
        rw [ei]
        generalize hj : 1 + i = j at *
        refine Wp_turn rfl ?_
        simp
        refine Wp_seq (Wp_let (Res.To.wp ?_))
        simp
        refine (edge_told hp1 t1 t2 (v := v) (by omega)).mono ?_
        rintro _ _ ⟨rfl, rfl⟩
        refine Wp_seq (Wp_if ?_)
        have al := ha.len
        have hlst : ∀ xs : List PyData, lst (A ++ [.lst xs]) A.length = some xs := fun xs => lst_new
        have hlen : fLen [.list (encE acc)] = some (.int acc.length) := len_E (by omega)
        have out : rdGo v 1 [] (wordsOf x).tail = .error j → ∃ x_1 A2, ((PyData.int j : PyData) = x_1 ∧ A ++ [.lst (encE acc)] = A2) ∧ plain A2 ∧ (∃ i : Nat, rdAll (wordsOf x) = Except.error i ∧ x_1 = PyData.int i) ∧ List.take (List.length A) A2 = A := fun h =>
          ⟨_, _, ⟨rfl, rfl⟩, hp1, ⟨j, by unfold rdAll; rw [hv]; dsimp only; rw [h], rfl⟩, by simp⟩
        rw [rdGo_cons] at hgo
        cases he : edgeOf v t with
        | none =>
          rw [he] at hgo
          simp [oE]
          refine Wp_raise ?_
          simp [frz]
          exact out hgo
        | some p =>
          rw [he] at hgo
          dsimp only at hgo
          have hin := in_pp (p := p) (es := acc)
          unfold encP at hin
          simp [oE, encP, hlst, hin, hlen]
          by_cases c1 : p ∈ acc
          · rw [if_pos (.inl c1)] at hgo
            simp [c1]
            refine Wp_raise ?_
            simp [frz]
            exact out hgo
          · by_cases c2 : acc.length = 24
            · rw [if_pos (.inr c2)] at hgo
              have c3 : (acc.length : Int) = 24 := by omega
              simp [c1, c3]
              refine Wp_raise ?_
              simp [frz]
              exact out hgo
            · rw [if_neg (by rintro (h | h); exact c1 h; exact c2 h)] at hgo
              have c3 : ¬ (acc.length : Int) = 24 := by omega
              simp [c1, c3]
              refine Wp_skip ?_
              refine Wp_drop (Res.To.wp ?_)
              have hll : (encE acc).length < 100000 := by rw [encE_length]; omega
              simp [hlst, hll]
              refine ⟨acc ++ [p], _, _, _, rfl, ?_, ha.snoc he (by rintro (h | h); exact c1 h; exact c2 h), ?_⟩
              · rw [← encE_snoc]; rfl
              · rw [hgo, ← hj, Nat.add_assoc]
    · rintro s C ⟨acc, y4, y5, y6, rfl, rfl, ha, hgo⟩
      refine Wp_ret (Res.To.wp ?_)
      rw [cnt_length, List.length_map, List.drop_length] at hgo
      have hlst : ∀ xs : List PyData, lst (A ++ [.lst xs]) A.length = some xs := fun xs => lst_new
      have al := ha.len
      have hs := sorted_pp (es := acc) (by omega)
      simp [hlst, hs, fTuple, hp, encG]
      exact ⟨v, acc, by unfold rdAll; rw [hv]; dsimp only; rw [hgo]; rfl, rfl, rfl⟩
end
end Lx
end

section
set_option maxHeartbeats 4000000
namespace Lw
open PySem PySem.W Mi TL
@[simp] theorem ne_str6 {a b : Str} : fNe (.str a) (.str b) = some (.bool (!decide (a = b))) := rfl
end Lw
end

section
set_option maxHeartbeats 4000000
namespace Lx
open PySem PySem.W Mi TL Lw
def b_check_graph : MS :=
  (sIf (mNot (mTru (mCall m_is_graph (aCons (mVar 0) aNil)))) (sRaise "InvalidGraph" "given" (mVar 0)) sSkip)
def m_check_graph : MF := defM 1 b_check_graph
def b_joined_up : MS :=
  (sRet (mS1 fJoin (mC (.str "-")) (mFr (lComp (iS (mVar 0)) (gN 1) mYes (mOpN (liftN fStr) (aCons (mVar 1) aNil)) [1]))))
def m_joined_up : MF := defM 2 b_joined_up
def b_show_graph : MS :=
  (sSeq (sDrop (mCall m_check_graph (aCons (mVar 0) aNil)))
    (sSeq (sAsg (mVar 0) (gTp (gMore (gN 1) (gMore (gN 2) gNone))))
    (sRet (mS1 fJoin (mC (.str " ")) (mOp2 (lift2o fAdd) (mFr (lDisp (aCons (mJs [(mFmt (mVar 1)), (mC (.str ":"))] Str.empty) aNil))) (mFr (lComp (iS (mVar 2)) (gN 3) mYes (mCall m_joined_up (aCons (mVar 3) aNil)) [3])))))))
def m_show_graph : MF := defM 4 b_show_graph
section
variable {A : Arn}
theorem check_graph {v : Int} {es : List Ed} (hp : plain A) (ok : GOkay v es) : (m_check_graph [.p (encG v es)] A).To fun r A' => r = .p .none ∧ A' = A := by
  have hl : lenB (encG v es) = true := (th_G (by have := ok.lo; have := ok.hi; omega) ok.lo_ (by have := ok.len; omega)).len
  unfold m_check_graph
  refine To_def ?_
  unfold b_check_graph
  simp
  refine (is_graph hp hl).mono ?_
  rintro r A' ⟨rfl, rfl⟩
  simp [ok.isG, hp, below_all hp]
def nmF (x : PyData) : Option PyData := match x with
  | .int i => some (.str (nS i.toNat))
  | _ => none
theorem joined_up (hp : plain A) {p : Ed} (h : Fig p) : (m_joined_up [.p (encP p)] A).To fun r A' => r = .p (.str (wS p)) ∧ A' = A := by
  unfold Fig at h
  have n1 := str_i (i := p.1) (by omega) (by omega)
  have n2 := str_i (i := p.2) (by omega) (by omega)
  have f1 := fig_num (i := p.1) (by omega) (by omega)
  have f2 := fig_num (i := p.2) (by omega) (by omega)
  unfold m_joined_up
  refine To_def ?_
  unfold b_joined_up
  simp
  refine ⟨rfl, ?_⟩
  refine To_comp nmF ?_
  simp [encP]
  refine ⟨⟨turn_of (f := nmF) ⟨_, rfl, ?_⟩, turn_of (f := nmF) ⟨_, rfl, ?_⟩⟩, ?_⟩
  · simp [wipeS, n1, nmF]
  · simp [wipeS, n2, nmF]
  · have hj : fJoin (.str "-") (.list [.str (nS p.1.toNat), .str (nS p.2.toNat)]) = some (.str (wS p)) := by
      have hL : [PyData.str (nS p.1.toNat), PyData.str (nS p.2.toNat)] = [nS p.1.toNat, nS p.2.toNat].map PyData.str := rfl
      rw [hL]
      unfold fJoin
      dsimp only
      rw [strsOf_map]
      dsimp only [Option.bind_some]
      have l1 : (nS p.1.toNat).length = 1 := by rw [len_tl, tl_nS, f1]; rfl
      have l2 : (nS p.2.toNat).length = 1 := by rw [len_tl, tl_nS, f2]; rfl
      have l3 : ("-" : Str).length = 1 := by decide +kernel
      rw [if_pos (by simp [l1, l2, l3])]
      congr 2
      refine ext_tl ?_
      rw [join_eq, tl_join, tl45, List.map_cons, List.map_cons, List.map_nil, tl_nS, tl_nS, f1, f2]
      rfl
    have hf : List.filterMap nmF [.int p.1, .int p.2] = [.str (nS p.1.toNat), .str (nS p.2.toNat)] := rfl
    rw [hf]
    simp [hj, hp]
def juF (x : PyData) : Option PyData := match x with
  | .tuple [.int a, .int b] => some (.str (wS (a, b)))
  | _ => none
theorem juF_map : ∀ es : List Ed, (encE es).filterMap juF = (es.map wS).map .str
  | [] => rfl
  | p :: es => by
    have hf : juF (encP p) = some (.str (wS p)) := rfl
    show List.filterMap juF (encP p :: encE es) = _
    rw [List.filterMap_cons, juF_map es, hf]
    rfl
theorem show_graph {v : Nat} {es : List Ed} (hp : plain A) (ok : GOkay v es) : (m_show_graph [.p (encG v es)] A).To fun r A' => r = .p (.str (tS v es)) ∧ A' = A := by
  have hv := ok.hi
  have hl := ok.len
  have l0 : (numL v).length ≤ 3 := numL_len (by omega) (by omega)
  have hvs := fmt_n (n := v) (by omega)
  unfold m_show_graph
  refine To_def ?_
  unfold b_show_graph
  simp
  refine (check_graph hp ok).mono ?_
  rintro _ _ ⟨rfl, rfl⟩
  unfold encG
  have lv : (nS v).length ≤ 3 := by rw [len_tl, tl_nS]; exact l0
  have le0 : ∀ y : Str, (Str.empty ++ y).length = y.length := fun y => by rw [len_tl, tl_append, len_tl]; rfl
  have lc : (Str.empty ++ nS v ++ (":" : Str)).length ≤ 100000 := by
    rw [len_tl, tl_append, tl_append, tl_nS, tl58]
    show ([] ++ numL v ++ [58]).length ≤ 100000
    simp
    omega
  simp [isS, hvs, le0, lc]
  refine ⟨by omega, ?_⟩
  refine To_comp juF ?_
  simp
  refine ⟨by rw [encE_length]; omega, fun y hy => ?_, ?_⟩
  · obtain ⟨p, hpm, rfl⟩ := List.mem_map.mp hy
    refine turn_of (f := juF) ⟨_, rfl, ?_⟩
    have hf : juF (encP p) = some (.str (wS p)) := rfl
    rw [hf]
    simp [wipeS]
    refine (joined_up hp (ok.fig p hpm)).mono ?_
    rintro _ _ ⟨rfl, rfl⟩
    simp
  · rw [juF_map]
    have hadd : fAdd (.list [.str (Str.empty ++ nS v ++ (":" : Str))]) (.list ((es.map wS).map .str)) = some (.list (((Str.empty ++ nS v ++ (":" : Str)) :: es.map wS).map .str)) := by
      show (if 1 + ((es.map wS).map PyData.str).length ≤ 100000 then some (PyData.list ([PyData.str _] ++ _)) else none) = _
      rw [if_pos (by rw [List.length_map, List.length_map]; omega)]
      rfl
    have hwl : ∀ p : Ed, (wS p).length = 3 := fun p => by rw [len_tl]; rfl
    have hj : fJoin (.str " ") (.list (((Str.empty ++ nS v ++ (":" : Str)) :: es.map wS).map .str)) = some (.str (tS v es)) := by
      unfold fJoin
      dsimp only
      rw [strsOf_map]
      dsimp only [Option.bind_some]
      have hlen1 : (" " : Str).length = 1 := by decide +kernel
      have hsum : (((Str.empty ++ nS v ++ (":" : Str)) :: es.map wS).map (·.length)).sum ≤ ((Str.empty ++ nS v ++ (":" : Str)) :: es.map wS).length * 4 := by
        have := sum_le (n := 4) (((Str.empty ++ nS v ++ (":" : Str)) :: es.map wS).map (·.length)) (fun x hx => by
          obtain ⟨y, hy, rfl⟩ := List.mem_map.mp hx
          rcases List.mem_cons.mp hy with rfl | hy
          · rw [len_tl, tl_append, tl_append, tl_nS, tl58]
            show ([] ++ numL v ++ [58]).length ≤ 4
            simp
            omega
          · obtain ⟨p, _, rfl⟩ := List.mem_map.mp hy
            rw [hwl]
            omega)
        rw [List.length_map] at this
        exact this
      rw [List.length_cons, List.length_map] at hsum
      rw [if_pos (by rw [hlen1, List.length_cons, List.length_map]; omega)]
      congr 2
      refine of_tS ?_
      rw [join_eq, tl_join, tl32, ← joinL_txt]
      congr 1
      rw [List.map_cons, List.map_map]
      congr 1
      rw [tl_append, tl_append, tl_nS, tl58]
      rfl
    simp only [List.map_cons, List.map_map] at hadd hj
    simp [hadd, hj, hp]
end
end Lx
end

section
set_option maxHeartbeats 4000000
namespace Er
open PySem PySem.W PySem.Calls PyProof.Rows PySem.HandSPX
section
variable {M : Model} {A : Around} {E : Value → Shared → Prop} {h : Heap} {g : Array GenState} {d : Drawn} {t : Nat} {os : OsState}
variable {nm q : Str} {C N : Addr} {bs bm bmB : List Value} {hdct : Bool} {sn : List Str} {sub : List Value} {ab : Bool} {col : Option Bool} {dd : Option Addr} {k0 k1 k2 k3 k5 : Option Value} {B newId initId : String}
theorem check_newK (F : ExcBaseFacts B newId initId bmB) (hT : ∀ X : String, bm.contains (.type X) = bmB.contains (.type X)) {rest : List Value} {kw : List (Str × Value)} {Q : Unit → Shared → Prop}
    (hC : h.get? C = some (excClassObj nm q C N bs bm hdct sn sub ab col dd k0 k1 k2 k3 k5 newId)) (hq : Q () ⟨h, g, d, t, os⟩) : wpAny M A (checkBuiltinCall newId ⟨.ref C :: rest, kw⟩) Q E ⟨h, g, d, t, os⟩ := by
  have hcont : (Value.ref C :: bm).contains (.type B) = true := by rw [List.contains_cons, hT, F.hasB, Bool.or_true]
  have hstar := F.noStar
  simp only [checkBuiltinCall, F.newKind, F.newSplit, F.newRow]
  repeat (first | refine wpAny_loadPart_at hC ?_ | (refine wpAny_isSubtype_exc hC ?_; rw [hcont]) | refine wpAny_staticBase_exc hC ?_ | refine wpAny_madeBy_exc hC ?_ | simp only [bne_self_eq_false, Bool.false_eq_true, if_false] | wp_step)
  exact hq
end
section
variable {prog : Program} {w : World} {A : Around} {E : Value → Shared → Prop} {R : Result → Shared → Prop} {h : Heap} {g : Array GenState} {d : Drawn} {t : Nat} {os : OsState}
variable {nm q : Str} {C N : Addr} {bs bm bmB : List Value} {hdct : Bool} {sn : List Str} {sub : List Value} {ab : Bool} {col : Option Bool} {dd : Option Addr} {k0 k1 k2 k3 k5 : Option Value} {B newId initId : String}
theorem newK (F : ExcBaseFacts B newId initId bmB) (hT : ∀ X : String, bm.contains (.type X) = bmB.contains (.type X)) {rest : List Value} {kw : List (Str × Value)}
    (hC : h.get? C = some (excClassObj nm q C N bs bm hdct sn sub ab col dd k0 k1 k2 k3 k5 newId))
    (hq : R (.ok (.ret (.ref (h.objs.size + 1)))) ⟨(h.push { cls := .type "tuple", data := .seq rest.toArray }).push
      { cls := .ref C, data := .fields #[.ref h.objs.size, .none, .none, .none, .bool false, .none] }, g, d, t, os⟩) (hrest : rest.length ≤ sizeLine) :
    codeAny (model prog w) A (.builtin newId ⟨.ref C :: rest, kw⟩) R ⟨h, g, d, t, os⟩ := by
  have hends := F.ends
  have hcB : (Value.ref C :: bm).contains (.type B) = true := by rw [List.contains_cons, hT, F.hasB, Bool.or_true]
  have hcA : (Value.ref C :: bm).contains (.type "AttributeError") = false := by rw [List.contains_cons, hT, F.noAttr]; rfl
  have hcN : (Value.ref C :: bm).contains (.type "NameError") = false := by rw [List.contains_cons, hT, F.noName]; rfl
  refine codeAny_builtinAt F.entry ?_
  unfold Builtin.«BaseException.__new__»
  refine PySem.wpAt_bind ?_
  show PySem.wpAt _ _ _ (stack >>= _) _ _ _
  refine PySem.wpAt_bind (PySem.wpAt_stack fun p below => PySem.wpAt_of_wpAny ?_)
  wp_walk
  refine PySem.wpAt_of_wpAny ?_
  rw [F.owner]
  repeat (first | with_reducible refine wpAny_madeHere_exc F.canon hC ?_ | with_reducible refine wpAny_loadPart_at hC ?_ | (with_reducible refine wpAny_isSubtype_exc hC ?_; first | rw [hcB] | rw [hcA] | rw [hcN]) | wp_step)
  show R _ _
  rw [Heap.size_push]
  exact hq
theorem type_callK (F : ExcBaseFacts B newId initId bmB) (hT : ∀ X : String, bm.contains (.type X) = bmB.contains (.type X)) {rest : List Value} {kn : Str} {kv : Value} {fI : Addr} {Q : Fin → Shared → Prop}
    (hC : h.get? C = some (excClassObj nm q C N bs bm hdct sn sub ab col dd k0 k1 k2 k3 k5 newId))
    (hi : W.Looks (model prog w) h (typeLookup (.ref C) "__init__") (some (.ref fI))) (hb : ∀ self, W.Looks (model prog w) h (bindSpecial (.ref fI) self) (.ref fI, [self])) (hrest : rest.length ≤ sizeLine)
    (hq : codeAny (model prog w) A (.call (.ref fI) ⟨.ref (h.objs.size + 1) :: rest, [(kn, kv)]⟩)
      (fun r s' => match r with | .ok (.ret v) => v = .none ∧ Q (.done (.ret (.ref (h.objs.size + 1)))) s' | .ok _ => False | .error e => E e s')
      ⟨(h.push (W.kdv_tup rest)).push (excO C h.objs.size), g, d, t, os⟩) :
    wpAny (model prog w) A (Builtin.«type.__call__» ⟨.ref C :: rest, [(kn, kv)]⟩) Q E ⟨h, g, d, t, os⟩ := by
  repeat (first | with_reducible refine wpAny_loadPart_at hC ?_ | with_reducible refine wpAny_madeBy_exc hC ?_ | wp_step)
  refine codeAny_call_builtin_code (Code.quiet_builtin _ F.quiet) (check_newK F hT hC ?_)
  refine newK F hT hC ?_ hrest
  show wpAny _ _ _ _ _ _
  have k : ∀ b o, h.get? b = some o → ((h.push (W.kdv_tup rest)).push (excO C h.objs.size)).get? b = some o := fun b o e => Heap.get?_push_of_some _ (Heap.get?_push_of_some _ e)
  have hC₁ := k _ _ hC
  have hget : ((h.push (W.kdv_tup rest)).push (excO C h.objs.size)).get? (h.objs.size + 1) = some (excO C h.objs.size) := by heap_get
  have hcC : (Value.ref C :: bm).contains (.ref C) = true := by simp
  have i1 := hi.keeps k
  have b1 := (hb (.ref (h.objs.size + 1))).keeps k
  unfold isInstance
  repeat (first | with_reducible refine wpAny_loadPart_at hget ?_ | (with_reducible refine wpAny_isSubtype_exc hC₁ ?_; rw [hcC]) | wp_step)
  show wpAny _ _ (typeLookup (.ref C) _) _ _ _
  refine i1.at ?_
  refine wpAny_holding (wpAny_bind (b1.at ?_))
  refine wpAny_bind (wpAny_call (codeAny_mono hq fun r s' z => ?_))
  rcases r with e | (v | _ | _ | _) <;> first | exact z | exact z.elim | skip
  obtain ⟨rfl, z⟩ := z
  first
    | exact wpAny_pure (wpAny_pure z)
    | (wp_walk; exact z)
theorem check_callK {M : Model} {rest : List Value} {kn : Str} {kv : Value} {Q : Unit → Shared → Prop} (hC : h.get? C = some (excClassObj nm q C N bs bm hdct sn sub ab col dd k0 k1 k2 k3 k5 newId))
    (hq : Q () ⟨h, g, d, t, os⟩) : wpAny M A (checkBuiltinCall "type.__call__" ⟨.ref C :: rest, [(kn, kv)]⟩) Q E ⟨h, g, d, t, os⟩ := by
  have f3 := tc_sub
  have hT : (⟨h, g, d, t, os⟩ : Shared).TypeIs (.ref C) "type" := ⟨_, hC, rfl⟩
  simp only [checkBuiltinCall, tc_kind, tc_split]
  repeat (any_goals (first | assumption | with_reducible refine wpAny_loadPart_at hC ?_ | with_reducible refine wpAny_onRaise ?_ | with_reducible refine wpAny_map ?_ | wp_step))
theorem callK (F : ExcBaseFacts B newId initId bmB) (hT : ∀ X : String, bm.contains (.type X) = bmB.contains (.type X)) {rest : List Value} {kn : Str} {kv : Value} {fI : Addr}
    (hC : h.get? C = some (excClassObj nm q C N bs bm hdct sn sub ab col dd k0 k1 k2 k3 k5 newId))
    (hi : W.Looks (model prog w) h (typeLookup (.ref C) "__init__") (some (.ref fI))) (hb : ∀ self, W.Looks (model prog w) h (bindSpecial (.ref fI) self) (.ref fI, [self])) (hrest : rest.length ≤ sizeLine)
    (hq : codeAny (model prog w) (A.under (.builtin "type.__call__" ⟨.ref C :: rest, [(kn, kv)]⟩)) (.call (.ref fI) ⟨.ref (h.objs.size + 1) :: rest, [(kn, kv)]⟩) (W.InitBack (h.objs.size + 1) R)
      ⟨(h.push (W.kdv_tup rest)).push (excO C h.objs.size), g, d, t, os⟩) :
    codeAny (model prog w) A (.call (.ref C) ⟨rest, [(kn, kv)]⟩) R ⟨h, g, d, t, os⟩ := by
  have f1 := tc_lookup
  have f2 := tc_bind (.ref C)
  have hTy : (⟨h, g, d, t, os⟩ : Shared).TypeIs (.ref C) "type" := ⟨_, hC, rfl⟩
  refine codeAny_of_tree ?_
  show wpAny _ _ (callAny (.ref C) _) _ _ _
  repeat (any_goals (first | assumption | with_reducible refine wpAny_loadPart_at hC ?_ | wp_step))
  refine ⟨rfl, ?_⟩
  refine codeAny_call_builtin_at (Code.quiet_builtin _ (by decide +kernel)) entry_typeCall (check_callK hC (type_callK F hT hC hi hb hrest ?_))
  refine codeAny_mono hq fun r s' z => ?_
  rcases r with e | (v | _ | _ | _) <;> exact z
end
section
variable {prog : Program} {w : World} {A : Around} {E : Value → Shared → Prop} {R : Result → Shared → Prop} {s : Shared} {K : Frag} {mg : Str → Option Value} {nm fld : Str} {C fI : Addr}
theorem madeK (T : Txt prog K mg nm fld C fI) {v : Value} (X : K.In s.heap) (G : s.heap.Ns mainGlobals mg) (B : ∃ mb, s.heap.Ns builtinsNs mb ∧ ∀ y : Str, y ≠ "__name__" → mb y = bootBuiltins y) (lim : s.heap.NoLimit) (deep : A.depth + 1 < recursionLimit)
    (hq : ∀ h' tk e d, Made s.heap h' e C d fld v → R (.ok (.ret (.ref e))) { s with heap := h', toks := tk }) :
    codeAny (model prog w) A (.call (.ref C) ⟨[], [(fld, v)]⟩) R s := by
  obtain ⟨cn, q, N, bs, bm, sn, sub, ab, col, dd, k0, k1, k2, k3, k5, hC, hbm⟩ := T.cls
  obtain ⟨hp, g, dr, tk, os⟩ := s
  have k : ∀ b o, hp.get? b = some o → ((hp.push (kdv_tup [])).push (excO C hp.objs.size)).get? b = some o := fun b o e => Heap.get?_push_of_some _ (Heap.get?_push_of_some _ e)
  have at_ : ((hp.push (kdv_tup [])).push (excO C hp.objs.size)).get? (hp.objs.size + 1) = some (excO C hp.objs.size) := by heap_get
  have free : K.lookup (hp.objs.size + 1) = none := by
    cases e : K.lookup (hp.objs.size + 1) with
    | none => rfl
    | some o => exact absurd (Nat.lt_of_succ_lt (Heap.lt_size (show hp.get? (hp.objs.size + 1) = some o from X _ _ e))) (Nat.lt_irrefl _)
  obtain ⟨mb, B1, B2⟩ := B
  refine callK F.excBase_ValueError (fun X => refsVE_contains X bm hbm) (X _ _ hC) (looks_findIn X T.iC) (fun self => bind_fn X self T.tC) (by rw [sizeLine_eq]; decide) ?_
  refine init_run (s := ⟨(hp.push (kdv_tup [])).push (excO C hp.objs.size), g, dr, tk, os⟩) T (X.keeps k) (G.keeps k) ⟨mb, B1.keeps k, B2⟩ (lim.keeps k) at_ free deep (.inr rfl) fun h' tk' dx t1 ⟨k', hx, dn, dne, hns⟩ => ?_
  have old : ∀ b o, hp.get? b = some o → h'.get? b = some o := fun b o e => k' b o (Nat.ne_of_lt (Nat.lt_succ_of_lt (Heap.lt_size e))) (k b o e)
  have z : hp.objs.size + 1 + 1 ≤ dx := by
    have q := dn
    rw [Heap.size_push, Heap.size_push] at q
    exact q
  exact ⟨rfl, hq h' tk' (hp.objs.size + 1) dx ⟨old, Nat.le_succ _, ⟨_, _, hx, rfl, rfl, rfl, rfl⟩, Nat.le_trans (Nat.le_trans (Nat.le_succ _) (Nat.le_succ _)) z, dne, hns⟩⟩
end
end Er
end

section
set_option maxHeartbeats 4000000
namespace PySem
open AutoSeq1 (wpAny_loadPart')
end PySem
namespace Mi
open PySem PySem.Spec PyProof.Rows L2 PySem.W
open Evl (Ex)
section
variable {K : PySem.W.Frag} {W : WX} {X : Cx}
end
end Mi
end

section
set_option maxHeartbeats 4000000
namespace Mi
open PySem PySem.Spec PyProof.Rows L2 PySem.W
open Evl (Ex)
section
variable {K : PySem.W.Frag} {W : WX} {F S S' H H' : Hp} {ρ ρ' : List Addr} {σ : L2.St} {A : Arn} {s : Slt}
end
section
variable {X : Cx} {W : WX}
end
end Mi
end

section
set_option maxHeartbeats 4000000
namespace Mi
open PySem PySem.Spec PyProof.Rows L2 PySem.W
open Evl (Ex)
section
variable {K : PySem.W.Frag} {F S S' H H' : Hp} {ρ ρ' : List Addr} {A : Arn}
theorem Wo.allocK (w : Wo K F S ρ H A) {p : Addr} {vs : HO} {xs : DKv} (fr : Fresh F S ρ A p) (hp : H p = some vs) (hv : DkOk K S p vs xs) : Wo K F S (ρ ++ [p]) H (A ++ [.dc xs]) := by
  have hl := w.len
  have old : ∀ {n : Nat} {o : O}, (A ++ [O.dc xs])[n]? = some o → (n < A.length ∧ A[n]? = some o ∧ (ρ ++ [p])[n]? = ρ[n]?) ∨ (n = A.length ∧ o = .dc xs ∧ (ρ ++ [p])[n]? = some p) := fun {n o} e => by
    by_cases hn : n < A.length
    · rw [List.getElem?_append_left hn] at e
      exact .inl ⟨hn, e, List.getElem?_append_left (by omega)⟩
    · rw [List.getElem?_append_right (by omega)] at e
      have h0 : n - A.length = 0 := by
        cases z : n - A.length with
        | zero => rfl
        | succ k => rw [z] at e; simp at e
      have hn' : n = A.length := by omega
      rw [h0] at e
      have e' : O.dc xs = o := by simpa using e
      refine .inr ⟨hn', e'.symm, ?_⟩
      rw [List.getElem?_append_right (by omega), show n - ρ.length = 0 by omega]
      rfl
  refine ⟨w.sub, w.fsub, w.fdis, fun n o a e ne g => ?_, by simp [hl], fun n ys e => ?_, fun n ns e => ?_, fun n ns e => ?_, fun n ns e => ?_, fun n m o u a q1 q2 n1 n2 r1 r2 => ?_⟩
  · rcases old e with ⟨_, e1, e2⟩ | ⟨_, _, e2⟩
    · exact w.flive n o a e1 ne (by rw [← e2]; exact g)
    · rw [e2] at g
      cases g
      exact fr.f
  · rcases old e with ⟨_, e1, e2⟩ | ⟨_, e1, e2⟩
    · obtain ⟨a, ws, g1, g2, g3, g4⟩ := w.lst n ys e1
      exact ⟨a, ws, by rw [e2]; exact g1, g2, g3, g4⟩
    · cases e1
  · rcases old e with ⟨_, e1, e2⟩ | ⟨_, e1, e2⟩
    · obtain ⟨a, ws, g1, g2, g3, g4⟩ := w.refs n ns e1
      refine ⟨a, ws, by rw [e2]; exact g1, g2, g3, Paired.mapP g4 fun m v ⟨b, z1, z2⟩ => ⟨b, z1, (Pre.snoc ρ p).get z2⟩⟩
    · cases e1
  · rcases old e with ⟨_, e1, e2⟩ | ⟨_, e1, e2⟩
    · obtain ⟨a, ws, g1, g2, g3, g4⟩ := w.dct n ns e1
      exact ⟨a, ws, by rw [e2]; exact g1, g2, g3, g4⟩
    · cases e1
      exact ⟨p, vs, e2, fr.s, hp, hv⟩
  · rcases old e with ⟨_, e1, e2⟩ | ⟨_, e1, e2⟩
    · obtain ⟨a, g1, g2⟩ := w.tab n ns e1
      exact ⟨a, by rw [e2]; exact g1, g2⟩
    · cases e1
  · rcases old q1 with ⟨_, e1, e2⟩ | ⟨e0, e1, e2⟩
    · rcases old q2 with ⟨_, e3, e4⟩ | ⟨_, e3, e4⟩
      · exact w.inj n m o u a e1 e3 n1 n2 (by rw [← e2]; exact r1) (by rw [← e4]; exact r2)
      · rw [r2] at e4
        cases e4
        exact absurd (by rw [← e2]; exact r1) (fr.live n o e1 n1)
    · rcases old q2 with ⟨_, e3, e4⟩ | ⟨f0, e3, e4⟩
      · rw [r1] at e2
        cases e2
        exact absurd (by rw [← e4]; exact r2) (fr.live m u e3 n2)
      · rw [e0, f0]
end
def dget (kvs : List (Int × PyData)) (k : Int) : Option PyData := (kvs.find? fun p => decide (p.1 = k)).map (·.2)
def dput (kvs : List (Int × PyData)) (k : Int) (y : PyData) : List (Int × PyData) := if (kvs.any fun p => decide (p.1 = k)) = true then kvs.map (fun p => if p.1 = k then (p.1, y) else p) else kvs ++ [(k, y)]
section
variable {K : PySem.W.Frag} {S : Hp}
theorem Kvs.length {vs : List (L2.Key × V)} {kvs : List (Int × PyData)} (h : Kvs K S vs kvs) : vs.length = kvs.length := Paired.length h
theorem Kvs.any {vs : List (L2.Key × V)} {kvs : List (Int × PyData)} (h : Kvs K S vs kvs) (k : Int) : (vs.any fun p => decide (p.1 = Sum.inl k)) = kvs.any fun p => decide (p.1 = k) := by
  induction h with
  | nil => rfl
  | cons r rs ih =>
    rename_i p q ps qs
    rw [List.any_cons, List.any_cons, ih, r.1]
    congr 1
    rw [decide_eq_decide]
    exact ⟨fun e => Sum.inl.inj e, fun e => by rw [e]⟩
theorem Kvs.get {vs : List (L2.Key × V)} {kvs : List (Int × PyData)} (h : Kvs K S vs kvs) (k : Int) : (L2.valV vs (Sum.inl k) = none ∧ dget kvs k = none) ∨ ∃ v y, L2.valV vs (Sum.inl k) = some v ∧ dget kvs k = some y ∧ Dq K S v y := by
  induction h with
  | nil => exact .inl ⟨rfl, rfl⟩
  | cons r rs ih =>
    rename_i p q ps qs
    by_cases e : q.1 = k
    · refine .inr ⟨p.2, q.2, L2.valV_pos (by rw [r.1, e]), ?_, r.2⟩
      unfold dget
      rw [List.find?_cons_of_pos (by simpa using e)]
      rfl
    · have e2 : ¬ p.1 = Sum.inl k := by
        rw [r.1]
        exact fun z => e (Sum.inl.inj z)
      have e3 : dget (q :: qs) k = dget qs k := by
        unfold dget
        rw [List.find?_cons_of_neg (by simpa using e)]
      rw [L2.valV_neg e2, e3]
      exact ih
theorem Kvs.put {vs : List (L2.Key × V)} {kvs : List (Int × PyData)} (h : Kvs K S vs kvs) (k : Int) {v : V} {y : PyData} (q : Dq K S v y) : Kvs K S (L2.putK vs (Sum.inl k) v) (dput kvs k y) := by
  unfold L2.putK dput
  rw [h.any k]
  by_cases c : (kvs.any fun p => decide (p.1 = k)) = true
  · rw [if_pos c, if_pos c]
    clear c
    induction h with
    | nil => exact .nil
    | cons r rs ih =>
      rename_i p z ps zs
      refine .cons ?_ ih
      by_cases e : z.1 = k
      · have e2 : p.1 = Sum.inl k := by rw [r.1, e]
        dsimp only
        rw [if_pos e2, if_pos e]
        exact ⟨r.1, q⟩
      · have e2 : ¬ p.1 = Sum.inl k := by
          rw [r.1]
          exact fun z => e (Sum.inl.inj z)
        dsimp only
        rw [if_neg e2, if_neg e]
        exact r
  · rw [if_neg c, if_neg c]
    clear c
    induction h with
    | nil => exact .cons ⟨rfl, q⟩ .nil
    | cons r rs ih => exact .cons r ih
end
def datum (v : D) : Option PyData := match v with
  | .p y => some y
  | _ => none
def oGet (x : Option PyData) (A : Arn) : Res D := match x with
  | some y => .ok (.p y) A
  | none => .bad
section
variable {K : PySem.W.Frag} {W : WX} {F S S' H H' : Hp} {ρ ρ' : List Addr} {σ : L2.St} {A : Arn} {s : Slt}
end
section
variable {X : Cx} {W : WX} {pos : Pos}
end
end Mi
end

section
set_option maxHeartbeats 4000000
namespace Mi
open PySem PySem.Spec PyProof.Rows L2 PySem.W
open Evl (Ex)

section
variable {X : Cx} {pins : List (Addr × Obj)} {σ : L2.St} {H S : Hp} {s : Shared}
mutual
theorem nest_of (I : L2.Inv X pins σ H s) (sub : Ex S H) : ∀ (d : PyData) (k : NestedKey) (v : V) (u : Value), kN d = some k → Dq X.K S v d → RelV v u → NestedIs s.heap k u
  | .none, k, v, u, h, q, r => by
    simp only [kN] at h; cases h; cases q
    obtain rfl : u = Value.none := r
    exact .none
  | .int i, k, v, u, h, q, r => by
    simp only [kN] at h; cases h; cases q
    obtain ⟨t, rfl⟩ := r
    exact .int i t
  | .tuple xs, k, v, u, h, q, r => by
    obtain ⟨ks, e, rfl⟩ := kN_tup h
    cases q with
    | @tup a vs _ hq qa =>
      obtain rfl : u = Value.ref a := r
      obtain ⟨its, rv, ⟨o, ho, hc, n, hd⟩, _⟩ := I.tuple (Evl.ex_t sub hq)
      exact .tup ho hc hd (by simpa using nests_of I sub xs ks vs its e qa rv)
  | .bool _, k, v, u, h, q, r => by simp only [kN] at h; cases h
  | .str _, k, v, u, h, q, r => by simp only [kN] at h; cases h
  | .list _, k, v, u, h, q, r => by simp only [kN] at h; cases h
  | .dict _, k, v, u, h, q, r => by simp only [kN] at h; cases h
theorem nests_of (I : L2.Inv X pins σ H s) (sub : Ex S H) : ∀ (ds : List PyData) (ks : List NestedKey) (vs : List V) (us : List Value), kNs ds = some ks → DqAll X.K S vs ds → Vals vs us → NestedAll s.heap ks us
  | [], ks, vs, us, h, q, r => by
    simp only [kNs] at h; cases h; cases q; cases r
    exact .nil
  | x :: xs, l, vs, us, h, q, r => by
    obtain ⟨k, ks, e1, e2, rfl⟩ := kNs_cons h
    cases q with
    | cons q1 q2 =>
      cases r with
      | cons r1 r2 => exact .cons (nest_of I sub x k _ _ e1 q1 r1) (nests_of I sub xs ks _ _ e2 q2 r2)
end
end

def kT (d : PyData) : Option NestedKey := match d with
  | .tuple xs => (kN (.tuple xs)).bind fun k => if k.depth ≤ 8 then some k else none
  | _ => none
theorem kT_of {d : PyData} {k : NestedKey} (h : kT d = some k) : ∃ xs, d = .tuple xs ∧ kN d = some k ∧ k.depth ≤ 8 := by
  unfold kT at h
  split at h
  · rename_i xs
    cases e : kN (.tuple xs) with
    | none => rw [e] at h; cases h
    | some k' =>
      rw [e] at h
      simp only [Option.bind_some] at h
      split at h
      · cases h
        exact ⟨xs, rfl, rfl, by assumption⟩
      · cases h
  · cases h
def gget (kvs : List (PyData × PyData)) (k : NestedKey) : Option PyData := (kvs.find? fun p => decide (kN p.1 = some k)).map (·.2)
def gput (kvs : List (PyData × PyData)) (d : PyData) (k : NestedKey) (y : PyData) : List (PyData × PyData) := if (gget kvs k).isSome = true then kvs.map (fun p => if kN p.1 = some k then (p.1, y) else p) else kvs ++ [(d, y)]
section
variable {K : PySem.W.Frag} {S : Hp}
theorem Gvs.length {vs : List Gent} {kvs : List (PyData × PyData)} (h : Gvs K S vs kvs) : vs.length = kvs.length := Paired.length h
theorem Gvs.get {vs : List Gent} {kvs : List (PyData × PyData)} (h : Gvs K S vs kvs) (k : NestedKey) : (gat vs k = none ∧ gget kvs k = none) ∨ ∃ b v y, gat vs k = some (b, v) ∧ gget kvs k = some y ∧ Dq K S v y := by
  induction h with
  | nil => exact .inl ⟨rfl, rfl⟩
  | @cons p q ps qs r rs ih =>
    by_cases e : p.1 = k
    · refine .inr ⟨p.2.1, p.2.2, q.2, ?_, ?_, r.2.2.2⟩
      · unfold gat
        rw [List.find?_cons_of_pos (by simpa using e)]
        rfl
      · unfold gget
        rw [List.find?_cons_of_pos (by rw [r.1, e]; simp)]
        rfl
    · have e2 : gat (p :: ps) k = gat ps k := by
        unfold gat
        rw [List.find?_cons_of_neg (by simpa using e)]
      have e3 : gget (q :: qs) k = gget qs k := by
        unfold gget
        rw [List.find?_cons_of_neg (by rw [r.1]; simpa using e)]
      rw [e2, e3]
      exact ih
theorem Gvs.put {vs : List Gent} {kvs : List (PyData × PyData)} (h : Gvs K S vs kvs) {d : PyData} {k : NestedKey} (hk : kT d = some k) {b : Addr} (qk : Dq K S (.ref b) d) {v : V} {y : PyData} (q : Dq K S v y) : Gvs K S (gsto vs k b v) (gput kvs d k y) := by
  obtain ⟨_, _, hn, hd⟩ := kT_of hk
  have e : (gat vs k).isSome = (gget kvs k).isSome := by
    rcases h.get k with ⟨e1, e2⟩ | ⟨b', v', u', e1, e2, _⟩
    · rw [e1, e2]
      rfl
    · rw [e1, e2]
      rfl
  unfold gsto gput
  rw [e]
  by_cases c : (gget kvs k).isSome = true
  · rw [if_pos c, if_pos c]
    clear c e
    induction h with
    | nil => exact .nil
    | @cons p z ps zs r rs ih =>
      refine .cons ?_ ih
      dsimp only
      by_cases e : p.1 = k
      · rw [if_pos e, if_pos (by rw [r.1, e])]
        exact ⟨r.1, r.2.1, r.2.2.1, q⟩
      · rw [if_neg e, if_neg (by rw [r.1]; simpa using e)]
        exact r
  · rw [if_neg c, if_neg c]
    clear c e
    induction h with
    | nil => exact .cons ⟨hn, hd, qk, q⟩ .nil
    | cons r rs ih => exact .cons r ih
end
def gdtOf (d : D) (A : Arn) : Option (List (PyData × PyData)) := match d with
  | .ref n => match A[n]? with
    | some (.dc (.g kvs)) => some kvs
    | _ => none
  | _ => none
def gkey (i : D) : Option (PyData × NestedKey) := match i with
  | .p d => (kT d).map fun k => (d, k)
  | _ => none
def gkvk (o i : D) (A : Arn) : Option (List (PyData × PyData) × (PyData × NestedKey)) := (gkey i).bind fun k => (gdtOf o A).map fun kvs => (kvs, k)
def mGget (mo mi : ME) : ME := fun s A => (mo s A).bind fun o A1 => (mi s A1).bind fun i A2 => match gkvk o i A2 with
  | some x => oGet (gget x.1 x.2.2) A2
  | none => .bad
section
variable {K : PySem.W.Frag} {W : WX} {F S S' H H' : Hp} {ρ ρ' : List Addr} {σ : L2.St} {A : Arn} {s : Slt}
end

section
variable {X : Cx} {pins : List (Addr × Obj)} {σ : L2.St} {H S : Hp} {s : Shared} {E : Value → Shared → Prop}
end
section
variable {X : Cx} {o i e value : Expr} {pos pos' : Pos} {td ty tv : TE}
end
section
variable {K : PySem.W.Frag} {W : WX}
end
section
variable {X : Cx} {W : WX} {pos : Pos}
end
section
variable {X : Cx} {pos : Pos}
end
section
variable {K : PySem.W.Frag} {W : WX}
end
end Mi
end

section
set_option maxHeartbeats 4000000
namespace Mi
open PySem PySem.Spec PyProof.Rows L2 PySem.W
open Evl (Ex)
section
variable {X : Cx}
end
end Mi
end

section
set_option maxHeartbeats 4000000
namespace Mi
open PySem PySem.Spec PyProof.Rows L2 PySem.W
open Evl (Ex)
section
variable {K : PySem.W.Frag} {W : WX} {F S S' H H' : Hp} {ρ ρ' : List Addr} {σ : L2.St} {A : Arn} {s : Slt}
end
section
variable {X : Cx} {W : WX} {p pos : Pos}
end
end Mi
end

section
set_option maxHeartbeats 4000000
namespace Mi
open PySem PySem.Spec PyProof.Rows L2
open Evl (Ex)
def closeG (n : Nat) (d : D) (A : Arn) : Res D := if below n (A.take n) = true then (match d with
  | .ref m => if m < n then .bad else (match A[m]? with
    | some (.dc kv) => .ok (.ref n) (A.take n ++ [.dc kv])
    | _ => .bad)
  | _ => .bad) else .bad
def finishG (n : Nat) (o : Out) : Res D := match o with
  | .rt d A => closeG n d A
  | _ => .bad
def defG (names : Nat) (body : MS) : MF := fun ds A => finishG A.length (body (ds.map some ++ List.replicate (names - ds.length) none) A)
section
variable {K : PySem.W.Frag} {F S S' H H' : Hp} {ρ ρ' : List Addr} {A A' : Arn}
theorem closeG_ok {d v : D} {x : V} (l : Le S ρ S' ρ') (w : Wo K F S' ρ' H A) (r : RD K S' ρ' d x) (e : closeG ρ.length d A = .ok v A') : ∃ S2 ρ2, Le S ρ S2 ρ2 ∧ Wo K F S2 ρ2 H A' ∧ RD K S2 ρ2 v x := by
  unfold closeG at e
  split at e
  · rename_i hb
    have w1 := w.drop l.pre hb
    split at e
    · rename_i m
      by_cases hm : m < ρ.length
      · rw [if_pos hm] at e
        cases e
      · rw [if_neg hm] at e
        split at e
        · rename_i xs hx
          cases e
          obtain ⟨a, vs, h1, h2, h3, h4⟩ := w.dct m xs hx
          obtain ⟨b, rfl, hb2⟩ := r
          rw [h1] at hb2
          cases hb2
          have fr : Fresh F S' ρ (A.take ρ.length) a := by
            refine ⟨h2, w.flive m _ a hx (by simp) h1, fun n o en no z => ?_⟩
            have hn : n < ρ.length := (List.getElem?_eq_some_iff.mp z).1
            rw [List.getElem?_take_of_lt hn] at en
            have := w.inj n m o _ a en hx no (by simp) (l.pre.get z) h1
            omega
          refine ⟨S', ρ ++ [a], ⟨l.ex, Pre.snoc ρ a⟩, w1.allocK fr h3 h4, a, rfl, ?_⟩
          rw [List.getElem?_append_right (Nat.le_refl _), Nat.sub_self]
          rfl
        · cases e
    · cases e
  · cases e
theorem defG_body {N ps : List Str} {body : MS} {sc : Scope} {vs : List V} {Q : VK} {E : XK} (Sc : FnScope N ps sc) (h : spM K ps.length (defG N.length body) vs H Q E) : tS K (fun c d _ H => E c d H) body { nx := fun _ H' => Q .non H', rt := Q } (start N vs) H := by
  obtain ⟨F, S, ρ, Ar, ds, hd, r, wo, h⟩ := h
  have hl : ps.length ≤ N.length := by
    have := congrArg List.length Sc.pre
    rw [List.length_take] at this
    omega
  have hvs : vs.length = ps.length := by rw [← Paired.length r, hd]
  refine ⟨F, S, ρ, ds.map some ++ List.replicate (N.length - ds.length) none, Ar, wo, SR.start r (by omega), ?_⟩
  unfold defG at h
  rw [← wo.len] at h
  cases e : body (ds.map some ++ List.replicate (N.length - ds.length) none) Ar with
  | rt d A' =>
    rw [e] at h
    intro S' ρ' H' x l w' rr
    unfold finishG at h
    dsimp only at h
    cases ec : closeG ρ.length d A' with
    | bad => rw [ec] at h; exact h.elim
    | exn x A2 =>
      unfold closeG at ec
      split at ec
      · split at ec
        · split at ec
          · cases ec
          · split at ec <;> cases ec
        · cases ec
      · cases ec
    | ok v A2 =>
      rw [ec] at h
      obtain ⟨S2, ρ2, l2, w2, r2⟩ := closeG_ok l w' rr ec
      exact h S2 ρ2 H' x l2 w2 r2
  | nx s' A' => rw [e] at h; exact h.elim
  | exn x A' => rw [e] at h; exact h.elim
  | bk s' A' => rw [e] at h; exact h.elim
  | ct s' A' => rw [e] at h; exact h.elim
  | bad => rw [e] at h; exact h.elim
end
section
variable {P : Program} {w : World} {K : PySem.W.Frag} {mg : Str → Option Value} {base : Heap}
theorem defG_ok {x qual : Str} {st : Stmt} {f : Addr} {fd : FuncData} {N ps : List Str} {k : Nat} {body : MS} (Fu : Fun K x qual st f fd) (Sc : FnScope N ps (defScope st))
    (hbody : ∀ (cdv : Value) (A : Around) (outer : List Env) (s : Shared) (H : Hp) (E : XK), A.guards = some [] → Room k (A.deeper (envOfC qual (defScope st) s.heap.objs.size f cdv)) →
      PSs (cxOf (L2.CX P w) P w K mg base N qual (defScope st) f cdv A outer s H E) (defBody st) (tS K (fun c d _ H => E c d H) body)) :
    FnG P w K mg base (k + 1) f fd ps (defG N.length body) := by
  obtain ⟨oc, od, kV, doc, pm, an, cdv, ct, osl, rfl, lk, hcd⟩ := Fu.ex
  refine ⟨fun A outer s H args us vs Q E gd hr e0 hb r hsp => ?_⟩
  have room := hr.deeper (envOfC qual (defScope st) s.heap.objs.size f cdv)
  have bs : ∀ b o, base.get? b = some o → s.heap.get? b = some o := fun b o e => (e0.bs b o e).1
  have hin : K.In s.heap := e0.mod.kin.keeps bs
  have nolim : s.heap.NoLimit := e0.mod.nolimit.keeps bs
  refine codeAny_call_function hr.depth (hin _ _ lk) rfl Sc.co Sc.gen rfl (PySem.W.codeRec_of hin hcd) (hb _ _ _ _ (wpAny_newFunctionEnv_cells Sc.kind ?_ ?_))
  · rintro ⟨y, v⟩ hy
    have hy' := (List.of_mem_zip hy).1
    exact (Sc.par y hy').imp id fun q => ⟨q, PySem.W.cellsFrom_some _ _ _ (.inl q)⟩
  · rintro env he s1 x
    subst he
    refine ⟨nolim.keeps x.toInCall.keep, codeAny_func ?_⟩
    have I := inv_start (CX := L2.CX P w) (E := E) Sc hr.hd e0 (spM_len vs H Q E hsp) r x
    refine wpAny_mono ((hbody cdv A outer s H E gd room).run [] s1 (start N vs) H _ I (defG_body Sc hsp)) (fun fl s' hs => ?_) fun _ _ q => q
    cases fl with
    | ret u =>
      obtain ⟨v, _, H', J, rv, q⟩ := hs
      exact ⟨v, H', J.os, J.bare, J.base, J.hok, rv, q⟩
    | next =>
      obtain ⟨_, H', J, q⟩ := hs
      exact ⟨.non, H', J.os, J.bare, J.base, J.hok, rfl, q⟩
    | brk =>
      obtain ⟨_, _, _, q⟩ := hs
      exact q.elim
    | cont =>
      obtain ⟨_, _, _, q⟩ := hs
      exact q.elim
end

theorem To_defG {A : Arn} {names : Nat} {body : MS} {ds : List D} {P : D → Arn → Prop} (h : (body (ds.map some ++ List.replicate (names - ds.length) none) A).To (fun _ _ => False) fun d A' => ∃ m kv, d = .ref m ∧ A.length ≤ m ∧ plain A' ∧ A'[m]? = some (.dc kv) ∧ P (.ref A.length) (A'.take A.length ++ [.dc kv])) : (defG names body ds A).To P := by
  with_unfolding_all
    unfold defG finishG
    cases e : body (ds.map some ++ List.replicate (names - ds.length) none) A with
    | nx s A' => rw [e] at h; first | exact (To_nx.mp h).elim | exact (To_bk.mp h).elim | exact (To_ct.mp h).elim | exact (To_exO.mp h).elim | exact (To_badO.mp h).elim
    | rt d A' =>
      rw [e, To_rt] at h
      obtain ⟨m, kv, rfl, hm, hp, hl, hq⟩ := h
      show (closeG A.length (.ref m) A').To P
      unfold closeG
      rw [if_pos (plain_below hp _ _)]
      dsimp only
      rw [if_neg (by omega), hl]
      exact hq
    | bk s A' => rw [e] at h; first | exact (To_nx.mp h).elim | exact (To_bk.mp h).elim | exact (To_ct.mp h).elim | exact (To_exO.mp h).elim | exact (To_badO.mp h).elim
    | ct s A' => rw [e] at h; first | exact (To_nx.mp h).elim | exact (To_bk.mp h).elim | exact (To_ct.mp h).elim | exact (To_exO.mp h).elim | exact (To_badO.mp h).elim
    | exn s A' => rw [e] at h; first | exact (To_nx.mp h).elim | exact (To_bk.mp h).elim | exact (To_ct.mp h).elim | exact (To_exO.mp h).elim | exact (To_badO.mp h).elim
    | bad => rw [e] at h; first | exact (To_nx.mp h).elim | exact (To_bk.mp h).elim | exact (To_ct.mp h).elim | exact (To_exO.mp h).elim | exact (To_badO.mp h).elim
section
variable {s : Slt} {A : Arn} {P : D → Arn → Prop}
@[simp] theorem To_gget {mo mi : ME} : (mGget mo mi s A).To P ↔ (mo s A).To fun o A1 => (mi s A1).To fun i A2 => ∃ kvs d k y, gkvk o i A2 = some (kvs, (d, k)) ∧ gget kvs k = some y ∧ P (.p y) A2 := by
  unfold mGget
  rw [To_bind]
  refine iff_of_eq (congrArg _ (funext fun o => funext fun A1 => ?_))
  rw [To_bind]
  refine congrArg _ (funext fun i => funext fun A2 => propext ?_)
  cases e : gkvk o i A2 with
  | none =>
    constructor
    · intro h; exact absurd h (by simp)
    · rintro ⟨kvs, d, k, y, h, _⟩; cases h
  | some z =>
    obtain ⟨kvs, d, k⟩ := z
    dsimp only
    cases eg : gget kvs k with
    | none =>
      constructor
      · intro h; exact absurd h (by simp [oGet])
      · rintro ⟨kvs', d', k', y, h, h2, _⟩
        cases h
        rw [eg] at h2
        cases h2
    | some y =>
      constructor
      · intro h
        exact ⟨kvs, d, k, y, rfl, eg, To_ok.mp h⟩
      · rintro ⟨kvs', d', k', y', h, h2, h3⟩
        cases h
        rw [eg] at h2
        cases h2
        exact To_ok.mpr h3
end
section
variable {α : Type} {e : α → PyData} {K : α → PySem.NestedKey}
end
end Mi
end

section
set_option maxHeartbeats 4000000
namespace L2
open PySem PySem.Spec PyProof.Rows
section
variable {X : Cx} {C fI : Addr} {nm fld : Str}
theorem erO_ok {P : Program} {w : World} {H : Hp} {h : Heap} {a C : Addr} {d : Option Addr} {oe : Obj} {vs : Array Value} (e : h.get? a = some oe) (c : oe.cls = .ref C) (hd : oe.dict = d) (q : oe.data = .fields vs) : ObjOk P w H h a (Mi.ErO a C d) :=
  ⟨⟨oe, vs, e, c, hd, q⟩, ⟨oe, e⟩, fun _ _ ⟨o, v, q, r⟩ k => ⟨o, v, k o q, r⟩⟩
theorem ev_land {pins : List (Addr × Obj)} {σ : St} {H : Hp} {Q : VK} {hp h' : Heap} {g : Array GenState} {dr : Drawn} {tk tk' : Nat} {os : OsState} {e d : Addr} {v : V} {v' : Value} (I : Inv X pins σ H ⟨hp, g, dr, tk, os⟩) (rv : RelV v v') (M : Er.Made hp h' e C d fld v')
    (q : Q (.ref e) (upd (upd H d (.xd [(fld, v)])) e (Mi.ErO e C (some d)))) : EP X pins σ Q (.ref e) ⟨h', g, dr, tk', os⟩ := by
  obtain ⟨oe, fv, hoe, hc, hdd, hdat, h1⟩ := M.obj
  obtain ⟨G', g1, g2⟩ := restrict h' fun b => decide (b ≠ e)
  have gk : ∀ b, b ≠ e → G'.get? b = h'.get? b := fun b hb => g1 b (decide_eq_true hb)
  have ge : G'.get? e = none := g2 e (by simp)
  have old : ∀ b o, hp.get? b = some o → G'.get? b = some o := fun b o q => (gk b (Nat.ne_of_lt (Nat.lt_of_lt_of_le (Heap.lt_size q) M.new))).trans (M.keep b o q)
  have ob : ObjOk X.prog X.w (upd H d (.xd [(fld, v)])) G' d (.xd [(fld, v)]) := ⟨_, M.ns.at (fun o q => (gk d M.ne).trans q), fun f => er_lookup rv f⟩
  have J : Inv X pins σ (upd H d (.xd [(fld, v)])) ⟨G', g, dr, tk', os⟩ := I.laid (t' := tk') old M.big ob
  have nd : upd H d (.xd [(fld, v)]) e = none := by
    rw [upd_ne (Ne.symm M.ne)]
    exact I.hok.fresh M.new
  exact ⟨.ref e, _, J.laidN (t' := tk') (fun b u q => by
    by_cases hb : b = e
    · have q' : G'.get? b = some u := q
      rw [hb, ge] at q'
      cases q'
    · exact (gk b hb).symm.trans q) ge nd (erO_ok hoe hc hdd hdat), rfl, q⟩
def tEv (C : Addr) (fld : Str) (ta : TA) : TE := fun σ H Q => ta σ H fun vs H1 => ∃ v, vs = [v] ∧ ∀ d e, H1 d = none → H1 e = none → d ≠ e → Q (.ref e) (upd (upd H1 d (.xd [(fld, v)])) e (Mi.ErO e C (some d)))
theorem pe_ev {a : Expr} {ta : TA} {p pos : Pos} {k : Nat} (T : Er.Txt X.prog X.K X.mg nm fld C fI) (hr : Room k X.A) (ha : PA X [a] ta) (hg : Gl X nm) (hd : (nm == ("__debug__" : Str)) = false := by decide)
    (he : starEach (a :: []) X.env = (false, eval a X.env) :: starEach [] X.env := by rfl) (hpl : (backTo pos (starEach [] X.env)).any (·.1) = false := by rfl) :
    PE X (.Call (.Name nm p) [a] [] pos) (tEv C fld ta) := by
  refine ⟨fun pins s σ H Q I h => ?_⟩
  refine wpAny_Call_Name_kw (ld_glob I hg T.gC ?_ hd)
  refine PySem.W.callWith_K (h₀ := X.base) I.ok.mod.kin T.kC (thn (ha.run pos pins s σ H _ I h) fun us s1 hh => ?_) he hpl
  obtain ⟨vs, H1, I1, r1, v, ev, q1⟩ := hh
  subst ev
  refine ⟨I1.kIn, ?_⟩
  cases r1 with
  | @cons _ v' _ us' rv rn =>
    cases rn
    show wpAny _ _ (call (.ref C) [v']) _ _ _
    have lim := I1.nolimit
    obtain ⟨mb, B1, B2⟩ := I1.mod.blt
    have bk := I1.bk
    have gl := I1.mod.glob.keeps bk
    have bl : ∃ mb, s1.heap.Ns builtinsNs mb ∧ ∀ y : Str, y ≠ "__name__" → mb y = bootBuiltins y := ⟨mb, B1.keeps bk, B2⟩
    obtain ⟨hp, g, dr, tk, os⟩ := s1
    exact wpAny_call (Er.made T I1.kIn gl bl lim (by have := hr.dp; omega) fun h' tk' e d M => ev_land I1 rv M (q1 d e (I1.hok.fresh M.big) (I1.hok.fresh M.new) M.ne))
theorem pe_evK {kws : List Keyword} {ta : TA} {p pos : Pos} {k : Nat} (T : Er.Txt X.prog X.K X.mg nm fld C fI) (hr : Room k X.A) (ha : PK X kws ta) (hg : Gl X nm) (hd : (nm == ("__debug__" : Str)) = false := by decide)
    (hall : (backToKw pos (keywordEach kws X.env)).all (·.1.isSome) = true := by rfl) (hks : (backToKw pos (keywordEach kws X.env)).filterMap (·.1) = [fld] := by rfl)
    (hpl : ((backTo pos (starEach [] X.env)).any (·.1) || (backToKw pos (keywordEach kws X.env)).any (·.1.isNone)) = false := by rfl) :
    PE X (.Call (.Name nm p) [] kws pos) (tEv C fld ta) := by
  refine ⟨fun pins s σ H Q I h => ?_⟩
  refine wpAny_Call_Name_kw (ld_glob I hg T.gC ?_ hd)
  refine PySem.W.callWith_KW0 (h₀ := X.base) I.ok.mod.kin T.kC hall (thn (ha.run pos pins s σ H _ I h) fun us s1 hh => ?_) hpl
  obtain ⟨vs, H1, I1, r1, v, ev, q1⟩ := hh
  subst ev
  refine ⟨I1.kIn, ?_⟩
  rw [hks]
  cases r1 with
  | @cons _ v' _ us' rv rn =>
    cases rn
    show wpAny _ _ (call (.ref C) [] [(fld, v')]) _ _ _
    have lim := I1.nolimit
    obtain ⟨mb, B1, B2⟩ := I1.mod.blt
    have bk := I1.bk
    have gl := I1.mod.glob.keeps bk
    have bl : ∃ mb, s1.heap.Ns builtinsNs mb ∧ ∀ y : Str, y ≠ "__name__" → mb y = bootBuiltins y := ⟨mb, B1.keeps bk, B2⟩
    obtain ⟨hp, g, dr, tk, os⟩ := s1
    exact wpAny_call (Er.madeK T I1.kIn gl bl lim (by have := hr.dp; omega) fun h' tk' e d M => ev_land I1 rv M (q1 d e (I1.hok.fresh M.big) (I1.hok.fresh M.new) M.ne))
theorem pmk_erK {kws : List Keyword} {ta : TA} {p pos : Pos} {k : Nat} (T : Er.Txt X.prog X.K X.mg nm fld C fI) (hr : Room k X.A) (ha : PK X kws ta) (hg : Gl X nm) (hd : (nm == ("__debug__" : Str)) = false := by decide)
    (hall : (backToKw pos (keywordEach kws X.env)).all (·.1.isSome) = true := by rfl) (hks : (backToKw pos (keywordEach kws X.env)).filterMap (·.1) = [fld] := by rfl)
    (hpl : ((backTo pos (starEach [] X.env)).any (·.1) || (backToKw pos (keywordEach kws X.env)).any (·.1.isNone)) = false := by rfl) :
    PMk X (.Call (.Name nm p) [] kws pos) (tEr C fld ta) := by
  intro pins s σ H Q I h
  refine wpAny_Call_Name_kw (ld_glob I hg T.gC ?_ hd)
  refine PySem.W.callWith_KW0 (h₀ := X.base) I.ok.mod.kin T.kC hall (thn (ha.run pos pins s σ H _ I h) fun us s1 hh => ?_) hpl
  obtain ⟨vs, H1, I1, r1, v, ev, q1⟩ := hh
  subst ev
  refine ⟨I1.kIn, ?_⟩
  rw [hks]
  cases r1 with
  | @cons _ v' _ us' rv rn =>
    cases rn
    show wpAny _ _ (call (.ref C) [] [(fld, v')]) _ _ _
    have lim := I1.nolimit
    obtain ⟨mb, B1, B2⟩ := I1.mod.blt
    have bk := I1.bk
    have gl := I1.mod.glob.keeps bk
    have bl : ∃ mb, s1.heap.Ns builtinsNs mb ∧ ∀ y : Str, y ≠ "__name__" → mb y = bootBuiltins y := ⟨mb, B1.keeps bk, B2⟩
    obtain ⟨hp, g, dr, tk, os⟩ := s1
    refine wpAny_call (Er.madeK T I1.kIn gl bl lim (by have := hr.dp; omega) fun h' tk' e d M => ?_)
    show MkP X pins σ Q (.ref e) ⟨h', g, dr, tk', os⟩
    obtain ⟨oe, fv, hoe, hc, hdd, hdat, h1⟩ := M.obj
    obtain ⟨G', g1, g2⟩ := restrict h' fun b => decide (b ≠ e)
    have gk : ∀ b, b ≠ e → G'.get? b = h'.get? b := fun b hb => g1 b (decide_eq_true hb)
    have ge : G'.get? e = none := g2 e (by simp)
    have old : ∀ b o, hp.get? b = some o → G'.get? b = some o := fun b o q => (gk b (Nat.ne_of_lt (Nat.lt_of_lt_of_le (Heap.lt_size q) M.new))).trans (M.keep b o q)
    have ob : ObjOk X.prog X.w (upd H1 d (.xd [(fld, v)])) G' d (.xd [(fld, v)]) := ⟨_, M.ns.at (fun o q => (gk d M.ne).trans q), fun f => er_lookup rv f⟩
    have J : Inv X pins σ (upd H1 d (.xd [(fld, v)])) ⟨G', g, dr, tk', os⟩ := I1.laid (t' := tk') old M.big ob
    refine ⟨e, oe, fv, ⟨G', g, dr, tk', os⟩, _, .ref C, some d, rfl, J, fun b o q => ?_, ge, hoe, ⟨hc, hdd⟩, hdat, h1, ?_, rfl, I1.bare, raises_own T.xf.exC T.tyC, q1 d (I1.hok.fresh M.big)⟩
    · by_cases hb : b = e
      · have q' : G'.get? b = some o := q
        rw [hb, ge] at q'
        cases q'
      · exact (gk b hb).symm.trans q
    · rw [upd_ne (Ne.symm M.ne)]
      exact I1.hok.fresh M.new
theorem pe_ev0 {bmB : List Value} {B newId initId : String} {p pos : Pos} (F : ExcBaseFacts B newId initId bmB) (q : PySem.W.excIn X.K C bmB newId = true) (gC : X.mg nm = some (.ref C)) (kC : PySem.W.keepIn X.K (.ref C) = true) (hg : Gl X nm) (hdb : (nm == ("__debug__" : Str)) = false := by decide) :
    PE X (.Call (.Name nm p) [] [] pos) (fun σ H Q => ∀ e, H e = none → Q (.ref e) (upd H e (Mi.ErO e C none))) := by
  refine ⟨fun pins s σ H Q I h => ?_⟩
  refine wpAny_Call_Name_kw (ld_glob I hg gC ?_ hdb)
  refine PySem.W.callWith_K0 I.kIn kC ?_
  show wpAny _ _ (call (.ref C) []) _ _ _
  obtain ⟨bm, N, nm', qn, bs, hdct, sn, sub, ab, col, dd, k0, k1, k2, k3, k5, mN, hC, hN, hni, T⟩ := exc_obj I.kIn q
  refine wpAny_call_exc_subT F T hC hN hni (fun h' a hm => ?_) (by show 0 ≤ sizeLine; omega)
  have hn : H a = none := I.hok.gone hm.new
  obtain ⟨t, ht, _, _⟩ := hm.there
  exact ⟨.ref a, upd H a (Mi.ErO a C none), I.laidN hm.keeps hm.new hn (erO_ok ht rfl rfl rfl), rfl, h a hn⟩

theorem ev_inst {H : Hp} {h : Heap} {a : Addr} {d : Option Addr} (hk : HOk X.prog X.w H h) (ha : H a = some (Mi.ErO a C d)) (hd : ∀ dd, d = some dd → ∃ fs, H dd = some (.xd fs)) : ∃ oe od, PySem.W.InstAt h a oe C od := by
  obtain ⟨⟨oe, vs, e1, e2, e3, e4⟩, _, _⟩ := hk a _ ha
  cases d with
  | none => exact ⟨oe, none, e1, e2, by unfold PySem.W.notCls; rw [e4] <;> rfl, by rw [e3]; trivial⟩
  | some dd =>
    obtain ⟨fs, hf⟩ := hd dd rfl
    have hx : ObjOk X.prog X.w H h dd (.xd fs) := hk dd _ hf
    obtain ⟨mA, hns, _⟩ := hx
    obtain ⟨od, ho, _⟩ := lookIn_ns hns
    exact ⟨oe, some od, e1, e2, by unfold PySem.W.notCls; rw [e4] <;> rfl, by rw [e3]; exact ho⟩
def rIsV (K : PySem.W.Frag) : List V → Hp → VK → Prop := fun xs H Q => ∃ (a C : Addr) (d : Option Addr) (c : V) (b : Bool), xs = [.ref a, c] ∧ H a = some (Mi.ErO a C d) ∧ (∀ dd, d = some dd → ∃ fs, H dd = some (.xd fs)) ∧ IsC K C ∧
  ((∃ cv, (∀ u, RelV c u → u = cv) ∧ PySem.W.kitOne K (.ref C) cv = some b) ∨ ∃ tp vs cvs, c = .ref tp ∧ H tp = some (.tup vs) ∧ (∀ us, Vals vs us → us = cvs) ∧ PySem.W.kitAny K (.ref C) cvs = some b) ∧ Q (.bl b) H
theorem call_isV : CallR X (.builtin "isinstance") (rIsV X.K) := by
  intro pins s σ H xs us Q I r h
  obtain ⟨a, C, d, c, b, rfl, ha, hd, T, hc, q⟩ := h
  cases r with
  | cons rx rr =>
    cases rr with
    | cons rt rr =>
      cases rr
      cases rx
      obtain ⟨oe, od, J⟩ := ev_inst (X := X) I.hok ha hd
      have Z := PySem.W.kitx_exc (x := a) (ox := oe) (od := od) T.cl T.xf.ga T.xf.gg T.xf.exC T.ha T.hn T.ht T.hm
      rcases hc with ⟨cv, hcv, e⟩ | ⟨tp, vs, cvs, rfl, ht, hv, e⟩
      · obtain rfl := hcv _ rt
        exact PySem.W.kia_one Z I.kIn J e (fun z => nomatch z) fun tk => ⟨.bl b, H, I.kept (t' := tk) fun _ _ z => z, rfl, q⟩
      · cases rt
        have hx : ObjOk X.prog X.w H s.heap tp (.tup vs) := I.hok tp _ ht
        obtain ⟨_, its, hvals, o, e1, e2, n, e3⟩ := hx
        obtain rfl := hv _ hvals
        obtain ⟨oc, od', dat, sl⟩ := o
        cases e2
        cases e3
        exact PySem.W.kia_tup Z I.kIn J e1 e (fun z => nomatch z) fun tk => ⟨.bl b, H, I.kept (t' := tk) fun _ _ z => z, rfl, q⟩
def tXv (K : PySem.W.Frag) (f : Str) (te : TE) : TE := fun σ H Q => te σ H fun x H1 => ∃ (a C dd : Addr) (fs : List (Str × V)) (v : V), x = .ref a ∧ H1 a = some (Mi.ErO a C (some dd)) ∧ XfC K C ∧ PySem.W.findIn K (.ref C) f = some none ∧ H1 dd = some (.xd fs) ∧ fs.lookup f = some v ∧ Q v H1
theorem pe_xv {e : Expr} {te : TE} {pos : Pos} {n : Str} (he : PE X e te) (hb : attributeBase e n X.env (eval e X.env) = eval e X.env := by rfl) : PE X (.Attribute e n pos) (tXv X.K n te) := by
  refine ⟨fun pins s σ H Q I h => ?_⟩
  refine attr_of hb (thn (he.run pins s σ H _ I h) fun u s1 hh => ?_)
  obtain ⟨x, H1, I1, rx, a, C, dd, fs, v, rfl, ha, T, hno, ea, l, q⟩ := hh
  obtain rfl : u = Value.ref a := rx
  obtain ⟨⟨oe, vs, e1, e2, e3, e4⟩, _, _⟩ := I1.hok a _ ha
  have hx : ObjOk X.prog X.w H1 s1.heap dd (.xd fs) := I1.hok dd _ ea
  obtain ⟨mA, hns, hr⟩ := hx
  obtain ⟨od, ho, hl⟩ := lookIn_ns hns
  obtain ⟨u, hu, ru⟩ := RelO.some_of (v := v) (o := mA n) (by rw [← l]; exact hr n)
  have J : PySem.W.InstAt s1.heap a oe C (some od) := ⟨e1, e2, by unfold PySem.W.notCls; rw [e4] <;> rfl, by rw [e3]; exact ho⟩
  exact HandSPX.exc_get I1.kIn J T.ga T.gg T.exC (PySem.W.findObj_own T.hdC hno rfl (by rw [hl, hu])) (handed_of ru) ⟨v, H1, I1.tok _, ru, q⟩
def tXfA (K : PySem.W.Frag) (a : Addr) (cls : Value) (d : Option Addr) (f : Str) (te : TE) : TE := fun σ H Q => te σ H fun x H1 => x = .ref a ∧ ∃ (C dd : Addr) (fs : List (Str × V)) (v : V), cls = .ref C ∧ XfC K C ∧ PySem.W.findIn K (.ref C) f = some none ∧ d = some dd ∧ H1 dd = some (.xd fs) ∧ fs.lookup f = some v ∧ Q v H1
theorem pe_xfA {a : Addr} {oe : Obj} {cls : Value} {d : Option Addr} {pn : List (Addr × Obj)} {e : Expr} {te : TE} {pos : Pos} {n : Str}
    (hz : Zc cls d oe) (hf : ∃ vs, oe.data = .fields vs) (he : PE (X.suite a ((a, oe) :: pn)) e te) (hb : attributeBase e n X.env (eval e X.env) = eval e X.env := by rfl) :
    PE (X.suite a ((a, oe) :: pn)) (.Attribute e n pos) (tXfA X.K a cls d n te) := by
  refine ⟨fun pins s σ H Q I h => ?_⟩
  refine attr_of hb (thn (he.run pins s σ H _ I h) fun u s1 hh => ?_)
  obtain ⟨x, H1, I1, rx, ex, C, dd, fs, v, ec, T, hno, ed, ea, l, q⟩ := hh
  subst ex
  obtain rfl : u = Value.ref a := rx
  subst ec
  subst ed
  obtain ⟨ha, _⟩ := I1.pin (a, oe) (List.mem_append_left _ List.mem_cons_self)
  obtain ⟨vs, hd⟩ := hf
  have hx : ObjOk X.prog X.w H1 s1.heap dd (.xd fs) := I1.hok dd _ ea
  obtain ⟨mA, hns, hr⟩ := hx
  obtain ⟨od, ho, hl⟩ := lookIn_ns hns
  obtain ⟨u, hu, ru⟩ := RelO.some_of (v := v) (o := mA n) (by rw [← l]; exact hr n)
  have J : PySem.W.InstAt s1.heap a oe C (some od) := ⟨ha, hz.1, by unfold PySem.W.notCls; rw [hd] <;> rfl, by rw [hz.2]; exact ho⟩
  exact HandSPX.exc_get I1.kIn J T.ga T.gg T.exC (PySem.W.findObj_own T.hdC hno rfl (by rw [hl, hu])) (handed_of ru) ⟨v, H1, I1.tok _, ru, q⟩
end
end L2
end

section
set_option maxHeartbeats 4000000
namespace Mi
open PySem PySem.Spec PyProof.Rows L2
open Evl (Ex)
def errOf (d : D) (A : Arn) : Option (Str × List (Str × PyData)) := match d with
  | .ref n => match A[n]? with
    | some (.dc (.e nm fs)) => some (nm, fs)
    | _ => none
  | _ => none
def one1 (ds : List D) : Option PyData := match ds with
  | [.p x] => some x
  | _ => none
def mErr (nm fld : Str) (m : MA) : ME := fun s A => (m s A).bind fun ds A1 => match one1 ds with
  | some x => .ok (.ref A1.length) (A1 ++ [.dc (.e nm [(fld, x)])])
  | none => .bad
def mErr0 (nm : Str) : ME := fun _ A => .ok (.ref A.length) (A ++ [.dc (.e nm [])])
def mIsE (t : Str → Option Bool) (m : ME) : ME := fun s A => (m s A).bind fun d A1 => match errOf d A1 with
  | some z => (match t z.1 with
    | some b => .ok (.p (.bool b)) A1
    | none => .bad)
  | none => .bad
def fldOf (f : Str) (fs : List (Str × PyData)) : Option PyData := match fs with
  | [p] => if p.1 = f then some p.2 else none
  | _ => none
def mErrF (ok : Str → Bool) (f : Str) (m : ME) : ME := fun s A => (m s A).bind fun d A1 => match errOf d A1 with
  | some z => (match ok z.1, fldOf f z.2 with
    | true, some x => .ok (.p x) A1
    | _, _ => .bad)
  | none => .bad
theorem one1_of {ds : List D} {x : PyData} (h : one1 ds = some x) : ds = [.p x] := by
  unfold one1 at h
  split at h
  · cases h; rfl
  · cases h
theorem fldOf_of {f : Str} {fs : List (Str × PyData)} {x : PyData} (h : fldOf f fs = some x) : fs = [(f, x)] := by
  unfold fldOf at h
  split at h
  · split at h
    · rename_i p e
      cases h
      rw [← e]
    · cases h
  · cases h
section
variable {K : PySem.W.Frag} {W : WX} {F S S' H H' : Hp} {ρ ρ' : List Addr} {σ : L2.St} {A : Arn} {s : Slt}
theorem err_of (w : Wo K F S ρ H A) {d : D} {v : V} (r : RD K S ρ d v) {z : Str × List (Str × PyData)} (e : errOf d A = some z) : ∃ a C dd, v = .ref a ∧ H a = some (ErO a C dd) ∧ PySem.W.nsIn K mainGlobals z.1 = some (some (.ref C)) ∧ XdOk K S dd z.2 := by
  unfold errOf at e
  split at e
  · split at e
    · rename_i n nm fs hA
      cases e
      obtain ⟨a, rfl, ha⟩ := r
      obtain ⟨a', u, h1, h2, h3, C, d, rfl, h4, h5⟩ := w.dct _ _ hA
      rw [ha] at h1
      cases h1
      exact ⟨a, C, d, rfl, h3, h4, h5⟩
    · cases e
  · cases e
theorem xd_some (w : Wo K F S ρ H A) : ∀ {fs : List (Str × PyData)} {d : Option Addr}, XdOk K S d fs → ∀ dd, d = some dd → ∃ fs, H dd = some (.xd fs)
  | [], d, h, dd, e => by rw [show d = none from h] at e; cases e
  | [p], d, ⟨dd', v, h1, h2, _⟩, dd, e => by
    rw [h1] at e
    cases e
    exact ⟨_, w.sub _ _ h2⟩
  | _ :: _ :: _, _, h, _, _ => h.elim
theorem t_err {C : Addr} {nm fld : Str} {m : MA} (hC : PySem.W.nsIn K mainGlobals nm = some (some (.ref C))) : ∀ σ H Q, tE K W (mErr nm fld m) σ H Q → tEv C fld (tA K W m) σ H Q := fun σ H Q ⟨F, S, ρ, s, A, w, sr, h⟩ =>
  ⟨F, S, ρ, s, A, w, sr, (EndG.bind h).imp fun vs H1 ⟨S1, ρ1, A1, ds, l1, w1, r1, h1⟩ => by
    cases e1 : one1 ds with
    | none => rw [e1] at h1; exact h1.elim
    | some x =>
      rw [e1] at h1
      obtain rfl := one1_of e1
      cases r1 with
      | @cons _ v _ _ rv rn =>
        cases rn
        refine ⟨v, rfl, fun d e hd he hne => ?_⟩
        have g1 := Grow.upd (o := HO.xd [(fld, v)]) w1.sub hd
        have w2 := w1.grow g1
        have hne2 : upd H1 d (HO.xd [(fld, v)]) e = none := by rw [upd_ne (Ne.symm hne)]; exact he
        have g2 := Grow.side (o := ErO e C (some d)) w2.sub hne2
        have w3 := w2.grow g2
        have fr := w2.fresh hne2
        have rv2 : Dq K (upd S1 d (HO.xd [(fld, v)])) v x := Dq.mono g1.ex _ _ rv
        have w4 := w3.allocK (p := e) (vs := ErO e C (some d)) (xs := .e nm [(fld, x)]) ⟨fr.s, fr.f, fr.live⟩ upd_same ⟨C, some d, rfl, hC, d, v, rfl, upd_same, rv2⟩
        refine h1 _ (ρ1 ++ [e]) _ _ ⟨g1.ex, Pre.snoc ρ1 e⟩ w4 ⟨e, rfl, ?_⟩
        rw [← w1.len, List.getElem?_append_right (Nat.le_refl _), Nat.sub_self]
        rfl⟩
theorem t_err0 {C : Addr} {nm : Str} (hC : PySem.W.nsIn K mainGlobals nm = some (some (.ref C))) : ∀ σ H Q, tE K W (mErr0 nm) σ H Q → ∀ e, H e = none → Q (.ref e) (upd H e (ErO e C none)) := fun σ H Q ⟨F, S, ρ, s, A, w, sr, h⟩ e he => by
  have g2 := Grow.side (o := ErO e C none) w.sub he
  have w3 := w.grow g2
  have fr := w.fresh he
  have w4 := w3.allocK (p := e) (vs := ErO e C none) (xs := .e nm []) ⟨fr.s, fr.f, fr.live⟩ upd_same ⟨C, none, rfl, hC, rfl⟩
  refine h _ (ρ ++ [e]) _ _ ⟨Ex.refl S, Pre.snoc ρ e⟩ w4 ⟨e, rfl, ?_⟩
  rw [← w.len, List.getElem?_append_right (Nat.le_refl _), Nat.sub_self]
  rfl
def IsT1 (K : PySem.W.Frag) (t : Str → Option Bool) (cv : Value) : Prop := ∀ nm b C, t nm = some b → PySem.W.nsIn K mainGlobals nm = some (some (.ref C)) → IsC K C ∧ PySem.W.kitOne K (.ref C) cv = some b
def IsTn (K : PySem.W.Frag) (t : Str → Option Bool) (cvs : List Value) : Prop := ∀ nm b C, t nm = some b → PySem.W.nsIn K mainGlobals nm = some (some (.ref C)) → IsC K C ∧ PySem.W.kitAny K (.ref C) cvs = some b
def FlT (K : PySem.W.Frag) (ok : Str → Bool) (f : Str) : Prop := ∀ nm C, ok nm = true → PySem.W.nsIn K mainGlobals nm = some (some (.ref C)) → XfC K C ∧ PySem.W.findIn K (.ref C) f = some none
theorem t_isE {t : Str → Option Bool} {m : ME} {c : V} {cv : Value} (hc : ∀ u, RelV c u → u = cv) (hT : IsT1 K t cv) : ∀ σ H Q, tE K W (mIsE t m) σ H Q → tCB (rIsV K) (tCons (tE K W m) (tCons (tC c) tNil)) σ H Q := fun σ H Q ⟨F, S, ρ, s, A, w, sr, h⟩ =>
  ⟨F, S, ρ, s, A, w, sr, (EndG.bind h).imp fun x H1 ⟨S1, ρ1, A1, d, l1, w1, r1, h1⟩ => by
    cases e1 : errOf d A1 with
    | none => rw [e1] at h1; exact h1.elim
    | some z =>
      rw [e1] at h1
      dsimp only at h1
      obtain ⟨a, C, dd, rfl, g1, g2, g3⟩ := err_of w1 r1 e1
      cases e2 : t z.1 with
      | none => rw [e2] at h1; exact h1.elim
      | some b =>
        rw [e2] at h1
        obtain ⟨i1, i2⟩ := hT _ _ _ e2 g2
        exact ⟨a, C, dd, c, b, rfl, g1, xd_some w1 g3, i1, .inl ⟨cv, hc, i2⟩, EndG.ok h1 w1 (.bl b)⟩⟩
theorem t_isEn {t : Str → Option Bool} {m : ME} {c1 c2 c3 : V} {cvs : List Value} (hc : ∀ us, Vals [c1, c2, c3] us → us = cvs) (hT : IsTn K t cvs) : ∀ σ H Q, tE K W (mIsE t m) σ H Q → tCB (rIsV K) (tCons (tE K W m) (tCons (tTup (tCons (tC c1) (tCons (tC c2) (tCons (tC c3) tNil)))) tNil)) σ H Q := fun σ H Q ⟨F, S, ρ, s, A, w, sr, h⟩ =>
  ⟨F, S, ρ, s, A, w, sr, (EndG.bind h).imp fun x H1 ⟨S1, ρ1, A1, d, l1, w1, r1, h1⟩ => by
    cases e1 : errOf d A1 with
    | none => rw [e1] at h1; exact h1.elim
    | some z =>
      rw [e1] at h1
      dsimp only at h1
      obtain ⟨a, C, dd, rfl, g1, g2, g3⟩ := err_of w1 r1 e1
      cases e2 : t z.1 with
      | none => rw [e2] at h1; exact h1.elim
      | some b =>
        rw [e2] at h1
        obtain ⟨i1, i2⟩ := hT _ _ _ e2 g2
        refine ⟨by show 3 ≤ sizeLine; rw [sizeLine_eq]; omega, fun p hp => ?_⟩
        have g := Grow.side (o := HO.tup [c1, c2, c3]) w1.sub hp
        have w2 := w1.grow g
        exact ⟨a, C, dd, .ref p, b, rfl, g.exH _ _ g1, fun dd' e => (xd_some w1 g3 dd' e).imp fun _ q => g.exH _ _ q, i1, .inr ⟨p, _, cvs, rfl, upd_same, hc, i2⟩, EndG.ok h1 w2 (.bl b)⟩⟩
theorem t_errF {ok : Str → Bool} {f : Str} {m : ME} (hT : FlT K ok f) : ∀ σ H Q, tE K W (mErrF ok f m) σ H Q → tXv K f (tE K W m) σ H Q := fun σ H Q ⟨F, S, ρ, s, A, w, sr, h⟩ =>
  ⟨F, S, ρ, s, A, w, sr, (EndG.bind h).imp fun x H1 ⟨S1, ρ1, A1, d, l1, w1, r1, h1⟩ => by
    cases e1 : errOf d A1 with
    | none => rw [e1] at h1; exact h1.elim
    | some z =>
      obtain ⟨nm, fs⟩ := z
      rw [e1] at h1
      dsimp only at h1
      obtain ⟨a, C, dd, rfl, g1, g2, g3⟩ := err_of w1 r1 e1
      cases e2 : ok nm with
      | false => rw [e2] at h1; exact h1.elim
      | true =>
        rw [e2] at h1
        cases e3 : fldOf f fs with
        | none => rw [e3] at h1; exact h1.elim
        | some x =>
          rw [e3] at h1
          obtain rfl := fldOf_of e3
          obtain ⟨dd', v, rfl, g4, g5⟩ := g3
          obtain ⟨i1, i2⟩ := hT _ _ e2 g2
          exact ⟨a, C, dd', _, v, rfl, g1, i1, i2, w1.sub _ _ g4, by simp [List.lookup], EndG.ok h1 w1 g5⟩⟩
end
section
variable {X : Cx} {W : WX} {k : Nat} {C fI : Addr} {nm fld : Str} {p pos p2 p3 : Pos}
theorem xe_err {a : Expr} {m : MA} (T : ErF X.prog X.K X.mg nm fld C fI) (hr : Room k X.A) (ha : PA X [a] (tA X.K W m)) (hg : Gl X nm) (hd : (nm == ("__debug__" : Str)) = false := by decide)
    (he : starEach (a :: []) X.env = (false, eval a X.env) :: starEach [] X.env := by rfl) (hpl : (backTo pos (starEach [] X.env)).any (·.1) = false := by rfl) :
    PE X (.Call (.Name nm p) [a] [] pos) (tE X.K W (mErr nm fld m)) := pe_imp (pe_ev T.t hr ha hg hd he hpl) (t_err T.k)
theorem xe_errK {kws : List Keyword} {m : MA} (T : ErF X.prog X.K X.mg nm fld C fI) (hr : Room k X.A) (ha : PK X kws (tA X.K W m)) (hg : Gl X nm) (hd : (nm == ("__debug__" : Str)) = false := by decide)
    (hall : (backToKw pos (keywordEach kws X.env)).all (·.1.isSome) = true := by rfl) (hks : (backToKw pos (keywordEach kws X.env)).filterMap (·.1) = [fld] := by rfl)
    (hpl : ((backTo pos (starEach [] X.env)).any (·.1) || (backToKw pos (keywordEach kws X.env)).any (·.1.isNone)) = false := by rfl) :
    PE X (.Call (.Name nm p) [] kws pos) (tE X.K W (mErr nm fld m)) := pe_imp (pe_evK T.t hr ha hg hd hall hks hpl) (t_err T.k)
structure Er0 (K : PySem.W.Frag) (mg : Str → Option Value) (nm : Str) (C : Addr) : Prop where
  g : mg nm = some (.ref C)
  k : PySem.W.nsIn K mainGlobals nm = some (some (.ref C))
  q : PySem.W.excIn K C PySem.HandSPX.veTail "ValueError.__new__" = true
  kC : PySem.W.keepIn K (.ref C) = true
theorem xe_err0 (T : Er0 X.K X.mg nm C) (hg : Gl X nm) (hd : (nm == ("__debug__" : Str)) = false := by decide) : PE X (.Call (.Name nm p) [] [] pos) (tE X.K W (mErr0 nm)) := pe_imp (pe_ev0 PySem.F.excBase_ValueError T.q T.g T.kC hg hd) (t_err0 T.k)
theorem xe_is {e : Expr} {t : Str → Option Bool} {m : ME} {x : Str} {c : V} {cv : Value} (he : PE X e (tE X.K W m)) (hg : Gl X "isinstance") (hm : X.mg "isinstance" = none) (hx : PE X (.Name x p2) (tC c)) (hc : ∀ u, RelV c u → u = cv) (hT : IsT1 X.K t cv)
    (hs : starEach (e :: [.Name x p2]) X.env = (false, eval e X.env) :: starEach [.Name x p2] X.env := by rfl) :
    PE X (.Call (.Name "isinstance" p) [e, .Name x p2] [] pos) (tE X.K W (mIsE t m)) := pe_imp (pe_callB call_isV hg hm boot_isinstance (pa_cons he (pa_cons hx pa_nil) (hs := hs)) (he := hs)) (t_isE hc hT)
theorem xe_isn {e : Expr} {t : Str → Option Bool} {m : ME} {x1 x2 x3 : Str} {c1 c2 c3 : V} {cvs : List Value} {p4 p5 : Pos} {j : Nat} (he : PE X e (tE X.K W m)) (hg : Gl X "isinstance") (hm : X.mg "isinstance" = none) (h1 : PE X (.Name x1 p2) (tC c1)) (h2 : PE X (.Name x2 p3) (tC c2)) (h3 : PE X (.Name x3 p4) (tC c3)) (hc : ∀ us, Vals [c1, c2, c3] us → us = cvs) (hT : IsTn X.K t cvs)
    (hs : starEach (e :: [.Tuple [.Name x1 p2, .Name x2 p3, .Name x3 p4] j p5]) X.env = (false, eval e X.env) :: starEach [.Tuple [.Name x1 p2, .Name x2 p3, .Name x3 p4] j p5] X.env := by rfl) :
    PE X (.Call (.Name "isinstance" p) [e, .Tuple [.Name x1 p2, .Name x2 p3, .Name x3 p4] j p5] [] pos) (tE X.K W (mIsE t m)) := pe_imp (pe_callB call_isV hg hm boot_isinstance (pa_cons he (pa_cons (pe_tup (pa_cons h1 (pa_cons h2 (pa_cons h3 pa_nil)))) pa_nil) (hs := hs)) (he := hs)) (t_isEn hc hT)
theorem xe_errF {e : Expr} {ok : Str → Bool} {f : Str} {m : ME} (he : PE X e (tE X.K W m)) (hT : FlT X.K ok f) (hb : attributeBase e f X.env (eval e X.env) = eval e X.env := by rfl) : PE X (.Attribute e f pos) (tE X.K W (mErrF ok f m)) := pe_imp (pe_xv he hb) (t_errF hT)
end
def tOf (names yes : List Str) : Str → Option Bool := fun nm => if nm ∈ names then some (decide (nm ∈ yes)) else none
def okOf (names : List Str) : Str → Bool := fun nm => decide (nm ∈ names)
def isCB (K : PySem.W.Frag) (C : Addr) : Bool := xfB K C && ((PySem.W.clsIn K C).isSome && (decide (PySem.W.findIn K (.ref C) "__class__" = some (some (.builtin "object.__class__"))) && decide (PySem.W.mroIn K C (.type "object") = some true)))
def at1 (K : PySem.W.Frag) (nm : Str) (f : Addr → Bool) : Bool := match PySem.W.nsIn K mainGlobals nm with
  | some (some (.ref C)) => f C
  | _ => false
theorem at1_of {K : PySem.W.Frag} {nm : Str} {f : Addr → Bool} {C : Addr} (h : at1 K nm f = true) (e : PySem.W.nsIn K mainGlobals nm = some (some (.ref C))) : f C = true := by
  unfold at1 at h
  rw [e] at h
  exact h
def clsChk (K : PySem.W.Frag) (names : List Str) : Bool := names.all fun nm => at1 K nm (isCB K)
def isChk (K : PySem.W.Frag) (names yes : List Str) (cv : Value) : Bool := names.all fun nm => at1 K nm fun C => decide (PySem.W.kitOne K (.ref C) cv = some (decide (nm ∈ yes)))
def isChkN (K : PySem.W.Frag) (names yes : List Str) (cvs : List Value) : Bool := names.all fun nm => at1 K nm fun C => decide (PySem.W.kitAny K (.ref C) cvs = some (decide (nm ∈ yes)))
def flChk (K : PySem.W.Frag) (names : List Str) (f : Str) : Bool := names.all fun nm => at1 K nm fun C => decide (PySem.W.findIn K (.ref C) f = some none)
section
variable {K : PySem.W.Frag} {names yes : List Str}
theorem isC_of (hn : PySem.W.specialIn K (.builtin "object.__class__") "__get__" = some (some (.builtin "getset_descriptor.__get__"))) (ht : PySem.W.takesIn K (.builtin "object.__class__") = some true) {C : Addr} (h : isCB K C = true) : IsC K C := by
  unfold isCB at h
  simp only [Bool.and_eq_true, decide_eq_true_eq] at h
  exact ⟨xfB_ok h.1, h.2.1, h.2.2.1, hn, ht, h.2.2.2⟩
theorem isT1_of (hn : PySem.W.specialIn K (.builtin "object.__class__") "__get__" = some (some (.builtin "getset_descriptor.__get__"))) (ht : PySem.W.takesIn K (.builtin "object.__class__") = some true) (hc : clsChk K names = true) {cv : Value} (h : isChk K names yes cv = true) : IsT1 K (tOf names yes) cv := by
  intro nm b C e1 e2
  unfold tOf at e1
  split at e1
  · rename_i hm
    cases e1
    have c1 := at1_of (List.all_eq_true.mp hc nm hm) e2
    have c2 := at1_of (List.all_eq_true.mp h nm hm) e2
    exact ⟨isC_of hn ht c1, of_decide_eq_true c2⟩
  · cases e1
theorem isTn_of (hn : PySem.W.specialIn K (.builtin "object.__class__") "__get__" = some (some (.builtin "getset_descriptor.__get__"))) (ht : PySem.W.takesIn K (.builtin "object.__class__") = some true) (hc : clsChk K names = true) {cvs : List Value} (h : isChkN K names yes cvs = true) : IsTn K (tOf names yes) cvs := by
  intro nm b C e1 e2
  unfold tOf at e1
  split at e1
  · rename_i hm
    cases e1
    have c1 := at1_of (List.all_eq_true.mp hc nm hm) e2
    have c2 := at1_of (List.all_eq_true.mp h nm hm) e2
    exact ⟨isC_of hn ht c1, of_decide_eq_true c2⟩
  · cases e1
theorem flT_of {all : List Str} (hc : clsChk K all = true) (hs : ∀ x, x ∈ names → x ∈ all) {f : Str} (h : flChk K names f = true) : FlT K (okOf names) f := by
  intro nm C e1 e2
  have hm : nm ∈ names := of_decide_eq_true e1
  have c1 := at1_of (List.all_eq_true.mp hc nm (hs nm hm)) e2
  have c2 := at1_of (List.all_eq_true.mp h nm hm) e2
  unfold isCB at c1
  simp only [Bool.and_eq_true] at c1
  exact ⟨xfB_ok c1.1, of_decide_eq_true c2⟩
end
end Mi
end

section
set_option maxHeartbeats 4000000
namespace Mi
open PySem PySem.Spec PyProof.Rows L2
open Evl (Ex)
structure Cl where
  nm : Str
  fld : Str
  lab : Str
structure ClF (P : Program) (K : PySem.W.Frag) (mg : Str → Option Value) (CB : Addr) (sc : Scope) (c : Cl) (C fI : Addr) : Prop where
  T : ErF P K mg c.nm c.fld C fI
  kb : PySem.W.kitOne K (.ref C) (.ref CB) = some true
  s1 : sc.names.lookup c.nm = some .globalImplicit
  d1 : (c.nm == ("__debug__" : Str)) = false
end Mi
end

section
set_option maxHeartbeats 4000000
namespace Mi
open PySem PySem.Spec PyProof.Rows L2 PySem.W
open Evl (Ex)
def fEqS (a b : PyData) : Option PyData := match a, b with
  | .str x, .str y => some (.bool (decide (x = y)))
  | _, _ => none
section
variable {X : Cx}
theorem o_eqS : OpR X (compareOp .Eq) (rP2 X.K fEqS) := by
  intro pins s σ H x y v u Q I rx ry ⟨S, d, e, z, ex, v1, v2, hf, q⟩
  unfold fEqS at hf
  split at hf
  · cases hf
    refine op_eq pins s σ H x y v u Q I rx ry ?_
    rw [v1.str, v2.str]
    refine ⟨rfl, ?_⟩
    have := q.now ex (.bl _)
    rename_i a b
    rw [show decide (V.str a = V.str b) = decide (a = b) by rw [Bool.eq_iff_iff]; simp]
    exact this
  · cases hf
end
end Mi
end

section
set_option maxHeartbeats 4000000
namespace Mi
open PySem PySem.Spec PyProof.Rows L2
open Evl (Ex)
def isThree (w : Int) : Bool := decide (w = 0) || (decide (w = 1) || decide (w = 2))
def caughtD (t : PyData) (w : Int) (A : Arn) : Out := match isThree w, fRepr [t] with
  | true, some r => (match fEqS r r with
    | some (.bool true) => .rt (.p (.bool true)) A
    | _ => .bad)
  | _, _ => .bad
def bCaught : MS := fun (s : List (Option D)) A => match (s[0]? : Option (Option D)), (s[1]? : Option (Option D)) with
  | some (some (D.p t)), some (some (D.p (PyData.int w))) => caughtD t w A
  | _, _ => .bad
theorem bCaught_of {K : PySem.W.Frag} {W : WX} {F S : Hp} {ρ : List Addr} {D : Ends} {s : Slt} {A : Arn} (h : EndS K W F S ρ D (bCaught s A)) : ∃ t w r, s[0]? = some (some (.p t)) ∧ s[1]? = some (some (.p (.int w))) ∧ isThree w = true ∧ fRepr [t] = some r ∧ fEqS r r = some (.bool true) ∧ EndS K W F S ρ D (.rt (.p (.bool true)) A) := by
  unfold bCaught at h
  split at h
  · rename_i t w h0 h1
    unfold caughtD at h
    split at h
    · rename_i r e1 e2
      split at h
      · rename_i e3
        exact ⟨t, w, r, h0, h1, e1, e2, e3, h⟩
      · exact h.elim
    · exact h.elim
  · exact h.elim
theorem xs_caught {X : Cx} {W : WX} {C1 f1 C2 f2 C3 f3 CB : Addr} {n1 n2 n3 bs : Str} {k : Nat} {q1 q2 q3 q4 q5 q6 q7 q8 q9 r1 r2 r3 r4 r5 r6 r7 r8 r9 r10 r11 p1 p2 p3 p4 p5 p6 p7 p8 p9 p10 p11 p12 p13 p14 p15 p16 p17 p18 p19 p20 p21 p22 p23 p24 p25 p26 p27 p28 p29 : Pos} {j1 j2 j3 j4 : Nat}
    (eS : X.stack = X.env :: X.outer) (eF : X.env.frame = some X.env.locals) (nd : X.N.Nodup) (tk : Takes X W) (hcalm : X.calm = true) (hr : Room k X.A) (gd : X.A.guards = some []) (hu : X.A.units + 64 < cLine)
    (hN : X.N = (["thing", "way", "e", "kept"] : List Str)) (v0 : X.env.scope.names.lookup ("thing" : Str) = some .local) (v1 : X.env.scope.names.lookup ("way" : Str) = some .local) (v2 : X.env.scope.names.lookup ("e" : Str) = some .local) (v3 : X.env.scope.names.lookup ("kept" : Str) = some .local)
    (k2 : X.env.kindOf "e" = some .local)
    (T1 : ErF X.prog X.K X.mg n1 "given" C1 f1) (T2 : ErF X.prog X.K X.mg n2 "given" C2 f2) (T3 : ErF X.prog X.K X.mg n3 "index" C3 f3)
    (g1 : Gl X n1) (g2 : Gl X n2) (g3 : Gl X n3) (d1 : (n1 == ("__debug__" : Str)) = false) (d2 : (n2 == ("__debug__" : Str)) = false) (d3 : (n3 == ("__debug__" : Str)) = false) (dB : (bs == ("__debug__" : Str)) = false)
    (gB : Gl X bs) (mB : X.mg bs = some (.ref CB)) (x1 : PySem.W.exmOne X.K (.ref C1) (.ref CB) = some true) (x2 : PySem.W.exmOne X.K (.ref C2) (.ref CB) = some true) (x3 : PySem.W.exmOne X.K (.ref C3) (.ref CB) = some true)
    (y1 : PySem.W.kitOne X.K (.ref C1) (.type "ValueError") = some true) (y2 : PySem.W.kitOne X.K (.ref C2) (.type "ValueError") = some true) (y3 : PySem.W.kitOne X.K (.ref C3) (.type "ValueError") = some true)
    (gI : X.env.kindOf "isinstance" = some .globalImplicit) (mI : X.mg "isinstance" = none) (gR : X.env.kindOf "repr" = some .globalImplicit) (mR : X.mg "repr" = none) (gV : X.env.kindOf "ValueError" = some .globalImplicit) (mV : X.mg "ValueError" = none) :
    PSs X [.Try [.If (.Compare (.Name "way" p1) [.Eq] [.Constant (.int 0) j1 p2] p3) [.Raise (some (.Call (.Name n1 p4) [.Name "thing" p5] [] p6)) none p7] [] p8,
        .If (.Compare (.Name "way" p9) [.Eq] [.Constant (.int 1) j2 p10] p11) [.Raise (some (.Call (.Name n2 p12) [] [⟨some "given", .Name "thing" p13, p14⟩] p15)) none p16] [] p17,
        .Raise (some (.Call (.Name n3 p18) [.Name "thing" p19] [] p20)) none p21]
      [.ExceptHandler (some (.Name bs p22)) (some "e") [.Assign [.Name "kept" p23] (.IfExp (.Compare (.Name "way" p24) [.Lt] [.Constant (.int 2) j3 p25] p26) (.Attribute (.Name "e" p27) "given" p28) (.Attribute (.Name "e" p29) "index" q1) q2) q3,
        .Return (some (.BoolOp .And [.Compare (.Call (.Name "repr" q4) [.Name "kept" q5] [] q6) [.Eq] [.Call (.Name "repr" q7) [.Name "thing" q8] [] q9] r1, .Call (.Name "isinstance" r2) [.Name "e" r3, .Name "ValueError" r4] [] r5] r6)) r7] r8] [] [] r9,
      .Return (some (.Constant (.bool false) j4 r10)) r11] (tS X.K W bCaught) := by
  have n0 : X.N[0]? = some ("thing" : Str) := by rw [hN]; rfl
  have n1' : X.N[1]? = some ("way" : Str) := by rw [hN]; rfl
  have n2' : X.N[2]? = some ("e" : Str) := by rw [hN]; rfl
  have n3' : X.N[3]? = some ("kept" : Str) := by rw [hN]; rfl
  have hl : X.N.length = 4 := by rw [hN]; rfl
  refine pss_imp (pss_cons (ps_trys (X := X) (Wout := W) eS eF nd tk (fun V pn xe tk' po =>
      pss_cons (ps_if (pt_cmp (pc_eqI (pe_var (X := X.tr pn xe) (i := 1) n1' (.inl v1)) pe_int)) (pss_one (ps_raise (W := V) hcalm tk' (pmk_er (X := X.tr pn xe) T1.t hr (pa_cons (pe_var (i := 0) n0 (.inl v0)) pa_nil) g1 d1))) pss_nil)
        (pss_cons (ps_if (pt_cmp (pc_eqI (pe_var (X := X.tr pn xe) (i := 1) n1' (.inl v1)) pe_int)) (pss_one (ps_raise (W := V) hcalm tk' (pmk_erK (X := X.tr pn xe) T2.t hr (pk_cons (pe_var (i := 0) n0 (.inl v0)) pk_nil) g2 d2))) pss_nil)
          (pss_one (ps_raise (W := V) hcalm tk' (pmk_er (X := X.tr pn xe) T3.t hr (pa_cons (pe_var (i := 0) n0 (.inl v0)) pa_nil) g3 d3)))))
      (.as_ (i := 2) n2' k2 ⟨gB, dB, .inl mB⟩ (fun a oe cls d pn hz hf =>
        pss_cons (ps_set (X := X.suite a ((a, oe) :: pn)) nd (i := 3) n3' (.inl v3) (pe_ifExp (pt_cmp (pc_lt (pe_var (X := X.suite a ((a, oe) :: pn)) (i := 1) n1' (.inl v1)) pe_int)) (pe_xfA hz hf (pe_var (i := 2) n2' (.inl v2))) (pe_xfA hz hf (pe_var (i := 2) n2' (.inl v2)))) (hf := .inr v3))
          (pss_one (ps_ret (pe_and (pe_cmpR (r := rP2 X.K fEqS) (o_eqS (X := X.suite a ((a, oe) :: pn))) (pe_callB (r := rPN X.K fRepr) (c_repr (X := X.suite a ((a, oe) :: pn)) gd hu) gR mR PyProof.Rows.boot_repr (pa_cons (pe_var (i := 3) n3' (.inl v3)) pa_nil)) (pe_callB (r := rPN X.K fRepr) (c_repr (X := X.suite a ((a, oe) :: pn)) gd hu) gR mR PyProof.Rows.boot_repr (pa_cons (pe_var (i := 0) n0 (.inl v0)) pa_nil)) (by rfl))
            (pe_one (pe_callB (call_isD hz hf) gI mI boot_isinstance (pa_cons (pe_var (i := 2) n2' (.inl v2)) (pa_cons (pe_bltn (v := .ty "ValueError") gV mV (u := .type "ValueError") (by decide +kernel) rfl) pa_nil)))))))) .nil)) (pss_one (ps_ret pe_bl))) fun D σ H h => ?_
  obtain ⟨F, S, ρ, s, A, w, sr, h⟩ := h
  obtain ⟨t, wy, rr, h0, h1, e1, e2, e3, hE⟩ := bCaught_of h
  obtain ⟨x0, s0, r0⟩ := sr.at_ 0 _ h0
  obtain ⟨xw, s1, r1⟩ := sr.at_ 1 _ h1
  have r0 : Dq X.K S x0 t := r0
  obtain rfl : xw = V.int wy := by cases (show Dq X.K S xw (.int wy) from r1); rfl
  have suite : ∀ (C dd a : Addr) (fld : Str), IsC X.K C → PySem.W.findIn X.K (.ref C) fld = some none → PySem.W.kitOne X.K (.ref C) (.type "ValueError") = some true → (if wy < 2 then fld = "given" else fld = "index") → ∀ H' : Hp, H' = upd H dd (.xd [(fld, x0)]) → H dd = none → σ.length = 4 →
      (tSeq (tAsg (tIf (tB (tLt (tVar 1) (tC (.int 2)))) (tXfA X.K a (.ref C) (some dd) "given" (tVar 2)) (tXfA X.K a (.ref C) (some dd) "index" (tVar 2))) (gName 3))
        (tRet (tAndV (tOp (rP2 X.K fEqS) (tCB (rPN X.K fRepr) (tCons (tVar 3) tNil)) (tCB (rPN X.K fRepr) (tCons (tVar 0) tNil))) (tCB (rIsD X.K (.ref C) (some dd) a) (tCons (tVar 2) (tCons (tC (.ty "ValueError")) tNil)))))) (dset 2 { D with nx := tRet (tC (.bl false)) D }) (σ.set 2 (some (.ref a))) H' := by
    intro C dd a fld hI hno hk hf H' eH hdd hlen
    have a0 : (σ.set 2 (some (V.ref a)))[0]? = some (some x0) := by rw [List.getElem?_set_ne (by decide)]; exact s0
    have a1 : (σ.set 2 (some (V.ref a)))[1]? = some (some (V.int wy)) := by rw [List.getElem?_set_ne (by decide)]; exact s1
    have a2 : (σ.set 2 (some (V.ref a)))[2]? = some (some (V.ref a)) := set_at hlen (by omega)
    have hd : H' dd = some (.xd [(fld, x0)]) := by rw [eH, upd_same]
    have g0 := Grow.side (o := HO.xd [(fld, x0)]) w.sub hdd
    rw [← eH] at g0
    have w1 := w.grow g0
    have fin : (tRet (tAndV (tOp (rP2 X.K fEqS) (tCB (rPN X.K fRepr) (tCons (tVar 3) tNil)) (tCB (rPN X.K fRepr) (tCons (tVar 0) tNil))) (tCB (rIsD X.K (.ref C) (some dd) a) (tCons (tVar 2) (tCons (tC (.ty "ValueError")) tNil))))) (dset 2 { D with nx := tRet (tC (.bl false)) D }) ((σ.set 2 (some (.ref a))).set 3 (some x0)) H' := by
      have b0 : ((σ.set 2 (some (V.ref a))).set 3 (some x0))[0]? = some (some x0) := by rw [List.getElem?_set_ne (by decide)]; exact a0
      have b2 : ((σ.set 2 (some (V.ref a))).set 3 (some x0))[2]? = some (some (V.ref a)) := by rw [List.getElem?_set_ne (by decide)]; exact a2
      have b3 : ((σ.set 2 (some (V.ref a))).set 3 (some x0))[3]? = some (some x0) := set_at (n := 4) (by rw [List.length_set]; exact hlen) (by omega)
      refine ⟨x0, b3, S, [t], rr, w1.sub, .cons (.inl (.inl r0)) .nil, e2, fun S2 H2 v2 g2 q2 => ?_⟩
      have w2 := w1.grow g2
      refine ⟨x0, b0, S2, [t], rr, w2.sub, .cons (.inl (.inl (Dq.mono g2.ex _ _ r0))) .nil, e2, fun S3 H3 v3 g3 q3 => ?_⟩
      have w3 := w2.grow g3
      refine ⟨S3, rr, rr, .bool true, w3.sub, .inl (.inl (Dq.mono g3.ex _ _ q2)), .inl (.inl q3), e3, fun S4 H4 v4 g4 q4 => ?_⟩
      have w4 := w3.grow g4
      obtain rfl : v4 = V.bl true := by cases q4; rfl
      refine ⟨true, rfl, ?_⟩
      rw [if_pos rfl]
      have hd4 : H4 dd = some (.xd [(fld, x0)]) := g4.exH dd _ (g3.exH dd _ (g2.exH dd _ hd))
      refine ⟨V.ref a, b2, C, .ty "ValueError", .type "ValueError", true, dd, [(fld, x0)], rfl, rfl, rfl, hI, hd4, fun u hu => hu, hk, ?_⟩
      exact hE _ ρ _ _ (((g0.trans g2).trans (g3.trans g4)).le ρ) w4 (.bl true)
    refine ⟨V.int wy, a1, wy, 2, rfl, rfl, decide (wy < 2), rfl, ?_⟩
    by_cases c : wy < 2
    · rw [if_pos c] at hf
      subst hf
      rw [if_pos (decide_eq_true c)]
      exact ⟨V.ref a, a2, rfl, C, dd, [("given", x0)], x0, rfl, hI.xf, hno, rfl, hd, lookup_one, fin⟩
    · rw [if_neg c] at hf
      subst hf
      rw [if_neg (by simpa using c)]
      exact ⟨V.ref a, a2, rfl, C, dd, [("index", x0)], x0, rfl, hI.xf, hno, rfl, hd, lookup_one, fin⟩
  have one : ∀ (C fI : Addr) (nm fld : Str) (T : ErF X.prog X.K X.mg nm fld C fI), PySem.W.exmOne X.K (.ref C) (.ref CB) = some true → PySem.W.kitOne X.K (.ref C) (.type "ValueError") = some true → (if wy < 2 then fld = "given" else fld = "index") → ∀ dd, H dd = none → σ.length = X.N.length → ∃ b, PySem.W.exmOne X.K (.ref C) (.ref CB) = some b ∧ (b = true → goHd { D with nx := tRet (tC (.bl false)) D } (some 2) (fun a cls d => tSeq (tAsg (tIf (tB (tLt (tVar 1) (tC (.int 2)))) (tXfA X.K a cls d "given" (tVar 2)) (tXfA X.K a cls d "index" (tVar 2))) (gName 3))
        (tRet (tAndV (tOp (rP2 X.K fEqS) (tCB (rPN X.K fRepr) (tCons (tVar 3) tNil)) (tCB (rPN X.K fRepr) (tCons (tVar 0) tNil))) (tCB (rIsD X.K cls d a) (tCons (tVar 2) (tCons (tC (.ty "ValueError")) tNil)))))) (.ref C) (some dd) σ (upd H dd (.xd [(fld, x0)]))) ∧ (b = false → wHd X.K W { D with nx := tRet (tC (.bl false)) D } [] (.ref C) (some dd) σ (upd H dd (.xd [(fld, x0)]))) := by
    intro C fI nm fld T x y hf dd hdd hlen
    exact ⟨true, x, fun _ a ha => suite C dd a fld T.i T.t.no y hf _ rfl hdd (hlen.trans hl), fun z => nomatch z⟩
  refine ⟨V.int wy, s1, wy, 0, rfl, rfl, decide (wy = 0), by simp, ?_⟩
  by_cases c0 : wy = 0
  · show (if decide (wy = 0) = true then _ else _)
    rw [if_pos (decide_eq_true c0)]
    exact ⟨x0, s0, x0, rfl, fun dd hdd hlen => one C1 f1 n1 "given" T1 x1 y1 (by rw [if_pos (by omega)]) dd hdd hlen⟩
  · show (if decide (wy = 0) = true then _ else _)
    rw [if_neg (by simpa using c0)]
    refine ⟨V.int wy, s1, wy, 1, rfl, rfl, decide (wy = 1), by simp, ?_⟩
    by_cases c1 : wy = 1
    · show (if decide (wy = 1) = true then _ else _)
      rw [if_pos (decide_eq_true c1)]
      exact ⟨x0, s0, x0, rfl, fun dd hdd hlen => one C2 f2 n2 "given" T2 x2 y2 (by rw [if_pos (by omega)]) dd hdd hlen⟩
    · show (if decide (wy = 1) = true then _ else _)
      rw [if_neg (by simpa using c1)]
      have c2 : wy = 2 := by
        unfold isThree at e1
        simp [c0, c1] at e1
        exact e1
      exact ⟨x0, s0, x0, rfl, fun dd hdd hlen => one C3 f3 n3 "index" T3 x3 y3 (by rw [if_neg (by omega)]) dd hdd hlen⟩
end Mi
namespace Mi
open PySem PySem.Spec PyProof.Rows L2
theorem vals_ty3 {a b c : String} : ∀ us, Vals [.ty a, .ty b, .ty c] us → us = [.type a, .type b, .type c] := by
  intro us h
  cases h with
  | cons r1 h =>
    cases h with
    | cons r2 h =>
      cases h with
      | cons r3 h =>
        cases h
        rw [r1, r2, r3]
end Mi

namespace Mi
open PySem PySem.Spec PyProof.Rows L2
def fNeS (a b : PyData) : Option PyData := match a, b with
  | .str x, .str y => some (.bool (!decide (x = y)))
  | _, _ => none
theorem o_neS {X : Cx} : OpR X (compareOp .NotEq) (rP2 X.K fNeS) := by
  intro pins s σ H x y v u Q I rx ry ⟨S, d, e, z, ex, v1, v2, hf, q⟩
  unfold fNeS at hf
  split at hf
  · cases hf
    refine op_ne pins s σ H x y v u Q I rx ry ?_
    rw [v1.str, v2.str]
    refine ⟨rfl, ?_⟩
    have := q.now ex (.bl _)
    rename_i a b
    rw [show decide (V.str a = V.str b) = decide (a = b) by rw [Bool.eq_iff_iff]; simp]
    exact this
  · cases hf
end Mi
end

section
set_option maxHeartbeats 8000000
namespace Pr
open PySem PySem.Spec PyProof.Rows L2 Mi
open Evl (Ex)
def topS (i : Nat) : Stmt := PySem.Challenge.pw_linkless_k01_errors_each_of_its_own.main.body.getD i (.Pass ⟨0, 0, 0, 0⟩)
abbrev s__law_well : Stmt := topS 14
theorem sc__law_well : FnScope ["script", "turn", "own", "mixed", "cell"] ["script", "turn"] (defScope s__law_well) := ⟨rfl, rfl, rfl, by decide +kernel, rfl, by decide +kernel, by decide +kernel⟩
abbrev s__law_draw : Stmt := topS 15
theorem sc__law_draw : FnScope ["well", "many", "seed", "digit"] ["well", "many"] (defScope s__law_draw) := ⟨rfl, rfl, rfl, by decide +kernel, rfl, by decide +kernel, by decide +kernel⟩
abbrev s__law_pick : Stmt := topS 16
theorem sc__law_pick : FnScope ["well", "some"] ["well", "some"] (defScope s__law_pick) := ⟨rfl, rfl, rfl, by decide +kernel, rfl, by decide +kernel, by decide +kernel⟩
abbrev s__law_strange : Stmt := topS 17
theorem sc__law_strange : FnScope ["well", "plain", "more"] ["well"] (defScope s__law_strange) := ⟨rfl, rfl, rfl, by decide +kernel, rfl, by decide +kernel, by decide +kernel⟩
abbrev s__law_made : Stmt := topS 18
theorem sc__law_made : FnScope ["at", "thing", "by_name"] ["at", "thing", "by_name"] (defScope s__law_made) := ⟨rfl, rfl, rfl, by decide +kernel, rfl, by decide +kernel, by decide +kernel⟩
abbrev s__law_is_of : Stmt := topS 19
theorem sc__law_is_of : FnScope ["error", "at"] ["error", "at"] (defScope s__law_is_of) := ⟨rfl, rfl, rfl, by decide +kernel, rfl, by decide +kernel, by decide +kernel⟩
abbrev s__law_is_caught : Stmt := topS 20
theorem sc__law_is_caught : FnScope ["thing", "way", "e", "kept"] ["thing", "way"] (defScope s__law_is_caught) := ⟨rfl, rfl, rfl, by decide +kernel, rfl, by decide +kernel, by decide +kernel⟩
abbrev s__law_is_plain : Stmt := topS 21
theorem sc__law_is_plain : FnScope ["error"] ["error"] (defScope s__law_is_plain) := ⟨rfl, rfl, rfl, by decide +kernel, rfl, by decide +kernel, by decide +kernel⟩
abbrev s__law_right : Stmt := topS 22
theorem sc__law_right : FnScope ["well", "at", "thing", "by_name", "error", "way", "k"] ["well"] (defScope s__law_right) := ⟨rfl, rfl, rfl, by decide +kernel, rfl, by decide +kernel, by decide +kernel⟩
abbrev s_law : Stmt := topS 23
theorem sc_law : FnScope ["script", "turn"] ["script"] (defScope s_law) := ⟨rfl, rfl, rfl, by decide +kernel, rfl, by decide +kernel, by decide +kernel⟩
def errs_all : List Str := ["InvalidGraph", "InvalidEdge", "InvalidVertex", "InvalidTriangle", "InvalidNumber", "InvalidRotation", "TooMany", "InvalidText", "InvalidMoves", "InvalidPasses", "InvalidLines", "LinkError"]
def errs_given : List Str := ["InvalidGraph", "InvalidEdge", "InvalidVertex", "InvalidTriangle", "InvalidNumber", "InvalidRotation", "TooMany"]
def errs_index : List Str := ["InvalidText", "InvalidMoves", "InvalidPasses", "InvalidLines"]
abbrev b__law_well : MS := Lw.b__law_well
abbrev m__law_well : MF := Lw.m__law_well
abbrev b__law_draw : MS := Lw.b__law_draw
abbrev m__law_draw : MF := Lw.m__law_draw
abbrev b__law_pick : MS := Lw.b__law_pick
abbrev m__law_pick : MF := Lw.m__law_pick
abbrev b__law_strange : MS := Lw.b__law_strange
abbrev m__law_strange : MF := Lw.m__law_strange
def b__law_made : MS :=
  (sSeq (sIf (mB (mOp2 (lift2 fEq) (mVar 0) (mC (.int 0)))) (sRet (mIfE (mTru (mVar 2)) (mErr "InvalidGraph" "given" (aCons (mVar 1) aNil)) (mErr "InvalidGraph" "given" (aCons (mVar 1) aNil)))) sSkip)
    (sSeq (sIf (mB (mOp2 (lift2 fEq) (mVar 0) (mC (.int 1)))) (sRet (mIfE (mTru (mVar 2)) (mErr "InvalidEdge" "given" (aCons (mVar 1) aNil)) (mErr "InvalidEdge" "given" (aCons (mVar 1) aNil)))) sSkip)
    (sSeq (sIf (mB (mOp2 (lift2 fEq) (mVar 0) (mC (.int 2)))) (sRet (mIfE (mTru (mVar 2)) (mErr "InvalidVertex" "given" (aCons (mVar 1) aNil)) (mErr "InvalidVertex" "given" (aCons (mVar 1) aNil)))) sSkip)
    (sSeq (sIf (mB (mOp2 (lift2 fEq) (mVar 0) (mC (.int 3)))) (sRet (mIfE (mTru (mVar 2)) (mErr "InvalidTriangle" "given" (aCons (mVar 1) aNil)) (mErr "InvalidTriangle" "given" (aCons (mVar 1) aNil)))) sSkip)
    (sSeq (sIf (mB (mOp2 (lift2 fEq) (mVar 0) (mC (.int 4)))) (sRet (mIfE (mTru (mVar 2)) (mErr "InvalidNumber" "given" (aCons (mVar 1) aNil)) (mErr "InvalidNumber" "given" (aCons (mVar 1) aNil)))) sSkip)
    (sSeq (sIf (mB (mOp2 (lift2 fEq) (mVar 0) (mC (.int 5)))) (sRet (mIfE (mTru (mVar 2)) (mErr "InvalidRotation" "given" (aCons (mVar 1) aNil)) (mErr "InvalidRotation" "given" (aCons (mVar 1) aNil)))) sSkip)
    (sSeq (sIf (mB (mOp2 (lift2 fEq) (mVar 0) (mC (.int 6)))) (sRet (mIfE (mTru (mVar 2)) (mErr "TooMany" "given" (aCons (mVar 1) aNil)) (mErr "TooMany" "given" (aCons (mVar 1) aNil)))) sSkip)
    (sSeq (sIf (mB (mOp2 (lift2 fEq) (mVar 0) (mC (.int 7)))) (sRet (mIfE (mTru (mVar 2)) (mErr "InvalidText" "index" (aCons (mVar 1) aNil)) (mErr "InvalidText" "index" (aCons (mVar 1) aNil)))) sSkip)
    (sSeq (sIf (mB (mOp2 (lift2 fEq) (mVar 0) (mC (.int 8)))) (sRet (mIfE (mTru (mVar 2)) (mErr "InvalidMoves" "index" (aCons (mVar 1) aNil)) (mErr "InvalidMoves" "index" (aCons (mVar 1) aNil)))) sSkip)
    (sSeq (sIf (mB (mOp2 (lift2 fEq) (mVar 0) (mC (.int 9)))) (sRet (mIfE (mTru (mVar 2)) (mErr "InvalidPasses" "index" (aCons (mVar 1) aNil)) (mErr "InvalidPasses" "index" (aCons (mVar 1) aNil)))) sSkip)
    (sSeq (sIf (mB (mOp2 (lift2 fEq) (mVar 0) (mC (.int 10)))) (sRet (mIfE (mTru (mVar 2)) (mErr "InvalidLines" "index" (aCons (mVar 1) aNil)) (mErr "InvalidLines" "index" (aCons (mVar 1) aNil)))) sSkip)
    (sRet (mErr0 "LinkError")))))))))))))
def m__law_made : MF := defG 3 b__law_made
def b__law_is_of : MS :=
  (sSeq (sIf (mB (mOp2 (lift2 fEq) (mVar 1) (mC (.int 0)))) (sRet (mIsE (tOf errs_all ["InvalidGraph"]) (mVar 0))) sSkip)
    (sSeq (sIf (mB (mOp2 (lift2 fEq) (mVar 1) (mC (.int 1)))) (sRet (mIsE (tOf errs_all ["InvalidEdge"]) (mVar 0))) sSkip)
    (sSeq (sIf (mB (mOp2 (lift2 fEq) (mVar 1) (mC (.int 2)))) (sRet (mIsE (tOf errs_all ["InvalidVertex"]) (mVar 0))) sSkip)
    (sSeq (sIf (mB (mOp2 (lift2 fEq) (mVar 1) (mC (.int 3)))) (sRet (mIsE (tOf errs_all ["InvalidTriangle"]) (mVar 0))) sSkip)
    (sSeq (sIf (mB (mOp2 (lift2 fEq) (mVar 1) (mC (.int 4)))) (sRet (mIsE (tOf errs_all ["InvalidNumber"]) (mVar 0))) sSkip)
    (sSeq (sIf (mB (mOp2 (lift2 fEq) (mVar 1) (mC (.int 5)))) (sRet (mIsE (tOf errs_all ["InvalidRotation"]) (mVar 0))) sSkip)
    (sSeq (sIf (mB (mOp2 (lift2 fEq) (mVar 1) (mC (.int 6)))) (sRet (mIsE (tOf errs_all ["TooMany"]) (mVar 0))) sSkip)
    (sSeq (sIf (mB (mOp2 (lift2 fEq) (mVar 1) (mC (.int 7)))) (sRet (mIsE (tOf errs_all ["InvalidText"]) (mVar 0))) sSkip)
    (sSeq (sIf (mB (mOp2 (lift2 fEq) (mVar 1) (mC (.int 8)))) (sRet (mIsE (tOf errs_all ["InvalidMoves"]) (mVar 0))) sSkip)
    (sSeq (sIf (mB (mOp2 (lift2 fEq) (mVar 1) (mC (.int 9)))) (sRet (mIsE (tOf errs_all ["InvalidPasses"]) (mVar 0))) sSkip)
    (sSeq (sIf (mB (mOp2 (lift2 fEq) (mVar 1) (mC (.int 10)))) (sRet (mIsE (tOf errs_all ["InvalidLines"]) (mVar 0))) sSkip)
    (sRet (mIsE (tOf errs_all errs_all) (mVar 0))))))))))))))
def m__law_is_of : MF := defM 2 b__law_is_of
def b__law_is_caught : MS :=
  bCaught
def m__law_is_caught : MF := defM 4 b__law_is_caught
def b__law_is_plain : MS :=
  (sSeq (sIf (mOr (mNot (mTru (mIsE (tOf errs_all errs_all) (mVar 0)))) (mNot (mTru (mIsE (tOf errs_all errs_all) (mVar 0))))) (sRet (mC (.bool false))) sSkip)
    (sRet (mNotV (mIsE (tOf errs_all []) (mVar 0)))))
def m__law_is_plain : MF := defM 1 b__law_is_plain
def b__law_right : MS :=
  (sSeq (sFor (iR1 (aCons (mC (.int 12)) aNil)) (gN 1) (sSeq (sLet 2 (mCall m__law_strange (aCons (mVar 0) aNil)))
    (sFor (iS (mTup (aCons (mC (.bool false)) (aCons (mC (.bool true)) aNil)))) (gN 3) (sSeq (sLet 4 (mCall m__law_made (aCons (mVar 1) (aCons (mVar 2) (aCons (mVar 3) aNil)))))
    (sSeq (sIf (mB (mOp2 (lift2 fNe) (mFr (lComp (iR1 (aCons (mC (.int 11)) aNil)) (gN 6) (mTru (mCall m__law_is_of (aCons (mVar 4) (aCons (mVar 6) aNil)))) (mVar 6) [6])) (mIfE (mB (mOp2 (lift2 (ordD gLt)) (mVar 1) (mC (.int 11)))) (mFr (lDisp (aCons (mVar 1) aNil))) (mFr (lDisp aNil))))) (sRet (mC (.bool false))) sSkip)
    (sSeq (sIf (mNot (mTru (mCall m__law_is_plain (aCons (mVar 4) aNil)))) (sRet (mC (.bool false))) sSkip)
    (sIf (mAnd (mB (mOp2 (lift2 (ordD gLt)) (mVar 1) (mC (.int 11)))) (mB (mOp2 (lift2 fNeS) (mOpN (liftN fRepr) (aCons (mIfE (mB (mOp2 (lift2 (ordD gLt)) (mVar 1) (mC (.int 7)))) (mErrF (okOf errs_given) "given" (mVar 4)) (mErrF (okOf errs_index) "index" (mVar 4))) aNil)) (mOpN (liftN fRepr) (aCons (mVar 2) aNil))))) (sRet (mC (.bool false))) sSkip)))))))
    (sRet (mOp2 (lift2 fEq) (mFr (lComp (iS (mTup (aCons (mC (.int 0)) (aCons (mC (.int 1)) (aCons (mC (.int 2)) aNil))))) (gN 5) (mNot (mTru (mCall m__law_is_caught (aCons (mCall m__law_strange (aCons (mVar 0) aNil)) (aCons (mVar 5) aNil))))) (mVar 5) [5])) (mFr (lDisp aNil)))))
def m__law_right : MF := defM 7 b__law_right
def b_law : MS :=
  (sSeq (sFor (iR1 (aCons (mOpN (liftN fMax2) (aCons (mC (.int 2)) (aCons (mOpN (liftN fMin2) (aCons (mOpN (liftN fLen) (aCons (mVar 0) aNil)) (aCons (mC (.int 4)) aNil))) aNil))) aNil)) (gN 1) (sIf (mNot (mTru (mCall m__law_right (aCons (mCall m__law_well (aCons (mVar 0) (aCons (mVar 1) aNil))) aNil)))) (sRet (mC (.bool false))) sSkip))
    (sRet (mC (.bool true))))
def m_law : MF := defM 2 b_law
abbrev s_InvalidEdge_init : Stmt := (C8.clsBody (topS 3)).getD 0 (.Pass ⟨0, 0, 0, 0⟩)
theorem rows_InvalidEdge : Er.IsRows "given" (defBody s_InvalidEdge_init) := ⟨_, _, _, _, _, _, _, _, _, _, _, _, by decide, rfl⟩
theorem head_InvalidEdge : Er.IsHead "given" (defArgs s_InvalidEdge_init) := ⟨_, _, rfl⟩
theorem names_InvalidEdge : Er.IsNames "given" (defScope s_InvalidEdge_init) := ⟨rfl, rfl, rfl, by decide +kernel, rfl, rfl, rfl, rfl⟩
abbrev s_InvalidGraph_init : Stmt := (C8.clsBody (topS 2)).getD 0 (.Pass ⟨0, 0, 0, 0⟩)
theorem rows_InvalidGraph : Er.IsRows "given" (defBody s_InvalidGraph_init) := ⟨_, _, _, _, _, _, _, _, _, _, _, _, by decide, rfl⟩
theorem head_InvalidGraph : Er.IsHead "given" (defArgs s_InvalidGraph_init) := ⟨_, _, rfl⟩
theorem names_InvalidGraph : Er.IsNames "given" (defScope s_InvalidGraph_init) := ⟨rfl, rfl, rfl, by decide +kernel, rfl, rfl, rfl, rfl⟩
abbrev s_InvalidLines_init : Stmt := (C8.clsBody (topS 12)).getD 0 (.Pass ⟨0, 0, 0, 0⟩)
theorem rows_InvalidLines : Er.IsRows "index" (defBody s_InvalidLines_init) := ⟨_, _, _, _, _, _, _, _, _, _, _, _, by decide, rfl⟩
theorem head_InvalidLines : Er.IsHead "index" (defArgs s_InvalidLines_init) := ⟨_, _, rfl⟩
theorem names_InvalidLines : Er.IsNames "index" (defScope s_InvalidLines_init) := ⟨rfl, rfl, rfl, by decide +kernel, rfl, rfl, rfl, rfl⟩
abbrev s_InvalidMoves_init : Stmt := (C8.clsBody (topS 10)).getD 0 (.Pass ⟨0, 0, 0, 0⟩)
theorem rows_InvalidMoves : Er.IsRows "index" (defBody s_InvalidMoves_init) := ⟨_, _, _, _, _, _, _, _, _, _, _, _, by decide, rfl⟩
theorem head_InvalidMoves : Er.IsHead "index" (defArgs s_InvalidMoves_init) := ⟨_, _, rfl⟩
theorem names_InvalidMoves : Er.IsNames "index" (defScope s_InvalidMoves_init) := ⟨rfl, rfl, rfl, by decide +kernel, rfl, rfl, rfl, rfl⟩
abbrev s_InvalidNumber_init : Stmt := (C8.clsBody (topS 6)).getD 0 (.Pass ⟨0, 0, 0, 0⟩)
theorem rows_InvalidNumber : Er.IsRows "given" (defBody s_InvalidNumber_init) := ⟨_, _, _, _, _, _, _, _, _, _, _, _, by decide, rfl⟩
theorem head_InvalidNumber : Er.IsHead "given" (defArgs s_InvalidNumber_init) := ⟨_, _, rfl⟩
theorem names_InvalidNumber : Er.IsNames "given" (defScope s_InvalidNumber_init) := ⟨rfl, rfl, rfl, by decide +kernel, rfl, rfl, rfl, rfl⟩
abbrev s_InvalidPasses_init : Stmt := (C8.clsBody (topS 11)).getD 0 (.Pass ⟨0, 0, 0, 0⟩)
theorem rows_InvalidPasses : Er.IsRows "index" (defBody s_InvalidPasses_init) := ⟨_, _, _, _, _, _, _, _, _, _, _, _, by decide, rfl⟩
theorem head_InvalidPasses : Er.IsHead "index" (defArgs s_InvalidPasses_init) := ⟨_, _, rfl⟩
theorem names_InvalidPasses : Er.IsNames "index" (defScope s_InvalidPasses_init) := ⟨rfl, rfl, rfl, by decide +kernel, rfl, rfl, rfl, rfl⟩
abbrev s_InvalidRotation_init : Stmt := (C8.clsBody (topS 7)).getD 0 (.Pass ⟨0, 0, 0, 0⟩)
theorem rows_InvalidRotation : Er.IsRows "given" (defBody s_InvalidRotation_init) := ⟨_, _, _, _, _, _, _, _, _, _, _, _, by decide, rfl⟩
theorem head_InvalidRotation : Er.IsHead "given" (defArgs s_InvalidRotation_init) := ⟨_, _, rfl⟩
theorem names_InvalidRotation : Er.IsNames "given" (defScope s_InvalidRotation_init) := ⟨rfl, rfl, rfl, by decide +kernel, rfl, rfl, rfl, rfl⟩
abbrev s_InvalidText_init : Stmt := (C8.clsBody (topS 9)).getD 0 (.Pass ⟨0, 0, 0, 0⟩)
theorem rows_InvalidText : Er.IsRows "index" (defBody s_InvalidText_init) := ⟨_, _, _, _, _, _, _, _, _, _, _, _, by decide, rfl⟩
theorem head_InvalidText : Er.IsHead "index" (defArgs s_InvalidText_init) := ⟨_, _, rfl⟩
theorem names_InvalidText : Er.IsNames "index" (defScope s_InvalidText_init) := ⟨rfl, rfl, rfl, by decide +kernel, rfl, rfl, rfl, rfl⟩
abbrev s_InvalidTriangle_init : Stmt := (C8.clsBody (topS 5)).getD 0 (.Pass ⟨0, 0, 0, 0⟩)
theorem rows_InvalidTriangle : Er.IsRows "given" (defBody s_InvalidTriangle_init) := ⟨_, _, _, _, _, _, _, _, _, _, _, _, by decide, rfl⟩
theorem head_InvalidTriangle : Er.IsHead "given" (defArgs s_InvalidTriangle_init) := ⟨_, _, rfl⟩
theorem names_InvalidTriangle : Er.IsNames "given" (defScope s_InvalidTriangle_init) := ⟨rfl, rfl, rfl, by decide +kernel, rfl, rfl, rfl, rfl⟩
abbrev s_InvalidVertex_init : Stmt := (C8.clsBody (topS 4)).getD 0 (.Pass ⟨0, 0, 0, 0⟩)
theorem rows_InvalidVertex : Er.IsRows "given" (defBody s_InvalidVertex_init) := ⟨_, _, _, _, _, _, _, _, _, _, _, _, by decide, rfl⟩
theorem head_InvalidVertex : Er.IsHead "given" (defArgs s_InvalidVertex_init) := ⟨_, _, rfl⟩
theorem names_InvalidVertex : Er.IsNames "given" (defScope s_InvalidVertex_init) := ⟨rfl, rfl, rfl, by decide +kernel, rfl, rfl, rfl, rfl⟩
abbrev s_TooMany_init : Stmt := (C8.clsBody (topS 8)).getD 0 (.Pass ⟨0, 0, 0, 0⟩)
theorem rows_TooMany : Er.IsRows "given" (defBody s_TooMany_init) := ⟨_, _, _, _, _, _, _, _, _, _, _, _, by decide, rfl⟩
theorem head_TooMany : Er.IsHead "given" (defArgs s_TooMany_init) := ⟨_, _, rfl⟩
theorem names_TooMany : Er.IsNames "given" (defScope s_TooMany_init) := ⟨rfl, rfl, rfl, by decide +kernel, rfl, rfl, rfl, rfl⟩
structure Txt (P : Program) (K : PySem.W.Frag) (mg : Str → Option Value) (base : Heap) where
  C_InvalidEdge : Addr
  fI_InvalidEdge : Addr
  E_InvalidEdge : ErF P K mg "InvalidEdge" "given" C_InvalidEdge fI_InvalidEdge
  C_InvalidGraph : Addr
  fI_InvalidGraph : Addr
  E_InvalidGraph : ErF P K mg "InvalidGraph" "given" C_InvalidGraph fI_InvalidGraph
  C_InvalidLines : Addr
  fI_InvalidLines : Addr
  E_InvalidLines : ErF P K mg "InvalidLines" "index" C_InvalidLines fI_InvalidLines
  C_InvalidMoves : Addr
  fI_InvalidMoves : Addr
  E_InvalidMoves : ErF P K mg "InvalidMoves" "index" C_InvalidMoves fI_InvalidMoves
  C_InvalidNumber : Addr
  fI_InvalidNumber : Addr
  E_InvalidNumber : ErF P K mg "InvalidNumber" "given" C_InvalidNumber fI_InvalidNumber
  C_InvalidPasses : Addr
  fI_InvalidPasses : Addr
  E_InvalidPasses : ErF P K mg "InvalidPasses" "index" C_InvalidPasses fI_InvalidPasses
  C_InvalidRotation : Addr
  fI_InvalidRotation : Addr
  E_InvalidRotation : ErF P K mg "InvalidRotation" "given" C_InvalidRotation fI_InvalidRotation
  C_InvalidText : Addr
  fI_InvalidText : Addr
  E_InvalidText : ErF P K mg "InvalidText" "index" C_InvalidText fI_InvalidText
  C_InvalidTriangle : Addr
  fI_InvalidTriangle : Addr
  E_InvalidTriangle : ErF P K mg "InvalidTriangle" "given" C_InvalidTriangle fI_InvalidTriangle
  C_InvalidVertex : Addr
  fI_InvalidVertex : Addr
  E_InvalidVertex : ErF P K mg "InvalidVertex" "given" C_InvalidVertex fI_InvalidVertex
  C_TooMany : Addr
  fI_TooMany : Addr
  E_TooMany : ErF P K mg "TooMany" "given" C_TooMany fI_TooMany
  CB_LinkError : Addr
  gB_LinkError : mg "LinkError" = some (.ref CB_LinkError)
  kb_InvalidGraph_LinkError : PySem.W.kitOne K (.ref C_InvalidGraph) (.ref CB_LinkError) = some true
  kb_InvalidText_LinkError : PySem.W.kitOne K (.ref C_InvalidText) (.ref CB_LinkError) = some true
  kb_TooMany_LinkError : PySem.W.kitOne K (.ref C_TooMany) (.ref CB_LinkError) = some true
  zg3 : PySem.W.specialIn K (.builtin "object.__class__") "__get__" = some (some (.builtin "getset_descriptor.__get__"))
  zg4 : PySem.W.takesIn K (.builtin "object.__class__") = some true
  z_cls : clsChk K errs_all = true
  zx_InvalidGraph : PySem.W.exmOne K (.ref C_InvalidGraph) (.ref CB_LinkError) = some true
  zv_InvalidGraph : PySem.W.kitOne K (.ref C_InvalidGraph) (.type "ValueError") = some true
  zx_InvalidText : PySem.W.exmOne K (.ref C_InvalidText) (.ref CB_LinkError) = some true
  zv_InvalidText : PySem.W.kitOne K (.ref C_InvalidText) (.type "ValueError") = some true
  zx_TooMany : PySem.W.exmOne K (.ref C_TooMany) (.ref CB_LinkError) = some true
  zv_TooMany : PySem.W.kitOne K (.ref C_TooMany) (.type "ValueError") = some true
  z_fl_given : flChk K errs_given "given" = true
  z_fl_index : flChk K errs_index "index" = true
  z_is_InvalidEdge : isChk K errs_all ["InvalidEdge"] (.ref C_InvalidEdge) = true
  z_is_InvalidGraph : isChk K errs_all ["InvalidGraph"] (.ref C_InvalidGraph) = true
  z_is_InvalidLines : isChk K errs_all ["InvalidLines"] (.ref C_InvalidLines) = true
  z_is_InvalidMoves : isChk K errs_all ["InvalidMoves"] (.ref C_InvalidMoves) = true
  z_is_InvalidNumber : isChk K errs_all ["InvalidNumber"] (.ref C_InvalidNumber) = true
  z_is_InvalidPasses : isChk K errs_all ["InvalidPasses"] (.ref C_InvalidPasses) = true
  z_is_InvalidRotation : isChk K errs_all ["InvalidRotation"] (.ref C_InvalidRotation) = true
  z_is_InvalidText : isChk K errs_all ["InvalidText"] (.ref C_InvalidText) = true
  z_is_InvalidTriangle : isChk K errs_all ["InvalidTriangle"] (.ref C_InvalidTriangle) = true
  z_is_InvalidVertex : isChk K errs_all ["InvalidVertex"] (.ref C_InvalidVertex) = true
  z_is_LinkError : isChk K errs_all errs_all (.ref CB_LinkError) = true
  z_is_TooMany : isChk K errs_all ["TooMany"] (.ref C_TooMany) = true
  z_is_ValueError : isChk K errs_all errs_all (.type "ValueError") = true
  z_isn_LookupError_TypeError_ArithmeticError : isChkN K errs_all [] [.type "LookupError", .type "TypeError", .type "ArithmeticError"] = true
  E0_LinkError : Er0 K mg "LinkError" CB_LinkError
  a__law_well : Addr
  fd__law_well : FuncData
  F__law_well : Fun K "_law_well" "_law_well" s__law_well a__law_well fd__law_well
  g__law_well : mg "_law_well" = some (.ref a__law_well)
  a__law_draw : Addr
  fd__law_draw : FuncData
  F__law_draw : Fun K "_law_draw" "_law_draw" s__law_draw a__law_draw fd__law_draw
  g__law_draw : mg "_law_draw" = some (.ref a__law_draw)
  a__law_pick : Addr
  fd__law_pick : FuncData
  F__law_pick : Fun K "_law_pick" "_law_pick" s__law_pick a__law_pick fd__law_pick
  g__law_pick : mg "_law_pick" = some (.ref a__law_pick)
  a__law_strange : Addr
  fd__law_strange : FuncData
  F__law_strange : Fun K "_law_strange" "_law_strange" s__law_strange a__law_strange fd__law_strange
  g__law_strange : mg "_law_strange" = some (.ref a__law_strange)
  a__law_made : Addr
  fd__law_made : FuncData
  F__law_made : Fun K "_law_made" "_law_made" s__law_made a__law_made fd__law_made
  g__law_made : mg "_law_made" = some (.ref a__law_made)
  a__law_is_of : Addr
  fd__law_is_of : FuncData
  F__law_is_of : Fun K "_law_is_of" "_law_is_of" s__law_is_of a__law_is_of fd__law_is_of
  g__law_is_of : mg "_law_is_of" = some (.ref a__law_is_of)
  a__law_is_caught : Addr
  fd__law_is_caught : FuncData
  F__law_is_caught : Fun K "_law_is_caught" "_law_is_caught" s__law_is_caught a__law_is_caught fd__law_is_caught
  g__law_is_caught : mg "_law_is_caught" = some (.ref a__law_is_caught)
  a__law_is_plain : Addr
  fd__law_is_plain : FuncData
  F__law_is_plain : Fun K "_law_is_plain" "_law_is_plain" s__law_is_plain a__law_is_plain fd__law_is_plain
  g__law_is_plain : mg "_law_is_plain" = some (.ref a__law_is_plain)
  a__law_right : Addr
  fd__law_right : FuncData
  F__law_right : Fun K "_law_right" "_law_right" s__law_right a__law_right fd__law_right
  g__law_right : mg "_law_right" = some (.ref a__law_right)
  a_law : Addr
  fd_law : FuncData
  F_law : Fun K "law" "law" s_law a_law fd_law
  g_law : mg "law" = some (.ref a_law)
  n_ArithmeticError : mg "ArithmeticError" = none
  n_LookupError : mg "LookupError" = none
  n_TypeError : mg "TypeError" = none
  n_ValueError : mg "ValueError" = none
  n_abs : mg "abs" = none
  n_int : mg "int" = none
  n_isinstance : mg "isinstance" = none
  n_len : mg "len" = none
  n_max : mg "max" = none
  n_min : mg "min" = none
  n_range : mg "range" = none
  n_repr : mg "repr" = none
section
variable {P : Program} {w : World} {K : PySem.W.Frag} {mg : Str → Option Value} {base : Heap}
theorem Txt.b__law_well (T : Txt P K mg base) : Binds K T.fd__law_well ["script", "turn"] [] := T.F__law_well.binds fun _ _ _ _ _ _ us hl => match us, hl with | [_, _], _ => rfl
theorem Txt.b__law_draw (T : Txt P K mg base) : Binds K T.fd__law_draw ["well", "many"] [] := T.F__law_draw.binds fun _ _ _ _ _ _ us hl => match us, hl with | [_, _], _ => rfl
theorem Txt.b__law_pick (T : Txt P K mg base) : Binds K T.fd__law_pick ["well", "some"] [] := T.F__law_pick.binds fun _ _ _ _ _ _ us hl => match us, hl with | [_, _], _ => rfl
theorem Txt.b__law_strange (T : Txt P K mg base) : Binds K T.fd__law_strange ["well"] [] := T.F__law_strange.binds fun _ _ _ _ _ _ us hl => match us, hl with | [_], _ => rfl
theorem Txt.b__law_made (T : Txt P K mg base) : Binds K T.fd__law_made ["at", "thing", "by_name"] [] := T.F__law_made.binds fun _ _ _ _ _ _ us hl => match us, hl with | [_, _, _], _ => rfl
theorem Txt.b__law_is_of (T : Txt P K mg base) : Binds K T.fd__law_is_of ["error", "at"] [] := T.F__law_is_of.binds fun _ _ _ _ _ _ us hl => match us, hl with | [_, _], _ => rfl
theorem Txt.b__law_is_caught (T : Txt P K mg base) : Binds K T.fd__law_is_caught ["thing", "way"] [] := T.F__law_is_caught.binds fun _ _ _ _ _ _ us hl => match us, hl with | [_, _], _ => rfl
theorem Txt.b__law_is_plain (T : Txt P K mg base) : Binds K T.fd__law_is_plain ["error"] [] := T.F__law_is_plain.binds fun _ _ _ _ _ _ us hl => match us, hl with | [_], _ => rfl
theorem Txt.b__law_right (T : Txt P K mg base) : Binds K T.fd__law_right ["well"] [] := T.F__law_right.binds fun _ _ _ _ _ _ us hl => match us, hl with | [_], _ => rfl
theorem Txt.b_law (T : Txt P K mg base) : Binds K T.fd_law ["script"] [] := T.F_law.binds fun _ _ _ _ _ _ us hl => match us, hl with | [_], _ => rfl
end
section
variable {P : Program} {w : World} {K : PySem.W.Frag} {mg : Str → Option Value} {base : Heap}
theorem ok__law_well (T : Txt P K mg base) : FnG P w K mg base 1 T.a__law_well T.fd__law_well ["script", "turn"] m__law_well :=
  defK_ok T.F__law_well sc__law_well fun cdv A outer s H E gd hr => by
    have nd := sc__law_well.nd
    have tk := takes_of (X := cxOf (L2.CX P w) P w K mg base ["script", "turn", "own", "mixed", "cell"] "_law_well" (defScope s__law_well) T.a__law_well cdv A outer s H E) (E := E) rfl rfl rfl rfl
    have hu := hr.units
    have hu2 := units65 hr
    exact (xss_cons (xs_letv 2 nd (xe_ifE (xt_cmp (o_lt hu) (xv 1) (xe_bi c_len rfl T.n_len PySem.boot_len (xa_cons (xv 0) xa_nil)) (by first | rfl | exact nobehind _ (by decide) (by decide))) (xe_ty c_intT rfl T.n_int PyProof.Rows.boot_int (xa_cons (xe_ix (xv 0) (xv 1) (fun _ _ => rfl)) xa_nil)) xe_int))
    (xss_cons (xs_letv 3 nd (xe_opo o_add xe_int (xe_op o_mul xe_int (xv 1))))
    (xss_cons (xs_for gok_name (passes_of rfl) rfl (xi_seq (xe_slA (xv 0) xp_no (xp_some xe_int))) (pgv 4 nd) (xss_one (xs_letv 3 nd (xe_op o_mod (xe_ty c_intT rfl T.n_int PyProof.Rows.boot_int (xa_cons (xe_opo o_add (xe_opo o_add (xe_op o_mul (xv 3) xe_int) (xe_op o_mod (xe_ty c_intT rfl T.n_int PyProof.Rows.boot_int (xa_cons (xv 4) xa_nil)) xe_int)) xe_int) xa_nil)) xe_int))))
    (xss_cons (xs_letv 3 nd (xe_op o_mod (xe_ty c_intT rfl T.n_int PyProof.Rows.boot_int (xa_cons (xe_opo o_add (xe_opo o_add (xe_op o_mul (xv 3) xe_int) (xe_op o_mul (xe_op o_mod (xe_ty c_intT rfl T.n_int PyProof.Rows.boot_int (xa_cons (xv 2) xa_nil)) xe_int) xe_int)) xe_int) xa_nil)) xe_int))
    (xss_one (xs_ret (xe_al (xl_disp (xa_cons (xe_ifE (xt_cmp (o_ge hu) (xe_bi c_abs rfl T.n_abs PyProof.Rows.boot_abs (xa_cons (xv 2) xa_nil)) (xe_op o_pow xe_int xe_int) (by first | rfl | exact nobehind _ (by decide) (by decide))) (xe_bi c_abs rfl T.n_abs PyProof.Rows.boot_abs (xa_cons (xv 2) xa_nil)) xe_int) (xa_cons (xv 3) (xa_cons xe_int xa_nil)))))))))))
theorem ok__law_draw (T : Txt P K mg base) : FnG P w K mg base 1 T.a__law_draw T.fd__law_draw ["well", "many"] m__law_draw :=
  def_ok T.F__law_draw sc__law_draw fun cdv A outer s H E gd hr => by
    have nd := sc__law_draw.nd
    have tk := takes_of (X := cxOf (L2.CX P w) P w K mg base ["well", "many", "seed", "digit"] "_law_draw" (defScope s__law_draw) T.a__law_draw cdv A outer s H E) (E := E) rfl rfl rfl rfl
    have hu := hr.units
    have hu2 := units65 hr
    exact (xss_cons (xs_if (xt_cmp (o_gt hu) (xe_ix (xv 0) xe_int (fun _ _ => rfl)) xe_int (by first | rfl | exact nobehind _ (by decide) (by decide))) (xss_cons (xs_letv 3 nd (xe_op o_mod (xe_ty c_intT rfl T.n_int PyProof.Rows.boot_int (xa_cons (xe_ix (xv 0) xe_int (fun _ _ => rfl)) xa_nil)) (xv 1)))
    (xss_cons (xs_put (xe_op o_div (xe_ix (xv 0) xe_int (fun _ _ => rfl)) (xv 1)) (xv 0) xe_int)
    (xss_one (xs_ret (xv 3))))) xss_nil)
    (xss_cons (xs_put (xe_opo o_add (xe_ix (xv 0) xe_int (fun _ _ => rfl)) xe_int) (xv 0) xe_int)
    (xss_cons (xs_letv 2 nd (xe_op o_mod (xe_ty c_intT rfl T.n_int PyProof.Rows.boot_int (xa_cons (xe_opo o_add (xe_opo o_add (xe_op o_mul (xe_ix (xv 0) xe_int (fun _ _ => rfl)) xe_int) (xe_op o_mul xe_int (xe_ix (xv 0) xe_int (fun _ _ => rfl)))) xe_int) xa_nil)) xe_int))
    (xss_cons (xs_put (xv 2) (xv 0) xe_int)
    (xss_one (xs_ret (xe_op o_mod (xe_ty c_intT rfl T.n_int PyProof.Rows.boot_int (xa_cons (xe_op o_div (xe_op o_mul (xv 2) (xe_opo o_add (xe_op o_mod (xe_ty c_intT rfl T.n_int PyProof.Rows.boot_int (xa_cons (xv 2) xa_nil)) xe_int) xe_int)) xe_int) xa_nil)) (xv 1))))))))
theorem ok__law_pick (T : Txt P K mg base) : FnG P w K mg base 2 T.a__law_pick T.fd__law_pick ["well", "some"] m__law_pick :=
  def_ok T.F__law_pick sc__law_pick fun cdv A outer s H E gd hr => by
    have nd := sc__law_pick.nd
    have tk := takes_of (X := cxOf (L2.CX P w) P w K mg base ["well", "some"] "_law_pick" (defScope s__law_pick) T.a__law_pick cdv A outer s H E) (E := E) rfl rfl rfl rfl
    have hu := hr.units
    have hu2 := units65 hr
    exact (xss_one (xs_ret (xe_ix (xv 1) (xe_call ((ok__law_draw T).mono (by decide)) tk gd hr rfl T.g__law_draw T.F__law_draw.kp (T.b__law_draw) (alen_cons (alen_cons alen_nil)) (xa_cons (xv 0) (xa_cons (xe_bi c_len rfl T.n_len PySem.boot_len (xa_cons (xv 1) xa_nil)) xa_nil))) (fun _ _ => rfl))))
theorem ok__law_strange (T : Txt P K mg base) : FnG P w K mg base 3 T.a__law_strange T.fd__law_strange ["well"] m__law_strange :=
  def_ok T.F__law_strange sc__law_strange fun cdv A outer s H E gd hr => by
    have nd := sc__law_strange.nd
    have tk := takes_of (X := cxOf (L2.CX P w) P w K mg base ["well", "plain", "more"] "_law_strange" (defScope s__law_strange) T.a__law_strange cdv A outer s H E) (E := E) rfl rfl rfl rfl
    have hu := hr.units
    have hu2 := units65 hr
    exact (xss_cons (xs_letv 1 nd (xe_tup (xa_cons xe_non (xa_cons xe_bl (xa_cons xe_bl (xa_cons xe_int (xa_cons xe_int (xa_cons xe_int (xa_cons (xe_un o_neg xe_int) (xa_cons xe_int (xa_cons (xe_op o_pow xe_int xe_int) (xa_cons xe_str (xa_cons xe_str (xa_cons xe_str (xa_cons (xe_tup xa_nil) (xa_cons (xe_tup (xa_cons xe_int xa_nil)) (xa_cons (xe_tup (xa_cons xe_int (xa_cons xe_int xa_nil))) (xa_cons (xe_tup (xa_cons xe_int (xa_cons xe_int xa_nil))) (xa_cons (xe_fr (xl_disp xa_nil)) (xa_cons (xe_fr (xl_disp (xa_cons xe_int (xa_cons xe_int xa_nil)))) xa_nil))))))))))))))))))))
    (xss_cons (xs_letv 2 nd (xe_tup (xa_cons (xe_tup (xa_cons xe_int (xa_cons (xe_tup xa_nil) xa_nil))) (xa_cons (xe_tup (xa_cons xe_int (xa_cons (xe_tup (xa_cons (xe_tup (xa_cons xe_int (xa_cons xe_int xa_nil))) xa_nil)) xa_nil))) (xa_cons (xe_tup (xa_cons xe_int (xa_cons (xe_tup (xa_cons (xe_tup (xa_cons xe_int (xa_cons xe_int xa_nil))) xa_nil)) xa_nil))) (xa_cons (xe_tup (xa_cons xe_int (xa_cons (xe_tup xa_nil) xa_nil))) (xa_cons (xe_tup (xa_cons xe_int (xa_cons (xe_tup xa_nil) xa_nil))) (xa_cons (xe_tup (xa_cons xe_bl (xa_cons (xe_tup xa_nil) xa_nil))) (xa_cons (xe_tup (xa_cons xe_int (xa_cons (xe_fr (xl_disp (xa_cons (xe_tup (xa_cons xe_int (xa_cons xe_int xa_nil))) xa_nil))) xa_nil))) xa_nil)))))))))
    (xss_one (xs_ret (xe_call ((ok__law_pick T).mono (by decide)) tk gd hr rfl T.g__law_pick T.F__law_pick.kp (T.b__law_pick) (alen_cons (alen_cons alen_nil)) (xa_cons (xv 0) (xa_cons (xe_opo o_add (xe_opo o_add (xv 1) (xv 2)) (xe_tup (xa_cons xe_dict (xa_cons (xe_tup (xa_cons (xe_tup (xa_cons xe_int (xa_cons xe_int xa_nil))) (xa_cons (xe_tup (xa_cons xe_int (xa_cons xe_int xa_nil))) xa_nil))) xa_nil)))) xa_nil)))))))
theorem ok__law_made (T : Txt P K mg base) : FnG P w K mg base 2 T.a__law_made T.fd__law_made ["at", "thing", "by_name"] m__law_made :=
  defG_ok T.F__law_made sc__law_made fun cdv A outer s H E gd hr => by
    have nd := sc__law_made.nd
    have tk := takes_of (X := cxOf (L2.CX P w) P w K mg base ["at", "thing", "by_name"] "_law_made" (defScope s__law_made) T.a__law_made cdv A outer s H E) (E := E) rfl rfl rfl rfl
    have hu := hr.units
    have hu2 := units65 hr
    exact (xss_cons (xs_if (xt_cmp (o_eq hu) (xv 0) xe_int (by first | rfl | exact nobehind _ (by decide) (by decide))) (xss_one (xs_ret (xe_ifE (xt_tru (xv 2)) (xe_errK T.E_InvalidGraph hr (xk_cons (xv 1) xk_nil) rfl) (xe_err T.E_InvalidGraph hr (xa_cons (xv 1) xa_nil) rfl)))) xss_nil)
    (xss_cons (xs_if (xt_cmp (o_eq hu) (xv 0) xe_int (by first | rfl | exact nobehind _ (by decide) (by decide))) (xss_one (xs_ret (xe_ifE (xt_tru (xv 2)) (xe_errK T.E_InvalidEdge hr (xk_cons (xv 1) xk_nil) rfl) (xe_err T.E_InvalidEdge hr (xa_cons (xv 1) xa_nil) rfl)))) xss_nil)
    (xss_cons (xs_if (xt_cmp (o_eq hu) (xv 0) xe_int (by first | rfl | exact nobehind _ (by decide) (by decide))) (xss_one (xs_ret (xe_ifE (xt_tru (xv 2)) (xe_errK T.E_InvalidVertex hr (xk_cons (xv 1) xk_nil) rfl) (xe_err T.E_InvalidVertex hr (xa_cons (xv 1) xa_nil) rfl)))) xss_nil)
    (xss_cons (xs_if (xt_cmp (o_eq hu) (xv 0) xe_int (by first | rfl | exact nobehind _ (by decide) (by decide))) (xss_one (xs_ret (xe_ifE (xt_tru (xv 2)) (xe_errK T.E_InvalidTriangle hr (xk_cons (xv 1) xk_nil) rfl) (xe_err T.E_InvalidTriangle hr (xa_cons (xv 1) xa_nil) rfl)))) xss_nil)
    (xss_cons (xs_if (xt_cmp (o_eq hu) (xv 0) xe_int (by first | rfl | exact nobehind _ (by decide) (by decide))) (xss_one (xs_ret (xe_ifE (xt_tru (xv 2)) (xe_errK T.E_InvalidNumber hr (xk_cons (xv 1) xk_nil) rfl) (xe_err T.E_InvalidNumber hr (xa_cons (xv 1) xa_nil) rfl)))) xss_nil)
    (xss_cons (xs_if (xt_cmp (o_eq hu) (xv 0) xe_int (by first | rfl | exact nobehind _ (by decide) (by decide))) (xss_one (xs_ret (xe_ifE (xt_tru (xv 2)) (xe_errK T.E_InvalidRotation hr (xk_cons (xv 1) xk_nil) rfl) (xe_err T.E_InvalidRotation hr (xa_cons (xv 1) xa_nil) rfl)))) xss_nil)
    (xss_cons (xs_if (xt_cmp (o_eq hu) (xv 0) xe_int (by first | rfl | exact nobehind _ (by decide) (by decide))) (xss_one (xs_ret (xe_ifE (xt_tru (xv 2)) (xe_errK T.E_TooMany hr (xk_cons (xv 1) xk_nil) rfl) (xe_err T.E_TooMany hr (xa_cons (xv 1) xa_nil) rfl)))) xss_nil)
    (xss_cons (xs_if (xt_cmp (o_eq hu) (xv 0) xe_int (by first | rfl | exact nobehind _ (by decide) (by decide))) (xss_one (xs_ret (xe_ifE (xt_tru (xv 2)) (xe_errK T.E_InvalidText hr (xk_cons (xv 1) xk_nil) rfl) (xe_err T.E_InvalidText hr (xa_cons (xv 1) xa_nil) rfl)))) xss_nil)
    (xss_cons (xs_if (xt_cmp (o_eq hu) (xv 0) xe_int (by first | rfl | exact nobehind _ (by decide) (by decide))) (xss_one (xs_ret (xe_ifE (xt_tru (xv 2)) (xe_errK T.E_InvalidMoves hr (xk_cons (xv 1) xk_nil) rfl) (xe_err T.E_InvalidMoves hr (xa_cons (xv 1) xa_nil) rfl)))) xss_nil)
    (xss_cons (xs_if (xt_cmp (o_eq hu) (xv 0) xe_int (by first | rfl | exact nobehind _ (by decide) (by decide))) (xss_one (xs_ret (xe_ifE (xt_tru (xv 2)) (xe_errK T.E_InvalidPasses hr (xk_cons (xv 1) xk_nil) rfl) (xe_err T.E_InvalidPasses hr (xa_cons (xv 1) xa_nil) rfl)))) xss_nil)
    (xss_cons (xs_if (xt_cmp (o_eq hu) (xv 0) xe_int (by first | rfl | exact nobehind _ (by decide) (by decide))) (xss_one (xs_ret (xe_ifE (xt_tru (xv 2)) (xe_errK T.E_InvalidLines hr (xk_cons (xv 1) xk_nil) rfl) (xe_err T.E_InvalidLines hr (xa_cons (xv 1) xa_nil) rfl)))) xss_nil)
    (xss_one (xs_ret (xe_err0 T.E0_LinkError rfl))))))))))))))
theorem ok__law_is_of (T : Txt P K mg base) : FnG P w K mg base 2 T.a__law_is_of T.fd__law_is_of ["error", "at"] m__law_is_of :=
  def_ok T.F__law_is_of sc__law_is_of fun cdv A outer s H E gd hr => by
    have nd := sc__law_is_of.nd
    have tk := takes_of (X := cxOf (L2.CX P w) P w K mg base ["error", "at"] "_law_is_of" (defScope s__law_is_of) T.a__law_is_of cdv A outer s H E) (E := E) rfl rfl rfl rfl
    have hu := hr.units
    have hu2 := units65 hr
    exact (xss_cons (xs_if (xt_cmp (o_eq hu) (xv 1) xe_int (by first | rfl | exact nobehind _ (by decide) (by decide))) (xss_one (xs_ret (xe_is (xv 0) rfl T.n_isinstance (pe_glob (v := .ref T.C_InvalidGraph) rfl T.E_InvalidGraph.t.gC rfl) (fun _ h => h) (isT1_of T.zg3 T.zg4 T.z_cls T.z_is_InvalidGraph)))) xss_nil)
    (xss_cons (xs_if (xt_cmp (o_eq hu) (xv 1) xe_int (by first | rfl | exact nobehind _ (by decide) (by decide))) (xss_one (xs_ret (xe_is (xv 0) rfl T.n_isinstance (pe_glob (v := .ref T.C_InvalidEdge) rfl T.E_InvalidEdge.t.gC rfl) (fun _ h => h) (isT1_of T.zg3 T.zg4 T.z_cls T.z_is_InvalidEdge)))) xss_nil)
    (xss_cons (xs_if (xt_cmp (o_eq hu) (xv 1) xe_int (by first | rfl | exact nobehind _ (by decide) (by decide))) (xss_one (xs_ret (xe_is (xv 0) rfl T.n_isinstance (pe_glob (v := .ref T.C_InvalidVertex) rfl T.E_InvalidVertex.t.gC rfl) (fun _ h => h) (isT1_of T.zg3 T.zg4 T.z_cls T.z_is_InvalidVertex)))) xss_nil)
    (xss_cons (xs_if (xt_cmp (o_eq hu) (xv 1) xe_int (by first | rfl | exact nobehind _ (by decide) (by decide))) (xss_one (xs_ret (xe_is (xv 0) rfl T.n_isinstance (pe_glob (v := .ref T.C_InvalidTriangle) rfl T.E_InvalidTriangle.t.gC rfl) (fun _ h => h) (isT1_of T.zg3 T.zg4 T.z_cls T.z_is_InvalidTriangle)))) xss_nil)
    (xss_cons (xs_if (xt_cmp (o_eq hu) (xv 1) xe_int (by first | rfl | exact nobehind _ (by decide) (by decide))) (xss_one (xs_ret (xe_is (xv 0) rfl T.n_isinstance (pe_glob (v := .ref T.C_InvalidNumber) rfl T.E_InvalidNumber.t.gC rfl) (fun _ h => h) (isT1_of T.zg3 T.zg4 T.z_cls T.z_is_InvalidNumber)))) xss_nil)
    (xss_cons (xs_if (xt_cmp (o_eq hu) (xv 1) xe_int (by first | rfl | exact nobehind _ (by decide) (by decide))) (xss_one (xs_ret (xe_is (xv 0) rfl T.n_isinstance (pe_glob (v := .ref T.C_InvalidRotation) rfl T.E_InvalidRotation.t.gC rfl) (fun _ h => h) (isT1_of T.zg3 T.zg4 T.z_cls T.z_is_InvalidRotation)))) xss_nil)
    (xss_cons (xs_if (xt_cmp (o_eq hu) (xv 1) xe_int (by first | rfl | exact nobehind _ (by decide) (by decide))) (xss_one (xs_ret (xe_is (xv 0) rfl T.n_isinstance (pe_glob (v := .ref T.C_TooMany) rfl T.E_TooMany.t.gC rfl) (fun _ h => h) (isT1_of T.zg3 T.zg4 T.z_cls T.z_is_TooMany)))) xss_nil)
    (xss_cons (xs_if (xt_cmp (o_eq hu) (xv 1) xe_int (by first | rfl | exact nobehind _ (by decide) (by decide))) (xss_one (xs_ret (xe_is (xv 0) rfl T.n_isinstance (pe_glob (v := .ref T.C_InvalidText) rfl T.E_InvalidText.t.gC rfl) (fun _ h => h) (isT1_of T.zg3 T.zg4 T.z_cls T.z_is_InvalidText)))) xss_nil)
    (xss_cons (xs_if (xt_cmp (o_eq hu) (xv 1) xe_int (by first | rfl | exact nobehind _ (by decide) (by decide))) (xss_one (xs_ret (xe_is (xv 0) rfl T.n_isinstance (pe_glob (v := .ref T.C_InvalidMoves) rfl T.E_InvalidMoves.t.gC rfl) (fun _ h => h) (isT1_of T.zg3 T.zg4 T.z_cls T.z_is_InvalidMoves)))) xss_nil)
    (xss_cons (xs_if (xt_cmp (o_eq hu) (xv 1) xe_int (by first | rfl | exact nobehind _ (by decide) (by decide))) (xss_one (xs_ret (xe_is (xv 0) rfl T.n_isinstance (pe_glob (v := .ref T.C_InvalidPasses) rfl T.E_InvalidPasses.t.gC rfl) (fun _ h => h) (isT1_of T.zg3 T.zg4 T.z_cls T.z_is_InvalidPasses)))) xss_nil)
    (xss_cons (xs_if (xt_cmp (o_eq hu) (xv 1) xe_int (by first | rfl | exact nobehind _ (by decide) (by decide))) (xss_one (xs_ret (xe_is (xv 0) rfl T.n_isinstance (pe_glob (v := .ref T.C_InvalidLines) rfl T.E_InvalidLines.t.gC rfl) (fun _ h => h) (isT1_of T.zg3 T.zg4 T.z_cls T.z_is_InvalidLines)))) xss_nil)
    (xss_one (xs_ret (xe_is (xv 0) rfl T.n_isinstance (pe_glob (v := .ref T.CB_LinkError) rfl T.gB_LinkError rfl) (fun _ h => h) (isT1_of T.zg3 T.zg4 T.z_cls T.z_is_LinkError)))))))))))))))
theorem ok__law_is_caught (T : Txt P K mg base) : FnG P w K mg base 2 T.a__law_is_caught T.fd__law_is_caught ["thing", "way"] m__law_is_caught :=
  def_ok T.F__law_is_caught sc__law_is_caught fun cdv A outer s H E gd hr => by
    have nd := sc__law_is_caught.nd
    have tk := takes_of (X := cxOf (L2.CX P w) P w K mg base ["thing", "way", "e", "kept"] "_law_is_caught" (defScope s__law_is_caught) T.a__law_is_caught cdv A outer s H E) (E := E) rfl rfl rfl rfl
    have hu := hr.units
    have hu2 := units65 hr
    exact (xs_caught (bs := "LinkError") rfl rfl nd tk rfl hr gd hu rfl rfl rfl rfl rfl rfl T.E_InvalidGraph T.E_TooMany T.E_InvalidText rfl rfl rfl (by decide) (by decide) (by decide) (by decide) rfl T.gB_LinkError T.zx_InvalidGraph T.zx_TooMany T.zx_InvalidText T.zv_InvalidGraph T.zv_TooMany T.zv_InvalidText rfl T.n_isinstance rfl T.n_repr rfl T.n_ValueError)
theorem ok__law_is_plain (T : Txt P K mg base) : FnG P w K mg base 1 T.a__law_is_plain T.fd__law_is_plain ["error"] m__law_is_plain :=
  def_ok T.F__law_is_plain sc__law_is_plain fun cdv A outer s H E gd hr => by
    have nd := sc__law_is_plain.nd
    have tk := takes_of (X := cxOf (L2.CX P w) P w K mg base ["error"] "_law_is_plain" (defScope s__law_is_plain) T.a__law_is_plain cdv A outer s H E) (E := E) rfl rfl rfl rfl
    have hu := hr.units
    have hu2 := units65 hr
    exact (xss_cons (xs_if (PW.pt (xw_or (xt_not (xt_tru (xe_is (xv 0) rfl T.n_isinstance (pe_glob (v := .ref T.CB_LinkError) rfl T.gB_LinkError rfl) (fun _ h => h) (isT1_of T.zg3 T.zg4 T.z_cls T.z_is_LinkError)))) (xw_or1 (xt_not (xt_tru (xe_is (xv 0) rfl T.n_isinstance (pe_bltn (v := .ty "ValueError") rfl T.n_ValueError (u := .type "ValueError") (by decide +kernel) rfl) (fun _ h => h) (isT1_of T.zg3 T.zg4 T.z_cls T.z_is_ValueError))))))) (xss_one (xs_ret xe_bl)) xss_nil)
    (xss_one (xs_ret (xe_not (xe_isn (xv 0) rfl T.n_isinstance (pe_bltn (v := .ty "LookupError") rfl T.n_LookupError (u := .type "LookupError") (by decide +kernel) rfl) (pe_bltn (v := .ty "TypeError") rfl T.n_TypeError (u := .type "TypeError") (by decide +kernel) rfl) (pe_bltn (v := .ty "ArithmeticError") rfl T.n_ArithmeticError (u := .type "ArithmeticError") (by decide +kernel) rfl) vals_ty3 (isTn_of T.zg3 T.zg4 T.z_cls T.z_isn_LookupError_TypeError_ArithmeticError))))))
theorem ok__law_right (T : Txt P K mg base) : FnG P w K mg base 4 T.a__law_right T.fd__law_right ["well"] m__law_right :=
  def_ok T.F__law_right sc__law_right fun cdv A outer s H E gd hr => by
    have nd := sc__law_right.nd
    have tk := takes_of (X := cxOf (L2.CX P w) P w K mg base ["well", "at", "thing", "by_name", "error", "way", "k"] "_law_right" (defScope s__law_right) T.a__law_right cdv A outer s H E) (E := E) rfl rfl rfl rfl
    have hu := hr.units
    have hu2 := units65 hr
    exact (xss_cons (xs_for gok_name (passes_of rfl) rfl (xi_range1 rfl T.n_range (xa_cons xe_int xa_nil)) (pgv 1 nd) (xss_cons (xs_letv 2 nd (xe_call ((ok__law_strange T).mono (by decide)) tk gd hr rfl T.g__law_strange T.F__law_strange.kp (T.b__law_strange) (alen_cons alen_nil) (xa_cons (xv 0) xa_nil)))
    (xss_one (xs_for gok_name (passes_of rfl) rfl (xi_seq (xe_tup (xa_cons xe_bl (xa_cons xe_bl xa_nil)))) (pgv 3 nd) (xss_cons (xs_letv 4 nd (xe_call ((ok__law_made T).mono (by decide)) tk gd hr rfl T.g__law_made T.F__law_made.kp (T.b__law_made) (alen_cons (alen_cons (alen_cons alen_nil))) (xa_cons (xv 1) (xa_cons (xv 2) (xa_cons (xv 3) xa_nil)))))
    (xss_cons (xs_if (xt_cmp (o_ne hu) (xe_fr (xl_comp (own := [("k", 6)]) rfl nd (xi_range1 rfl T.n_range (xa_cons xe_int xa_nil)) (blkOk_by (by show blkC (["well", "at", "thing", "by_name", "error", "way", "k"] : List Str) (defScope s__law_right) _ _ = true; decide +kernel)) gok_name (by decide) (fun _ _ _ _ _ => (pgv 6 nd)) (fun _ _ _ _ _ => (xts_one (xt_tru (xe_call ((ok__law_is_of T).mono (by decide)) takes0 gd hr rfl T.g__law_is_of T.F__law_is_of.kp (T.b__law_is_of) (alen_cons (alen_cons alen_nil)) (xa_cons (xv 4) (xa_cons (xv 6) xa_nil)))))) (fun _ _ _ _ _ => (xv 6)))) (xe_ifE (xt_cmp (o_lt hu) (xv 1) xe_int (by first | rfl | exact nobehind _ (by decide) (by decide))) (xe_fr (xl_disp (xa_cons (xv 1) xa_nil))) (xe_fr (xl_disp xa_nil))) (by first | rfl | exact nobehind _ (by decide) (by decide))) (xss_one (xs_ret xe_bl)) xss_nil)
    (xss_cons (xs_if (xt_not (xt_tru (xe_call ((ok__law_is_plain T).mono (by decide)) tk gd hr rfl T.g__law_is_plain T.F__law_is_plain.kp (T.b__law_is_plain) (alen_cons alen_nil) (xa_cons (xv 4) xa_nil)))) (xss_one (xs_ret xe_bl)) xss_nil)
    (xss_one (xs_if (PW.pt (xw_and (xt_cmp (o_lt hu) (xv 1) xe_int (by first | rfl | exact nobehind _ (by decide) (by decide))) (xw_and1 (xt_cmp o_neS (xe_bi (c_repr gd hu) rfl T.n_repr PyProof.Rows.boot_repr (xa_cons (xe_ifE (xt_cmp (o_lt hu) (xv 1) xe_int (by first | rfl | exact nobehind _ (by decide) (by decide))) (xe_errF (xv 4) (flT_of T.z_cls (by decide) T.z_fl_given)) (xe_errF (xv 4) (flT_of T.z_cls (by decide) T.z_fl_index))) xa_nil)) (xe_bi (c_repr gd hu) rfl T.n_repr PyProof.Rows.boot_repr (xa_cons (xv 2) xa_nil)) (by first | rfl | exact nobehind _ (by decide) (by decide)))))) (xss_one (xs_ret xe_bl)) xss_nil)))))))))
    (xss_one (xs_ret (xe_cmp (o_eq hu) (xe_fr (xl_comp (own := [("way", 5)]) rfl nd (xi_seq (xe_tup (xa_cons xe_int (xa_cons xe_int (xa_cons xe_int xa_nil))))) (blkOk_by (by show blkC (["well", "at", "thing", "by_name", "error", "way", "k"] : List Str) (defScope s__law_right) _ _ = true; decide +kernel)) gok_name (by decide) (fun _ _ _ _ _ => (pgv 5 nd)) (fun _ _ _ _ _ => (xts_one (xt_not (xt_tru (xe_call ((ok__law_is_caught T).mono (by decide)) takes0 gd hr rfl T.g__law_is_caught T.F__law_is_caught.kp (T.b__law_is_caught) (alen_cons (alen_cons alen_nil)) (xa_cons (xe_call ((ok__law_strange T).mono (by decide)) takes0 gd hr rfl T.g__law_strange T.F__law_strange.kp (T.b__law_strange) (alen_cons alen_nil) (xa_cons (xv 0) xa_nil)) (xa_cons (xv 5) xa_nil))))))) (fun _ _ _ _ _ => (xv 5)))) (xe_fr (xl_disp xa_nil)) (by first | rfl | exact nobehind _ (by decide) (by decide))))))
theorem ok_law (T : Txt P K mg base) : FnG P w K mg base 5 T.a_law T.fd_law ["script"] m_law :=
  def_ok T.F_law sc_law fun cdv A outer s H E gd hr => by
    have nd := sc_law.nd
    have tk := takes_of (X := cxOf (L2.CX P w) P w K mg base ["script", "turn"] "law" (defScope s_law) T.a_law cdv A outer s H E) (E := E) rfl rfl rfl rfl
    have hu := hr.units
    have hu2 := units65 hr
    exact (xss_cons (xs_for gok_name (passes_of rfl) rfl (xi_range1 rfl T.n_range (xa_cons (xe_bi (c_max2 rfl) rfl T.n_max (by decide +kernel) (xa_cons xe_int (xa_cons (xe_bi (c_min2 rfl) rfl T.n_min (by decide +kernel) (xa_cons (xe_bi c_len rfl T.n_len PySem.boot_len (xa_cons (xv 0) xa_nil)) (xa_cons xe_int xa_nil))) xa_nil))) xa_nil)) (pgv 1 nd) (xss_one (xs_if (xt_not (xt_tru (xe_call ((ok__law_right T).mono (by decide)) tk gd hr rfl T.g__law_right T.F__law_right.kp (T.b__law_right) (alen_cons alen_nil) (xa_cons (xe_call ((ok__law_well T).mono (by decide)) tk gd hr rfl T.g__law_well T.F__law_well.kp (T.b__law_well) (alen_cons (alen_cons alen_nil)) (xa_cons (xv 0) (xa_cons (xv 1) xa_nil))) xa_nil)))) (xss_one (xs_ret xe_bl)) xss_nil)))
    (xss_one (xs_ret xe_bl)))
end
theorem all_mk {P : Program} {w : World} {K : PySem.W.Frag} {h : Heap} {mg : Str → Option Value} {fa : Addr} (X : K.In h) (G : h.Ns mainGlobals mg) (hfa : mg "law" = some (.ref fa))
    {f0 : Addr} {od0 an0 : Option Addr} {sl0 : Array (Option Value)} {oc0 kV0 dc0 pm0 ct0 : Value} {cd0 : Value}
    {f1 : Addr} {od1 an1 : Option Addr} {sl1 : Array (Option Value)} {oc1 kV1 dc1 pm1 ct1 : Value} {cd1 : Value}
    {f2 : Addr} {od2 an2 : Option Addr} {sl2 : Array (Option Value)} {oc2 kV2 dc2 pm2 ct2 : Value} {cd2 : Value}
    {f3 : Addr} {od3 an3 : Option Addr} {sl3 : Array (Option Value)} {oc3 kV3 dc3 pm3 ct3 : Value} {cd3 : Value}
    {f4 : Addr} {od4 an4 : Option Addr} {sl4 : Array (Option Value)} {oc4 kV4 dc4 pm4 ct4 : Value} {cd4 : Value}
    {f5 : Addr} {od5 an5 : Option Addr} {sl5 : Array (Option Value)} {oc5 kV5 dc5 pm5 ct5 : Value} {cd5 : Value}
    {f6 : Addr} {od6 an6 : Option Addr} {sl6 : Array (Option Value)} {oc6 kV6 dc6 pm6 ct6 : Value} {cd6 : Value}
    {f7 : Addr} {od7 an7 : Option Addr} {sl7 : Array (Option Value)} {oc7 kV7 dc7 pm7 ct7 : Value} {cd7 : Value}
    {f8 : Addr} {od8 an8 : Option Addr} {sl8 : Array (Option Value)} {oc8 kV8 dc8 pm8 ct8 : Value} {cd8 : Value}
    {f9 : Addr} {od9 an9 : Option Addr} {sl9 : Array (Option Value)} {oc9 kV9 dc9 pm9 ct9 : Value} {cd9 : Value}
    {C_InvalidEdge fI_InvalidEdge N_InvalidEdge cda_InvalidEdge xx_InvalidEdge : Addr} {nm_InvalidEdge q_InvalidEdge fl_InvalidEdge : Str} {bs_InvalidEdge bm_InvalidEdge sub_InvalidEdge : List Value} {sn_InvalidEdge : List Str} {ab_InvalidEdge : Bool} {col_InvalidEdge : Option Bool} {dd_InvalidEdge od_InvalidEdge an_InvalidEdge cdd_InvalidEdge cld_InvalidEdge : Option Addr} {k0_InvalidEdge k1_InvalidEdge k2_InvalidEdge k3_InvalidEdge k5_InvalidEdge : Option Value} {oc_InvalidEdge dc_InvalidEdge pm_InvalidEdge ct_InvalidEdge ccl_InvalidEdge cl_InvalidEdge : Value} {sl_InvalidEdge ccs_InvalidEdge csl_InvalidEdge : Array (Option Value)} {vs_InvalidEdge : Array Value} {tf_InvalidEdge : Tok}
    {C_InvalidGraph fI_InvalidGraph N_InvalidGraph cda_InvalidGraph xx_InvalidGraph : Addr} {nm_InvalidGraph q_InvalidGraph fl_InvalidGraph : Str} {bs_InvalidGraph bm_InvalidGraph sub_InvalidGraph : List Value} {sn_InvalidGraph : List Str} {ab_InvalidGraph : Bool} {col_InvalidGraph : Option Bool} {dd_InvalidGraph od_InvalidGraph an_InvalidGraph cdd_InvalidGraph cld_InvalidGraph : Option Addr} {k0_InvalidGraph k1_InvalidGraph k2_InvalidGraph k3_InvalidGraph k5_InvalidGraph : Option Value} {oc_InvalidGraph dc_InvalidGraph pm_InvalidGraph ct_InvalidGraph ccl_InvalidGraph cl_InvalidGraph : Value} {sl_InvalidGraph ccs_InvalidGraph csl_InvalidGraph : Array (Option Value)} {vs_InvalidGraph : Array Value} {tf_InvalidGraph : Tok}
    {C_InvalidLines fI_InvalidLines N_InvalidLines cda_InvalidLines xx_InvalidLines : Addr} {nm_InvalidLines q_InvalidLines fl_InvalidLines : Str} {bs_InvalidLines bm_InvalidLines sub_InvalidLines : List Value} {sn_InvalidLines : List Str} {ab_InvalidLines : Bool} {col_InvalidLines : Option Bool} {dd_InvalidLines od_InvalidLines an_InvalidLines cdd_InvalidLines cld_InvalidLines : Option Addr} {k0_InvalidLines k1_InvalidLines k2_InvalidLines k3_InvalidLines k5_InvalidLines : Option Value} {oc_InvalidLines dc_InvalidLines pm_InvalidLines ct_InvalidLines ccl_InvalidLines cl_InvalidLines : Value} {sl_InvalidLines ccs_InvalidLines csl_InvalidLines : Array (Option Value)} {vs_InvalidLines : Array Value} {tf_InvalidLines : Tok}
    {C_InvalidMoves fI_InvalidMoves N_InvalidMoves cda_InvalidMoves xx_InvalidMoves : Addr} {nm_InvalidMoves q_InvalidMoves fl_InvalidMoves : Str} {bs_InvalidMoves bm_InvalidMoves sub_InvalidMoves : List Value} {sn_InvalidMoves : List Str} {ab_InvalidMoves : Bool} {col_InvalidMoves : Option Bool} {dd_InvalidMoves od_InvalidMoves an_InvalidMoves cdd_InvalidMoves cld_InvalidMoves : Option Addr} {k0_InvalidMoves k1_InvalidMoves k2_InvalidMoves k3_InvalidMoves k5_InvalidMoves : Option Value} {oc_InvalidMoves dc_InvalidMoves pm_InvalidMoves ct_InvalidMoves ccl_InvalidMoves cl_InvalidMoves : Value} {sl_InvalidMoves ccs_InvalidMoves csl_InvalidMoves : Array (Option Value)} {vs_InvalidMoves : Array Value} {tf_InvalidMoves : Tok}
    {C_InvalidNumber fI_InvalidNumber N_InvalidNumber cda_InvalidNumber xx_InvalidNumber : Addr} {nm_InvalidNumber q_InvalidNumber fl_InvalidNumber : Str} {bs_InvalidNumber bm_InvalidNumber sub_InvalidNumber : List Value} {sn_InvalidNumber : List Str} {ab_InvalidNumber : Bool} {col_InvalidNumber : Option Bool} {dd_InvalidNumber od_InvalidNumber an_InvalidNumber cdd_InvalidNumber cld_InvalidNumber : Option Addr} {k0_InvalidNumber k1_InvalidNumber k2_InvalidNumber k3_InvalidNumber k5_InvalidNumber : Option Value} {oc_InvalidNumber dc_InvalidNumber pm_InvalidNumber ct_InvalidNumber ccl_InvalidNumber cl_InvalidNumber : Value} {sl_InvalidNumber ccs_InvalidNumber csl_InvalidNumber : Array (Option Value)} {vs_InvalidNumber : Array Value} {tf_InvalidNumber : Tok}
    {C_InvalidPasses fI_InvalidPasses N_InvalidPasses cda_InvalidPasses xx_InvalidPasses : Addr} {nm_InvalidPasses q_InvalidPasses fl_InvalidPasses : Str} {bs_InvalidPasses bm_InvalidPasses sub_InvalidPasses : List Value} {sn_InvalidPasses : List Str} {ab_InvalidPasses : Bool} {col_InvalidPasses : Option Bool} {dd_InvalidPasses od_InvalidPasses an_InvalidPasses cdd_InvalidPasses cld_InvalidPasses : Option Addr} {k0_InvalidPasses k1_InvalidPasses k2_InvalidPasses k3_InvalidPasses k5_InvalidPasses : Option Value} {oc_InvalidPasses dc_InvalidPasses pm_InvalidPasses ct_InvalidPasses ccl_InvalidPasses cl_InvalidPasses : Value} {sl_InvalidPasses ccs_InvalidPasses csl_InvalidPasses : Array (Option Value)} {vs_InvalidPasses : Array Value} {tf_InvalidPasses : Tok}
    {C_InvalidRotation fI_InvalidRotation N_InvalidRotation cda_InvalidRotation xx_InvalidRotation : Addr} {nm_InvalidRotation q_InvalidRotation fl_InvalidRotation : Str} {bs_InvalidRotation bm_InvalidRotation sub_InvalidRotation : List Value} {sn_InvalidRotation : List Str} {ab_InvalidRotation : Bool} {col_InvalidRotation : Option Bool} {dd_InvalidRotation od_InvalidRotation an_InvalidRotation cdd_InvalidRotation cld_InvalidRotation : Option Addr} {k0_InvalidRotation k1_InvalidRotation k2_InvalidRotation k3_InvalidRotation k5_InvalidRotation : Option Value} {oc_InvalidRotation dc_InvalidRotation pm_InvalidRotation ct_InvalidRotation ccl_InvalidRotation cl_InvalidRotation : Value} {sl_InvalidRotation ccs_InvalidRotation csl_InvalidRotation : Array (Option Value)} {vs_InvalidRotation : Array Value} {tf_InvalidRotation : Tok}
    {C_InvalidText fI_InvalidText N_InvalidText cda_InvalidText xx_InvalidText : Addr} {nm_InvalidText q_InvalidText fl_InvalidText : Str} {bs_InvalidText bm_InvalidText sub_InvalidText : List Value} {sn_InvalidText : List Str} {ab_InvalidText : Bool} {col_InvalidText : Option Bool} {dd_InvalidText od_InvalidText an_InvalidText cdd_InvalidText cld_InvalidText : Option Addr} {k0_InvalidText k1_InvalidText k2_InvalidText k3_InvalidText k5_InvalidText : Option Value} {oc_InvalidText dc_InvalidText pm_InvalidText ct_InvalidText ccl_InvalidText cl_InvalidText : Value} {sl_InvalidText ccs_InvalidText csl_InvalidText : Array (Option Value)} {vs_InvalidText : Array Value} {tf_InvalidText : Tok}
    {C_InvalidTriangle fI_InvalidTriangle N_InvalidTriangle cda_InvalidTriangle xx_InvalidTriangle : Addr} {nm_InvalidTriangle q_InvalidTriangle fl_InvalidTriangle : Str} {bs_InvalidTriangle bm_InvalidTriangle sub_InvalidTriangle : List Value} {sn_InvalidTriangle : List Str} {ab_InvalidTriangle : Bool} {col_InvalidTriangle : Option Bool} {dd_InvalidTriangle od_InvalidTriangle an_InvalidTriangle cdd_InvalidTriangle cld_InvalidTriangle : Option Addr} {k0_InvalidTriangle k1_InvalidTriangle k2_InvalidTriangle k3_InvalidTriangle k5_InvalidTriangle : Option Value} {oc_InvalidTriangle dc_InvalidTriangle pm_InvalidTriangle ct_InvalidTriangle ccl_InvalidTriangle cl_InvalidTriangle : Value} {sl_InvalidTriangle ccs_InvalidTriangle csl_InvalidTriangle : Array (Option Value)} {vs_InvalidTriangle : Array Value} {tf_InvalidTriangle : Tok}
    {C_InvalidVertex fI_InvalidVertex N_InvalidVertex cda_InvalidVertex xx_InvalidVertex : Addr} {nm_InvalidVertex q_InvalidVertex fl_InvalidVertex : Str} {bs_InvalidVertex bm_InvalidVertex sub_InvalidVertex : List Value} {sn_InvalidVertex : List Str} {ab_InvalidVertex : Bool} {col_InvalidVertex : Option Bool} {dd_InvalidVertex od_InvalidVertex an_InvalidVertex cdd_InvalidVertex cld_InvalidVertex : Option Addr} {k0_InvalidVertex k1_InvalidVertex k2_InvalidVertex k3_InvalidVertex k5_InvalidVertex : Option Value} {oc_InvalidVertex dc_InvalidVertex pm_InvalidVertex ct_InvalidVertex ccl_InvalidVertex cl_InvalidVertex : Value} {sl_InvalidVertex ccs_InvalidVertex csl_InvalidVertex : Array (Option Value)} {vs_InvalidVertex : Array Value} {tf_InvalidVertex : Tok}
    {C_TooMany fI_TooMany N_TooMany cda_TooMany xx_TooMany : Addr} {nm_TooMany q_TooMany fl_TooMany : Str} {bs_TooMany bm_TooMany sub_TooMany : List Value} {sn_TooMany : List Str} {ab_TooMany : Bool} {col_TooMany : Option Bool} {dd_TooMany od_TooMany an_TooMany cdd_TooMany cld_TooMany : Option Addr} {k0_TooMany k1_TooMany k2_TooMany k3_TooMany k5_TooMany : Option Value} {oc_TooMany dc_TooMany pm_TooMany ct_TooMany ccl_TooMany cl_TooMany : Value} {sl_TooMany ccs_TooMany csl_TooMany : Array (Option Value)} {vs_TooMany : Array Value} {tf_TooMany : Tok}
    {CB_LinkError : Addr}
    (a0 : PySem.W.nsIn K mainGlobals "_law_well" = some (some (.ref f0)))
    (l0 : K.lookup f0 = some ⟨oc0, od0, .func (PySem.W.fnOf "_law_well" "_law_well" (defArgs s__law_well) (defBody s__law_well) (defScope s__law_well) .none kV0 dc0 pm0 an0 cd0 ct0), sl0⟩)
    (c0 : PySem.W.codeIn K cd0 "_law_well" = true)
    (k0 : PySem.W.keepIn K (.ref f0) = true)
    (a1 : PySem.W.nsIn K mainGlobals "_law_draw" = some (some (.ref f1)))
    (l1 : K.lookup f1 = some ⟨oc1, od1, .func (PySem.W.fnOf "_law_draw" "_law_draw" (defArgs s__law_draw) (defBody s__law_draw) (defScope s__law_draw) .none kV1 dc1 pm1 an1 cd1 ct1), sl1⟩)
    (c1 : PySem.W.codeIn K cd1 "_law_draw" = true)
    (k1 : PySem.W.keepIn K (.ref f1) = true)
    (a2 : PySem.W.nsIn K mainGlobals "_law_pick" = some (some (.ref f2)))
    (l2 : K.lookup f2 = some ⟨oc2, od2, .func (PySem.W.fnOf "_law_pick" "_law_pick" (defArgs s__law_pick) (defBody s__law_pick) (defScope s__law_pick) .none kV2 dc2 pm2 an2 cd2 ct2), sl2⟩)
    (c2 : PySem.W.codeIn K cd2 "_law_pick" = true)
    (k2 : PySem.W.keepIn K (.ref f2) = true)
    (a3 : PySem.W.nsIn K mainGlobals "_law_strange" = some (some (.ref f3)))
    (l3 : K.lookup f3 = some ⟨oc3, od3, .func (PySem.W.fnOf "_law_strange" "_law_strange" (defArgs s__law_strange) (defBody s__law_strange) (defScope s__law_strange) .none kV3 dc3 pm3 an3 cd3 ct3), sl3⟩)
    (c3 : PySem.W.codeIn K cd3 "_law_strange" = true)
    (k3 : PySem.W.keepIn K (.ref f3) = true)
    (a4 : PySem.W.nsIn K mainGlobals "_law_made" = some (some (.ref f4)))
    (l4 : K.lookup f4 = some ⟨oc4, od4, .func (PySem.W.fnOf "_law_made" "_law_made" (defArgs s__law_made) (defBody s__law_made) (defScope s__law_made) .none kV4 dc4 pm4 an4 cd4 ct4), sl4⟩)
    (c4 : PySem.W.codeIn K cd4 "_law_made" = true)
    (k4 : PySem.W.keepIn K (.ref f4) = true)
    (a5 : PySem.W.nsIn K mainGlobals "_law_is_of" = some (some (.ref f5)))
    (l5 : K.lookup f5 = some ⟨oc5, od5, .func (PySem.W.fnOf "_law_is_of" "_law_is_of" (defArgs s__law_is_of) (defBody s__law_is_of) (defScope s__law_is_of) .none kV5 dc5 pm5 an5 cd5 ct5), sl5⟩)
    (c5 : PySem.W.codeIn K cd5 "_law_is_of" = true)
    (k5 : PySem.W.keepIn K (.ref f5) = true)
    (a6 : PySem.W.nsIn K mainGlobals "_law_is_caught" = some (some (.ref f6)))
    (l6 : K.lookup f6 = some ⟨oc6, od6, .func (PySem.W.fnOf "_law_is_caught" "_law_is_caught" (defArgs s__law_is_caught) (defBody s__law_is_caught) (defScope s__law_is_caught) .none kV6 dc6 pm6 an6 cd6 ct6), sl6⟩)
    (c6 : PySem.W.codeIn K cd6 "_law_is_caught" = true)
    (k6 : PySem.W.keepIn K (.ref f6) = true)
    (a7 : PySem.W.nsIn K mainGlobals "_law_is_plain" = some (some (.ref f7)))
    (l7 : K.lookup f7 = some ⟨oc7, od7, .func (PySem.W.fnOf "_law_is_plain" "_law_is_plain" (defArgs s__law_is_plain) (defBody s__law_is_plain) (defScope s__law_is_plain) .none kV7 dc7 pm7 an7 cd7 ct7), sl7⟩)
    (c7 : PySem.W.codeIn K cd7 "_law_is_plain" = true)
    (k7 : PySem.W.keepIn K (.ref f7) = true)
    (a8 : PySem.W.nsIn K mainGlobals "_law_right" = some (some (.ref f8)))
    (l8 : K.lookup f8 = some ⟨oc8, od8, .func (PySem.W.fnOf "_law_right" "_law_right" (defArgs s__law_right) (defBody s__law_right) (defScope s__law_right) .none kV8 dc8 pm8 an8 cd8 ct8), sl8⟩)
    (c8 : PySem.W.codeIn K cd8 "_law_right" = true)
    (k8 : PySem.W.keepIn K (.ref f8) = true)
    (a9 : PySem.W.nsIn K mainGlobals "law" = some (some (.ref f9)))
    (l9 : K.lookup f9 = some ⟨oc9, od9, .func (PySem.W.fnOf "law" "law" (defArgs s_law) (defBody s_law) (defScope s_law) .none kV9 dc9 pm9 an9 cd9 ct9), sl9⟩)
    (c9 : PySem.W.codeIn K cd9 "law" = true)
    (k9 : PySem.W.keepIn K (.ref f9) = true)
    (z0 : PySem.W.nsIn K mainGlobals "ArithmeticError" = some none)
    (z1 : PySem.W.nsIn K mainGlobals "LookupError" = some none)
    (z2 : PySem.W.nsIn K mainGlobals "TypeError" = some none)
    (z3 : PySem.W.nsIn K mainGlobals "ValueError" = some none)
    (z4 : PySem.W.nsIn K mainGlobals "abs" = some none)
    (z5 : PySem.W.nsIn K mainGlobals "int" = some none)
    (z6 : PySem.W.nsIn K mainGlobals "isinstance" = some none)
    (z7 : PySem.W.nsIn K mainGlobals "len" = some none)
    (z8 : PySem.W.nsIn K mainGlobals "max" = some none)
    (z9 : PySem.W.nsIn K mainGlobals "min" = some none)
    (z10 : PySem.W.nsIn K mainGlobals "range" = some none)
    (z11 : PySem.W.nsIn K mainGlobals "repr" = some none)
    (zg0 : PySem.W.nsIn K mainGlobals "super" = some none)
    (zg1 : PySem.W.nsIn K cStatics "thirdparty.any" = some none)
    (zg2 : (P.main.scope.names.lookup ("super" : Str)).isSome = false)
    (zg3 : PySem.W.specialIn K (.builtin "object.__class__") "__get__" = some (some (.builtin "getset_descriptor.__get__")))
    (zg4 : PySem.W.takesIn K (.builtin "object.__class__") = some true)
    (ea_InvalidEdge : PySem.W.nsIn K mainGlobals "InvalidEdge" = some (some (.ref C_InvalidEdge)))
    (el_InvalidEdge : K.lookup C_InvalidEdge = some (PySem.excClassObj nm_InvalidEdge q_InvalidEdge C_InvalidEdge N_InvalidEdge bs_InvalidEdge bm_InvalidEdge true sn_InvalidEdge sub_InvalidEdge ab_InvalidEdge col_InvalidEdge dd_InvalidEdge k0_InvalidEdge k1_InvalidEdge k2_InvalidEdge k3_InvalidEdge k5_InvalidEdge "ValueError.__new__"))
    (er_InvalidEdge : PySem.HandSPX.refsVE bm_InvalidEdge = true)
    (e1_InvalidEdge : PySem.W.findIn K (.ref C_InvalidEdge) "__setattr__" = some (some (.builtin "object.__setattr__")))
    (e2_InvalidEdge : PySem.W.findIn K (.ref C_InvalidEdge) "__getattribute__" = some (some (.builtin "BaseException.__getattribute__")))
    (e3_InvalidEdge : PySem.W.findIn K (.ref C_InvalidEdge) "__getattr__" = some none)
    (e4_InvalidEdge : PySem.W.subIn K (.ref C_InvalidEdge) (.type "BaseException") = some true)
    (e5_InvalidEdge : PySem.W.hasDictIn K C_InvalidEdge = true)
    (e6_InvalidEdge : PySem.W.findIn K (.ref C_InvalidEdge) "given" = some none)
    (e7_InvalidEdge : PySem.W.findIn K (.ref C_InvalidEdge) "__init__" = some (some (.ref fI_InvalidEdge)))
    (e8_InvalidEdge : PySem.W.typeIn K (.ref fI_InvalidEdge) = some (.type "function"))
    (e9_InvalidEdge : PySem.W.keepIn K (.ref C_InvalidEdge) = true)
    (e10_InvalidEdge : PySem.W.typeIn K (.ref C_InvalidEdge) = some (.type "type"))
    (e11_InvalidEdge : PySem.W.exmOne K (.ref C_InvalidEdge) (.ref C_InvalidEdge) = some true)
    (e12_InvalidEdge : PySem.W.ks_superIn K C_InvalidEdge C_InvalidEdge "__init__" = some (some (.builtin "ValueError.__init__")))
    (e13_InvalidEdge : PySem.W.subIn K (.ref C_InvalidEdge) (.type "ValueError") = some true)
    (e14_InvalidEdge : PySem.W.mroIn K C_InvalidEdge (.ref C_InvalidEdge) = some true)
    (e15_InvalidEdge : (PySem.W.clsIn K C_InvalidEdge).isSome = true)
    (e16_InvalidEdge : PySem.W.findIn K (.ref C_InvalidEdge) "__class__" = some (some (.builtin "object.__class__")))
    (e17_InvalidEdge : PySem.W.mroIn K C_InvalidEdge (.type "object") = some true)
    (f1_InvalidEdge : K.lookup fI_InvalidEdge = some ⟨oc_InvalidEdge, od_InvalidEdge, .func (PySem.W.ksFn "__init__" "InvalidEdge.__init__" (defArgs s_InvalidEdge_init) (defBody s_InvalidEdge_init) (defScope s_InvalidEdge_init) .none .none dc_InvalidEdge pm_InvalidEdge an_InvalidEdge (.ref cda_InvalidEdge) ct_InvalidEdge xx_InvalidEdge), sl_InvalidEdge⟩)
    (f2_InvalidEdge : PySem.W.codeIn K (.ref cda_InvalidEdge) "InvalidEdge.__init__" = true)
    (f3_InvalidEdge : K.lookup cda_InvalidEdge = some ⟨ccl_InvalidEdge, cdd_InvalidEdge, .fields vs_InvalidEdge, ccs_InvalidEdge⟩)
    (f4_InvalidEdge : vs_InvalidEdge[2]? = some (.str fl_InvalidEdge tf_InvalidEdge))
    (f5_InvalidEdge : ((P.main.file : Str) == fl_InvalidEdge) = true)
    (f6_InvalidEdge : K.lookup xx_InvalidEdge = some ⟨cl_InvalidEdge, cld_InvalidEdge, .cell (some (.ref C_InvalidEdge)), csl_InvalidEdge⟩)
    (ea_InvalidGraph : PySem.W.nsIn K mainGlobals "InvalidGraph" = some (some (.ref C_InvalidGraph)))
    (el_InvalidGraph : K.lookup C_InvalidGraph = some (PySem.excClassObj nm_InvalidGraph q_InvalidGraph C_InvalidGraph N_InvalidGraph bs_InvalidGraph bm_InvalidGraph true sn_InvalidGraph sub_InvalidGraph ab_InvalidGraph col_InvalidGraph dd_InvalidGraph k0_InvalidGraph k1_InvalidGraph k2_InvalidGraph k3_InvalidGraph k5_InvalidGraph "ValueError.__new__"))
    (er_InvalidGraph : PySem.HandSPX.refsVE bm_InvalidGraph = true)
    (e1_InvalidGraph : PySem.W.findIn K (.ref C_InvalidGraph) "__setattr__" = some (some (.builtin "object.__setattr__")))
    (e2_InvalidGraph : PySem.W.findIn K (.ref C_InvalidGraph) "__getattribute__" = some (some (.builtin "BaseException.__getattribute__")))
    (e3_InvalidGraph : PySem.W.findIn K (.ref C_InvalidGraph) "__getattr__" = some none)
    (e4_InvalidGraph : PySem.W.subIn K (.ref C_InvalidGraph) (.type "BaseException") = some true)
    (e5_InvalidGraph : PySem.W.hasDictIn K C_InvalidGraph = true)
    (e6_InvalidGraph : PySem.W.findIn K (.ref C_InvalidGraph) "given" = some none)
    (e7_InvalidGraph : PySem.W.findIn K (.ref C_InvalidGraph) "__init__" = some (some (.ref fI_InvalidGraph)))
    (e8_InvalidGraph : PySem.W.typeIn K (.ref fI_InvalidGraph) = some (.type "function"))
    (e9_InvalidGraph : PySem.W.keepIn K (.ref C_InvalidGraph) = true)
    (e10_InvalidGraph : PySem.W.typeIn K (.ref C_InvalidGraph) = some (.type "type"))
    (e11_InvalidGraph : PySem.W.exmOne K (.ref C_InvalidGraph) (.ref C_InvalidGraph) = some true)
    (e12_InvalidGraph : PySem.W.ks_superIn K C_InvalidGraph C_InvalidGraph "__init__" = some (some (.builtin "ValueError.__init__")))
    (e13_InvalidGraph : PySem.W.subIn K (.ref C_InvalidGraph) (.type "ValueError") = some true)
    (e14_InvalidGraph : PySem.W.mroIn K C_InvalidGraph (.ref C_InvalidGraph) = some true)
    (e15_InvalidGraph : (PySem.W.clsIn K C_InvalidGraph).isSome = true)
    (e16_InvalidGraph : PySem.W.findIn K (.ref C_InvalidGraph) "__class__" = some (some (.builtin "object.__class__")))
    (e17_InvalidGraph : PySem.W.mroIn K C_InvalidGraph (.type "object") = some true)
    (f1_InvalidGraph : K.lookup fI_InvalidGraph = some ⟨oc_InvalidGraph, od_InvalidGraph, .func (PySem.W.ksFn "__init__" "InvalidGraph.__init__" (defArgs s_InvalidGraph_init) (defBody s_InvalidGraph_init) (defScope s_InvalidGraph_init) .none .none dc_InvalidGraph pm_InvalidGraph an_InvalidGraph (.ref cda_InvalidGraph) ct_InvalidGraph xx_InvalidGraph), sl_InvalidGraph⟩)
    (f2_InvalidGraph : PySem.W.codeIn K (.ref cda_InvalidGraph) "InvalidGraph.__init__" = true)
    (f3_InvalidGraph : K.lookup cda_InvalidGraph = some ⟨ccl_InvalidGraph, cdd_InvalidGraph, .fields vs_InvalidGraph, ccs_InvalidGraph⟩)
    (f4_InvalidGraph : vs_InvalidGraph[2]? = some (.str fl_InvalidGraph tf_InvalidGraph))
    (f5_InvalidGraph : ((P.main.file : Str) == fl_InvalidGraph) = true)
    (f6_InvalidGraph : K.lookup xx_InvalidGraph = some ⟨cl_InvalidGraph, cld_InvalidGraph, .cell (some (.ref C_InvalidGraph)), csl_InvalidGraph⟩)
    (ea_InvalidLines : PySem.W.nsIn K mainGlobals "InvalidLines" = some (some (.ref C_InvalidLines)))
    (el_InvalidLines : K.lookup C_InvalidLines = some (PySem.excClassObj nm_InvalidLines q_InvalidLines C_InvalidLines N_InvalidLines bs_InvalidLines bm_InvalidLines true sn_InvalidLines sub_InvalidLines ab_InvalidLines col_InvalidLines dd_InvalidLines k0_InvalidLines k1_InvalidLines k2_InvalidLines k3_InvalidLines k5_InvalidLines "ValueError.__new__"))
    (er_InvalidLines : PySem.HandSPX.refsVE bm_InvalidLines = true)
    (e1_InvalidLines : PySem.W.findIn K (.ref C_InvalidLines) "__setattr__" = some (some (.builtin "object.__setattr__")))
    (e2_InvalidLines : PySem.W.findIn K (.ref C_InvalidLines) "__getattribute__" = some (some (.builtin "BaseException.__getattribute__")))
    (e3_InvalidLines : PySem.W.findIn K (.ref C_InvalidLines) "__getattr__" = some none)
    (e4_InvalidLines : PySem.W.subIn K (.ref C_InvalidLines) (.type "BaseException") = some true)
    (e5_InvalidLines : PySem.W.hasDictIn K C_InvalidLines = true)
    (e6_InvalidLines : PySem.W.findIn K (.ref C_InvalidLines) "index" = some none)
    (e7_InvalidLines : PySem.W.findIn K (.ref C_InvalidLines) "__init__" = some (some (.ref fI_InvalidLines)))
    (e8_InvalidLines : PySem.W.typeIn K (.ref fI_InvalidLines) = some (.type "function"))
    (e9_InvalidLines : PySem.W.keepIn K (.ref C_InvalidLines) = true)
    (e10_InvalidLines : PySem.W.typeIn K (.ref C_InvalidLines) = some (.type "type"))
    (e11_InvalidLines : PySem.W.exmOne K (.ref C_InvalidLines) (.ref C_InvalidLines) = some true)
    (e12_InvalidLines : PySem.W.ks_superIn K C_InvalidLines C_InvalidLines "__init__" = some (some (.builtin "ValueError.__init__")))
    (e13_InvalidLines : PySem.W.subIn K (.ref C_InvalidLines) (.type "ValueError") = some true)
    (e14_InvalidLines : PySem.W.mroIn K C_InvalidLines (.ref C_InvalidLines) = some true)
    (e15_InvalidLines : (PySem.W.clsIn K C_InvalidLines).isSome = true)
    (e16_InvalidLines : PySem.W.findIn K (.ref C_InvalidLines) "__class__" = some (some (.builtin "object.__class__")))
    (e17_InvalidLines : PySem.W.mroIn K C_InvalidLines (.type "object") = some true)
    (f1_InvalidLines : K.lookup fI_InvalidLines = some ⟨oc_InvalidLines, od_InvalidLines, .func (PySem.W.ksFn "__init__" "InvalidLines.__init__" (defArgs s_InvalidLines_init) (defBody s_InvalidLines_init) (defScope s_InvalidLines_init) .none .none dc_InvalidLines pm_InvalidLines an_InvalidLines (.ref cda_InvalidLines) ct_InvalidLines xx_InvalidLines), sl_InvalidLines⟩)
    (f2_InvalidLines : PySem.W.codeIn K (.ref cda_InvalidLines) "InvalidLines.__init__" = true)
    (f3_InvalidLines : K.lookup cda_InvalidLines = some ⟨ccl_InvalidLines, cdd_InvalidLines, .fields vs_InvalidLines, ccs_InvalidLines⟩)
    (f4_InvalidLines : vs_InvalidLines[2]? = some (.str fl_InvalidLines tf_InvalidLines))
    (f5_InvalidLines : ((P.main.file : Str) == fl_InvalidLines) = true)
    (f6_InvalidLines : K.lookup xx_InvalidLines = some ⟨cl_InvalidLines, cld_InvalidLines, .cell (some (.ref C_InvalidLines)), csl_InvalidLines⟩)
    (ea_InvalidMoves : PySem.W.nsIn K mainGlobals "InvalidMoves" = some (some (.ref C_InvalidMoves)))
    (el_InvalidMoves : K.lookup C_InvalidMoves = some (PySem.excClassObj nm_InvalidMoves q_InvalidMoves C_InvalidMoves N_InvalidMoves bs_InvalidMoves bm_InvalidMoves true sn_InvalidMoves sub_InvalidMoves ab_InvalidMoves col_InvalidMoves dd_InvalidMoves k0_InvalidMoves k1_InvalidMoves k2_InvalidMoves k3_InvalidMoves k5_InvalidMoves "ValueError.__new__"))
    (er_InvalidMoves : PySem.HandSPX.refsVE bm_InvalidMoves = true)
    (e1_InvalidMoves : PySem.W.findIn K (.ref C_InvalidMoves) "__setattr__" = some (some (.builtin "object.__setattr__")))
    (e2_InvalidMoves : PySem.W.findIn K (.ref C_InvalidMoves) "__getattribute__" = some (some (.builtin "BaseException.__getattribute__")))
    (e3_InvalidMoves : PySem.W.findIn K (.ref C_InvalidMoves) "__getattr__" = some none)
    (e4_InvalidMoves : PySem.W.subIn K (.ref C_InvalidMoves) (.type "BaseException") = some true)
    (e5_InvalidMoves : PySem.W.hasDictIn K C_InvalidMoves = true)
    (e6_InvalidMoves : PySem.W.findIn K (.ref C_InvalidMoves) "index" = some none)
    (e7_InvalidMoves : PySem.W.findIn K (.ref C_InvalidMoves) "__init__" = some (some (.ref fI_InvalidMoves)))
    (e8_InvalidMoves : PySem.W.typeIn K (.ref fI_InvalidMoves) = some (.type "function"))
    (e9_InvalidMoves : PySem.W.keepIn K (.ref C_InvalidMoves) = true)
    (e10_InvalidMoves : PySem.W.typeIn K (.ref C_InvalidMoves) = some (.type "type"))
    (e11_InvalidMoves : PySem.W.exmOne K (.ref C_InvalidMoves) (.ref C_InvalidMoves) = some true)
    (e12_InvalidMoves : PySem.W.ks_superIn K C_InvalidMoves C_InvalidMoves "__init__" = some (some (.builtin "ValueError.__init__")))
    (e13_InvalidMoves : PySem.W.subIn K (.ref C_InvalidMoves) (.type "ValueError") = some true)
    (e14_InvalidMoves : PySem.W.mroIn K C_InvalidMoves (.ref C_InvalidMoves) = some true)
    (e15_InvalidMoves : (PySem.W.clsIn K C_InvalidMoves).isSome = true)
    (e16_InvalidMoves : PySem.W.findIn K (.ref C_InvalidMoves) "__class__" = some (some (.builtin "object.__class__")))
    (e17_InvalidMoves : PySem.W.mroIn K C_InvalidMoves (.type "object") = some true)
    (f1_InvalidMoves : K.lookup fI_InvalidMoves = some ⟨oc_InvalidMoves, od_InvalidMoves, .func (PySem.W.ksFn "__init__" "InvalidMoves.__init__" (defArgs s_InvalidMoves_init) (defBody s_InvalidMoves_init) (defScope s_InvalidMoves_init) .none .none dc_InvalidMoves pm_InvalidMoves an_InvalidMoves (.ref cda_InvalidMoves) ct_InvalidMoves xx_InvalidMoves), sl_InvalidMoves⟩)
    (f2_InvalidMoves : PySem.W.codeIn K (.ref cda_InvalidMoves) "InvalidMoves.__init__" = true)
    (f3_InvalidMoves : K.lookup cda_InvalidMoves = some ⟨ccl_InvalidMoves, cdd_InvalidMoves, .fields vs_InvalidMoves, ccs_InvalidMoves⟩)
    (f4_InvalidMoves : vs_InvalidMoves[2]? = some (.str fl_InvalidMoves tf_InvalidMoves))
    (f5_InvalidMoves : ((P.main.file : Str) == fl_InvalidMoves) = true)
    (f6_InvalidMoves : K.lookup xx_InvalidMoves = some ⟨cl_InvalidMoves, cld_InvalidMoves, .cell (some (.ref C_InvalidMoves)), csl_InvalidMoves⟩)
    (ea_InvalidNumber : PySem.W.nsIn K mainGlobals "InvalidNumber" = some (some (.ref C_InvalidNumber)))
    (el_InvalidNumber : K.lookup C_InvalidNumber = some (PySem.excClassObj nm_InvalidNumber q_InvalidNumber C_InvalidNumber N_InvalidNumber bs_InvalidNumber bm_InvalidNumber true sn_InvalidNumber sub_InvalidNumber ab_InvalidNumber col_InvalidNumber dd_InvalidNumber k0_InvalidNumber k1_InvalidNumber k2_InvalidNumber k3_InvalidNumber k5_InvalidNumber "ValueError.__new__"))
    (er_InvalidNumber : PySem.HandSPX.refsVE bm_InvalidNumber = true)
    (e1_InvalidNumber : PySem.W.findIn K (.ref C_InvalidNumber) "__setattr__" = some (some (.builtin "object.__setattr__")))
    (e2_InvalidNumber : PySem.W.findIn K (.ref C_InvalidNumber) "__getattribute__" = some (some (.builtin "BaseException.__getattribute__")))
    (e3_InvalidNumber : PySem.W.findIn K (.ref C_InvalidNumber) "__getattr__" = some none)
    (e4_InvalidNumber : PySem.W.subIn K (.ref C_InvalidNumber) (.type "BaseException") = some true)
    (e5_InvalidNumber : PySem.W.hasDictIn K C_InvalidNumber = true)
    (e6_InvalidNumber : PySem.W.findIn K (.ref C_InvalidNumber) "given" = some none)
    (e7_InvalidNumber : PySem.W.findIn K (.ref C_InvalidNumber) "__init__" = some (some (.ref fI_InvalidNumber)))
    (e8_InvalidNumber : PySem.W.typeIn K (.ref fI_InvalidNumber) = some (.type "function"))
    (e9_InvalidNumber : PySem.W.keepIn K (.ref C_InvalidNumber) = true)
    (e10_InvalidNumber : PySem.W.typeIn K (.ref C_InvalidNumber) = some (.type "type"))
    (e11_InvalidNumber : PySem.W.exmOne K (.ref C_InvalidNumber) (.ref C_InvalidNumber) = some true)
    (e12_InvalidNumber : PySem.W.ks_superIn K C_InvalidNumber C_InvalidNumber "__init__" = some (some (.builtin "ValueError.__init__")))
    (e13_InvalidNumber : PySem.W.subIn K (.ref C_InvalidNumber) (.type "ValueError") = some true)
    (e14_InvalidNumber : PySem.W.mroIn K C_InvalidNumber (.ref C_InvalidNumber) = some true)
    (e15_InvalidNumber : (PySem.W.clsIn K C_InvalidNumber).isSome = true)
    (e16_InvalidNumber : PySem.W.findIn K (.ref C_InvalidNumber) "__class__" = some (some (.builtin "object.__class__")))
    (e17_InvalidNumber : PySem.W.mroIn K C_InvalidNumber (.type "object") = some true)
    (f1_InvalidNumber : K.lookup fI_InvalidNumber = some ⟨oc_InvalidNumber, od_InvalidNumber, .func (PySem.W.ksFn "__init__" "InvalidNumber.__init__" (defArgs s_InvalidNumber_init) (defBody s_InvalidNumber_init) (defScope s_InvalidNumber_init) .none .none dc_InvalidNumber pm_InvalidNumber an_InvalidNumber (.ref cda_InvalidNumber) ct_InvalidNumber xx_InvalidNumber), sl_InvalidNumber⟩)
    (f2_InvalidNumber : PySem.W.codeIn K (.ref cda_InvalidNumber) "InvalidNumber.__init__" = true)
    (f3_InvalidNumber : K.lookup cda_InvalidNumber = some ⟨ccl_InvalidNumber, cdd_InvalidNumber, .fields vs_InvalidNumber, ccs_InvalidNumber⟩)
    (f4_InvalidNumber : vs_InvalidNumber[2]? = some (.str fl_InvalidNumber tf_InvalidNumber))
    (f5_InvalidNumber : ((P.main.file : Str) == fl_InvalidNumber) = true)
    (f6_InvalidNumber : K.lookup xx_InvalidNumber = some ⟨cl_InvalidNumber, cld_InvalidNumber, .cell (some (.ref C_InvalidNumber)), csl_InvalidNumber⟩)
    (ea_InvalidPasses : PySem.W.nsIn K mainGlobals "InvalidPasses" = some (some (.ref C_InvalidPasses)))
    (el_InvalidPasses : K.lookup C_InvalidPasses = some (PySem.excClassObj nm_InvalidPasses q_InvalidPasses C_InvalidPasses N_InvalidPasses bs_InvalidPasses bm_InvalidPasses true sn_InvalidPasses sub_InvalidPasses ab_InvalidPasses col_InvalidPasses dd_InvalidPasses k0_InvalidPasses k1_InvalidPasses k2_InvalidPasses k3_InvalidPasses k5_InvalidPasses "ValueError.__new__"))
    (er_InvalidPasses : PySem.HandSPX.refsVE bm_InvalidPasses = true)
    (e1_InvalidPasses : PySem.W.findIn K (.ref C_InvalidPasses) "__setattr__" = some (some (.builtin "object.__setattr__")))
    (e2_InvalidPasses : PySem.W.findIn K (.ref C_InvalidPasses) "__getattribute__" = some (some (.builtin "BaseException.__getattribute__")))
    (e3_InvalidPasses : PySem.W.findIn K (.ref C_InvalidPasses) "__getattr__" = some none)
    (e4_InvalidPasses : PySem.W.subIn K (.ref C_InvalidPasses) (.type "BaseException") = some true)
    (e5_InvalidPasses : PySem.W.hasDictIn K C_InvalidPasses = true)
    (e6_InvalidPasses : PySem.W.findIn K (.ref C_InvalidPasses) "index" = some none)
    (e7_InvalidPasses : PySem.W.findIn K (.ref C_InvalidPasses) "__init__" = some (some (.ref fI_InvalidPasses)))
    (e8_InvalidPasses : PySem.W.typeIn K (.ref fI_InvalidPasses) = some (.type "function"))
    (e9_InvalidPasses : PySem.W.keepIn K (.ref C_InvalidPasses) = true)
    (e10_InvalidPasses : PySem.W.typeIn K (.ref C_InvalidPasses) = some (.type "type"))
    (e11_InvalidPasses : PySem.W.exmOne K (.ref C_InvalidPasses) (.ref C_InvalidPasses) = some true)
    (e12_InvalidPasses : PySem.W.ks_superIn K C_InvalidPasses C_InvalidPasses "__init__" = some (some (.builtin "ValueError.__init__")))
    (e13_InvalidPasses : PySem.W.subIn K (.ref C_InvalidPasses) (.type "ValueError") = some true)
    (e14_InvalidPasses : PySem.W.mroIn K C_InvalidPasses (.ref C_InvalidPasses) = some true)
    (e15_InvalidPasses : (PySem.W.clsIn K C_InvalidPasses).isSome = true)
    (e16_InvalidPasses : PySem.W.findIn K (.ref C_InvalidPasses) "__class__" = some (some (.builtin "object.__class__")))
    (e17_InvalidPasses : PySem.W.mroIn K C_InvalidPasses (.type "object") = some true)
    (f1_InvalidPasses : K.lookup fI_InvalidPasses = some ⟨oc_InvalidPasses, od_InvalidPasses, .func (PySem.W.ksFn "__init__" "InvalidPasses.__init__" (defArgs s_InvalidPasses_init) (defBody s_InvalidPasses_init) (defScope s_InvalidPasses_init) .none .none dc_InvalidPasses pm_InvalidPasses an_InvalidPasses (.ref cda_InvalidPasses) ct_InvalidPasses xx_InvalidPasses), sl_InvalidPasses⟩)
    (f2_InvalidPasses : PySem.W.codeIn K (.ref cda_InvalidPasses) "InvalidPasses.__init__" = true)
    (f3_InvalidPasses : K.lookup cda_InvalidPasses = some ⟨ccl_InvalidPasses, cdd_InvalidPasses, .fields vs_InvalidPasses, ccs_InvalidPasses⟩)
    (f4_InvalidPasses : vs_InvalidPasses[2]? = some (.str fl_InvalidPasses tf_InvalidPasses))
    (f5_InvalidPasses : ((P.main.file : Str) == fl_InvalidPasses) = true)
    (f6_InvalidPasses : K.lookup xx_InvalidPasses = some ⟨cl_InvalidPasses, cld_InvalidPasses, .cell (some (.ref C_InvalidPasses)), csl_InvalidPasses⟩)
    (ea_InvalidRotation : PySem.W.nsIn K mainGlobals "InvalidRotation" = some (some (.ref C_InvalidRotation)))
    (el_InvalidRotation : K.lookup C_InvalidRotation = some (PySem.excClassObj nm_InvalidRotation q_InvalidRotation C_InvalidRotation N_InvalidRotation bs_InvalidRotation bm_InvalidRotation true sn_InvalidRotation sub_InvalidRotation ab_InvalidRotation col_InvalidRotation dd_InvalidRotation k0_InvalidRotation k1_InvalidRotation k2_InvalidRotation k3_InvalidRotation k5_InvalidRotation "ValueError.__new__"))
    (er_InvalidRotation : PySem.HandSPX.refsVE bm_InvalidRotation = true)
    (e1_InvalidRotation : PySem.W.findIn K (.ref C_InvalidRotation) "__setattr__" = some (some (.builtin "object.__setattr__")))
    (e2_InvalidRotation : PySem.W.findIn K (.ref C_InvalidRotation) "__getattribute__" = some (some (.builtin "BaseException.__getattribute__")))
    (e3_InvalidRotation : PySem.W.findIn K (.ref C_InvalidRotation) "__getattr__" = some none)
    (e4_InvalidRotation : PySem.W.subIn K (.ref C_InvalidRotation) (.type "BaseException") = some true)
    (e5_InvalidRotation : PySem.W.hasDictIn K C_InvalidRotation = true)
    (e6_InvalidRotation : PySem.W.findIn K (.ref C_InvalidRotation) "given" = some none)
    (e7_InvalidRotation : PySem.W.findIn K (.ref C_InvalidRotation) "__init__" = some (some (.ref fI_InvalidRotation)))
    (e8_InvalidRotation : PySem.W.typeIn K (.ref fI_InvalidRotation) = some (.type "function"))
    (e9_InvalidRotation : PySem.W.keepIn K (.ref C_InvalidRotation) = true)
    (e10_InvalidRotation : PySem.W.typeIn K (.ref C_InvalidRotation) = some (.type "type"))
    (e11_InvalidRotation : PySem.W.exmOne K (.ref C_InvalidRotation) (.ref C_InvalidRotation) = some true)
    (e12_InvalidRotation : PySem.W.ks_superIn K C_InvalidRotation C_InvalidRotation "__init__" = some (some (.builtin "ValueError.__init__")))
    (e13_InvalidRotation : PySem.W.subIn K (.ref C_InvalidRotation) (.type "ValueError") = some true)
    (e14_InvalidRotation : PySem.W.mroIn K C_InvalidRotation (.ref C_InvalidRotation) = some true)
    (e15_InvalidRotation : (PySem.W.clsIn K C_InvalidRotation).isSome = true)
    (e16_InvalidRotation : PySem.W.findIn K (.ref C_InvalidRotation) "__class__" = some (some (.builtin "object.__class__")))
    (e17_InvalidRotation : PySem.W.mroIn K C_InvalidRotation (.type "object") = some true)
    (f1_InvalidRotation : K.lookup fI_InvalidRotation = some ⟨oc_InvalidRotation, od_InvalidRotation, .func (PySem.W.ksFn "__init__" "InvalidRotation.__init__" (defArgs s_InvalidRotation_init) (defBody s_InvalidRotation_init) (defScope s_InvalidRotation_init) .none .none dc_InvalidRotation pm_InvalidRotation an_InvalidRotation (.ref cda_InvalidRotation) ct_InvalidRotation xx_InvalidRotation), sl_InvalidRotation⟩)
    (f2_InvalidRotation : PySem.W.codeIn K (.ref cda_InvalidRotation) "InvalidRotation.__init__" = true)
    (f3_InvalidRotation : K.lookup cda_InvalidRotation = some ⟨ccl_InvalidRotation, cdd_InvalidRotation, .fields vs_InvalidRotation, ccs_InvalidRotation⟩)
    (f4_InvalidRotation : vs_InvalidRotation[2]? = some (.str fl_InvalidRotation tf_InvalidRotation))
    (f5_InvalidRotation : ((P.main.file : Str) == fl_InvalidRotation) = true)
    (f6_InvalidRotation : K.lookup xx_InvalidRotation = some ⟨cl_InvalidRotation, cld_InvalidRotation, .cell (some (.ref C_InvalidRotation)), csl_InvalidRotation⟩)
    (ea_InvalidText : PySem.W.nsIn K mainGlobals "InvalidText" = some (some (.ref C_InvalidText)))
    (el_InvalidText : K.lookup C_InvalidText = some (PySem.excClassObj nm_InvalidText q_InvalidText C_InvalidText N_InvalidText bs_InvalidText bm_InvalidText true sn_InvalidText sub_InvalidText ab_InvalidText col_InvalidText dd_InvalidText k0_InvalidText k1_InvalidText k2_InvalidText k3_InvalidText k5_InvalidText "ValueError.__new__"))
    (er_InvalidText : PySem.HandSPX.refsVE bm_InvalidText = true)
    (e1_InvalidText : PySem.W.findIn K (.ref C_InvalidText) "__setattr__" = some (some (.builtin "object.__setattr__")))
    (e2_InvalidText : PySem.W.findIn K (.ref C_InvalidText) "__getattribute__" = some (some (.builtin "BaseException.__getattribute__")))
    (e3_InvalidText : PySem.W.findIn K (.ref C_InvalidText) "__getattr__" = some none)
    (e4_InvalidText : PySem.W.subIn K (.ref C_InvalidText) (.type "BaseException") = some true)
    (e5_InvalidText : PySem.W.hasDictIn K C_InvalidText = true)
    (e6_InvalidText : PySem.W.findIn K (.ref C_InvalidText) "index" = some none)
    (e7_InvalidText : PySem.W.findIn K (.ref C_InvalidText) "__init__" = some (some (.ref fI_InvalidText)))
    (e8_InvalidText : PySem.W.typeIn K (.ref fI_InvalidText) = some (.type "function"))
    (e9_InvalidText : PySem.W.keepIn K (.ref C_InvalidText) = true)
    (e10_InvalidText : PySem.W.typeIn K (.ref C_InvalidText) = some (.type "type"))
    (e11_InvalidText : PySem.W.exmOne K (.ref C_InvalidText) (.ref C_InvalidText) = some true)
    (e12_InvalidText : PySem.W.ks_superIn K C_InvalidText C_InvalidText "__init__" = some (some (.builtin "ValueError.__init__")))
    (e13_InvalidText : PySem.W.subIn K (.ref C_InvalidText) (.type "ValueError") = some true)
    (e14_InvalidText : PySem.W.mroIn K C_InvalidText (.ref C_InvalidText) = some true)
    (e15_InvalidText : (PySem.W.clsIn K C_InvalidText).isSome = true)
    (e16_InvalidText : PySem.W.findIn K (.ref C_InvalidText) "__class__" = some (some (.builtin "object.__class__")))
    (e17_InvalidText : PySem.W.mroIn K C_InvalidText (.type "object") = some true)
    (f1_InvalidText : K.lookup fI_InvalidText = some ⟨oc_InvalidText, od_InvalidText, .func (PySem.W.ksFn "__init__" "InvalidText.__init__" (defArgs s_InvalidText_init) (defBody s_InvalidText_init) (defScope s_InvalidText_init) .none .none dc_InvalidText pm_InvalidText an_InvalidText (.ref cda_InvalidText) ct_InvalidText xx_InvalidText), sl_InvalidText⟩)
    (f2_InvalidText : PySem.W.codeIn K (.ref cda_InvalidText) "InvalidText.__init__" = true)
    (f3_InvalidText : K.lookup cda_InvalidText = some ⟨ccl_InvalidText, cdd_InvalidText, .fields vs_InvalidText, ccs_InvalidText⟩)
    (f4_InvalidText : vs_InvalidText[2]? = some (.str fl_InvalidText tf_InvalidText))
    (f5_InvalidText : ((P.main.file : Str) == fl_InvalidText) = true)
    (f6_InvalidText : K.lookup xx_InvalidText = some ⟨cl_InvalidText, cld_InvalidText, .cell (some (.ref C_InvalidText)), csl_InvalidText⟩)
    (ea_InvalidTriangle : PySem.W.nsIn K mainGlobals "InvalidTriangle" = some (some (.ref C_InvalidTriangle)))
    (el_InvalidTriangle : K.lookup C_InvalidTriangle = some (PySem.excClassObj nm_InvalidTriangle q_InvalidTriangle C_InvalidTriangle N_InvalidTriangle bs_InvalidTriangle bm_InvalidTriangle true sn_InvalidTriangle sub_InvalidTriangle ab_InvalidTriangle col_InvalidTriangle dd_InvalidTriangle k0_InvalidTriangle k1_InvalidTriangle k2_InvalidTriangle k3_InvalidTriangle k5_InvalidTriangle "ValueError.__new__"))
    (er_InvalidTriangle : PySem.HandSPX.refsVE bm_InvalidTriangle = true)
    (e1_InvalidTriangle : PySem.W.findIn K (.ref C_InvalidTriangle) "__setattr__" = some (some (.builtin "object.__setattr__")))
    (e2_InvalidTriangle : PySem.W.findIn K (.ref C_InvalidTriangle) "__getattribute__" = some (some (.builtin "BaseException.__getattribute__")))
    (e3_InvalidTriangle : PySem.W.findIn K (.ref C_InvalidTriangle) "__getattr__" = some none)
    (e4_InvalidTriangle : PySem.W.subIn K (.ref C_InvalidTriangle) (.type "BaseException") = some true)
    (e5_InvalidTriangle : PySem.W.hasDictIn K C_InvalidTriangle = true)
    (e6_InvalidTriangle : PySem.W.findIn K (.ref C_InvalidTriangle) "given" = some none)
    (e7_InvalidTriangle : PySem.W.findIn K (.ref C_InvalidTriangle) "__init__" = some (some (.ref fI_InvalidTriangle)))
    (e8_InvalidTriangle : PySem.W.typeIn K (.ref fI_InvalidTriangle) = some (.type "function"))
    (e9_InvalidTriangle : PySem.W.keepIn K (.ref C_InvalidTriangle) = true)
    (e10_InvalidTriangle : PySem.W.typeIn K (.ref C_InvalidTriangle) = some (.type "type"))
    (e11_InvalidTriangle : PySem.W.exmOne K (.ref C_InvalidTriangle) (.ref C_InvalidTriangle) = some true)
    (e12_InvalidTriangle : PySem.W.ks_superIn K C_InvalidTriangle C_InvalidTriangle "__init__" = some (some (.builtin "ValueError.__init__")))
    (e13_InvalidTriangle : PySem.W.subIn K (.ref C_InvalidTriangle) (.type "ValueError") = some true)
    (e14_InvalidTriangle : PySem.W.mroIn K C_InvalidTriangle (.ref C_InvalidTriangle) = some true)
    (e15_InvalidTriangle : (PySem.W.clsIn K C_InvalidTriangle).isSome = true)
    (e16_InvalidTriangle : PySem.W.findIn K (.ref C_InvalidTriangle) "__class__" = some (some (.builtin "object.__class__")))
    (e17_InvalidTriangle : PySem.W.mroIn K C_InvalidTriangle (.type "object") = some true)
    (f1_InvalidTriangle : K.lookup fI_InvalidTriangle = some ⟨oc_InvalidTriangle, od_InvalidTriangle, .func (PySem.W.ksFn "__init__" "InvalidTriangle.__init__" (defArgs s_InvalidTriangle_init) (defBody s_InvalidTriangle_init) (defScope s_InvalidTriangle_init) .none .none dc_InvalidTriangle pm_InvalidTriangle an_InvalidTriangle (.ref cda_InvalidTriangle) ct_InvalidTriangle xx_InvalidTriangle), sl_InvalidTriangle⟩)
    (f2_InvalidTriangle : PySem.W.codeIn K (.ref cda_InvalidTriangle) "InvalidTriangle.__init__" = true)
    (f3_InvalidTriangle : K.lookup cda_InvalidTriangle = some ⟨ccl_InvalidTriangle, cdd_InvalidTriangle, .fields vs_InvalidTriangle, ccs_InvalidTriangle⟩)
    (f4_InvalidTriangle : vs_InvalidTriangle[2]? = some (.str fl_InvalidTriangle tf_InvalidTriangle))
    (f5_InvalidTriangle : ((P.main.file : Str) == fl_InvalidTriangle) = true)
    (f6_InvalidTriangle : K.lookup xx_InvalidTriangle = some ⟨cl_InvalidTriangle, cld_InvalidTriangle, .cell (some (.ref C_InvalidTriangle)), csl_InvalidTriangle⟩)
    (ea_InvalidVertex : PySem.W.nsIn K mainGlobals "InvalidVertex" = some (some (.ref C_InvalidVertex)))
    (el_InvalidVertex : K.lookup C_InvalidVertex = some (PySem.excClassObj nm_InvalidVertex q_InvalidVertex C_InvalidVertex N_InvalidVertex bs_InvalidVertex bm_InvalidVertex true sn_InvalidVertex sub_InvalidVertex ab_InvalidVertex col_InvalidVertex dd_InvalidVertex k0_InvalidVertex k1_InvalidVertex k2_InvalidVertex k3_InvalidVertex k5_InvalidVertex "ValueError.__new__"))
    (er_InvalidVertex : PySem.HandSPX.refsVE bm_InvalidVertex = true)
    (e1_InvalidVertex : PySem.W.findIn K (.ref C_InvalidVertex) "__setattr__" = some (some (.builtin "object.__setattr__")))
    (e2_InvalidVertex : PySem.W.findIn K (.ref C_InvalidVertex) "__getattribute__" = some (some (.builtin "BaseException.__getattribute__")))
    (e3_InvalidVertex : PySem.W.findIn K (.ref C_InvalidVertex) "__getattr__" = some none)
    (e4_InvalidVertex : PySem.W.subIn K (.ref C_InvalidVertex) (.type "BaseException") = some true)
    (e5_InvalidVertex : PySem.W.hasDictIn K C_InvalidVertex = true)
    (e6_InvalidVertex : PySem.W.findIn K (.ref C_InvalidVertex) "given" = some none)
    (e7_InvalidVertex : PySem.W.findIn K (.ref C_InvalidVertex) "__init__" = some (some (.ref fI_InvalidVertex)))
    (e8_InvalidVertex : PySem.W.typeIn K (.ref fI_InvalidVertex) = some (.type "function"))
    (e9_InvalidVertex : PySem.W.keepIn K (.ref C_InvalidVertex) = true)
    (e10_InvalidVertex : PySem.W.typeIn K (.ref C_InvalidVertex) = some (.type "type"))
    (e11_InvalidVertex : PySem.W.exmOne K (.ref C_InvalidVertex) (.ref C_InvalidVertex) = some true)
    (e12_InvalidVertex : PySem.W.ks_superIn K C_InvalidVertex C_InvalidVertex "__init__" = some (some (.builtin "ValueError.__init__")))
    (e13_InvalidVertex : PySem.W.subIn K (.ref C_InvalidVertex) (.type "ValueError") = some true)
    (e14_InvalidVertex : PySem.W.mroIn K C_InvalidVertex (.ref C_InvalidVertex) = some true)
    (e15_InvalidVertex : (PySem.W.clsIn K C_InvalidVertex).isSome = true)
    (e16_InvalidVertex : PySem.W.findIn K (.ref C_InvalidVertex) "__class__" = some (some (.builtin "object.__class__")))
    (e17_InvalidVertex : PySem.W.mroIn K C_InvalidVertex (.type "object") = some true)
    (f1_InvalidVertex : K.lookup fI_InvalidVertex = some ⟨oc_InvalidVertex, od_InvalidVertex, .func (PySem.W.ksFn "__init__" "InvalidVertex.__init__" (defArgs s_InvalidVertex_init) (defBody s_InvalidVertex_init) (defScope s_InvalidVertex_init) .none .none dc_InvalidVertex pm_InvalidVertex an_InvalidVertex (.ref cda_InvalidVertex) ct_InvalidVertex xx_InvalidVertex), sl_InvalidVertex⟩)
    (f2_InvalidVertex : PySem.W.codeIn K (.ref cda_InvalidVertex) "InvalidVertex.__init__" = true)
    (f3_InvalidVertex : K.lookup cda_InvalidVertex = some ⟨ccl_InvalidVertex, cdd_InvalidVertex, .fields vs_InvalidVertex, ccs_InvalidVertex⟩)
    (f4_InvalidVertex : vs_InvalidVertex[2]? = some (.str fl_InvalidVertex tf_InvalidVertex))
    (f5_InvalidVertex : ((P.main.file : Str) == fl_InvalidVertex) = true)
    (f6_InvalidVertex : K.lookup xx_InvalidVertex = some ⟨cl_InvalidVertex, cld_InvalidVertex, .cell (some (.ref C_InvalidVertex)), csl_InvalidVertex⟩)
    (ea_TooMany : PySem.W.nsIn K mainGlobals "TooMany" = some (some (.ref C_TooMany)))
    (el_TooMany : K.lookup C_TooMany = some (PySem.excClassObj nm_TooMany q_TooMany C_TooMany N_TooMany bs_TooMany bm_TooMany true sn_TooMany sub_TooMany ab_TooMany col_TooMany dd_TooMany k0_TooMany k1_TooMany k2_TooMany k3_TooMany k5_TooMany "ValueError.__new__"))
    (er_TooMany : PySem.HandSPX.refsVE bm_TooMany = true)
    (e1_TooMany : PySem.W.findIn K (.ref C_TooMany) "__setattr__" = some (some (.builtin "object.__setattr__")))
    (e2_TooMany : PySem.W.findIn K (.ref C_TooMany) "__getattribute__" = some (some (.builtin "BaseException.__getattribute__")))
    (e3_TooMany : PySem.W.findIn K (.ref C_TooMany) "__getattr__" = some none)
    (e4_TooMany : PySem.W.subIn K (.ref C_TooMany) (.type "BaseException") = some true)
    (e5_TooMany : PySem.W.hasDictIn K C_TooMany = true)
    (e6_TooMany : PySem.W.findIn K (.ref C_TooMany) "given" = some none)
    (e7_TooMany : PySem.W.findIn K (.ref C_TooMany) "__init__" = some (some (.ref fI_TooMany)))
    (e8_TooMany : PySem.W.typeIn K (.ref fI_TooMany) = some (.type "function"))
    (e9_TooMany : PySem.W.keepIn K (.ref C_TooMany) = true)
    (e10_TooMany : PySem.W.typeIn K (.ref C_TooMany) = some (.type "type"))
    (e11_TooMany : PySem.W.exmOne K (.ref C_TooMany) (.ref C_TooMany) = some true)
    (e12_TooMany : PySem.W.ks_superIn K C_TooMany C_TooMany "__init__" = some (some (.builtin "ValueError.__init__")))
    (e13_TooMany : PySem.W.subIn K (.ref C_TooMany) (.type "ValueError") = some true)
    (e14_TooMany : PySem.W.mroIn K C_TooMany (.ref C_TooMany) = some true)
    (e15_TooMany : (PySem.W.clsIn K C_TooMany).isSome = true)
    (e16_TooMany : PySem.W.findIn K (.ref C_TooMany) "__class__" = some (some (.builtin "object.__class__")))
    (e17_TooMany : PySem.W.mroIn K C_TooMany (.type "object") = some true)
    (f1_TooMany : K.lookup fI_TooMany = some ⟨oc_TooMany, od_TooMany, .func (PySem.W.ksFn "__init__" "TooMany.__init__" (defArgs s_TooMany_init) (defBody s_TooMany_init) (defScope s_TooMany_init) .none .none dc_TooMany pm_TooMany an_TooMany (.ref cda_TooMany) ct_TooMany xx_TooMany), sl_TooMany⟩)
    (f2_TooMany : PySem.W.codeIn K (.ref cda_TooMany) "TooMany.__init__" = true)
    (f3_TooMany : K.lookup cda_TooMany = some ⟨ccl_TooMany, cdd_TooMany, .fields vs_TooMany, ccs_TooMany⟩)
    (f4_TooMany : vs_TooMany[2]? = some (.str fl_TooMany tf_TooMany))
    (f5_TooMany : ((P.main.file : Str) == fl_TooMany) = true)
    (f6_TooMany : K.lookup xx_TooMany = some ⟨cl_TooMany, cld_TooMany, .cell (some (.ref C_TooMany)), csl_TooMany⟩)
    (ga_LinkError : PySem.W.nsIn K mainGlobals "LinkError" = some (some (.ref CB_LinkError)))
    (gk_InvalidGraph_LinkError : PySem.W.kitOne K (.ref C_InvalidGraph) (.ref CB_LinkError) = some true)
    (gk_InvalidText_LinkError : PySem.W.kitOne K (.ref C_InvalidText) (.ref CB_LinkError) = some true)
    (gk_TooMany_LinkError : PySem.W.kitOne K (.ref C_TooMany) (.ref CB_LinkError) = some true)
    (z_cls : clsChk K errs_all = true)
    (zx_InvalidGraph : PySem.W.exmOne K (.ref C_InvalidGraph) (.ref CB_LinkError) = some true)
    (zv_InvalidGraph : PySem.W.kitOne K (.ref C_InvalidGraph) (.type "ValueError") = some true)
    (zx_InvalidText : PySem.W.exmOne K (.ref C_InvalidText) (.ref CB_LinkError) = some true)
    (zv_InvalidText : PySem.W.kitOne K (.ref C_InvalidText) (.type "ValueError") = some true)
    (zx_TooMany : PySem.W.exmOne K (.ref C_TooMany) (.ref CB_LinkError) = some true)
    (zv_TooMany : PySem.W.kitOne K (.ref C_TooMany) (.type "ValueError") = some true)
    (z_fl_given : flChk K errs_given "given" = true)
    (z_fl_index : flChk K errs_index "index" = true)
    (z_is_InvalidEdge : isChk K errs_all ["InvalidEdge"] (.ref C_InvalidEdge) = true)
    (z_is_InvalidGraph : isChk K errs_all ["InvalidGraph"] (.ref C_InvalidGraph) = true)
    (z_is_InvalidLines : isChk K errs_all ["InvalidLines"] (.ref C_InvalidLines) = true)
    (z_is_InvalidMoves : isChk K errs_all ["InvalidMoves"] (.ref C_InvalidMoves) = true)
    (z_is_InvalidNumber : isChk K errs_all ["InvalidNumber"] (.ref C_InvalidNumber) = true)
    (z_is_InvalidPasses : isChk K errs_all ["InvalidPasses"] (.ref C_InvalidPasses) = true)
    (z_is_InvalidRotation : isChk K errs_all ["InvalidRotation"] (.ref C_InvalidRotation) = true)
    (z_is_InvalidText : isChk K errs_all ["InvalidText"] (.ref C_InvalidText) = true)
    (z_is_InvalidTriangle : isChk K errs_all ["InvalidTriangle"] (.ref C_InvalidTriangle) = true)
    (z_is_InvalidVertex : isChk K errs_all ["InvalidVertex"] (.ref C_InvalidVertex) = true)
    (z_is_LinkError : isChk K errs_all errs_all (.ref CB_LinkError) = true)
    (z_is_TooMany : isChk K errs_all ["TooMany"] (.ref C_TooMany) = true)
    (z_is_ValueError : isChk K errs_all errs_all (.type "ValueError") = true)
    (z_isn_LookupError_TypeError_ArithmeticError : isChkN K errs_all [] [.type "LookupError", .type "TypeError", .type "ArithmeticError"] = true)
    (zq_LinkError : PySem.W.excIn K CB_LinkError PySem.HandSPX.veTail "ValueError.__new__" = true)
    (zk_LinkError : PySem.W.keepIn K (.ref CB_LinkError) = true) :
    ∃ (fd : FuncData) (ts : Tbs), ts.map (·.1) = ([] : List Str) ∧ TbsOk K h ts ∧ (∀ (s : Shared) (u : Value), BindsTo s fd ⟨[u], []⟩ [("script", u)]) ∧ ∀ base : Heap, K.In base → base.Ns mainGlobals mg → TbsAt mg base ts → FnG P w K mg base 5 fa fd ["script"] m_law := by
  have e := hfa.symm.trans (PySem.W.mg_of X G a9)
  cases e
  have hT : TbsOk K h ([] : Tbs) := ⟨fun p hp => absurd hp List.not_mem_nil,
    fun p hp => absurd hp List.not_mem_nil,
    fun p hp => absurd hp List.not_mem_nil, by simp⟩
  refine ⟨PySem.W.fnOf "law" "law" (defArgs s_law) (defBody s_law) (defScope s_law) .none kV9 dc9 pm9 an9 cd9 ct9, [], rfl, hT, fun s u => .of_eq rfl, fun base hin hns hat => ?_⟩
  exact ok_law (P := P) (w := w) (K := K) (mg := mg) (base := base) {
    zg3 := zg3,
    zg4 := zg4,
    z_cls := z_cls,
    zx_InvalidGraph := zx_InvalidGraph,
    zv_InvalidGraph := zv_InvalidGraph,
    zx_InvalidText := zx_InvalidText,
    zv_InvalidText := zv_InvalidText,
    zx_TooMany := zx_TooMany,
    zv_TooMany := zv_TooMany,
    z_fl_given := z_fl_given,
    z_fl_index := z_fl_index,
    z_is_InvalidEdge := z_is_InvalidEdge,
    z_is_InvalidGraph := z_is_InvalidGraph,
    z_is_InvalidLines := z_is_InvalidLines,
    z_is_InvalidMoves := z_is_InvalidMoves,
    z_is_InvalidNumber := z_is_InvalidNumber,
    z_is_InvalidPasses := z_is_InvalidPasses,
    z_is_InvalidRotation := z_is_InvalidRotation,
    z_is_InvalidText := z_is_InvalidText,
    z_is_InvalidTriangle := z_is_InvalidTriangle,
    z_is_InvalidVertex := z_is_InvalidVertex,
    z_is_LinkError := z_is_LinkError,
    z_is_TooMany := z_is_TooMany,
    z_is_ValueError := z_is_ValueError,
    z_isn_LookupError_TypeError_ArithmeticError := z_isn_LookupError_TypeError_ArithmeticError,
    E0_LinkError := ⟨PySem.W.mg_of X G ga_LinkError, ga_LinkError, zq_LinkError, zk_LinkError⟩,
    a__law_well := f0, fd__law_well := _, F__law_well := fun_mk (st := s__law_well) l0 c0 k0, g__law_well := PySem.W.mg_of X G a0,
    a__law_draw := f1, fd__law_draw := _, F__law_draw := fun_mk (st := s__law_draw) l1 c1 k1, g__law_draw := PySem.W.mg_of X G a1,
    a__law_pick := f2, fd__law_pick := _, F__law_pick := fun_mk (st := s__law_pick) l2 c2 k2, g__law_pick := PySem.W.mg_of X G a2,
    a__law_strange := f3, fd__law_strange := _, F__law_strange := fun_mk (st := s__law_strange) l3 c3 k3, g__law_strange := PySem.W.mg_of X G a3,
    a__law_made := f4, fd__law_made := _, F__law_made := fun_mk (st := s__law_made) l4 c4 k4, g__law_made := PySem.W.mg_of X G a4,
    a__law_is_of := f5, fd__law_is_of := _, F__law_is_of := fun_mk (st := s__law_is_of) l5 c5 k5, g__law_is_of := PySem.W.mg_of X G a5,
    a__law_is_caught := f6, fd__law_is_caught := _, F__law_is_caught := fun_mk (st := s__law_is_caught) l6 c6 k6, g__law_is_caught := PySem.W.mg_of X G a6,
    a__law_is_plain := f7, fd__law_is_plain := _, F__law_is_plain := fun_mk (st := s__law_is_plain) l7 c7 k7, g__law_is_plain := PySem.W.mg_of X G a7,
    a__law_right := f8, fd__law_right := _, F__law_right := fun_mk (st := s__law_right) l8 c8 k8, g__law_right := PySem.W.mg_of X G a8,
    a_law := fa, fd_law := _, F_law := fun_mk (st := s_law) l9 c9 k9, g_law := PySem.W.mg_of X G a9,
    n_ArithmeticError := PySem.W.mg_none_of X G z0,
    n_LookupError := PySem.W.mg_none_of X G z1,
    n_TypeError := PySem.W.mg_none_of X G z2,
    n_ValueError := PySem.W.mg_none_of X G z3,
    n_abs := PySem.W.mg_none_of X G z4,
    n_int := PySem.W.mg_none_of X G z5,
    n_isinstance := PySem.W.mg_none_of X G z6,
    n_len := PySem.W.mg_none_of X G z7,
    n_max := PySem.W.mg_none_of X G z8,
    n_min := PySem.W.mg_none_of X G z9,
    n_range := PySem.W.mg_none_of X G z10,
    n_repr := PySem.W.mg_none_of X G z11,
    C_InvalidEdge := C_InvalidEdge, fI_InvalidEdge := fI_InvalidEdge, E_InvalidEdge := ⟨{ gC := PySem.W.mg_of X G ea_InvalidEdge, cls := ⟨_, _, _, _, _, _, _, _, _, _, _, _, _, _, _, el_InvalidEdge, er_InvalidEdge⟩, sa := e1_InvalidEdge, xf := ⟨e2_InvalidEdge, e3_InvalidEdge, e4_InvalidEdge, e5_InvalidEdge⟩, no := e6_InvalidEdge, iC := e7_InvalidEdge, tC := e8_InvalidEdge, kC := e9_InvalidEdge, tyC := e10_InvalidEdge, te := e11_InvalidEdge, sup := e12_InvalidEdge, inV := e13_InvalidEdge, inC := e14_InvalidEdge, opq := zg1, gS := PySem.W.mg_none_of X G zg0, top := zg2, fk := .inl rfl, fn := ⟨_, _, _, _, _, _, _, _, _, _, _, _, _, _, _, _, _, _, _, _, _, _, f1_InvalidEdge, f2_InvalidEdge, f3_InvalidEdge, f4_InvalidEdge, f5_InvalidEdge, f6_InvalidEdge, rows_InvalidEdge, head_InvalidEdge, names_InvalidEdge⟩ }, ea_InvalidEdge, ⟨⟨e2_InvalidEdge, e3_InvalidEdge, e4_InvalidEdge, e5_InvalidEdge⟩, e15_InvalidEdge, e16_InvalidEdge, zg3, zg4, e17_InvalidEdge⟩⟩,
    C_InvalidGraph := C_InvalidGraph, fI_InvalidGraph := fI_InvalidGraph, E_InvalidGraph := ⟨{ gC := PySem.W.mg_of X G ea_InvalidGraph, cls := ⟨_, _, _, _, _, _, _, _, _, _, _, _, _, _, _, el_InvalidGraph, er_InvalidGraph⟩, sa := e1_InvalidGraph, xf := ⟨e2_InvalidGraph, e3_InvalidGraph, e4_InvalidGraph, e5_InvalidGraph⟩, no := e6_InvalidGraph, iC := e7_InvalidGraph, tC := e8_InvalidGraph, kC := e9_InvalidGraph, tyC := e10_InvalidGraph, te := e11_InvalidGraph, sup := e12_InvalidGraph, inV := e13_InvalidGraph, inC := e14_InvalidGraph, opq := zg1, gS := PySem.W.mg_none_of X G zg0, top := zg2, fk := .inl rfl, fn := ⟨_, _, _, _, _, _, _, _, _, _, _, _, _, _, _, _, _, _, _, _, _, _, f1_InvalidGraph, f2_InvalidGraph, f3_InvalidGraph, f4_InvalidGraph, f5_InvalidGraph, f6_InvalidGraph, rows_InvalidGraph, head_InvalidGraph, names_InvalidGraph⟩ }, ea_InvalidGraph, ⟨⟨e2_InvalidGraph, e3_InvalidGraph, e4_InvalidGraph, e5_InvalidGraph⟩, e15_InvalidGraph, e16_InvalidGraph, zg3, zg4, e17_InvalidGraph⟩⟩,
    C_InvalidLines := C_InvalidLines, fI_InvalidLines := fI_InvalidLines, E_InvalidLines := ⟨{ gC := PySem.W.mg_of X G ea_InvalidLines, cls := ⟨_, _, _, _, _, _, _, _, _, _, _, _, _, _, _, el_InvalidLines, er_InvalidLines⟩, sa := e1_InvalidLines, xf := ⟨e2_InvalidLines, e3_InvalidLines, e4_InvalidLines, e5_InvalidLines⟩, no := e6_InvalidLines, iC := e7_InvalidLines, tC := e8_InvalidLines, kC := e9_InvalidLines, tyC := e10_InvalidLines, te := e11_InvalidLines, sup := e12_InvalidLines, inV := e13_InvalidLines, inC := e14_InvalidLines, opq := zg1, gS := PySem.W.mg_none_of X G zg0, top := zg2, fk := .inr rfl, fn := ⟨_, _, _, _, _, _, _, _, _, _, _, _, _, _, _, _, _, _, _, _, _, _, f1_InvalidLines, f2_InvalidLines, f3_InvalidLines, f4_InvalidLines, f5_InvalidLines, f6_InvalidLines, rows_InvalidLines, head_InvalidLines, names_InvalidLines⟩ }, ea_InvalidLines, ⟨⟨e2_InvalidLines, e3_InvalidLines, e4_InvalidLines, e5_InvalidLines⟩, e15_InvalidLines, e16_InvalidLines, zg3, zg4, e17_InvalidLines⟩⟩,
    C_InvalidMoves := C_InvalidMoves, fI_InvalidMoves := fI_InvalidMoves, E_InvalidMoves := ⟨{ gC := PySem.W.mg_of X G ea_InvalidMoves, cls := ⟨_, _, _, _, _, _, _, _, _, _, _, _, _, _, _, el_InvalidMoves, er_InvalidMoves⟩, sa := e1_InvalidMoves, xf := ⟨e2_InvalidMoves, e3_InvalidMoves, e4_InvalidMoves, e5_InvalidMoves⟩, no := e6_InvalidMoves, iC := e7_InvalidMoves, tC := e8_InvalidMoves, kC := e9_InvalidMoves, tyC := e10_InvalidMoves, te := e11_InvalidMoves, sup := e12_InvalidMoves, inV := e13_InvalidMoves, inC := e14_InvalidMoves, opq := zg1, gS := PySem.W.mg_none_of X G zg0, top := zg2, fk := .inr rfl, fn := ⟨_, _, _, _, _, _, _, _, _, _, _, _, _, _, _, _, _, _, _, _, _, _, f1_InvalidMoves, f2_InvalidMoves, f3_InvalidMoves, f4_InvalidMoves, f5_InvalidMoves, f6_InvalidMoves, rows_InvalidMoves, head_InvalidMoves, names_InvalidMoves⟩ }, ea_InvalidMoves, ⟨⟨e2_InvalidMoves, e3_InvalidMoves, e4_InvalidMoves, e5_InvalidMoves⟩, e15_InvalidMoves, e16_InvalidMoves, zg3, zg4, e17_InvalidMoves⟩⟩,
    C_InvalidNumber := C_InvalidNumber, fI_InvalidNumber := fI_InvalidNumber, E_InvalidNumber := ⟨{ gC := PySem.W.mg_of X G ea_InvalidNumber, cls := ⟨_, _, _, _, _, _, _, _, _, _, _, _, _, _, _, el_InvalidNumber, er_InvalidNumber⟩, sa := e1_InvalidNumber, xf := ⟨e2_InvalidNumber, e3_InvalidNumber, e4_InvalidNumber, e5_InvalidNumber⟩, no := e6_InvalidNumber, iC := e7_InvalidNumber, tC := e8_InvalidNumber, kC := e9_InvalidNumber, tyC := e10_InvalidNumber, te := e11_InvalidNumber, sup := e12_InvalidNumber, inV := e13_InvalidNumber, inC := e14_InvalidNumber, opq := zg1, gS := PySem.W.mg_none_of X G zg0, top := zg2, fk := .inl rfl, fn := ⟨_, _, _, _, _, _, _, _, _, _, _, _, _, _, _, _, _, _, _, _, _, _, f1_InvalidNumber, f2_InvalidNumber, f3_InvalidNumber, f4_InvalidNumber, f5_InvalidNumber, f6_InvalidNumber, rows_InvalidNumber, head_InvalidNumber, names_InvalidNumber⟩ }, ea_InvalidNumber, ⟨⟨e2_InvalidNumber, e3_InvalidNumber, e4_InvalidNumber, e5_InvalidNumber⟩, e15_InvalidNumber, e16_InvalidNumber, zg3, zg4, e17_InvalidNumber⟩⟩,
    C_InvalidPasses := C_InvalidPasses, fI_InvalidPasses := fI_InvalidPasses, E_InvalidPasses := ⟨{ gC := PySem.W.mg_of X G ea_InvalidPasses, cls := ⟨_, _, _, _, _, _, _, _, _, _, _, _, _, _, _, el_InvalidPasses, er_InvalidPasses⟩, sa := e1_InvalidPasses, xf := ⟨e2_InvalidPasses, e3_InvalidPasses, e4_InvalidPasses, e5_InvalidPasses⟩, no := e6_InvalidPasses, iC := e7_InvalidPasses, tC := e8_InvalidPasses, kC := e9_InvalidPasses, tyC := e10_InvalidPasses, te := e11_InvalidPasses, sup := e12_InvalidPasses, inV := e13_InvalidPasses, inC := e14_InvalidPasses, opq := zg1, gS := PySem.W.mg_none_of X G zg0, top := zg2, fk := .inr rfl, fn := ⟨_, _, _, _, _, _, _, _, _, _, _, _, _, _, _, _, _, _, _, _, _, _, f1_InvalidPasses, f2_InvalidPasses, f3_InvalidPasses, f4_InvalidPasses, f5_InvalidPasses, f6_InvalidPasses, rows_InvalidPasses, head_InvalidPasses, names_InvalidPasses⟩ }, ea_InvalidPasses, ⟨⟨e2_InvalidPasses, e3_InvalidPasses, e4_InvalidPasses, e5_InvalidPasses⟩, e15_InvalidPasses, e16_InvalidPasses, zg3, zg4, e17_InvalidPasses⟩⟩,
    C_InvalidRotation := C_InvalidRotation, fI_InvalidRotation := fI_InvalidRotation, E_InvalidRotation := ⟨{ gC := PySem.W.mg_of X G ea_InvalidRotation, cls := ⟨_, _, _, _, _, _, _, _, _, _, _, _, _, _, _, el_InvalidRotation, er_InvalidRotation⟩, sa := e1_InvalidRotation, xf := ⟨e2_InvalidRotation, e3_InvalidRotation, e4_InvalidRotation, e5_InvalidRotation⟩, no := e6_InvalidRotation, iC := e7_InvalidRotation, tC := e8_InvalidRotation, kC := e9_InvalidRotation, tyC := e10_InvalidRotation, te := e11_InvalidRotation, sup := e12_InvalidRotation, inV := e13_InvalidRotation, inC := e14_InvalidRotation, opq := zg1, gS := PySem.W.mg_none_of X G zg0, top := zg2, fk := .inl rfl, fn := ⟨_, _, _, _, _, _, _, _, _, _, _, _, _, _, _, _, _, _, _, _, _, _, f1_InvalidRotation, f2_InvalidRotation, f3_InvalidRotation, f4_InvalidRotation, f5_InvalidRotation, f6_InvalidRotation, rows_InvalidRotation, head_InvalidRotation, names_InvalidRotation⟩ }, ea_InvalidRotation, ⟨⟨e2_InvalidRotation, e3_InvalidRotation, e4_InvalidRotation, e5_InvalidRotation⟩, e15_InvalidRotation, e16_InvalidRotation, zg3, zg4, e17_InvalidRotation⟩⟩,
    C_InvalidText := C_InvalidText, fI_InvalidText := fI_InvalidText, E_InvalidText := ⟨{ gC := PySem.W.mg_of X G ea_InvalidText, cls := ⟨_, _, _, _, _, _, _, _, _, _, _, _, _, _, _, el_InvalidText, er_InvalidText⟩, sa := e1_InvalidText, xf := ⟨e2_InvalidText, e3_InvalidText, e4_InvalidText, e5_InvalidText⟩, no := e6_InvalidText, iC := e7_InvalidText, tC := e8_InvalidText, kC := e9_InvalidText, tyC := e10_InvalidText, te := e11_InvalidText, sup := e12_InvalidText, inV := e13_InvalidText, inC := e14_InvalidText, opq := zg1, gS := PySem.W.mg_none_of X G zg0, top := zg2, fk := .inr rfl, fn := ⟨_, _, _, _, _, _, _, _, _, _, _, _, _, _, _, _, _, _, _, _, _, _, f1_InvalidText, f2_InvalidText, f3_InvalidText, f4_InvalidText, f5_InvalidText, f6_InvalidText, rows_InvalidText, head_InvalidText, names_InvalidText⟩ }, ea_InvalidText, ⟨⟨e2_InvalidText, e3_InvalidText, e4_InvalidText, e5_InvalidText⟩, e15_InvalidText, e16_InvalidText, zg3, zg4, e17_InvalidText⟩⟩,
    C_InvalidTriangle := C_InvalidTriangle, fI_InvalidTriangle := fI_InvalidTriangle, E_InvalidTriangle := ⟨{ gC := PySem.W.mg_of X G ea_InvalidTriangle, cls := ⟨_, _, _, _, _, _, _, _, _, _, _, _, _, _, _, el_InvalidTriangle, er_InvalidTriangle⟩, sa := e1_InvalidTriangle, xf := ⟨e2_InvalidTriangle, e3_InvalidTriangle, e4_InvalidTriangle, e5_InvalidTriangle⟩, no := e6_InvalidTriangle, iC := e7_InvalidTriangle, tC := e8_InvalidTriangle, kC := e9_InvalidTriangle, tyC := e10_InvalidTriangle, te := e11_InvalidTriangle, sup := e12_InvalidTriangle, inV := e13_InvalidTriangle, inC := e14_InvalidTriangle, opq := zg1, gS := PySem.W.mg_none_of X G zg0, top := zg2, fk := .inl rfl, fn := ⟨_, _, _, _, _, _, _, _, _, _, _, _, _, _, _, _, _, _, _, _, _, _, f1_InvalidTriangle, f2_InvalidTriangle, f3_InvalidTriangle, f4_InvalidTriangle, f5_InvalidTriangle, f6_InvalidTriangle, rows_InvalidTriangle, head_InvalidTriangle, names_InvalidTriangle⟩ }, ea_InvalidTriangle, ⟨⟨e2_InvalidTriangle, e3_InvalidTriangle, e4_InvalidTriangle, e5_InvalidTriangle⟩, e15_InvalidTriangle, e16_InvalidTriangle, zg3, zg4, e17_InvalidTriangle⟩⟩,
    C_InvalidVertex := C_InvalidVertex, fI_InvalidVertex := fI_InvalidVertex, E_InvalidVertex := ⟨{ gC := PySem.W.mg_of X G ea_InvalidVertex, cls := ⟨_, _, _, _, _, _, _, _, _, _, _, _, _, _, _, el_InvalidVertex, er_InvalidVertex⟩, sa := e1_InvalidVertex, xf := ⟨e2_InvalidVertex, e3_InvalidVertex, e4_InvalidVertex, e5_InvalidVertex⟩, no := e6_InvalidVertex, iC := e7_InvalidVertex, tC := e8_InvalidVertex, kC := e9_InvalidVertex, tyC := e10_InvalidVertex, te := e11_InvalidVertex, sup := e12_InvalidVertex, inV := e13_InvalidVertex, inC := e14_InvalidVertex, opq := zg1, gS := PySem.W.mg_none_of X G zg0, top := zg2, fk := .inl rfl, fn := ⟨_, _, _, _, _, _, _, _, _, _, _, _, _, _, _, _, _, _, _, _, _, _, f1_InvalidVertex, f2_InvalidVertex, f3_InvalidVertex, f4_InvalidVertex, f5_InvalidVertex, f6_InvalidVertex, rows_InvalidVertex, head_InvalidVertex, names_InvalidVertex⟩ }, ea_InvalidVertex, ⟨⟨e2_InvalidVertex, e3_InvalidVertex, e4_InvalidVertex, e5_InvalidVertex⟩, e15_InvalidVertex, e16_InvalidVertex, zg3, zg4, e17_InvalidVertex⟩⟩,
    C_TooMany := C_TooMany, fI_TooMany := fI_TooMany, E_TooMany := ⟨{ gC := PySem.W.mg_of X G ea_TooMany, cls := ⟨_, _, _, _, _, _, _, _, _, _, _, _, _, _, _, el_TooMany, er_TooMany⟩, sa := e1_TooMany, xf := ⟨e2_TooMany, e3_TooMany, e4_TooMany, e5_TooMany⟩, no := e6_TooMany, iC := e7_TooMany, tC := e8_TooMany, kC := e9_TooMany, tyC := e10_TooMany, te := e11_TooMany, sup := e12_TooMany, inV := e13_TooMany, inC := e14_TooMany, opq := zg1, gS := PySem.W.mg_none_of X G zg0, top := zg2, fk := .inl rfl, fn := ⟨_, _, _, _, _, _, _, _, _, _, _, _, _, _, _, _, _, _, _, _, _, _, f1_TooMany, f2_TooMany, f3_TooMany, f4_TooMany, f5_TooMany, f6_TooMany, rows_TooMany, head_TooMany, names_TooMany⟩ }, ea_TooMany, ⟨⟨e2_TooMany, e3_TooMany, e4_TooMany, e5_TooMany⟩, e15_TooMany, e16_TooMany, zg3, zg4, e17_TooMany⟩⟩,
    CB_LinkError := CB_LinkError, gB_LinkError := PySem.W.mg_of X G ga_LinkError,
    kb_InvalidGraph_LinkError := gk_InvalidGraph_LinkError,
    kb_InvalidText_LinkError := gk_InvalidText_LinkError,
    kb_TooMany_LinkError := gk_TooMany_LinkError }
end Pr
end

section
set_option maxHeartbeats 4000000
namespace Mi
open PySem PySem.Spec PyProof.Rows L2
open Evl (Ex)
section
variable {X : Cx} {W : WX} {pos : Pos}
def fDvm (ds : List PyData) : Option PyData := match ds with
  | [.int i, .int j] => if 0 < j ∧ j < 1073741824 then some (.tuple [.int (i / j), .int (i % j)]) else none
  | _ => none
def sPln (mv mo mi : ME) (k : Nat) : MS := fun s A => fromR (mv s A) fun v A1 => match v with
  | .p (.tuple [x, y]) => fromR (mo s A1) fun o A2 => fromR (mi s A2) fun i A3 => match putIx o i (.p x) A3 with
    | some A4 => .nx (s.set k (some (.p y))) A4
    | none => .bad
  | _ => .bad
theorem DqAll.eraseIdx {K : PySem.W.Frag} {S : Hp} : ∀ {vs : List V} {ds : List PyData} (i : Nat), DqAll K S vs ds → DqAll K S (vs.eraseIdx i) (ds.eraseIdx i)
  | _, _, _, .nil => .nil
  | _, _, 0, .cons _ q => q
  | _, _, i + 1, .cons h q => .cons h (DqAll.eraseIdx i q)
def fPopAt (a : D) (ds : List D) (A : Arn) : Option (D × Arn) := match a, ds with
  | .ref n, [.p (.int i)] => match A[n]? with
    | some (.lst xs) => if -(2 ^ 62) ≤ i ∧ i < 2 ^ 62 then (ixN xs.length i).bind fun j => (xs[j]?).map fun y => (.p y, A.set n (.lst (xs.eraseIdx j))) else none
    | _ => none
  | _, _ => none
def lSrtL (m : ML) : ML := fun s A => (m s A).bind fun ys A1 => match pairsIn ys with
  | some ps => .ok (Lw.encE (setS ps)) A1
  | none => .bad
end
end Mi
end

section
set_option maxHeartbeats 4000000
namespace Mi
open PySem PySem.Spec PyProof.Rows L2
open Evl (Ex)
def catD (a b : PyData) : Option (List PyData) := match a, b with
  | .list xs, .list ys => if xs.length + ys.length ≤ 100000 then some (xs ++ ys) else none
  | _, _ => none
def lCat (ma mb : ME) : ML := fun s A => (ma s A).bind fun a A1 => (mb s A1).bind fun b A2 => match (dataOwn a A2).bind fun x => (dataOwn b A2).bind fun y => catD x y with
  | some zs => .ok zs A2
  | none => .bad
section
variable {X : Cx}
end
section
variable {K : PySem.W.Frag} {W : WX}
end
section
variable {X : Cx} {W : WX} {a b : Expr} {ma mb : ME} {pos : Pos}
end
end Mi
end

section
set_option maxHeartbeats 4000000
namespace Mi
open PySem PySem.W
section
variable {s : Slt} {A : Arn} {N : Slt → Arn → Prop} {R : D → Arn → Prop}
@[simp] theorem To_pln {mv mo mi : ME} {k : Nat} : (sPln mv mo mi k s A).To N R ↔ (mv s A).To fun v A1 => ∃ x y, v = .p (.tuple [x, y]) ∧ (mo s A1).To fun o A2 => (mi s A2).To fun i A3 => ∃ A4, putIx o i (.p x) A3 = some A4 ∧ N (s.set k (some (.p y))) A4 := by
  unfold sPln
  rw [To_from]
  constructor
  · intro h
    refine h.mono fun v A1 h => ?_
    split at h
    · rename_i x y
      refine ⟨x, y, rfl, ?_⟩
      rw [To_from] at h
      refine h.mono fun o A2 h => ?_
      rw [To_from] at h
      refine h.mono fun i A3 h => ?_
      cases e : putIx o i (.p x) A3 with
      | none => rw [e] at h; with_unfolding_all exact h.elim
      | some A4 => rw [e] at h; exact ⟨A4, rfl, To_nx.mp h⟩
    · with_unfolding_all exact h.elim
  · intro h
    refine h.mono ?_
    rintro v A1 ⟨x, y, rfl, h⟩
    refine To_from.mpr (h.mono fun o A2 h => To_from.mpr (h.mono ?_))
    rintro i A3 ⟨A4, e, h⟩
    rw [e]
    exact To_nx.mpr h
@[simp] theorem To_cat {ma mb : ME} {PL : List PyData → Arn → Prop} : (lCat ma mb s A).To PL ↔ (ma s A).To fun a A1 => (mb s A1).To fun b A2 => ∃ zs, ((dataOwn a A2).bind fun x => (dataOwn b A2).bind fun y => catD x y) = some zs ∧ PL zs A2 := by
  unfold lCat
  rw [To_bind]
  constructor
  · intro h
    refine h.mono fun a A1 h => (To_bind.mp h).mono fun b A2 h => ?_
    split at h
    · rename_i zs e
      exact ⟨zs, e, To_ok.mp h⟩
    · exact (To_bad.mp h).elim
  · intro h
    refine h.mono fun a A1 h => To_bind.mpr (h.mono ?_)
    rintro b A2 ⟨zs, e, q⟩
    rw [e]
    exact To_ok.mpr q
theorem To_srtL {m : ML} {PL : List PyData → Arn → Prop} (h : (m s A).To fun ys A1 => ∃ ps : List Lw.Ed, ys = Lw.encE ps ∧ ps.length < 63 ∧ (∀ p, p ∈ ps → 0 ≤ p.1 ∧ p.1 < 64 ∧ 0 ≤ p.2 ∧ p.2 < 64) ∧ PL (Lw.encE (setS ps)) A1) : (lSrtL m s A).To PL := by
  unfold lSrtL
  refine To_bind.mpr (h.mono fun ys A1 => ?_)
  rintro ⟨ps, rfl, lt, bd, q⟩
  have hp : pairsIn (Lw.encE ps) = some ps := by
    unfold pairsIn
    rw [if_pos]
    · unfold Lw.encE
      rw [List.map_map]
      congr 1
      refine (List.map_congr_left fun p _ => ?_).trans (List.map_id _)
      rfl
    · refine ⟨by unfold Lw.encE; rw [List.length_map]; exact lt, ?_⟩
      rw [List.all_eq_true]
      intro x hx
      obtain ⟨p, hp, rfl⟩ := List.mem_map.mp hx
      have := bd p hp
      unfold okP Lw.encP
      simp
      omega
  rw [hp]
  exact To_ok.mpr q
end
end Mi
namespace Ld
open PySem PySem.W Mi Lw
def b__law_well : MS :=
  (sSeq (sLet 2 (mOp2 (lift2o fAdd) (mC (.int 60317)) (mOp2 (lift2 fMul) (mC (.int 7001)) (mVar 1))))
    (sSeq (sFor (iS (mSlA (mVar 0) pNo (pSome (mC (.int 12))))) (gN 3) (sLet 2 (mOp2 (lift2 fMod) (mOpN (liftN fIntT) (aCons (mOp2 (lift2o fAdd) (mOp2 (lift2o fAdd) (mOp2 (lift2 fMul) (mVar 2) (mC (.int 40163))) (mOp2 (lift2 fMul) (mOp2 (lift2 fMod) (mOpN (liftN fIntT) (aCons (mVar 3) aNil)) (mC (.int 2147483549))) (mC (.int 17)))) (mC (.int 23))) aNil)) (mC (.int 2147483549)))))
    (sSeq (sLet 4 (mIfE (mB (mOp2 (lift2 (ordD gLt)) (mVar 1) (mOpN (liftN fLen) (aCons (mVar 0) aNil)))) (mOpN (liftN fIntT) (aCons (mOp2 (lift2 fIx) (mVar 0) (mVar 1)) aNil)) (mC (.int 0))))
    (sSeq (sLet 2 (mOp2 (lift2 fMod) (mOpN (liftN fIntT) (aCons (mOp2 (lift2o fAdd) (mOp2 (lift2o fAdd) (mOp2 (lift2 fMul) (mVar 2) (mC (.int 103))) (mOp2 (lift2 fMul) (mOp2 (lift2 fMod) (mOpN (liftN fIntT) (aCons (mVar 4) aNil)) (mC (.int 2147483549))) (mC (.int 20063)))) (mC (.int 11))) aNil)) (mC (.int 2147483549))))
    (sRet (mAl (lDisp (aCons (mIfE (mOr (mB (mOp2 (lift2 (ordD gLt)) (mVar 4) (mC (.int 0)))) (mB (mOp2 (lift2 (ordD gGe)) (mVar 4) (mOp2 (lift2 fPow) (mC (.int 10)) (mC (.int 15)))))) (mOpN (liftN fAbs) (aCons (mVar 4) aNil)) (mC (.int 0))) (aCons (mVar 2) (aCons (mC (.int 0)) aNil))))))))))
def m__law_well : MF := defK 5 b__law_well
def b__law_draw : MS :=
  (sSeq (sIf (mB (mOp2 (lift2 (ordD gGt)) (mOp2 (lift2 fIx) (mVar 0) (mC (.int 0))) (mC (.int 0)))) (sSeq (sPln (mOpN (liftN fDvm) (aCons (mOp2 (lift2 fIx) (mVar 0) (mC (.int 0))) (aCons (mVar 1) aNil))) (mVar 0) (mC (.int 0)) 3)
    (sRet (mVar 3))) sSkip)
    (sSeq (sPut (mOp2 (lift2o fAdd) (mOp2 (lift2 fIx) (mVar 0) (mC (.int 2))) (mC (.int 1))) (mVar 0) (mC (.int 2)))
    (sSeq (sLet 2 (mOp2 (lift2 fMod) (mOpN (liftN fIntT) (aCons (mOp2 (lift2o fAdd) (mOp2 (lift2 fMul) (mOp2 (lift2 fIx) (mVar 0) (mC (.int 1))) (mC (.int 48271))) (mOp2 (lift2 fMul) (mC (.int 17011)) (mOp2 (lift2 fIx) (mVar 0) (mC (.int 2))))) aNil)) (mC (.int 2147483549))))
    (sSeq (sPut (mOp2 (lift2 fMod) (mOpN (liftN fIntT) (aCons (mOp2 (lift2o fAdd) (mOp2 (lift2 fMul) (mVar 2) (mOp2 (lift2o fAdd) (mOp2 (lift2 fMod) (mOpN (liftN fIntT) (aCons (mVar 2) aNil)) (mC (.int 5003))) (mC (.int 20023)))) (mOp2 (lift2 fIx) (mVar 0) (mC (.int 2)))) aNil)) (mC (.int 2147483549))) (mVar 0) (mC (.int 1)))
    (sRet (mOp2 (lift2 fMod) (mOpN (liftN fIntT) (aCons (mOp2 (lift2 fDiv) (mOp2 (lift2 fIx) (mVar 0) (mC (.int 1))) (mC (.int 971))) aNil)) (mVar 1)))))))
def m__law_draw : MF := defM 4 b__law_draw
def b__law_one : MS :=
  (sRet (mOp2 (lift2 fIx) (mVar 1) (mCall m__law_draw (aCons (mVar 0) (aCons (mOpN (liftN fLen) (aCons (mVar 1) aNil)) aNil)))))
def m__law_one : MF := defM 2 b__law_one
def b__law_mixed : MS :=
  (sSeq (sPar 2 3 (aCons (mAl (lOpN lfList (aCons (mVar 1) aNil))) (aCons (mAl (lDisp aNil)) aNil)))
    (sSeq (sWhile 100000 (mB (mOp2 (lift2 fNe) (mVar 2) (mFr (lDisp aNil)))) (sDrop (mMt isL fAppend (mVar 3) (aCons (mMt isL fPopAt (mVar 2) (aCons (mCall m__law_draw (aCons (mVar 0) (aCons (mOpN (liftN fLen) (aCons (mVar 2) aNil)) aNil))) aNil)) aNil))))
    (sRet (mVar 3))))
def m__law_mixed : MF := defM 4 b__law_mixed
def b__law_of_edges : MS :=
  (sRet (mTup (aCons (mVar 0) (aCons (mOpN (liftN fTuple) (aCons (mFr (lSrtL (lComp (iS (mVar 1)) (gTp (gMore (gN 2) (gMore (gN 3) gNone))) mYes (mTup (aCons (mOpN (liftN fMin2) (aCons (mVar 2) (aCons (mVar 3) aNil))) (aCons (mOpN (liftN fMax2) (aCons (mVar 2) (aCons (mVar 3) aNil))) aNil))) [2, 3]))) aNil)) aNil))))
def m__law_of_edges : MF := defM 4 b__law_of_edges
def b__law_read : MS :=
  (sSeq (sLet 1 (mFr (lCut (mVar 0) (mC (.str " ")))))
    (sSeq (sLet 2 (mFr (lComp (iS (mSlA (mVar 1) (pSome (mC (.int 1))) pNo)) (gN 3) mYes (mFr (lCut (mVar 3) (mC (.str "-")))) [3])))
    (sRet (mCall m__law_of_edges (aCons (mOpN (liftN fIntT) (aCons (mSlA (mOp2 (lift2 fIx) (mVar 1) (mC (.int 0))) pNo (pSome (mOp1 (lift1 fNeg) (mC (.int 1))))) aNil)) (aCons (mFr (lComp (iS (mVar 2)) (gLs (gMore (gN 4) (gMore (gN 5) gNone))) mYes (mTup (aCons (mOpN (liftN fIntT) (aCons (mVar 4) aNil)) (aCons (mOpN (liftN fIntT) (aCons (mVar 5) aNil)) aNil))) [4, 5])) aNil))))))
def m__law_read : MF := defM 6 b__law_read
def b__law_named : MS :=
  (sSeq (sLet 2 (mCall m__law_mixed (aCons (mVar 0) (aCons (mFr (lRg1 (mOp2 (lift2 fIx) (mVar 1) (mC (.int 0))))) aNil))))
    (sRet (mCall m__law_of_edges (aCons (mOp2 (lift2 fIx) (mVar 1) (mC (.int 0))) (aCons (mFr (lComp (iS (mOp2 (lift2 fIx) (mVar 1) (mC (.int 1)))) (gTp (gMore (gN 3) (gMore (gN 4) gNone))) mYes (mTup (aCons (mOp2 (lift2 fIx) (mVar 2) (mVar 3)) (aCons (mOp2 (lift2 fIx) (mVar 2) (mVar 4)) aNil))) [3, 4])) aNil)))))
def m__law_named : MF := defM 5 b__law_named
def b__law_every : MS :=
  (sSeq (sLet 1 (mFr (lDisp aNil)))
    (sSeq (sFor (iR1 (aCons (mVar 0) aNil)) (gN 2) (sLet 1 (mOp2 (lift2o fAdd) (mVar 1) (mFr (lComp (iR2 (aCons (mOp2 (lift2o fAdd) (mVar 2) (mC (.int 1))) (aCons (mVar 0) aNil))) (gN 3) mYes (mTup (aCons (mVar 2) (aCons (mVar 3) aNil))) [3])))))
    (sRet (mVar 1))))
def m__law_every : MF := defM 4 b__law_every
def b__law_random : MS :=
  (sSeq (sLet 3 (mCall m__law_mixed (aCons (mVar 0) (aCons (mCall m__law_every (aCons (mVar 1) aNil)) aNil))))
    (sRet (mTup (aCons (mVar 1) (aCons (mOpN (liftN fTuple) (aCons (mFr (lOpN lfSorted (aCons (mSlA (mFr (lComp (iS (mVar 3)) (gN 4) (mB (mOp2 (lift2 fEq) (mCall m__law_draw (aCons (mVar 0) (aCons (mVar 2) aNil))) (mC (.int 0)))) (mVar 4) [4])) pNo (pSome (mC (.int 20)))) aNil))) aNil)) aNil)))))
def m__law_random : MF := defM 5 b__law_random
def b__law_outer_one : MS :=
  (sSeq (sPar 2 3 (aCons (mAl (lComp (iR1 (aCons (mVar 1) aNil)) (gN 6) (mB (mOp2 (lift2 (ordD gGt)) (mVar 1) (mC (.int 2)))) (mTup (aCons (mVar 6) (aCons (mOp2 (lift2 fMod) (mOpN (liftN fIntT) (aCons (mOp2 (lift2o fAdd) (mVar 6) (mC (.int 1))) aNil)) (mVar 1)) aNil))) [6])) (aCons (mAl (lDisp (aCons (mFr (lRg1 (mVar 1))) aNil))) aNil)))
    (sSeq (sWhile 100000 (mB (mOp2 (lift2 fNe) (mVar 3) (mFr (lDisp aNil)))) (sSeq (sLet 4 (mMt isL fPop (mVar 3) aNil))
    (sIf (mB (mOp2 (lift2 (ordD gGt)) (mOpN (liftN fLen) (aCons (mVar 4) aNil)) (mC (.int 3)))) (sSeq (sLet 5 (mOp2 (lift2o fAdd) (mC (.int 2)) (mCall m__law_draw (aCons (mVar 0) (aCons (mOp2 (lift2 fSub) (mOpN (liftN fLen) (aCons (mVar 4) aNil)) (mC (.int 3))) aNil)))))
    (sSeq (sDrop (mMt isL fAppend (mVar 2) (aCons (mTup (aCons (mOp2 (lift2 fIx) (mVar 4) (mC (.int 0))) (aCons (mOp2 (lift2 fIx) (mVar 4) (mVar 5)) aNil))) aNil)))
    (sLet 3 (mAl (lCat (mVar 3) (mFr (lDisp (aCons (mSlA (mVar 4) pNo (pSome (mOp2 (lift2o fAdd) (mVar 5) (mC (.int 1))))) (aCons (mOp2 (lift2o fAdd) (mFr (lDisp (aCons (mOp2 (lift2 fIx) (mVar 4) (mC (.int 0))) aNil))) (mSlA (mVar 4) (pSome (mVar 5)) pNo)) aNil))))))))) sSkip)))
    (sRet (mCall m__law_named (aCons (mVar 0) (aCons (mCall m__law_of_edges (aCons (mVar 1) (aCons (mFr (lCompK (mVar 2) (gN 7) (mB (mOp2 (lift2 (ordD gGt)) (mCall m__law_draw (aCons (mVar 0) (aCons (mC (.int 6)) aNil))) (mC (.int 0)))) (mVar 7) [7])) aNil))) aNil))))))
def m__law_outer_one : MF := defM 8 b__law_outer_one
def b__law_flat_one : MS :=
  (sSeq (sPar 3 4 (aCons (mFr (lDisp (aCons (mTup (aCons (mC (.int 0)) (aCons (mC (.int 1)) aNil))) (aCons (mTup (aCons (mC (.int 0)) (aCons (mC (.int 2)) aNil))) (aCons (mTup (aCons (mC (.int 1)) (aCons (mC (.int 2)) aNil))) aNil))))) (aCons (mAl (lDisp (aCons (mTup (aCons (mC (.int 0)) (aCons (mC (.int 1)) (aCons (mC (.int 2)) aNil)))) (aCons (mTup (aCons (mC (.int 0)) (aCons (mC (.int 1)) (aCons (mC (.int 2)) aNil)))) aNil)))) aNil)))
    (sSeq (sFor (iR2 (aCons (mC (.int 3)) (aCons (mVar 1) aNil))) (gN 2) (sSeq (sLet 5 (mMt isL fPopAt (mVar 4) (aCons (mCall m__law_draw (aCons (mVar 0) (aCons (mOpN (liftN fLen) (aCons (mVar 4) aNil)) aNil))) aNil)))
    (sSeq (sLet 3 (mOp2 (lift2o fAdd) (mVar 3) (mFr (lComp (iS (mVar 5)) (gN 6) mYes (mTup (aCons (mVar 6) (aCons (mVar 2) aNil))) [6]))))
    (sLet 4 (mAl (lCat (mVar 4) (mFr (lDisp (aCons (mTup (aCons (mOp2 (lift2 fIx) (mVar 5) (mC (.int 0))) (aCons (mOp2 (lift2 fIx) (mVar 5) (mC (.int 1))) (aCons (mVar 2) aNil)))) (aCons (mTup (aCons (mOp2 (lift2 fIx) (mVar 5) (mC (.int 0))) (aCons (mOp2 (lift2 fIx) (mVar 5) (mC (.int 2))) (aCons (mVar 2) aNil)))) (aCons (mTup (aCons (mOp2 (lift2 fIx) (mVar 5) (mC (.int 1))) (aCons (mOp2 (lift2 fIx) (mVar 5) (mC (.int 2))) (aCons (mVar 2) aNil)))) aNil)))))))))))
    (sRet (mCall m__law_named (aCons (mVar 0) (aCons (mCall m__law_of_edges (aCons (mOpN (liftN fMax2) (aCons (mVar 1) (aCons (mC (.int 3)) aNil))) (aCons (mFr (lComp (iS (mVar 3)) (gN 7) (mB (mOp2 (lift2 (ordD gGt)) (mCall m__law_draw (aCons (mVar 0) (aCons (mC (.int 7)) aNil))) (mC (.int 0)))) (mVar 7) [7])) aNil))) aNil))))))
def m__law_flat_one : MF := defM 8 b__law_flat_one
def b__law_paths_one : MS :=
  (sSeq (sPar 3 4 (aCons (mCall m__law_mixed (aCons (mVar 0) (aCons (mFr (lRg1 (mVar 1))) aNil))) (aCons (mAl (lDisp aNil)) aNil)))
    (sSeq (sFor (iR1 (aCons (mOp2 (lift2 fSub) (mVar 1) (mC (.int 1))) aNil)) (gN 2) (sIf (mB (mOp2 (lift2 (ordD gGt)) (mCall m__law_draw (aCons (mVar 0) (aCons (mC (.int 4)) aNil))) (mC (.int 0)))) (sDrop (mMt isL fAppend (mVar 4) (aCons (mTup (aCons (mOp2 (lift2 fIx) (mVar 3) (mVar 2)) (aCons (mOp2 (lift2 fIx) (mVar 3) (mOp2 (lift2o fAdd) (mVar 2) (mC (.int 1)))) aNil))) aNil))) sSkip))
    (sSeq (sIf (mAnd (mB (mOp2 (lift2 (ordD gGt)) (mVar 1) (mC (.int 2)))) (mB (mOp2 (lift2 fEq) (mCall m__law_draw (aCons (mVar 0) (aCons (mC (.int 3)) aNil))) (mC (.int 0))))) (sDrop (mMt isL fAppend (mVar 4) (aCons (mTup (aCons (mOp2 (lift2 fIx) (mVar 3) (mC (.int 0))) (aCons (mOp2 (lift2 fIx) (mVar 3) (mOp2 (lift2o fAdd) (mC (.int 1)) (mCall m__law_draw (aCons (mVar 0) (aCons (mOp2 (lift2 fSub) (mVar 1) (mC (.int 1))) aNil))))) aNil))) aNil))) sSkip)
    (sRet (mCall m__law_of_edges (aCons (mVar 1) (aCons (mVar 4) aNil)))))))
def m__law_paths_one : MF := defM 5 b__law_paths_one
def b__law_split : MS :=
  (sSeq (sIf (mOr (mB (mOp2 (lift2 fEq) (mOp2 (lift2 fIx) (mVar 1) (mC (.int 1))) (mTup aNil))) (mB (mOp2 (lift2 (ordD gGt)) (mOp2 (lift2 fIx) (mVar 1) (mC (.int 0))) (mC (.int 8))))) (sRet (mVar 1)) sSkip)
    (sSeq (sAsg (mCall m__law_one (aCons (mVar 0) (aCons (mOp2 (lift2 fIx) (mVar 1) (mC (.int 1))) aNil))) (gTp (gMore (gN 3) (gMore (gN 4) gNone))))
    (sSeq (sLet 2 (mFr (lComp (iS (mOp2 (lift2 fIx) (mVar 1) (mC (.int 1)))) (gN 5) (mB (mOp2 (lift2 fNe) (mVar 5) (mTup (aCons (mVar 3) (aCons (mVar 4) aNil))))) (mVar 5) [5])))
    (sRet (mCall m__law_of_edges (aCons (mOp2 (lift2o fAdd) (mOp2 (lift2 fIx) (mVar 1) (mC (.int 0))) (mC (.int 1))) (aCons (mOp2 (lift2o fAdd) (mVar 2) (mFr (lDisp (aCons (mTup (aCons (mVar 3) (aCons (mOp2 (lift2 fIx) (mVar 1) (mC (.int 0))) aNil))) (aCons (mTup (aCons (mVar 4) (aCons (mOp2 (lift2 fIx) (mVar 1) (mC (.int 0))) aNil))) aNil))))) aNil)))))))
def m__law_split : MF := defM 6 b__law_split
def b__law_changed : MS :=
  (sSeq (sLet 2 (mCall m__law_draw (aCons (mVar 0) (aCons (mC (.int 4)) aNil))))
    (sSeq (sIf (mAnd (mB (mOp2 (lift2 fEq) (mVar 2) (mC (.int 0)))) (mB (mOp2 (lift2 fNe) (mOp2 (lift2 fIx) (mVar 1) (mC (.int 1))) (mTup aNil)))) (sSeq (sLet 3 (mCall m__law_one (aCons (mVar 0) (aCons (mOp2 (lift2 fIx) (mVar 1) (mC (.int 1))) aNil))))
    (sRet (mTup (aCons (mOp2 (lift2 fIx) (mVar 1) (mC (.int 0))) (aCons (mOpN (liftN fTuple) (aCons (mFr (lComp (iS (mOp2 (lift2 fIx) (mVar 1) (mC (.int 1)))) (gN 5) (mB (mOp2 (lift2 fNe) (mVar 5) (mVar 3))) (mVar 5) [5])) aNil)) aNil))))) sSkip)
    (sSeq (sIf (mAnd (mB (mOp2 (lift2 fEq) (mVar 2) (mC (.int 1)))) (mAnd (mB (mOp2 (lift2 (ordD gGt)) (mOp2 (lift2 fIx) (mVar 1) (mC (.int 0))) (mC (.int 1)))) (mB (mOp2 (lift2 (ordD gLt)) (mOpN (liftN fLen) (aCons (mOp2 (lift2 fIx) (mVar 1) (mC (.int 1))) aNil)) (mC (.int 18)))))) (sSeq (sLet 4 (mCall m__law_draw (aCons (mVar 0) (aCons (mOp2 (lift2 fSub) (mOp2 (lift2 fIx) (mVar 1) (mC (.int 0))) (mC (.int 1))) aNil))))
    (sRet (mCall m__law_of_edges (aCons (mOp2 (lift2 fIx) (mVar 1) (mC (.int 0))) (aCons (mOp2 (lift2o fAdd) (mFr (lOpN lfList (aCons (mOp2 (lift2 fIx) (mVar 1) (mC (.int 1))) aNil))) (mFr (lDisp (aCons (mTup (aCons (mVar 4) (aCons (mOp2 (lift2o fAdd) (mOp2 (lift2o fAdd) (mVar 4) (mC (.int 1))) (mCall m__law_draw (aCons (mVar 0) (aCons (mOp2 (lift2 fSub) (mOp2 (lift2 fSub) (mOp2 (lift2 fIx) (mVar 1) (mC (.int 0))) (mC (.int 1))) (mVar 4)) aNil)))) aNil))) aNil)))) aNil))))) sSkip)
    (sRet (mVar 1)))))
def m__law_changed : MF := defM 6 b__law_changed
def b__law_cone : MS :=
  (sRet (mCall m__law_of_edges (aCons (mOp2 (lift2o fAdd) (mOp2 (lift2 fIx) (mVar 0) (mC (.int 0))) (mC (.int 1))) (aCons (mOp2 (lift2o fAdd) (mFr (lOpN lfList (aCons (mOp2 (lift2 fIx) (mVar 0) (mC (.int 1))) aNil))) (mFr (lComp (iR1 (aCons (mOp2 (lift2 fIx) (mVar 0) (mC (.int 0))) aNil)) (gN 1) mYes (mTup (aCons (mVar 1) (aCons (mOp2 (lift2 fIx) (mVar 0) (mC (.int 0))) aNil))) [1]))) aNil))))
def m__law_cone : MF := defM 2 b__law_cone
def b__law_small : MS :=
  (sRet (mCall m__law_read (aCons (mOp2 (lift2 fIx) (mTup (aCons (mC (.str "3: 0-1 0-2 1-2")) (aCons (mC (.str "4: 0-3 1-3 2-3")) (aCons (mC (.str "4: 0-1 0-2 0-3 1-2 1-3 2-3")) (aCons (mC (.str "5: 0-2 0-3 0-4 1-2 1-3 1-4")) (aCons (mC (.str "5: 0-1 0-2 0-3 0-4 1-2 1-3 1-4 2-3 2-4 3-4")) (aCons (mC (.str "6: 0-3 0-4 0-5 1-3 1-4 1-5 2-3 2-4 2-5")) aNil))))))) (mVar 0)) aNil)))
def m__law_small : MF := defM 1 b__law_small
def b__law_graph : MS :=
  (sSeq (sPar 3 4 (aCons (mCall m__law_draw (aCons (mVar 0) (aCons (mC (.int 9)) aNil))) (aCons (mCall m__law_one (aCons (mVar 0) (aCons (mTup (aCons (mC (.int 4)) (aCons (mC (.int 5)) (aCons (mC (.int 6)) (aCons (mC (.int 7)) (aCons (mC (.int 5)) (aCons (mC (.int 6)) (aCons (mC (.int 3)) (aCons (mC (.int 8)) (aCons (mC (.int 2)) (aCons (mC (.int 1)) aNil))))))))))) aNil))) aNil)))
    (sSeq (sIf (mB (mOp2 (lift2 (ordD gLt)) (mVar 3) (mC (.int 2)))) (sRet (mCall m__law_random (aCons (mVar 0) (aCons (mVar 4) (aCons (mCall m__law_one (aCons (mVar 0) (aCons (mTup (aCons (mC (.int 2)) (aCons (mC (.int 2)) (aCons (mC (.int 3)) aNil)))) aNil))) aNil))))) sSkip)
    (sSeq (sIf (mB (mOp2 (lift2 fEq) (mVar 3) (mC (.int 2)))) (sRet (mCall m__law_paths_one (aCons (mVar 0) (aCons (mVar 4) aNil)))) sSkip)
    (sSeq (sIf (mB (mOp2 (lift2 fEq) (mVar 3) (mC (.int 3)))) (sRet (mCall m__law_outer_one (aCons (mVar 0) (aCons (mVar 4) aNil)))) sSkip)
    (sSeq (sIf (mB (mOp2 (lift2 (ordD gLt)) (mVar 3) (mC (.int 6)))) (sRet (mCall m__law_flat_one (aCons (mVar 0) (aCons (mVar 4) aNil)))) sSkip)
    (sSeq (sLet 1 (mCall m__law_named (aCons (mVar 0) (aCons (mCall m__law_small (aCons (mCall m__law_one (aCons (mVar 0) (aCons (mTup (aCons (mC (.int 5)) (aCons (mC (.int 4)) (aCons (mC (.int 5)) (aCons (mC (.int 4)) (aCons (mC (.int 3)) (aCons (mC (.int 2)) (aCons (mC (.int 1)) (aCons (mC (.int 0)) aNil))))))))) aNil))) aNil)) aNil))))
    (sSeq (sFor (iR1 (aCons (mCall m__law_draw (aCons (mVar 0) (aCons (mC (.int 3)) aNil))) aNil)) (gN 2) (sLet 1 (mCall m__law_split (aCons (mVar 0) (aCons (mVar 1) aNil)))))
    (sSeq (sLet 1 (mCall m__law_changed (aCons (mVar 0) (aCons (mCall m__law_changed (aCons (mVar 0) (aCons (mVar 1) aNil))) aNil))))
    (sRet (mIfE (mAnd (mB (mOp2 (lift2 fEq) (mVar 3) (mC (.int 8)))) (mAnd (mB (mOp2 (lift2 (ordD gLt)) (mOp2 (lift2 fIx) (mVar 1) (mC (.int 0))) (mC (.int 7)))) (mB (mOp2 (lift2 (ordD gLt)) (mOpN (liftN fLen) (aCons (mOp2 (lift2 fIx) (mVar 1) (mC (.int 1))) aNil)) (mC (.int 13)))))) (mCall m__law_named (aCons (mVar 0) (aCons (mCall m__law_cone (aCons (mVar 1) aNil)) aNil))) (mVar 1)))))))))))
def m__law_graph : MF := defM 5 b__law_graph

theorem draw {A : Arn} {n : Nat} {k : Int} (hw : Wl A n) (hp : plain A) (hk : 0 < k) (hk2 : k < 1000000) : (m__law_draw [.ref n, .p (.int k)] A).To fun d A' => (∃ i : Int, d = .p (.int i) ∧ 0 ≤ i ∧ i < k) ∧ Wup A n A' := by
  with_unfolding_all
    have hlt := hw.lt
    obtain ⟨a, b, c, hA⟩ := hw
    have hL := lst_iff.mpr hA
    have kne : k ≠ 0 := by omega
    have hf : ∀ x : Int, 0 ≤ x.fmod k ∧ x.fmod k < k := fun x => ⟨Int.fmod_nonneg_of_pos x hk, Int.fmod_lt_of_pos x hk⟩
    have hf2 : ∀ x : Int, 0 ≤ x % k ∧ x % k < k := fun x => ⟨Int.emod_nonneg x (by omega), Int.emod_lt_of_pos x hk⟩
    unfold m__law_draw
    refine To_def ?_
    unfold b__law_draw
    have hs : ∀ x : Int, (-(2 ^ 64) < x.fmod 2147483549 ∧ x.fmod 2147483549 < 2 ^ 64) := fun x => by
      have h1 := Int.fmod_nonneg_of_pos x (show (0 : Int) < 2147483549 by decide)
      have h2 := Int.fmod_lt_of_pos x (show (0 : Int) < 2147483549 by decide)
      omega
    have hd : k.natAbs < 1073741824 := by omega
    have hdv : ∀ x : Int, fDvm [.int x, .int k] = some (.tuple [.int (x / k), .int (x % k)]) := fun x => if_pos ⟨hk, by omega⟩
    have hm : ∀ x y : Int, fMul (.int (x.fmod 2147483549)) (.int y) = some (.int (x.fmod 2147483549 * y)) := fun x y => mul_ii (.inl (hs x))
    simp [hL, lst_set hlt, mod_ii, mul_ii, div_ii, kne, hd, hm, hp, hf, hdv, hf2]
    rcases Int.lt_or_le 0 a with h | h
    · exact .inr ⟨h, _, _, ⟨rfl, rfl⟩, ⟨_, rfl, hf2 a⟩, _, _, _, rfl⟩
    · exact .inl ⟨h, _, _, _, rfl⟩
theorem one {A : Arn} {n : Nat} {xs : List PyData} {c : PyData} (hw : Wl A n) (hp : plain A) (h0 : xs ≠ []) (h1 : xs.length < 100000) (hc : c = .tuple xs ∨ c = .list xs) :
    (m__law_one [.ref n, .p c] A).To fun d A' => (∃ x, d = .p x ∧ x ∈ xs) ∧ Wup A n A' := by
  have hlen : fLen [c] = some (.int xs.length) := by
    rcases hc with rfl | rfl
    · exact if_pos (by omega)
    · exact if_pos (by omega)
  have hpos : 0 < xs.length := List.length_pos_iff.mpr h0
  unfold m__law_one
  refine To_def ?_
  unfold b__law_one
  simp [hlen]
  refine (draw hw hp (k := xs.length) (by omega) (by omega)).mono ?_
  rintro _ A1 ⟨⟨i, rfl, i0, i1⟩, u⟩
  obtain ⟨j, rfl⟩ := Int.eq_ofNat_of_zero_le i0
  obtain ⟨x, hx⟩ : ∃ x, xs[j]? = some x := ⟨_, List.getElem?_eq_getElem (by omega)⟩
  have hix : fIx c (.int (j : Int)) = some x := by
    rcases hc with rfl | rfl <;> exact at_nat hx
  have ht : A1.take A.length = A1 := List.take_of_length_le (Nat.le_of_eq u.length)
  simp [hix, u.plain hp, ht]
  exact ⟨List.mem_of_getElem? hx, u⟩
def Ly (ds : List PyData) : Prop := ∀ y, y ∈ ds → y.canLay0 = true ∧ y.depth ≤ 20
theorem ly_all : ∀ xs : List PyData, Ly xs → PyData.canLayAll0 xs = true ∧ PyData.depthAll xs ≤ 20
  | [], _ => ⟨by simp [PyData.canLayAll0], by simp [PyData.depthAll]⟩
  | y :: xs, h => by
    obtain ⟨a, b⟩ := ly_all xs fun z hz => h z (List.mem_cons_of_mem _ hz)
    obtain ⟨a2, b2⟩ := h y List.mem_cons_self
    exact ⟨by simp [PyData.canLayAll0, a, a2], by rw [PyData.depthAll]; omega⟩
theorem ly_shaped {xs : List PyData} (h : Ly xs) : SeqAt.shaped (.list xs) = true := by
  obtain ⟨a, b⟩ := ly_all xs h
  unfold SeqAt.shaped
  rw [PyData.canLay0, PyData.depth, a]
  simp
  omega
theorem ne_empty {xs : List PyData} (h : Ly xs) : fNe (.list xs) (.list []) = some (.bool (!xs.isEmpty)) := by
  unfold fNe
  dsimp only
  rw [if_pos ⟨ly_shaped h, by decide⟩, PyData.eqv]
  cases xs with
  | nil => rw [PyData.eqvAll]; rfl
  | cons y ys =>
    rw [PyData.eqvAll]
    · rfl
theorem erase_perm {α : Type} : ∀ {xs : List α} {j : Nat} (h : j < xs.length), (xs[j] :: xs.eraseIdx j).Perm xs
  | x :: xs, 0, _ => List.Perm.refl _
  | x :: xs, j + 1, h => by
    have h2 : j < xs.length := by simpa using h
    show (xs[j] :: x :: xs.eraseIdx j).Perm (x :: xs)
    exact (List.Perm.swap _ _ _).trans ((erase_perm h2).cons x)
theorem popAt_l {B : Arn} {m j : Nat} {xs : List PyData} {y : PyData} (h : lst B m = some xs) (hl : xs.length ≤ 100000) (hy : xs[j]? = some y) : fPopAt (.ref m) [.p (.int (j : Int))] B = some (.p y, B.set m (.lst (xs.eraseIdx j))) := by
  have hj := (List.getElem?_eq_some_iff.mp hy).1
  unfold fPopAt
  dsimp only
  rw [lst_iff.mp h]
  dsimp only
  rw [if_pos ⟨by omega, by omega⟩]
  have e : L2.ixN xs.length (j : Int) = some j := by
    unfold L2.ixN
    rw [if_pos (by omega), if_pos (by omega)]
    rfl
  rw [e, Option.bind_some, hy]
  rfl
theorem two_at {A1 : Arn} {k : Nat} {xs ys : List PyData} (h : A1.length = k) : lst (A1 ++ [O.lst xs, O.lst ys]) k = some xs ∧ lst (A1 ++ [O.lst xs, O.lst ys]) (k + 1) = some ys := by
  subst h
  constructor
  · refine lst_iff.mpr ?_
    rw [List.getElem?_append_right (Nat.le_refl _), Nat.sub_self]
    rfl
  · refine lst_iff.mpr ?_
    rw [List.getElem?_append_right (by omega)]
    have : A1.length + 1 - A1.length = 1 := by omega
    rw [this]
    rfl
theorem two_set {A1 : Arn} {k : Nat} {x y z : O} (h : A1.length = k) : (A1 ++ [x, y]).set k z = A1 ++ [z, y] ∧ (A1 ++ [x, y]).set (k + 1) z = A1 ++ [x, z] := by
  subst h
  constructor
  · rw [List.set_append_right _ _ (Nat.le_refl _), Nat.sub_self]
    rfl
  · rw [List.set_append_right _ _ (by omega)]
    have : A1.length + 1 - A1.length = 1 := by omega
    rw [this]
    rfl
theorem two_plain {A1 : Arn} {xs ys : List PyData} (h : plain A1) : plain (A1 ++ [O.lst xs, O.lst ys]) := by
  have := plain_snoc (xs := ys) (plain_snoc (xs := xs) h)
  rw [List.append_assoc] at this
  exact this
theorem mixed {A : Arn} {n : Nat} {ds : List PyData} {c : PyData} (hw : Wl A n) (hp : plain A) (hc : c = .list ds ∨ c = .tuple ds) (hl : ds.length ≤ 1000) (hy : Ly ds) :
    (m__law_mixed [.ref n, .p c] A).To fun d A' => (∃ os : List PyData, d = .p (.list os) ∧ os.Perm ds) ∧ Wup A n A' := by
  have hlt := hw.lt
  have hlf : lfList [c] = some ds := by
    rcases hc with rfl | rfl <;> rfl
  unfold m__law_mixed
  refine To_def ?_
  unfold b__law_mixed
  simp [hlf]
  refine ⟨_, _, ⟨rfl, rfl⟩, ?_⟩
  show (whileN _ _ 100000 _ _).To _ _
  refine while_inv (fun j s B => ∃ (left os : List PyData) (A1 : Arn), s = [some (.ref n), some (.p c), some (.ref A.length), some (.ref (A.length + 1))] ∧ B = A1 ++ [.lst left, .lst os] ∧ Wup A n A1 ∧ (os ++ left).Perm ds ∧ j = left.length) ?_ 100000 ds.length _ _ (by omega) ?_
  · rintro j s B ⟨left, os, A1, rfl, rfl, up, pm, rfl⟩
    have hp1 := up.plain hp
    have hw1 := up.wl hw
    have hl1 : A1.length = A.length := up.length
    have hlen := pm.length_eq
    rw [List.length_append] at hlen
    have hly : Ly left := fun y h => hy y (pm.mem_iff.mp (List.mem_append_right _ h))
    have hne := ne_empty hly
    obtain ⟨g0, g1⟩ := two_at (xs := left) (ys := os) hl1
    have hp2 : plain (A1 ++ [O.lst left, O.lst os]) := two_plain hp1
    simp [g0, hne]
    by_cases c0 : left = []
    · left
      subst c0
      refine ⟨rfl, ?_⟩
      rw [close_r hp2 (by omega) g1, ← hl1, List.take_left]
      exact ⟨⟨os, rfl, by simpa using pm⟩, up⟩
    · right
      have hpos : 0 < left.length := List.length_pos_iff.mpr c0
      have hfl : fLen [.list left] = some (.int left.length) := if_pos (by omega)
      refine ⟨c0, hpos, by rw [g1]; rfl, ?_⟩
      simp [hfl]
      refine (draw (k := left.length) hw1.app hp2 (by omega) (by omega)).mono ?_
      rintro _ B2 ⟨⟨i, rfl, i0, i1⟩, u⟩
      obtain ⟨A2, rfl, u2⟩ := u.app (by omega)
      have up2 := up.trans u2
      have hl2 : A2.length = A.length := up2.length
      obtain ⟨j, rfl⟩ := Int.eq_ofNat_of_zero_le i0
      have hj : j < left.length := by omega
      obtain ⟨f0, f1⟩ := two_at (A1 := A2) (xs := left) (ys := os) hl2
      have hpop := popAt_l f0 (by omega) (List.getElem?_eq_getElem hj)
      rw [(two_set hl2).1] at hpop
      obtain ⟨k0, k1⟩ := two_at (A1 := A2) (xs := left.eraseIdx j) (ys := os) hl2
      have hap : fAppend (.ref (A.length + 1)) [.p left[j]] (A2 ++ [O.lst (left.eraseIdx j), O.lst os]) = some (.p .none, A2 ++ [O.lst (left.eraseIdx j), O.lst (os ++ [left[j]])]) := by
        unfold fAppend
        dsimp only
        rw [lst_iff.mp k1]
        dsimp only
        rw [if_pos (by omega), (two_set hl2).2]
      simp [hpop, hap]
      refine ⟨(left.eraseIdx j).length, ?_, left.eraseIdx j, os ++ [left[j]], A2, rfl, up2, ?_, rfl⟩
      · rw [List.length_eraseIdx, if_pos hj]
        omega
      · refine List.Perm.trans ?_ pm
        rw [List.append_assoc]
        refine List.Perm.append_left os ?_
        exact erase_perm hj
  · exact ⟨ds, [], A, rfl, rfl, Wup.refl hw, by simp, rfl⟩
end Ld
end

section
set_option maxHeartbeats 4000000
namespace Mi
open PySem PySem.W
theorem To_compG (f : PyData → Option PyData) {it : MI} {gm : MG} {tt : MT} {te : ME} {vs : List Nat} {s : Slt} {A : Arn} {PL : List PyData → Arn → Prop} (hi : (it s A).To fun xs A1 => xs.length ≤ 100000 ∧ (∀ x, x ∈ xs → turnC gm tt te (wipeS s vs) x A1 = .ok (f x) A1) ∧ PL (xs.filterMap f) A1) : (lComp it gm tt te vs s A).To PL := by
  with_unfolding_all
    unfold lComp
    refine To_bind.mpr (hi.mono fun xs A1 => ?_)
    rintro ⟨hl, h, q⟩
    rw [compL_pure xs [] h (by simpa using hl)]
    exact q
end Mi
namespace Ld
open PySem PySem.W Mi Lw
def mmp (p : Ed) : Ed := (if p.2 < p.1 then p.2 else p.1, if p.2 > p.1 then p.2 else p.1)
def mmF (x : PyData) : Option PyData := match x with
  | .tuple [.int a, .int b] => some (encP (mmp (a, b)))
  | _ => none
theorem mmF_map : ∀ ps : List Ed, (encE ps).filterMap mmF = encE (ps.map mmp)
  | [] => rfl
  | p :: ps => by
    have hf : mmF (encP p) = some (encP (mmp p)) := rfl
    show List.filterMap mmF (encP p :: encE ps) = _
    rw [List.filterMap_cons, mmF_map ps, hf]
    rfl
def gE (ps : List Ed) : List Ed := setS (ps.map mmp)
theorem gE_mem {ps : List Ed} {q : Ed} : q ∈ gE ps ↔ ∃ p, p ∈ ps ∧ mmp p = q := by
  unfold gE
  rw [setS_mem, List.mem_map]
theorem gE_len (ps : List Ed) : (gE ps).length ≤ ps.length := by
  unfold gE
  have := setS_length (ps.map mmp)
  rw [List.length_map] at this
  exact this
def Inn (v : Int) (ps : List Ed) : Prop := ∀ p, p ∈ ps → 0 ≤ p.1 ∧ p.1 < v ∧ 0 ≤ p.2 ∧ p.2 < v ∧ p.1 ≠ p.2
theorem gE_ok {v : Int} {ps : List Ed} (h1 : 1 ≤ v) (h2 : v ≤ 10) (hl : ps.length ≤ 24) (h : Inn v ps) : GOkay v (gE ps) := by
  refine ⟨h1, h2, Nat.le_trans (gE_len ps) hl, setS_asc _, fun q hq => ?_⟩
  obtain ⟨p, hp, rfl⟩ := gE_mem.mp hq
  have := h p hp
  unfold mmp
  dsimp only
  split <;> split <;> omega
section
variable {A : Arn}
theorem of_core {v : PyData} {e : D} {A1 : Arn} {x : PyData} {ps : List Ed} (hp : plain A1) (hlen : A1.length = A.length) (hf : frz e A = some (x, A1)) (hx : itemsOf x = some (encE ps)) (hl : ps.length < 63) (hb : ∀ p, p ∈ ps → 0 ≤ p.1 ∧ p.1 < 64 ∧ 0 ≤ p.2 ∧ p.2 < 64) :
    (m__law_of_edges [.p v, e] A).To fun d A' => d = .p (.tuple [v, .tuple (encE (gE ps))]) ∧ A' = A1 := by
  unfold m__law_of_edges
  refine To_def ?_
  unfold b__law_of_edges
  simp
  refine To_srtL ?_
  refine To_compG mmF ?_
  simp [hf, hx]
  refine ⟨by rw [encE_length]; omega, fun y hy => ?_, ?_⟩
  · obtain ⟨p, hp2, rfl⟩ := List.mem_map.mp hy
    refine turn_of (f := mmF) ⟨_, rfl, ?_⟩
    have hfm : mmF (encP p) = some (encP (mmp p)) := rfl
    have hmin : fMin2 [.int p.1, .int p.2] = some (.int (mmp p).1) := rfl
    have hmax : fMax2 [.int p.1, .int p.2] = some (.int (mmp p).2) := rfl
    rw [hfm]
    simp [wipeS, hmin, hmax]
    try rfl
  · refine ⟨ps.map mmp, mmF_map ps, by rw [List.length_map]; exact hl, fun a b hq => ?_, ?_⟩
    · obtain ⟨p, hp2, e⟩ := List.mem_map.mp hq
      have := hb p hp2
      have h1 : (mmp p).1 = a := by rw [e]
      have h2 : (mmp p).2 = b := by rw [e]
      rw [← h1, ← h2]
      unfold mmp
      dsimp only
      split <;> split <;> omega
    · have ht : A1.take A.length = A1 := List.take_of_length_le (Nat.le_of_eq hlen)
      have hft : fTuple [.list (encE (setS (ps.map mmp)))] = some (.tuple (encE (gE ps))) := rfl
      simp [hft, hp, ht]
theorem of_p {v : PyData} {c : PyData} {ps : List Ed} (hp : plain A) (hc : c = .list (encE ps) ∨ c = .tuple (encE ps)) (hl : ps.length < 63) (hb : ∀ p, p ∈ ps → 0 ≤ p.1 ∧ p.1 < 64 ∧ 0 ≤ p.2 ∧ p.2 < 64) :
    (m__law_of_edges [.p v, .p c] A).To fun d A' => d = .p (.tuple [v, .tuple (encE (gE ps))]) ∧ A' = A :=
  of_core (x := c) hp rfl rfl (by rcases hc with rfl | rfl <;> rfl) hl hb
theorem ly_I (is : List Int) : Ly (encI is) := fun y hy => by
  obtain ⟨i, _, rfl⟩ := List.mem_map.mp hy
  exact ⟨by simp [PyData.canLay0], by simp [PyData.depth]⟩
theorem perm_I {xs : List PyData} {is : List Int} (h : xs.Perm (encI is)) : ∃ js, xs = encI js ∧ js.Perm is := by
  refine ⟨xs.map fun x => match x with | .int i => i | _ => 0, ?_, ?_⟩
  · have : ∀ x, x ∈ xs → ∃ i, x = .int i := fun x hx => by
      obtain ⟨i, _, e⟩ := List.mem_map.mp (h.mem_iff.mp hx)
      exact ⟨i, e.symm⟩
    unfold encI
    rw [List.map_map]
    refine ((List.map_congr_left fun x hx => ?_).trans (List.map_id _)).symm
    obtain ⟨i, rfl⟩ := this x hx
    rfl
  · refine (h.map _).trans ?_
    unfold encI
    rw [List.map_map]
    refine List.Perm.of_eq ((List.map_congr_left fun i _ => ?_).trans (List.map_id _))
    rfl
end
end Ld
end

section
set_option maxHeartbeats 4000000
namespace Ld
open PySem PySem.W Mi Lw
section
variable {A : Arn}
def Gv (v : Int) (e : Nat) (d : D) : Prop := ∃ fs, d = .p (encG v fs) ∧ GOkay v fs ∧ fs.length ≤ e
def upto (n : Nat) : List Int := (List.range n).map fun (i : Nat) => (i : Int)
theorem rangeD_I (n : Nat) : rangeD 0 n = encI (upto n) := by
  unfold rangeD encI upto
  rw [List.map_map]
  refine List.map_congr_left fun i _ => ?_
  show PyData.int (0 + (i : Int)) = PyData.int (i : Int)
  rw [Int.zero_add]
theorem upto_length (n : Nat) : (upto n).length = n := by unfold upto; rw [List.length_map, List.length_range]
theorem upto_mem {n : Nat} {x : Int} : x ∈ upto n ↔ 0 ≤ x ∧ x < n := by
  unfold upto
  rw [List.mem_map]
  constructor
  · rintro ⟨i, hi, rfl⟩
    have := List.mem_range.mp hi
    omega
  · rintro ⟨h0, h1⟩
    exact ⟨x.toNat, List.mem_range.mpr (by omega), by omega⟩
theorem upto_nodup (n : Nat) : (upto n).Nodup := by
  unfold upto
  unfold List.Nodup
  rw [List.pairwise_map]
  exact List.nodup_range.imp fun h e => h (by omega)
theorem ren_Inn {v : Nat} {os : List Int} {es : List Ed} (hpm : os.Perm (upto v)) (h : Inn v es) : Inn v (es.map (ren os)) := by
  have hl : os.length = v := by rw [hpm.length_eq, upto_length]
  have hm : ∀ x, x ∈ os ↔ 0 ≤ x ∧ x < (v : Int) := fun x => hpm.mem_iff.trans upto_mem
  have hn : os.Nodup := hpm.nodup_iff.mpr (upto_nodup v)
  intro q hq
  obtain ⟨p, hp, rfl⟩ := List.mem_map.mp hq
  obtain ⟨a, b, c, d, e⟩ := h p hp
  have i := ren_in hl hm (p := p) ⟨a, b, c, d⟩
  refine ⟨i.1, i.2.1, i.2.2.1, i.2.2.2, ?_⟩
  unfold ren
  dsimp only
  have h1 : p.1.toNat < os.length := by omega
  have h2 : p.2.toNat < os.length := by omega
  have e1 : os.getD p.1.toNat 0 = os[p.1.toNat] := by simp [List.getD, h1]
  have e2 : os.getD p.2.toNat 0 = os[p.2.toNat] := by simp [List.getD, h2]
  rw [e1, e2]
  intro k
  have := (List.getElem_inj hn).mp k
  omega
theorem gok_Inn {v : Int} {es : List Ed} (h : GOkay v es) : Inn v es := fun p hp => by
  have := h.inn p hp
  omega
theorem named {n : Nat} {v : Int} {es : List Ed} (hw : Wl A n) (hp : plain A) (g : GOkay v es) :
    (m__law_named [.ref n, .p (encG v es)] A).To fun d A' => Gv v es.length d ∧ Wup A n A' := by
  obtain ⟨k, rfl⟩ := Int.eq_ofNat_of_zero_le (show 0 ≤ v by have := g.lo; omega)
  have hk : k ≤ 10 := by have := g.hi; omega
  have hes := g.len
  unfold m__law_named
  refine To_def ?_
  unfold b__law_named
  simp
  refine ⟨by omega, ?_⟩
  rw [rangeD_I]
  refine (mixed hw hp (.inl rfl) (by rw [encI_length, upto_length]; omega) (ly_I _)).mono ?_
  rintro _ A1 ⟨⟨xs, rfl, pm⟩, u⟩
  obtain ⟨os, rfl, pm2⟩ := perm_I pm
  have hp1 := u.plain hp
  have hl : os.length = k := by rw [pm2.length_eq, upto_length]
  refine To_comp (renF os) ?_
  simp
  refine ⟨by rw [encE_length]; omega, ?_, ?_⟩
  · intro x hx
    obtain ⟨p, hp2, rfl⟩ := List.mem_map.mp hx
    have hin := g.inn p hp2
    refine turn_of (f := renF os) ⟨_, rfl, ?_⟩
    simp [wipeS, at_enc (os := os) (i := p.1) (by omega) (by omega), at_enc (os := os) (i := p.2) (by omega) (by omega)]
    rfl
  · rw [renF_map]
    have hi := ren_Inn pm2 (gok_Inn g)
    refine (of_p (ps := es.map (ren os)) hp1 (.inl rfl) (by rw [List.length_map]; omega) fun p hp2 => ?_).mono ?_
    · have := hi p hp2
      omega
    · rintro _ A2 ⟨rfl, rfl⟩
      have ht : A2.take A.length = A2 := List.take_of_length_le (Nat.le_of_eq u.length)
      simp [hp1, ht]
      refine ⟨⟨_, rfl, gE_ok g.lo g.hi (by rw [List.length_map]; omega) hi, ?_⟩, u⟩
      have := gE_len (es.map (ren os))
      rw [List.length_map] at this
      exact this
end
end Ld
end

section
set_option maxHeartbeats 4000000
namespace Mi
open PySem PySem.W
section
variable {s : Slt} {A : Arn}
theorem To_turn {gm : MG} {tt : MT} {te : ME} {s0 : Slt} {x : PyData} {N : Option PyData → Arn → Prop} (h : ∃ s', gm x s0 = some s' ∧ (tt s' A).To fun b A1 => if b = true then (te s' A1).To fun d A2 => ∃ y A3, frz d A2 = some (y, A3) ∧ N (some y) A3 else N none A1) : (turnC gm tt te s0 x A).To N := by
  with_unfolding_all
    obtain ⟨s', e, h⟩ := h
    unfold turnC
    rw [e]
    dsimp only
    unfold turnB
    obtain ⟨b, A1, e1, h⟩ := h.ex
    rw [e1]
    show ((if b = true then _ else _ : Res (Option PyData))).To N
    cases b with
    | false =>
      rw [if_neg (by decide)]
      exact To_ok.mpr h
    | true =>
      rw [if_pos rfl]
      obtain ⟨d, A2, e2, y, A3, e3, e4⟩ := h.ex
      rw [e2]
      show (opt0 ((frz d A2).map fun y => (some y.1, y.2))).To N
      rw [e3]
      exact To_ok.mpr e4
end
end Mi
namespace Ld
open PySem PySem.W Mi Lw
section
variable {A : Arn}
end
end Ld
end

section
set_option maxHeartbeats 4000000
namespace Mi
open PySem PySem.Spec L2
section
variable {s : Slt} {A : Arn} {P : D → Arn → Prop}
@[simp] theorem To_err {nm fld : Str} {m : MA} : (mErr nm fld m s A).To P ↔ (m s A).To fun ds A1 => ∃ x, one1 ds = some x ∧ P (.ref A1.length) (A1 ++ [.dc (.e nm [(fld, x)])]) := by
  unfold mErr
  rw [To_bind]
  refine iff_of_eq (congrArg _ (funext fun ds => funext fun A1 => propext ?_))
  cases e : one1 ds with
  | none =>
    constructor
    · intro h; exact absurd h (by simp)
    · rintro ⟨x, h, _⟩; cases h
  | some x =>
    constructor
    · intro h; exact ⟨x, rfl, To_ok.mp h⟩
    · rintro ⟨y, h, q⟩; cases h; exact To_ok.mpr q
@[simp] theorem To_err0 {nm : Str} : (mErr0 nm s A).To P ↔ P (.ref A.length) (A ++ [.dc (.e nm [])]) := by
  unfold mErr0
  exact To_ok
@[simp] theorem To_isE {t : Str → Option Bool} {m : ME} : (mIsE t m s A).To P ↔ (m s A).To fun d A1 => ∃ z b, errOf d A1 = some z ∧ t z.1 = some b ∧ P (.p (.bool b)) A1 := by
  unfold mIsE
  rw [To_bind]
  refine iff_of_eq (congrArg _ (funext fun d => funext fun A1 => propext ?_))
  cases e : errOf d A1 with
  | none =>
    constructor
    · intro h; exact absurd h (by simp)
    · rintro ⟨z, b, h, _⟩; cases h
  | some z =>
    dsimp only
    cases e2 : t z.1 with
    | none =>
      constructor
      · intro h; exact absurd h (by simp)
      · rintro ⟨z', b, h, h2, _⟩; cases h; rw [e2] at h2; cases h2
    | some b =>
      constructor
      · intro h; exact ⟨z, b, rfl, e2, To_ok.mp h⟩
      · rintro ⟨z', b', h, h2, q⟩; cases h; rw [e2] at h2; cases h2; exact To_ok.mpr q
@[simp] theorem To_errF {ok : Str → Bool} {f : Str} {m : ME} : (mErrF ok f m s A).To P ↔ (m s A).To fun d A1 => ∃ z x, errOf d A1 = some z ∧ ok z.1 = true ∧ fldOf f z.2 = some x ∧ P (.p x) A1 := by
  unfold mErrF
  rw [To_bind]
  refine iff_of_eq (congrArg _ (funext fun d => funext fun A1 => propext ?_))
  cases e : errOf d A1 with
  | none =>
    constructor
    · intro h; exact absurd h (by simp)
    · rintro ⟨z, b, h, _⟩; cases h
  | some z =>
    dsimp only
    cases e2 : ok z.1 with
    | false =>
      constructor
      · intro h; exact absurd h (by simp)
      · rintro ⟨z', b, h, h2, _⟩; cases h; rw [e2] at h2; cases h2
    | true =>
      cases e3 : fldOf f z.2 with
      | none =>
        constructor
        · intro h; exact absurd h (by simp)
        · rintro ⟨z', b, h, _, h2, _⟩; cases h; rw [e3] at h2; cases h2
      | some x =>
        constructor
        · intro h; exact ⟨z, x, rfl, e2, e3, To_ok.mp h⟩
        · rintro ⟨z', b', h, _, h2, q⟩; cases h; rw [e3] at h2; cases h2; exact To_ok.mpr q
theorem compL_none (J : Arn → Prop) {turn : PyData → Arn → Res (Option PyData)} : ∀ (xs acc : List PyData) (A : Arn), acc.length + xs.length ≤ 100000 → (∀ x, x ∈ xs → ∀ B, J B → (turn x B).To fun o B' => J B' ∧ o = none) → J A → (compL turn xs acc A).To fun r B => J B ∧ r = acc
  | [], acc, A, _, _, j => by
    unfold compL
    exact To_ok.mpr ⟨j, rfl⟩
  | x :: xs, acc, A, hl, h, j => by
    rw [List.length_cons] at hl
    unfold compL
    refine To_bind.mpr ((h x List.mem_cons_self A j).mono fun o B => ?_)
    rintro ⟨jb, rfl⟩
    rw [if_pos (by omega)]
    exact compL_none J xs acc B (by omega) (fun y hy => h y (List.mem_cons_of_mem _ hy)) jb
theorem To_compN (J : Arn → Prop) {it : MI} {gm : MG} {tt : MT} {te : ME} {vs : List Nat} {PL : List PyData → Arn → Prop} (hi : (it s A).To fun xs A1 => xs.length ≤ 100000 ∧ J A1 ∧ (∀ x, x ∈ xs → ∀ B, J B → (turnC gm tt te (wipeS s vs) x B).To fun o B' => J B' ∧ o = none) ∧ ∀ B, J B → PL [] B) : (lComp it gm tt te vs s A).To PL := by
  with_unfolding_all
    unfold lComp
    refine To_bind.mpr (hi.mono fun xs A1 => ?_)
    rintro ⟨hl, j, h, q⟩
    refine (compL_none J xs [] A1 (by simpa using hl) h j).mono ?_
    rintro _ B ⟨jb, rfl⟩
    exact q _ jb
end
end Mi
namespace Pr
open PySem PySem.W Mi Lw
def nmN (k : Nat) : Str := errs_all.getD k "LinkError"
def fsN (k : Nat) (x : PyData) : List (Str × PyData) := if k < 7 then [("given", x)] else if k < 11 then [("index", x)] else []
theorem tab1 : ((List.range 12).all fun k => (List.range 12).all fun e => decide (tOf errs_all [nmN k] (nmN e) = some (decide (k = e)))) = true := by decide +kernel
theorem tabA : ((List.range 12).all fun e => decide (tOf errs_all errs_all (nmN e) = some true) && (decide (tOf errs_all [] (nmN e) = some false) && (decide (okOf errs_given (nmN e) = decide (e < 7)) && decide (okOf errs_index (nmN e) = decide (7 ≤ e ∧ e < 11))))) = true := by decide +kernel
theorem tab {k e : Nat} (hk : k < 12) (he : e < 12) : tOf errs_all [nmN k] (nmN e) = some (decide (k = e)) :=
  of_decide_eq_true (List.all_eq_true.mp (List.all_eq_true.mp tab1 k (List.mem_range.mpr hk)) e (List.mem_range.mpr he))
theorem tabs {e : Nat} (he : e < 12) : tOf errs_all errs_all (nmN e) = some true ∧ tOf errs_all [] (nmN e) = some false ∧ okOf errs_given (nmN e) = decide (e < 7) ∧ okOf errs_index (nmN e) = decide (7 ≤ e ∧ e < 11) := by
  have h := List.all_eq_true.mp tabA e (List.mem_range.mpr he)
  simp only [Bool.and_eq_true, decide_eq_true_eq] at h
  exact ⟨h.1, h.2.1, h.2.2.1, h.2.2.2⟩
theorem plain_dc {A : Arn} (h : plain A) {kv : DKv} : plain (A ++ [.dc kv]) := plain_app h fun m ns e => by
  cases m with
  | zero => simp at e
  | succ m => simp at e
section
variable {A : Arn}
theorem made {at_ : Nat} {x : PyData} {b : Bool} (hp : plain A) (h : at_ < 12) : (m__law_made [.p (.int (at_ : Int)), .p x, .p (.bool b)] A).To fun d A' => d = .ref A.length ∧ A' = A ++ [.dc (.e (nmN at_) (fsN at_ x))] := by
  unfold m__law_made
  refine To_defG ?_
  unfold b__law_made
  have hc : at_ = 0 ∨ at_ = 1 ∨ at_ = 2 ∨ at_ = 3 ∨ at_ = 4 ∨ at_ = 5 ∨ at_ = 6 ∨ at_ = 7 ∨ at_ = 8 ∨ at_ = 9 ∨ at_ = 10 ∨ at_ = 11 := by omega
  rcases hc with rfl | rfl | rfl | rfl | rfl | rfl | rfl | rfl | rfl | rfl | rfl | rfl <;> simp [one1] <;> exact ⟨plain_dc hp, rfl, rfl⟩
theorem is_of {n k e : Nat} {fs : List (Str × PyData)} (he : errOf (.ref n) A = some (nmN e, fs)) (hp : plain A) (hk : k < 11) (h12 : e < 12) : (m__law_is_of [.ref n, .p (.int (k : Int))] A).To fun d A' => d = .p (.bool (decide (k = e))) ∧ A' = A := by
  unfold m__law_is_of
  refine To_def ?_
  unfold b__law_is_of
  have t := tab (k := k) (e := e) (by omega) h12
  have hc : k = 0 ∨ k = 1 ∨ k = 2 ∨ k = 3 ∨ k = 4 ∨ k = 5 ∨ k = 6 ∨ k = 7 ∨ k = 8 ∨ k = 9 ∨ k = 10 := by omega
  rcases hc with rfl | rfl | rfl | rfl | rfl | rfl | rfl | rfl | rfl | rfl | rfl
  · have t : tOf errs_all ["InvalidGraph"] (nmN e) = _ := t
    simp [he, t, hp]
    omega
  · have t : tOf errs_all ["InvalidEdge"] (nmN e) = _ := t
    simp [he, t, hp]
    omega
  · have t : tOf errs_all ["InvalidVertex"] (nmN e) = _ := t
    simp [he, t, hp]
    omega
  · have t : tOf errs_all ["InvalidTriangle"] (nmN e) = _ := t
    simp [he, t, hp]
    omega
  · have t : tOf errs_all ["InvalidNumber"] (nmN e) = _ := t
    simp [he, t, hp]
    omega
  · have t : tOf errs_all ["InvalidRotation"] (nmN e) = _ := t
    simp [he, t, hp]
    omega
  · have t : tOf errs_all ["TooMany"] (nmN e) = _ := t
    simp [he, t, hp]
    omega
  · have t : tOf errs_all ["InvalidText"] (nmN e) = _ := t
    simp [he, t, hp]
    omega
  · have t : tOf errs_all ["InvalidMoves"] (nmN e) = _ := t
    simp [he, t, hp]
    omega
  · have t : tOf errs_all ["InvalidPasses"] (nmN e) = _ := t
    simp [he, t, hp]
    omega
  · have t : tOf errs_all ["InvalidLines"] (nmN e) = _ := t
    simp [he, t, hp]
    omega
theorem is_plain {n e : Nat} {fs : List (Str × PyData)} (he : errOf (.ref n) A = some (nmN e, fs)) (hp : plain A) (h12 : e < 12) : (m__law_is_plain [.ref n] A).To fun d A' => d = .p (.bool true) ∧ A' = A := by
  obtain ⟨t1, t2, _⟩ := tabs h12
  unfold m__law_is_plain
  refine To_def ?_
  unfold b__law_is_plain
  simp [he, t1, t2, hp]
theorem caught {w : Nat} {x : PyData} (hp : plain A) (hx : Th x) (hw : w < 3) : (m__law_is_caught [.p x, .p (.int (w : Int))] A).To fun d A' => d = .p (.bool true) ∧ A' = A := by
  unfold m__law_is_caught
  refine To_def ?_
  unfold b__law_is_caught
  have h3 : isThree (w : Int) = true := by
    unfold isThree
    simp
    omega
  have hr := hx.repr
  have hq : fEqS (.str x.shown) (.str x.shown) = some (.bool true) := by
    unfold fEqS
    simp
  have e : bCaught [some (.p x), some (.p (.int (w : Int))), none, none] A = .rt (.p (.bool true)) A := by
    show caughtD x (w : Int) A = _
    unfold caughtD
    rw [h3, hr]
    dsimp only
    rw [hq]
  show (bCaught [some (.p x), some (.p (.int (w : Int))), none, none] A).To _ _
  rw [e]
  simp [hp]
end
end Pr
end

section
set_option maxHeartbeats 4000000
namespace Pr
open PySem PySem.W Mi Lw
def qi : MS :=
    (sSeq (sIf (mB (mOp2 (lift2 fNe) (mFr (lComp (iR1 (aCons (mC (.int 11)) aNil)) (gN 6) (mTru (mCall m__law_is_of (aCons (mVar 4) (aCons (mVar 6) aNil)))) (mVar 6) [6])) (mIfE (mB (mOp2 (lift2 (ordD gLt)) (mVar 1) (mC (.int 11)))) (mFr (lDisp (aCons (mVar 1) aNil))) (mFr (lDisp aNil))))) (sRet (mC (.bool false))) sSkip)
    (sSeq (sIf (mNot (mTru (mCall m__law_is_plain (aCons (mVar 4) aNil)))) (sRet (mC (.bool false))) sSkip)
    (sIf (mAnd (mB (mOp2 (lift2 (ordD gLt)) (mVar 1) (mC (.int 11)))) (mB (mOp2 (lift2 fNeS) (mOpN (liftN fRepr) (aCons (mIfE (mB (mOp2 (lift2 (ordD gLt)) (mVar 1) (mC (.int 7)))) (mErrF (okOf errs_given) "given" (mVar 4)) (mErrF (okOf errs_index) "index" (mVar 4))) aNil)) (mOpN (liftN fRepr) (aCons (mVar 2) aNil))))) (sRet (mC (.bool false))) sSkip)))
def qe : MS := (sRet (mOp2 (lift2 fEq) (mFr (lComp (iS (mTup (aCons (mC (.int 0)) (aCons (mC (.int 1)) (aCons (mC (.int 2)) aNil))))) (gN 5) (mNot (mTru (mCall m__law_is_caught (aCons (mCall m__law_strange (aCons (mVar 0) aNil)) (aCons (mVar 5) aNil))))) (mVar 5) [5])) (mFr (lDisp aNil))))
theorem str_th {x : PyData} (h : x ∈ stranges) : Th x := ⟨4, 200, by decide, by decide, (strange_ok h).1, (strange_ok h).2⟩
def fK (e : Nat) : PyData → Option PyData := fun x => match x with
  | .int k => if k = (e : Int) then some (.int k) else none
  | _ => none
theorem fk_row {e : Nat} (h : e < 12) : (rangeD 0 11).filterMap (fK e) = if e < 11 then [.int (e : Int)] else [] := by
  have hc : e = 0 ∨ e = 1 ∨ e = 2 ∨ e = 3 ∨ e = 4 ∨ e = 5 ∨ e = 6 ∨ e = 7 ∨ e = 8 ∨ e = 9 ∨ e = 10 ∨ e = 11 := by omega
  rcases hc with rfl | rfl | rfl | rfl | rfl | rfl | rfl | rfl | rfl | rfl | rfl | rfl <;> simp [rangeD, fK, List.range, List.range.loop]
section
variable {A C : Arn} {n m i : Nat} {x : PyData} {b : Bool} {y5 y6 : Option D} {N : Slt → Arn → Prop} {R : D → Arn → Prop}
theorem inner (hp : plain C) (hi : i < 12) (hx : Th x) (he : errOf (.ref m) C = some (nmN i, fsN i x)) (h : ∀ z5 z6, N [some (.ref n), some (.p (.int (i : Int))), some (.p x), some (.p (.bool b)), some (.ref m), z5, z6] C) :
    (qi [some (.ref n), some (.p (.int (i : Int))), some (.p x), some (.p (.bool b)), some (.ref m), y5, y6] C).To N R := by
  unfold qi
  simp
  refine To_comp (fK i) ?_
  refine To_iR1 ?_
  simp
  refine ⟨by unfold small; omega, ?_⟩
  have row : (rangeD 0 11).filterMap (fK i) = _ := fk_row hi
  obtain ⟨ta, tb, tg, ti⟩ := tabs hi
  have hr := hx.repr
  have hq : fNeS (.str x.shown) (.str x.shown) = some (.bool false) := by
    unfold fNeS
    simp
  rw [row]
  refine ⟨by simp [rangeD], fun z hz => ?_, ?_⟩
  · obtain ⟨k, hk⟩ := List.getElem?_of_mem hz
    obtain ⟨k1, rfl⟩ := rangeD_get hk
    refine turn_of ⟨_, rfl, ?_⟩
    simp [wipeS]
    refine (is_of he hp k1 hi).mono ?_
    rintro _ _ ⟨rfl, rfl⟩
    by_cases c : k = i
    · subst c
      simp [fK]
    · simp [fK, c]
      omega
  · by_cases c : i = 11
    · subst c
      have f0 : fNe (.list []) (.list []) = some (.bool false) := by rfl
      simp [f0]
      refine (is_plain he hp hi).mono ?_
      rintro _ _ ⟨rfl, rfl⟩
      simp
      exact h _ _
    · have c2 : i < 11 := by omega
      have c3 : (i : Int) < 11 := by omega
      have c4 : ¬ (11 : Int) ≤ (i : Int) := by omega
      have f1 : fNe (.list [.int (i : Int)]) (.list [.int (i : Int)]) = some (.bool false) := by
        have hc : i = 0 ∨ i = 1 ∨ i = 2 ∨ i = 3 ∨ i = 4 ∨ i = 5 ∨ i = 6 ∨ i = 7 ∨ i = 8 ∨ i = 9 ∨ i = 10 := by omega
        rcases hc with rfl | rfl | rfl | rfl | rfl | rfl | rfl | rfl | rfl | rfl | rfl <;> rfl
      simp [f1, c2, c3, c4]
      refine (is_plain he hp hi).mono ?_
      rintro _ _ ⟨rfl, rfl⟩
      simp
      by_cases d : i < 7
      · have d2 : (i : Int) < 7 := by omega
        have d3 : ¬ (7 : Int) ≤ (i : Int) := by omega
        have e2 : fldOf "given" (fsN i x) = some x := by unfold fsN; rw [if_pos d]; rfl
        simp [d2, d3, he, hr]
        refine ⟨_, _, ⟨rfl, rfl⟩, by simp [tg, d], x, e2, ?_⟩
        simp [hr, hq]
        exact h _ _
      · have d2 : ¬ (i : Int) < 7 := by omega
        have d3 : (7 : Int) ≤ (i : Int) := by omega
        have e2 : fldOf "index" (fsN i x) = some x := by unfold fsN; rw [if_neg d, if_pos c2]; rfl
        simp [d2, d3, he, hr]
        refine ⟨_, _, ⟨rfl, rfl⟩, by simp [ti]; omega, x, e2, ?_⟩
        simp [hr, hq]
        exact h _ _
theorem last {y1 y2 y3 y4 y5 y6 : Option D} (hw : Wl C n) (hp : plain C) (h : ∀ C', Wup C n C' → R (.p (.bool true)) C') : (qe [some (.ref n), y1, y2, y3, y4, y5, y6] C).To N R := by
  unfold qe
  simp
  refine To_compN (fun B => Wup C n B) ?_
  simp [itemsOf]
  have turn : ∀ w : Nat, w < 3 → ∀ B, Wup C n B → (turnC (gN 5) (mNot (mTru (mCall m__law_is_caught (aCons (mCall m__law_strange (aCons (mVar 0) aNil)) (aCons (mVar 5) aNil))))) (mVar 5) (wipeS [some (.ref n), y1, y2, y3, y4, y5, y6] [5]) (.int (w : Int)) B).To fun o B' => Wup C n B' ∧ o = none := by
    intro w hw3 B hB
    refine To_turn ⟨_, rfl, ?_⟩
    simp [wipeS]
    refine (strange (hB.wl hw) (hB.plain hp)).mono ?_
    rintro _ B2 ⟨⟨x, rfl, hx⟩, u⟩
    refine (caught ((u.plain (hB.plain hp))) (str_th hx) hw3).mono ?_
    rintro _ _ ⟨rfl, rfl⟩
    simp
    exact hB.trans u
  refine ⟨Wup.refl hw, ⟨turn 0 (by decide), turn 1 (by decide), turn 2 (by decide)⟩, fun B hB => ?_⟩
  · have f0 : fEq (.list []) (.list []) = some (.bool true) := by rfl
    simp [f0]
    exact h _ hB
end
theorem errOf_new {C : Arn} {nm : Str} {fs : List (Str × PyData)} : errOf (.ref C.length) (C ++ [.dc (.e nm fs)]) = some (nm, fs) := by
  unfold errOf
  dsimp only
  rw [List.getElem?_append_right (Nat.le_refl _), Nat.sub_self]
  try rfl
theorem Lg.snocE {A B : Arn} {n : Nat} (h : Lg A n B) (kv : DKv) : Lg A n (B ++ [.dc kv]) := by
  obtain ⟨A1, G, rfl, u1, pg⟩ := h
  exact ⟨A1, G ++ [.dc kv], by rw [List.append_assoc], u1, plain_dc pg⟩
def Rr (A : Arn) (n : Nat) (s : Slt) (C : Arn) : Prop := (∃ y1 y2 y3 y4 y5 y6 : Option D, s = [some (.ref n), y1, y2, y3, y4, y5, y6]) ∧ Lg A n C
def Rs (A : Arn) (n i : Nat) (x : PyData) (s : Slt) (C : Arn) : Prop := (∃ y3 y4 y5 y6 : Option D, s = [some (.ref n), some (.p (.int (i : Int))), some (.p x), y3, y4, y5, y6]) ∧ Lg A n C
theorem right {A : Arn} {n : Nat} (hw : Wl A n) (hp : plain A) : (m__law_right [.ref n] A).To fun r A' => r = .p (.bool true) ∧ Wup A n A' := by
  unfold m__law_right
  refine To_def ?_
  show ((sSeq (sFor _ _ (sSeq _ (sFor _ _ (sSeq _ qi)))) qe) _ _).To _ _
  simp
  refine To_iR1 ?_
  simp
  refine ⟨by unfold small; omega, ?_⟩
  refine forL_to (fun _ s C => Rr A n s C) ?_ ⟨⟨_, _, _, _, _, _, rfl⟩, Lg.refl hw⟩ ?_
  · rintro i z s C hx ⟨⟨y1, y2, y3, y4, y5, y6, rfl⟩, hC⟩
    obtain ⟨hi, rfl⟩ := rangeD_get hx
    simp
    refine (strange (hC.wl hw) (hC.plain hp)).mono ?_
    rintro _ C1 ⟨⟨x, rfl, hx⟩, u⟩
    have hC1 := hC.draw hw u
    refine forL_to (fun _ s C => Rs A n i x s C) ?_ ⟨⟨_, _, _, _, rfl⟩, hC1⟩ ?_
    · rintro j z s C2 hz ⟨⟨y3, y4, y5, y6, rfl⟩, hC2⟩
      have hb : ∃ b : Bool, z = .bool b := by
        have := List.mem_of_getElem? hz
        simp at this
        rcases this with rfl | rfl
        · exact ⟨_, rfl⟩
        · exact ⟨_, rfl⟩
      obtain ⟨b, rfl⟩ := hb
      simp
      refine (made (hC2.plain hp) hi).mono ?_
      rintro _ _ ⟨rfl, rfl⟩
      exact inner (plain_dc (hC2.plain hp)) hi (str_th hx) errOf_new fun z5 z6 => ⟨⟨_, _, _, _, rfl⟩, Lg.snocE hC2 _⟩
    · rintro s C2 ⟨⟨y3, y4, y5, y6, rfl⟩, hC2⟩
      exact ⟨⟨_, _, _, _, _, _, rfl⟩, hC2⟩
  · rintro s C ⟨⟨y1, y2, y3, y4, y5, y6, rfl⟩, hC⟩
    refine last (hC.wl hw) (hC.plain hp) fun C' u => ?_
    exact (hC.draw hw u).close hp ⟨rfl, (hC.draw hw u).take⟩
def LwI (ns : List Int) (s : Slt) (C : Arn) : Prop := (∃ y : Option D, s = [some (.scr ns), y]) ∧ plain C
theorem law1 {ns : List Int} (h : ns.length ≤ 63) : (m_law [.scr ns] (([] : List PySem.Str).map O.tab)).To fun r A' => r = .p (.bool true) := by
  have hlen : fLen [.list (ns.map PyData.int)] = some (.int ns.length) := by
    unfold fLen
    dsimp only
    rw [if_pos (by rw [List.length_map]; omega), List.length_map]
  have hmin : fMin2 [.int ns.length, .int 4] = some (.int (if (4 : Int) < ns.length then 4 else ns.length)) := rfl
  have hmax : ∀ i : Int, fMax2 [.int 2, .int i] = some (.int (if i > 2 then i else 2)) := fun _ => rfl
  unfold m_law
  refine To_def ?_
  unfold b_law
  simp
  refine To_iR1 ?_
  simp [hlen, hmin, hmax]
  have hb : ∀ i : Int, 0 ≤ i → i ≤ 63 → small i := fun i _ _ => by unfold small; omega
  refine ⟨?_, ?_⟩
  · refine hb _ ?_ ?_ <;> (split <;> split <;> omega)
  · refine forL_to (fun _ s C => LwI ns s C) ?_ ⟨⟨none, rfl⟩, plain_nil⟩ ?_
    · rintro i x s C hx ⟨⟨y, rfl⟩, hp⟩
      obtain ⟨_, rfl⟩ := rangeD_get hx
      simp
      refine (well (t := i) hp h).mono ?_
      rintro _ _ ⟨rfl, a, b, c, rfl⟩
      refine (right (n := C.length) ⟨a, b, c, lst_iff.mp lst_new⟩ (plain_snoc hp)).mono ?_
      rintro _ C2 ⟨rfl, u⟩
      simp
      exact ⟨⟨_, rfl⟩, u.plain (plain_snoc hp)⟩
    · rintro s C ⟨⟨y, rfl⟩, hp⟩
      simp [hp]
theorem law_true (ns : List Int) (h : ns.length ≤ 63) : ∃ A', m_law [.scr ns] (([] : List PySem.Str).map Mi.O.tab) = .ok (.p (.bool true)) A' := by
  obtain ⟨a, A', e, rfl⟩ := (law1 h).ex
  exact ⟨A', e⟩
end Pr
end

open PySem PySem.W PyProof.Rows
set_option maxRecDepth 100000 in
set_option maxHeartbeats 0 in
theorem PySem.Challenge.cw_linkless_k01_errors_each_of_its_own_holds : PySem.Challenge.rw_linkless_k01_errors_each_of_its_own.Holds := by
  w_on; o_law; k_head; (case hw => w_witness2)
  k_fill
  refine Mi.law_ofT (l := PySem.Challenge.rw_linkless_k01_errors_each_of_its_own) (n := 63) (k := 5) (x := "script") (fm := Pr.m_law) (qs := []) rfl (by decide) rfl ⟨rfl, by decide, by decide⟩ (fun w h Y => PySem.W.kIn_of Y) ?F Pr.law_true
  case F =>
    intro w mg fa h Y KX G hmg
    refine' Pr.all_mk KX G hmg ?a0 ?l0 ?c0 ?k0 ?a1 ?l1 ?c1 ?k1 ?a2 ?l2 ?c2 ?k2 ?a3 ?l3 ?c3 ?k3 ?a4 ?l4 ?c4 ?k4 ?a5 ?l5 ?c5 ?k5 ?a6 ?l6 ?c6 ?k6 ?a7 ?l7 ?c7 ?k7 ?a8 ?l8 ?c8 ?k8 ?a9 ?l9 ?c9 ?k9 ?z0 ?z1 ?z2 ?z3 ?z4 ?z5 ?z6 ?z7 ?z8 ?z9 ?z10 ?z11 ?zg0 ?zg1 ?zg2 ?zg3 ?zg4 ?ea_InvalidEdge ?el_InvalidEdge ?er_InvalidEdge ?e1_InvalidEdge ?e2_InvalidEdge ?e3_InvalidEdge ?e4_InvalidEdge ?e5_InvalidEdge ?e6_InvalidEdge ?e7_InvalidEdge ?e8_InvalidEdge ?e9_InvalidEdge ?e10_InvalidEdge ?e11_InvalidEdge ?e12_InvalidEdge ?e13_InvalidEdge ?e14_InvalidEdge ?e15_InvalidEdge ?e16_InvalidEdge ?e17_InvalidEdge ?f1_InvalidEdge ?f2_InvalidEdge ?f3_InvalidEdge ?f4_InvalidEdge ?f5_InvalidEdge ?f6_InvalidEdge ?ea_InvalidGraph ?el_InvalidGraph ?er_InvalidGraph ?e1_InvalidGraph ?e2_InvalidGraph ?e3_InvalidGraph ?e4_InvalidGraph ?e5_InvalidGraph ?e6_InvalidGraph ?e7_InvalidGraph ?e8_InvalidGraph ?e9_InvalidGraph ?e10_InvalidGraph ?e11_InvalidGraph ?e12_InvalidGraph ?e13_InvalidGraph ?e14_InvalidGraph ?e15_InvalidGraph ?e16_InvalidGraph ?e17_InvalidGraph ?f1_InvalidGraph ?f2_InvalidGraph ?f3_InvalidGraph ?f4_InvalidGraph ?f5_InvalidGraph ?f6_InvalidGraph ?ea_InvalidLines ?el_InvalidLines ?er_InvalidLines ?e1_InvalidLines ?e2_InvalidLines ?e3_InvalidLines ?e4_InvalidLines ?e5_InvalidLines ?e6_InvalidLines ?e7_InvalidLines ?e8_InvalidLines ?e9_InvalidLines ?e10_InvalidLines ?e11_InvalidLines ?e12_InvalidLines ?e13_InvalidLines ?e14_InvalidLines ?e15_InvalidLines ?e16_InvalidLines ?e17_InvalidLines ?f1_InvalidLines ?f2_InvalidLines ?f3_InvalidLines ?f4_InvalidLines ?f5_InvalidLines ?f6_InvalidLines ?ea_InvalidMoves ?el_InvalidMoves ?er_InvalidMoves ?e1_InvalidMoves ?e2_InvalidMoves ?e3_InvalidMoves ?e4_InvalidMoves ?e5_InvalidMoves ?e6_InvalidMoves ?e7_InvalidMoves ?e8_InvalidMoves ?e9_InvalidMoves ?e10_InvalidMoves ?e11_InvalidMoves ?e12_InvalidMoves ?e13_InvalidMoves ?e14_InvalidMoves ?e15_InvalidMoves ?e16_InvalidMoves ?e17_InvalidMoves ?f1_InvalidMoves ?f2_InvalidMoves ?f3_InvalidMoves ?f4_InvalidMoves ?f5_InvalidMoves ?f6_InvalidMoves ?ea_InvalidNumber ?el_InvalidNumber ?er_InvalidNumber ?e1_InvalidNumber ?e2_InvalidNumber ?e3_InvalidNumber ?e4_InvalidNumber ?e5_InvalidNumber ?e6_InvalidNumber ?e7_InvalidNumber ?e8_InvalidNumber ?e9_InvalidNumber ?e10_InvalidNumber ?e11_InvalidNumber ?e12_InvalidNumber ?e13_InvalidNumber ?e14_InvalidNumber ?e15_InvalidNumber ?e16_InvalidNumber ?e17_InvalidNumber ?f1_InvalidNumber ?f2_InvalidNumber ?f3_InvalidNumber ?f4_InvalidNumber ?f5_InvalidNumber ?f6_InvalidNumber ?ea_InvalidPasses ?el_InvalidPasses ?er_InvalidPasses ?e1_InvalidPasses ?e2_InvalidPasses ?e3_InvalidPasses ?e4_InvalidPasses ?e5_InvalidPasses ?e6_InvalidPasses ?e7_InvalidPasses ?e8_InvalidPasses ?e9_InvalidPasses ?e10_InvalidPasses ?e11_InvalidPasses ?e12_InvalidPasses ?e13_InvalidPasses ?e14_InvalidPasses ?e15_InvalidPasses ?e16_InvalidPasses ?e17_InvalidPasses ?f1_InvalidPasses ?f2_InvalidPasses ?f3_InvalidPasses ?f4_InvalidPasses ?f5_InvalidPasses ?f6_InvalidPasses ?ea_InvalidRotation ?el_InvalidRotation ?er_InvalidRotation ?e1_InvalidRotation ?e2_InvalidRotation ?e3_InvalidRotation ?e4_InvalidRotation ?e5_InvalidRotation ?e6_InvalidRotation ?e7_InvalidRotation ?e8_InvalidRotation ?e9_InvalidRotation ?e10_InvalidRotation ?e11_InvalidRotation ?e12_InvalidRotation ?e13_InvalidRotation ?e14_InvalidRotation ?e15_InvalidRotation ?e16_InvalidRotation ?e17_InvalidRotation ?f1_InvalidRotation ?f2_InvalidRotation ?f3_InvalidRotation ?f4_InvalidRotation ?f5_InvalidRotation ?f6_InvalidRotation ?ea_InvalidText ?el_InvalidText ?er_InvalidText ?e1_InvalidText ?e2_InvalidText ?e3_InvalidText ?e4_InvalidText ?e5_InvalidText ?e6_InvalidText ?e7_InvalidText ?e8_InvalidText ?e9_InvalidText ?e10_InvalidText ?e11_InvalidText ?e12_InvalidText ?e13_InvalidText ?e14_InvalidText ?e15_InvalidText ?e16_InvalidText ?e17_InvalidText ?f1_InvalidText ?f2_InvalidText ?f3_InvalidText ?f4_InvalidText ?f5_InvalidText ?f6_InvalidText ?ea_InvalidTriangle ?el_InvalidTriangle ?er_InvalidTriangle ?e1_InvalidTriangle ?e2_InvalidTriangle ?e3_InvalidTriangle ?e4_InvalidTriangle ?e5_InvalidTriangle ?e6_InvalidTriangle ?e7_InvalidTriangle ?e8_InvalidTriangle ?e9_InvalidTriangle ?e10_InvalidTriangle ?e11_InvalidTriangle ?e12_InvalidTriangle ?e13_InvalidTriangle ?e14_InvalidTriangle ?e15_InvalidTriangle ?e16_InvalidTriangle ?e17_InvalidTriangle ?f1_InvalidTriangle ?f2_InvalidTriangle ?f3_InvalidTriangle ?f4_InvalidTriangle ?f5_InvalidTriangle ?f6_InvalidTriangle ?ea_InvalidVertex ?el_InvalidVertex ?er_InvalidVertex ?e1_InvalidVertex ?e2_InvalidVertex ?e3_InvalidVertex ?e4_InvalidVertex ?e5_InvalidVertex ?e6_InvalidVertex ?e7_InvalidVertex ?e8_InvalidVertex ?e9_InvalidVertex ?e10_InvalidVertex ?e11_InvalidVertex ?e12_InvalidVertex ?e13_InvalidVertex ?e14_InvalidVertex ?e15_InvalidVertex ?e16_InvalidVertex ?e17_InvalidVertex ?f1_InvalidVertex ?f2_InvalidVertex ?f3_InvalidVertex ?f4_InvalidVertex ?f5_InvalidVertex ?f6_InvalidVertex ?ea_TooMany ?el_TooMany ?er_TooMany ?e1_TooMany ?e2_TooMany ?e3_TooMany ?e4_TooMany ?e5_TooMany ?e6_TooMany ?e7_TooMany ?e8_TooMany ?e9_TooMany ?e10_TooMany ?e11_TooMany ?e12_TooMany ?e13_TooMany ?e14_TooMany ?e15_TooMany ?e16_TooMany ?e17_TooMany ?f1_TooMany ?f2_TooMany ?f3_TooMany ?f4_TooMany ?f5_TooMany ?f6_TooMany ?ga_LinkError ?gk_InvalidGraph_LinkError ?gk_InvalidText_LinkError ?gk_TooMany_LinkError ?z_cls ?zx_InvalidGraph ?zv_InvalidGraph ?zx_InvalidText ?zv_InvalidText ?zx_TooMany ?zv_TooMany ?z_fl_given ?z_fl_index ?z_is_InvalidEdge ?z_is_InvalidGraph ?z_is_InvalidLines ?z_is_InvalidMoves ?z_is_InvalidNumber ?z_is_InvalidPasses ?z_is_InvalidRotation ?z_is_InvalidText ?z_is_InvalidTriangle ?z_is_InvalidVertex ?z_is_LinkError ?z_is_TooMany ?z_is_ValueError ?z_isn_LookupError_TypeError_ArithmeticError ?zq_LinkError ?zk_LinkError
    (case a0 => first | k_is | rfl | kernel_rfl); (case l0 => first | k_is | rfl | kernel_rfl); (case c0 => first | k_is | rfl | kernel_rfl); (case k0 => first | k_is | rfl | kernel_rfl); (case a1 => first | k_is | rfl | kernel_rfl); (case l1 => first | k_is | rfl | kernel_rfl)
    (case c1 => first | k_is | rfl | kernel_rfl); (case k1 => first | k_is | rfl | kernel_rfl); (case a2 => first | k_is | rfl | kernel_rfl); (case l2 => first | k_is | rfl | kernel_rfl); (case c2 => first | k_is | rfl | kernel_rfl); (case k2 => first | k_is | rfl | kernel_rfl)
    (case a3 => first | k_is | rfl | kernel_rfl); (case l3 => first | k_is | rfl | kernel_rfl); (case c3 => first | k_is | rfl | kernel_rfl); (case k3 => first | k_is | rfl | kernel_rfl); (case a4 => first | k_is | rfl | kernel_rfl); (case l4 => first | k_is | rfl | kernel_rfl)
    (case c4 => first | k_is | rfl | kernel_rfl); (case k4 => first | k_is | rfl | kernel_rfl); (case a5 => first | k_is | rfl | kernel_rfl); (case l5 => first | k_is | rfl | kernel_rfl); (case c5 => first | k_is | rfl | kernel_rfl); (case k5 => first | k_is | rfl | kernel_rfl)
    (case a6 => first | k_is | rfl | kernel_rfl); (case l6 => first | k_is | rfl | kernel_rfl); (case c6 => first | k_is | rfl | kernel_rfl); (case k6 => first | k_is | rfl | kernel_rfl); (case a7 => first | k_is | rfl | kernel_rfl); (case l7 => first | k_is | rfl | kernel_rfl)
    (case c7 => first | k_is | rfl | kernel_rfl); (case k7 => first | k_is | rfl | kernel_rfl); (case a8 => first | k_is | rfl | kernel_rfl); (case l8 => first | k_is | rfl | kernel_rfl); (case c8 => first | k_is | rfl | kernel_rfl); (case k8 => first | k_is | rfl | kernel_rfl)
    (case a9 => first | k_is | rfl | kernel_rfl); (case l9 => first | k_is | rfl | kernel_rfl); (case c9 => first | k_is | rfl | kernel_rfl); (case k9 => first | k_is | rfl | kernel_rfl); (case z0 => first | k_is | rfl | kernel_rfl); (case z1 => first | k_is | rfl | kernel_rfl)
    (case z2 => first | k_is | rfl | kernel_rfl); (case z3 => first | k_is | rfl | kernel_rfl); (case z4 => first | k_is | rfl | kernel_rfl); (case z5 => first | k_is | rfl | kernel_rfl); (case z6 => first | k_is | rfl | kernel_rfl); (case z7 => first | k_is | rfl | kernel_rfl)
    (case z8 => first | k_is | rfl | kernel_rfl); (case z9 => first | k_is | rfl | kernel_rfl); (case z10 => first | k_is | rfl | kernel_rfl); (case z11 => first | k_is | rfl | kernel_rfl); (case zg0 => first | k_is | rfl | kernel_rfl); (case zg1 => first | k_is | rfl | kernel_rfl)
    (case zg2 => first | rfl | decide +kernel); (case zg3 => first | k_is | rfl | kernel_rfl); (case zg4 => first | k_is | rfl | kernel_rfl); (case ea_InvalidEdge => first | k_is | rfl | kernel_rfl); (case el_InvalidEdge => first | k_is | rfl | kernel_rfl); (case er_InvalidEdge => first | rfl | decide +kernel)
    (case e1_InvalidEdge => first | k_is | rfl | kernel_rfl); (case e2_InvalidEdge => first | k_is | rfl | kernel_rfl); (case e3_InvalidEdge => first | k_is | rfl | kernel_rfl); (case e4_InvalidEdge => first | k_is | rfl | kernel_rfl); (case e5_InvalidEdge => first | k_is | rfl | kernel_rfl); (case e6_InvalidEdge => first | k_is | rfl | kernel_rfl)
    (case e7_InvalidEdge => first | k_is | rfl | kernel_rfl); (case e8_InvalidEdge => first | k_is | rfl | kernel_rfl); (case e9_InvalidEdge => first | k_is | rfl | kernel_rfl); (case e10_InvalidEdge => first | k_is | rfl | kernel_rfl); (case e11_InvalidEdge => first | k_is | rfl | kernel_rfl); (case e12_InvalidEdge => first | k_is | rfl | kernel_rfl)
    (case e13_InvalidEdge => first | k_is | rfl | kernel_rfl); (case e14_InvalidEdge => first | k_is | rfl | kernel_rfl); (case e15_InvalidEdge => first | k_is | rfl | kernel_rfl); (case e16_InvalidEdge => first | k_is | rfl | kernel_rfl); (case e17_InvalidEdge => first | k_is | rfl | kernel_rfl); (case f1_InvalidEdge => first | k_is | rfl | kernel_rfl)
    (case f2_InvalidEdge => first | k_is | rfl | kernel_rfl); (case f3_InvalidEdge => first | k_is | rfl | kernel_rfl); (case f4_InvalidEdge => rfl); (case f5_InvalidEdge => first | rfl | decide +kernel); (case f6_InvalidEdge => first | k_is | rfl | kernel_rfl); (case ea_InvalidGraph => first | k_is | rfl | kernel_rfl)
    (case el_InvalidGraph => first | k_is | rfl | kernel_rfl); (case er_InvalidGraph => first | rfl | decide +kernel); (case e1_InvalidGraph => first | k_is | rfl | kernel_rfl); (case e2_InvalidGraph => first | k_is | rfl | kernel_rfl); (case e3_InvalidGraph => first | k_is | rfl | kernel_rfl); (case e4_InvalidGraph => first | k_is | rfl | kernel_rfl)
    (case e5_InvalidGraph => first | k_is | rfl | kernel_rfl); (case e6_InvalidGraph => first | k_is | rfl | kernel_rfl); (case e7_InvalidGraph => first | k_is | rfl | kernel_rfl); (case e8_InvalidGraph => first | k_is | rfl | kernel_rfl); (case e9_InvalidGraph => first | k_is | rfl | kernel_rfl); (case e10_InvalidGraph => first | k_is | rfl | kernel_rfl)
    (case e11_InvalidGraph => first | k_is | rfl | kernel_rfl); (case e12_InvalidGraph => first | k_is | rfl | kernel_rfl); (case e13_InvalidGraph => first | k_is | rfl | kernel_rfl); (case e14_InvalidGraph => first | k_is | rfl | kernel_rfl); (case e15_InvalidGraph => first | k_is | rfl | kernel_rfl); (case e16_InvalidGraph => first | k_is | rfl | kernel_rfl)
    (case e17_InvalidGraph => first | k_is | rfl | kernel_rfl); (case f1_InvalidGraph => first | k_is | rfl | kernel_rfl); (case f2_InvalidGraph => first | k_is | rfl | kernel_rfl); (case f3_InvalidGraph => first | k_is | rfl | kernel_rfl); (case f4_InvalidGraph => rfl); (case f5_InvalidGraph => first | rfl | decide +kernel)
    (case f6_InvalidGraph => first | k_is | rfl | kernel_rfl); (case ea_InvalidLines => first | k_is | rfl | kernel_rfl); (case el_InvalidLines => first | k_is | rfl | kernel_rfl); (case er_InvalidLines => first | rfl | decide +kernel); (case e1_InvalidLines => first | k_is | rfl | kernel_rfl); (case e2_InvalidLines => first | k_is | rfl | kernel_rfl)
    (case e3_InvalidLines => first | k_is | rfl | kernel_rfl); (case e4_InvalidLines => first | k_is | rfl | kernel_rfl); (case e5_InvalidLines => first | k_is | rfl | kernel_rfl); (case e6_InvalidLines => first | k_is | rfl | kernel_rfl); (case e7_InvalidLines => first | k_is | rfl | kernel_rfl); (case e8_InvalidLines => first | k_is | rfl | kernel_rfl)
    (case e9_InvalidLines => first | k_is | rfl | kernel_rfl); (case e10_InvalidLines => first | k_is | rfl | kernel_rfl); (case e11_InvalidLines => first | k_is | rfl | kernel_rfl); (case e12_InvalidLines => first | k_is | rfl | kernel_rfl); (case e13_InvalidLines => first | k_is | rfl | kernel_rfl); (case e14_InvalidLines => first | k_is | rfl | kernel_rfl)
    (case e15_InvalidLines => first | k_is | rfl | kernel_rfl); (case e16_InvalidLines => first | k_is | rfl | kernel_rfl); (case e17_InvalidLines => first | k_is | rfl | kernel_rfl); (case f1_InvalidLines => first | k_is | rfl | kernel_rfl); (case f2_InvalidLines => first | k_is | rfl | kernel_rfl); (case f3_InvalidLines => first | k_is | rfl | kernel_rfl)
    (case f4_InvalidLines => rfl); (case f5_InvalidLines => first | rfl | decide +kernel); (case f6_InvalidLines => first | k_is | rfl | kernel_rfl); (case ea_InvalidMoves => first | k_is | rfl | kernel_rfl); (case el_InvalidMoves => first | k_is | rfl | kernel_rfl); (case er_InvalidMoves => first | rfl | decide +kernel)
    (case e1_InvalidMoves => first | k_is | rfl | kernel_rfl); (case e2_InvalidMoves => first | k_is | rfl | kernel_rfl); (case e3_InvalidMoves => first | k_is | rfl | kernel_rfl); (case e4_InvalidMoves => first | k_is | rfl | kernel_rfl); (case e5_InvalidMoves => first | k_is | rfl | kernel_rfl); (case e6_InvalidMoves => first | k_is | rfl | kernel_rfl)
    (case e7_InvalidMoves => first | k_is | rfl | kernel_rfl); (case e8_InvalidMoves => first | k_is | rfl | kernel_rfl); (case e9_InvalidMoves => first | k_is | rfl | kernel_rfl); (case e10_InvalidMoves => first | k_is | rfl | kernel_rfl); (case e11_InvalidMoves => first | k_is | rfl | kernel_rfl); (case e12_InvalidMoves => first | k_is | rfl | kernel_rfl)
    (case e13_InvalidMoves => first | k_is | rfl | kernel_rfl); (case e14_InvalidMoves => first | k_is | rfl | kernel_rfl); (case e15_InvalidMoves => first | k_is | rfl | kernel_rfl); (case e16_InvalidMoves => first | k_is | rfl | kernel_rfl); (case e17_InvalidMoves => first | k_is | rfl | kernel_rfl); (case f1_InvalidMoves => first | k_is | rfl | kernel_rfl)
    (case f2_InvalidMoves => first | k_is | rfl | kernel_rfl); (case f3_InvalidMoves => first | k_is | rfl | kernel_rfl); (case f4_InvalidMoves => rfl); (case f5_InvalidMoves => first | rfl | decide +kernel); (case f6_InvalidMoves => first | k_is | rfl | kernel_rfl); (case ea_InvalidNumber => first | k_is | rfl | kernel_rfl)
    (case el_InvalidNumber => first | k_is | rfl | kernel_rfl); (case er_InvalidNumber => first | rfl | decide +kernel); (case e1_InvalidNumber => first | k_is | rfl | kernel_rfl); (case e2_InvalidNumber => first | k_is | rfl | kernel_rfl); (case e3_InvalidNumber => first | k_is | rfl | kernel_rfl); (case e4_InvalidNumber => first | k_is | rfl | kernel_rfl)
    (case e5_InvalidNumber => first | k_is | rfl | kernel_rfl); (case e6_InvalidNumber => first | k_is | rfl | kernel_rfl); (case e7_InvalidNumber => first | k_is | rfl | kernel_rfl); (case e8_InvalidNumber => first | k_is | rfl | kernel_rfl); (case e9_InvalidNumber => first | k_is | rfl | kernel_rfl); (case e10_InvalidNumber => first | k_is | rfl | kernel_rfl)
    (case e11_InvalidNumber => first | k_is | rfl | kernel_rfl); (case e12_InvalidNumber => first | k_is | rfl | kernel_rfl); (case e13_InvalidNumber => first | k_is | rfl | kernel_rfl); (case e14_InvalidNumber => first | k_is | rfl | kernel_rfl); (case e15_InvalidNumber => first | k_is | rfl | kernel_rfl); (case e16_InvalidNumber => first | k_is | rfl | kernel_rfl)
    (case e17_InvalidNumber => first | k_is | rfl | kernel_rfl); (case f1_InvalidNumber => first | k_is | rfl | kernel_rfl); (case f2_InvalidNumber => first | k_is | rfl | kernel_rfl); (case f3_InvalidNumber => first | k_is | rfl | kernel_rfl); (case f4_InvalidNumber => rfl); (case f5_InvalidNumber => first | rfl | decide +kernel)
    (case f6_InvalidNumber => first | k_is | rfl | kernel_rfl); (case ea_InvalidPasses => first | k_is | rfl | kernel_rfl); (case el_InvalidPasses => first | k_is | rfl | kernel_rfl); (case er_InvalidPasses => first | rfl | decide +kernel); (case e1_InvalidPasses => first | k_is | rfl | kernel_rfl); (case e2_InvalidPasses => first | k_is | rfl | kernel_rfl)
    (case e3_InvalidPasses => first | k_is | rfl | kernel_rfl); (case e4_InvalidPasses => first | k_is | rfl | kernel_rfl); (case e5_InvalidPasses => first | k_is | rfl | kernel_rfl); (case e6_InvalidPasses => first | k_is | rfl | kernel_rfl); (case e7_InvalidPasses => first | k_is | rfl | kernel_rfl); (case e8_InvalidPasses => first | k_is | rfl | kernel_rfl)
    (case e9_InvalidPasses => first | k_is | rfl | kernel_rfl); (case e10_InvalidPasses => first | k_is | rfl | kernel_rfl); (case e11_InvalidPasses => first | k_is | rfl | kernel_rfl); (case e12_InvalidPasses => first | k_is | rfl | kernel_rfl); (case e13_InvalidPasses => first | k_is | rfl | kernel_rfl); (case e14_InvalidPasses => first | k_is | rfl | kernel_rfl)
    (case e15_InvalidPasses => first | k_is | rfl | kernel_rfl); (case e16_InvalidPasses => first | k_is | rfl | kernel_rfl); (case e17_InvalidPasses => first | k_is | rfl | kernel_rfl); (case f1_InvalidPasses => first | k_is | rfl | kernel_rfl); (case f2_InvalidPasses => first | k_is | rfl | kernel_rfl); (case f3_InvalidPasses => first | k_is | rfl | kernel_rfl)
    (case f4_InvalidPasses => rfl); (case f5_InvalidPasses => first | rfl | decide +kernel); (case f6_InvalidPasses => first | k_is | rfl | kernel_rfl); (case ea_InvalidRotation => first | k_is | rfl | kernel_rfl); (case el_InvalidRotation => first | k_is | rfl | kernel_rfl); (case er_InvalidRotation => first | rfl | decide +kernel)
    (case e1_InvalidRotation => first | k_is | rfl | kernel_rfl); (case e2_InvalidRotation => first | k_is | rfl | kernel_rfl); (case e3_InvalidRotation => first | k_is | rfl | kernel_rfl); (case e4_InvalidRotation => first | k_is | rfl | kernel_rfl); (case e5_InvalidRotation => first | k_is | rfl | kernel_rfl); (case e6_InvalidRotation => first | k_is | rfl | kernel_rfl)
    (case e7_InvalidRotation => first | k_is | rfl | kernel_rfl); (case e8_InvalidRotation => first | k_is | rfl | kernel_rfl); (case e9_InvalidRotation => first | k_is | rfl | kernel_rfl); (case e10_InvalidRotation => first | k_is | rfl | kernel_rfl); (case e11_InvalidRotation => first | k_is | rfl | kernel_rfl); (case e12_InvalidRotation => first | k_is | rfl | kernel_rfl)
    (case e13_InvalidRotation => first | k_is | rfl | kernel_rfl); (case e14_InvalidRotation => first | k_is | rfl | kernel_rfl); (case e15_InvalidRotation => first | k_is | rfl | kernel_rfl); (case e16_InvalidRotation => first | k_is | rfl | kernel_rfl); (case e17_InvalidRotation => first | k_is | rfl | kernel_rfl); (case f1_InvalidRotation => first | k_is | rfl | kernel_rfl)
    (case f2_InvalidRotation => first | k_is | rfl | kernel_rfl); (case f3_InvalidRotation => first | k_is | rfl | kernel_rfl); (case f4_InvalidRotation => rfl); (case f5_InvalidRotation => first | rfl | decide +kernel); (case f6_InvalidRotation => first | k_is | rfl | kernel_rfl); (case ea_InvalidText => first | k_is | rfl | kernel_rfl)
    (case el_InvalidText => first | k_is | rfl | kernel_rfl); (case er_InvalidText => first | rfl | decide +kernel); (case e1_InvalidText => first | k_is | rfl | kernel_rfl); (case e2_InvalidText => first | k_is | rfl | kernel_rfl); (case e3_InvalidText => first | k_is | rfl | kernel_rfl); (case e4_InvalidText => first | k_is | rfl | kernel_rfl)
    (case e5_InvalidText => first | k_is | rfl | kernel_rfl); (case e6_InvalidText => first | k_is | rfl | kernel_rfl); (case e7_InvalidText => first | k_is | rfl | kernel_rfl); (case e8_InvalidText => first | k_is | rfl | kernel_rfl); (case e9_InvalidText => first | k_is | rfl | kernel_rfl); (case e10_InvalidText => first | k_is | rfl | kernel_rfl)
    (case e11_InvalidText => first | k_is | rfl | kernel_rfl); (case e12_InvalidText => first | k_is | rfl | kernel_rfl); (case e13_InvalidText => first | k_is | rfl | kernel_rfl); (case e14_InvalidText => first | k_is | rfl | kernel_rfl); (case e15_InvalidText => first | k_is | rfl | kernel_rfl); (case e16_InvalidText => first | k_is | rfl | kernel_rfl)
    (case e17_InvalidText => first | k_is | rfl | kernel_rfl); (case f1_InvalidText => first | k_is | rfl | kernel_rfl); (case f2_InvalidText => first | k_is | rfl | kernel_rfl); (case f3_InvalidText => first | k_is | rfl | kernel_rfl); (case f4_InvalidText => rfl); (case f5_InvalidText => first | rfl | decide +kernel)
    (case f6_InvalidText => first | k_is | rfl | kernel_rfl); (case ea_InvalidTriangle => first | k_is | rfl | kernel_rfl); (case el_InvalidTriangle => first | k_is | rfl | kernel_rfl); (case er_InvalidTriangle => first | rfl | decide +kernel); (case e1_InvalidTriangle => first | k_is | rfl | kernel_rfl); (case e2_InvalidTriangle => first | k_is | rfl | kernel_rfl)
    (case e3_InvalidTriangle => first | k_is | rfl | kernel_rfl); (case e4_InvalidTriangle => first | k_is | rfl | kernel_rfl); (case e5_InvalidTriangle => first | k_is | rfl | kernel_rfl); (case e6_InvalidTriangle => first | k_is | rfl | kernel_rfl); (case e7_InvalidTriangle => first | k_is | rfl | kernel_rfl); (case e8_InvalidTriangle => first | k_is | rfl | kernel_rfl)
    (case e9_InvalidTriangle => first | k_is | rfl | kernel_rfl); (case e10_InvalidTriangle => first | k_is | rfl | kernel_rfl); (case e11_InvalidTriangle => first | k_is | rfl | kernel_rfl); (case e12_InvalidTriangle => first | k_is | rfl | kernel_rfl); (case e13_InvalidTriangle => first | k_is | rfl | kernel_rfl); (case e14_InvalidTriangle => first | k_is | rfl | kernel_rfl)
    (case e15_InvalidTriangle => first | k_is | rfl | kernel_rfl); (case e16_InvalidTriangle => first | k_is | rfl | kernel_rfl); (case e17_InvalidTriangle => first | k_is | rfl | kernel_rfl); (case f1_InvalidTriangle => first | k_is | rfl | kernel_rfl); (case f2_InvalidTriangle => first | k_is | rfl | kernel_rfl); (case f3_InvalidTriangle => first | k_is | rfl | kernel_rfl)
    (case f4_InvalidTriangle => rfl); (case f5_InvalidTriangle => first | rfl | decide +kernel); (case f6_InvalidTriangle => first | k_is | rfl | kernel_rfl); (case ea_InvalidVertex => first | k_is | rfl | kernel_rfl); (case el_InvalidVertex => first | k_is | rfl | kernel_rfl); (case er_InvalidVertex => first | rfl | decide +kernel)
    (case e1_InvalidVertex => first | k_is | rfl | kernel_rfl); (case e2_InvalidVertex => first | k_is | rfl | kernel_rfl); (case e3_InvalidVertex => first | k_is | rfl | kernel_rfl); (case e4_InvalidVertex => first | k_is | rfl | kernel_rfl); (case e5_InvalidVertex => first | k_is | rfl | kernel_rfl); (case e6_InvalidVertex => first | k_is | rfl | kernel_rfl)
    (case e7_InvalidVertex => first | k_is | rfl | kernel_rfl); (case e8_InvalidVertex => first | k_is | rfl | kernel_rfl); (case e9_InvalidVertex => first | k_is | rfl | kernel_rfl); (case e10_InvalidVertex => first | k_is | rfl | kernel_rfl); (case e11_InvalidVertex => first | k_is | rfl | kernel_rfl); (case e12_InvalidVertex => first | k_is | rfl | kernel_rfl)
    (case e13_InvalidVertex => first | k_is | rfl | kernel_rfl); (case e14_InvalidVertex => first | k_is | rfl | kernel_rfl); (case e15_InvalidVertex => first | k_is | rfl | kernel_rfl); (case e16_InvalidVertex => first | k_is | rfl | kernel_rfl); (case e17_InvalidVertex => first | k_is | rfl | kernel_rfl); (case f1_InvalidVertex => first | k_is | rfl | kernel_rfl)
    (case f2_InvalidVertex => first | k_is | rfl | kernel_rfl); (case f3_InvalidVertex => first | k_is | rfl | kernel_rfl); (case f4_InvalidVertex => rfl); (case f5_InvalidVertex => first | rfl | decide +kernel); (case f6_InvalidVertex => first | k_is | rfl | kernel_rfl); (case ea_TooMany => first | k_is | rfl | kernel_rfl)
    (case el_TooMany => first | k_is | rfl | kernel_rfl); (case er_TooMany => first | rfl | decide +kernel); (case e1_TooMany => first | k_is | rfl | kernel_rfl); (case e2_TooMany => first | k_is | rfl | kernel_rfl); (case e3_TooMany => first | k_is | rfl | kernel_rfl); (case e4_TooMany => first | k_is | rfl | kernel_rfl)
    (case e5_TooMany => first | k_is | rfl | kernel_rfl); (case e6_TooMany => first | k_is | rfl | kernel_rfl); (case e7_TooMany => first | k_is | rfl | kernel_rfl); (case e8_TooMany => first | k_is | rfl | kernel_rfl); (case e9_TooMany => first | k_is | rfl | kernel_rfl); (case e10_TooMany => first | k_is | rfl | kernel_rfl)
    (case e11_TooMany => first | k_is | rfl | kernel_rfl); (case e12_TooMany => first | k_is | rfl | kernel_rfl); (case e13_TooMany => first | k_is | rfl | kernel_rfl); (case e14_TooMany => first | k_is | rfl | kernel_rfl); (case e15_TooMany => first | k_is | rfl | kernel_rfl); (case e16_TooMany => first | k_is | rfl | kernel_rfl)
    (case e17_TooMany => first | k_is | rfl | kernel_rfl); (case f1_TooMany => first | k_is | rfl | kernel_rfl); (case f2_TooMany => first | k_is | rfl | kernel_rfl); (case f3_TooMany => first | k_is | rfl | kernel_rfl); (case f4_TooMany => rfl); (case f5_TooMany => first | rfl | decide +kernel)
    (case f6_TooMany => first | k_is | rfl | kernel_rfl); (case ga_LinkError => first | k_is | rfl | kernel_rfl); (case gk_InvalidGraph_LinkError => first | k_is | rfl | kernel_rfl); (case gk_InvalidText_LinkError => first | k_is | rfl | kernel_rfl); (case gk_TooMany_LinkError => first | k_is | rfl | kernel_rfl); (case z_cls => kernel_rfl)
    (case zx_InvalidGraph => first | k_is | rfl | kernel_rfl); (case zv_InvalidGraph => first | k_is | rfl | kernel_rfl); (case zx_InvalidText => first | k_is | rfl | kernel_rfl); (case zv_InvalidText => first | k_is | rfl | kernel_rfl); (case zx_TooMany => first | k_is | rfl | kernel_rfl); (case zv_TooMany => first | k_is | rfl | kernel_rfl)
    (case z_fl_given => kernel_rfl); (case z_fl_index => kernel_rfl); (case z_is_InvalidEdge => kernel_rfl); (case z_is_InvalidGraph => kernel_rfl); (case z_is_InvalidLines => kernel_rfl); (case z_is_InvalidMoves => kernel_rfl)
    (case z_is_InvalidNumber => kernel_rfl); (case z_is_InvalidPasses => kernel_rfl); (case z_is_InvalidRotation => kernel_rfl); (case z_is_InvalidText => kernel_rfl); (case z_is_InvalidTriangle => kernel_rfl); (case z_is_InvalidVertex => kernel_rfl)
    (case z_is_LinkError => kernel_rfl); (case z_is_TooMany => kernel_rfl); (case z_is_ValueError => kernel_rfl); (case z_isn_LookupError_TypeError_ArithmeticError => kernel_rfl); (case zq_LinkError => first | k_is | rfl | kernel_rfl); (case zk_LinkError => first | k_is | rfl | kernel_rfl)
