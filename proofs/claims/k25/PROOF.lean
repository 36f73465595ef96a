import PyProof.Rows.All
import Wide.All
import OpenK.AllK
import Wide.FinOn
import HandS.ForMost
import HandS.Exc
import HandS.CallSlots
import HandS.TupAny
import HandS.IsInst
import HandS.Defaults
import HandS.MakeKw
import HandS.FStr
import HandS.DictComp
import HandS.Conv
import HandS.Wide
import HandS.Lambda
import HandS.Style
import PyProof.ExcBaseAll.LookupError
import HandS.ExcInit
import HandS.ExcField
import HandS.ExcIs
import HandS.TryMany
import KE.KExcIs
import HandS.Iter
import KE.GoesMore
import KE.GoesEnum
import PyProof.InstNe
import OpenK.KOwn
import HandS.Replace
import PyProof.MeetsStr3
import HandS.Ends
import HandS.EndTab
import HandS.NestedK
import HandS.Rev
import HandS.SortKw
import KE.KRevSl
import KE.DatumOrd
import HandS.WideBits
import HandS.SortInts
import HandS.SetFor
import HandS.More
import HandS.Strs
import HandS.Small
import HandS.TupLe
import HandS.Words
import PySem.Challenge.RW_agedcopy_k25_whole_ages_told_by_remainde
set_option Elab.async false
set_option autoImplicit false
set_option linter.all false
set_option maxRecDepth 100000
set_option maxHeartbeats 3900000
/-! DL: data level. What a reading of the layer means for plain data: slots hold data or lists of one's own, nothing of the heap is left. -/
namespace DL
open L2 PyProof.Rows PySem PySem.Spec
/-- t: the tables of code objects, each with the name that stands in it; gs, gf: what is known to stay -/
structure Tb where
  t : List (Addr × Str)
  gs : Hp
  gf : Hp
abbrev tb0 (t : List (Addr × Str)) : Tb := ⟨t, fun _ => none, fun _ => none⟩
variable {τ : Tb}

abbrev Fg := PySem.W.Frag
/-- plain data -/
inductive D where
  | non | bl (b : Bool) | int (i : Int) | str (s : Str)
  | lst (xs : List D) | tup (xs : List D)
  | obj (c : Addr) (ns : List Str) (ds : List D)
  | dic (ks : List Key) (ds : List D)
  | dct (ks : List (List Key)) (ds : List D)
  | scr (is : List Int)
  | raw (v : V)
  | exn (v : V) (dd : Addr) (f : Str) (d : D)
  | err (c : Addr) (f : Str) (d : D)

/-- at a an error of the class C, its dict at dd -/
def ErrO (C dd a : Addr) (o : HO) : Prop := ∃ φ, o = .ext φ ∧ ∀ h, φ h → ∃ (oe : Obj) (vs : Array Value), h.get? a = some oe ∧ Zc (.ref C) (some dd) oe ∧ oe.data = .fields vs
mutual
inductive Is (K : Fg) (S : Hp) : V → D → Prop
  | non : Is K S .non .non
  | bl (b : Bool) : Is K S (.bl b) (.bl b)
  | int (i : Int) : Is K S (.int i) (.int i)
  | str (s : Str) : Is K S (.str s) (.str s)
  | lst {a vs ds} : S a = some (.lst vs) → IsAll K S vs ds → Is K S (.ref a) (.lst ds)
  | tup {a vs ds} : S a = some (.tup vs) → IsAll K S vs ds → Is K S (.ref a) (.tup ds)
  | obj {a C dx vs ns ds} : S a = some (.ins C dx vs) → vs.map (·.1) = ns → IsAll K S (vs.map (·.2)) ds → Is K S (.ref a) (.obj C ns ds)
  | dic {a kvs ks ds} : S a = some (.dK kvs) → kvs.map (·.1) = ks → IsAll K S (kvs.map (·.2)) ds → Is K S (.ref a) (.dic ks ds)
  | dct {a kvs ks ds} : S a = some (.dT kvs) → kvs.map (·.1) = ks → IsAll K S (kvs.map (·.2)) ds → Is K S (.ref a) (.dct ks ds)
  | scr {a} {is : List Int} : SqL K S a (is.map V.int) → Is K S (.ref a) (.scr is)
  | raw (v : V) : Is K S v (.raw v)
  | exn {v dd f u d} : S dd = some (.xd [(f, u)]) → Is K S u d → Is K S v (.exn v dd f d)
  | err {a o dd C f u d} : S a = some o → ErrO C dd a o → S dd = some (.xd [(f, u)]) → Is K S u d → Is K S (.ref a) (.err C f d)
inductive IsAll (K : Fg) (S : Hp) : List V → List D → Prop
  | nil : IsAll K S [] []
  | cons {v vs d ds} : Is K S v d → IsAll K S vs ds → IsAll K S (v :: vs) (d :: ds)
end

section
variable {K : Fg} {S S' : Hp}
theorem both_mono (e : Same S S') : (∀ v d, Is K S v d → Is K S' v d) ∧ (∀ vs ds, IsAll K S vs ds → IsAll K S' vs ds) := by
  refine ⟨fun v d h => ?_, fun vs ds h => ?_⟩
  · exact Is.rec (motive_1 := fun v d _ => Is K S' v d) (motive_2 := fun vs ds _ => IsAll K S' vs ds) .non .bl .int .str
      (fun h _ ih => .lst (e _ _ h) ih) (fun h _ ih => .tup (e _ _ h) ih) (fun h hn _ ih => .obj (e _ _ h) hn ih) (fun h hn _ ih => .dic (e _ _ h) hn ih) (fun h hn _ ih => .dct (e _ _ h) hn ih) (fun h => .scr (e.seq h)) .raw (fun h _ ih => .exn (e _ _ h) ih) (fun h1 h2 h3 _ ih => .err (e _ _ h1) h2 (e _ _ h3) ih) .nil (fun _ _ a b => .cons a b) h
  · exact IsAll.rec (motive_1 := fun v d _ => Is K S' v d) (motive_2 := fun vs ds _ => IsAll K S' vs ds) .non .bl .int .str
      (fun h _ ih => .lst (e _ _ h) ih) (fun h _ ih => .tup (e _ _ h) ih) (fun h hn _ ih => .obj (e _ _ h) hn ih) (fun h hn _ ih => .dic (e _ _ h) hn ih) (fun h hn _ ih => .dct (e _ _ h) hn ih) (fun h => .scr (e.seq h)) .raw (fun h _ ih => .exn (e _ _ h) ih) (fun h1 h2 h3 _ ih => .err (e _ _ h1) h2 (e _ _ h3) ih) .nil (fun _ _ a b => .cons a b) h
theorem Is.mono {v d} (h : Is K S v d) (e : Same S S') : Is K S' v d := (both_mono e).1 v d h
theorem IsAll.mono {vs ds} (h : IsAll K S vs ds) (e : Same S S') : IsAll K S' vs ds := (both_mono e).2 vs ds h
theorem IsAll.length : ∀ {vs : List V} {ds : List D}, IsAll K S vs ds → vs.length = ds.length
  | _, _, .nil => rfl
  | _, _, .cons _ q => congrArg (· + 1) q.length
theorem IsAll.get : ∀ {vs : List V} {ds : List D} {i : Nat} {d : D}, IsAll K S vs ds → ds[i]? = some d → ∃ v, vs[i]? = some v ∧ Is K S v d
  | _, _, _, _, .nil, e => nomatch e
  | _, _, 0, _, .cons r _, e => by cases (Option.some.inj e); exact ⟨_, rfl, r⟩
  | _, _, i + 1, d, .cons _ t, e => by
    obtain ⟨u, h1, h2⟩ := IsAll.get (i := i) (d := d) t (by simpa using e)
    exact ⟨_, (by simpa using h1), h2⟩
theorem IsAll.append : ∀ {xs ys : List V} {us ws : List D}, IsAll K S xs us → IsAll K S ys ws → IsAll K S (xs ++ ys) (us ++ ws)
  | _, _, _, _, .nil, s => s
  | _, _, _, _, .cons r t, s => .cons r (t.append s)
theorem IsAll.take : ∀ {xs : List V} {us : List D} (n : Nat), IsAll K S xs us → IsAll K S (xs.take n) (us.take n)
  | _, _, 0, _ => .nil
  | _, _, _ + 1, .nil => .nil
  | _, _, n + 1, .cons r t => .cons r (t.take n)
theorem IsAll.drop : ∀ {xs : List V} {us : List D} (n : Nat), IsAll K S xs us → IsAll K S (xs.drop n) (us.drop n)
  | _, _, 0, r => r
  | _, _, _ + 1, .nil => .nil
  | _, _, n + 1, .cons _ t => t.drop n
theorem IsAll.set {v : V} {d : D} (r : Is K S v d) : ∀ {xs : List V} {us : List D} (i : Nat), IsAll K S xs us → IsAll K S (xs.set i v) (us.set i d)
  | _, _, _, .nil => .nil
  | _, _, 0, .cons _ z => .cons r z
  | _, _, i + 1, .cons q t => .cons q (IsAll.set r i t)
theorem IsAll.reverse {xs : List V} {us : List D} (h : IsAll K S xs us) : IsAll K S xs.reverse us.reverse := by
  induction xs generalizing us with
  | nil => cases h; exact .nil
  | cons x xs ih => cases h with
    | cons r t => rw [List.reverse_cons, List.reverse_cons]; exact (ih t).append (.cons r .nil)
end

/-- an object of one's own -/
inductive OD where
  | l (xs : List D) | k (ks : List Key) (ds : List D) | t (ks : List (List Key)) (ds : List D) | i (c : Addr) (ns : List Str) (ds : List D)
def OD.d : OD → D
  | .l xs => .lst xs
  | .k ks ds => .dic ks ds
  | .t ks ds => .dct ks ds
  | .i c ns ds => .obj c ns ds
inductive OIs (K : Fg) (S : Hp) : HO → OD → Prop
  | l {vs ds} : IsAll K S vs ds → OIs K S (.lst vs) (.l ds)
  | k {kvs ks ds} : kvs.map (·.1) = ks → IsAll K S (kvs.map (·.2)) ds → OIs K S (.dK kvs) (.k ks ds)
  | t {kvs ks ds} : kvs.map (·.1) = ks → IsAll K S (kvs.map (·.2)) ds → OIs K S (.dT kvs) (.t ks ds)
  | i {c dx vs ns ds} : vs.map (·.1) = ns → IsAll K S (vs.map (·.2)) ds → OIs K S (.ins c dx vs) (.i c ns ds)
theorem OIs.mono {K : Fg} {S S' : Hp} {o od} (h : OIs K S o od) (e : Same S S') : OIs K S' o od := by
  cases h with
  | l h => exact .l (h.mono e)
  | k hn h => exact .k hn (h.mono e)
  | t hn h => exact .t hn (h.mono e)
  | i hn h => exact .i hn (h.mono e)
theorem OIs.notX {K : Fg} {S : Hp} {o od} (h : OIs K S o od) : (∀ ps, o ≠ .tbl ps) ∧ ∀ c q, o ≠ LamX.CodeO c q := by
  cases h <;> exact ⟨(fun _ z => by cases z), (fun _ _ z => by unfold LamX.CodeO at z; cases z)⟩
def TupO (o : HO) : Prop := ∃ xs, o = .tup xs
theorem OIs.nt {K : Fg} {S : Hp} {o od} (h : OIs K S o od) : ¬ TupO o := by
  cases h <;> exact fun ⟨_, z⟩ => by cases z
/-- the tables of code objects: tracked, and nothing of the data -/
structure TbOk (τ : Tb) (S F H : Hp) : Prop where
  tab : LamX.Tabs τ.t H
  nS : ∀ p ∈ τ.t, S p.1 = none
  nF : ∀ p ∈ τ.t, F p.1 = none
  ks : ∀ a o, τ.gs a = some o → S a = some o
  kf : ∀ a o, τ.gf a = some o → F a = some o
inductive Sl where
  | un | val (d : D) | own (l : Addr) (o : OD)
abbrev Rho := List Sl
/-- the slots σ and the heap H are what ρ says; S: what never changes; F: what others own -/
structure ER (K : Fg) (τ : Tb) (S F H : Hp) (ρ : Rho) (σ : L2.St) : Prop where
  len : ρ.length = σ.length
  ex : Same S H
  fr : ∀ a o, F a = some o → H a = some o ∧ (S a = none ∨ TupO o)
  val : ∀ (i : Nat) (d : D), ρ[i]? = some (Sl.val d) → ∃ v, σ[i]? = some (some v) ∧ Is K S v d
  own : ∀ (i : Nat) (l : Addr) (od : OD), ρ[i]? = some (Sl.own l od) → σ[i]? = some (some (V.ref l)) ∧ S l = none ∧ F l = none ∧ ∃ o, H l = some o ∧ OIs K S o od
  dis : ∀ (i j : Nat) (l : Addr) (o o' : OD), ρ[i]? = some (Sl.own l o) → ρ[j]? = some (Sl.own l o') → i = j
  tb : TbOk τ S F H
theorem TbOk.at {τ : Tb} {S F H : Hp} (t : TbOk τ S F H) {p : Addr × Str} (h : p ∈ τ.t) : ∃ ps, H p.1 = some (.tbl ps) := by
  obtain ⟨ps, h1, -⟩ := t.tab p h; exact ⟨ps, h1⟩
theorem TbOk.new {τ : Tb} {S F H : Hp} {a : Addr} {o : HO} (t : TbOk τ S F H) (ha : H a = none) (sa : S a = none) : TbOk τ (upd S a o) F (upd H a o) := by
  have ne : ∀ p ∈ τ.t, p.1 ≠ a := fun p hp => by obtain ⟨ps, h⟩ := t.at hp; exact ne_of_none h ha
  exact ⟨t.tab.ext fun b u e => by rw [upd_ne (ne_of_none e ha)]; exact e, fun p hp => by rw [upd_ne (ne p hp)]; exact t.nS p hp, t.nF, fun b u e => by rw [upd_ne (ne_of_none (t.ks b u e) sa)]; exact t.ks b u e, t.kf⟩
theorem TbOk.newH {τ : Tb} {S F H : Hp} {a : Addr} {o : HO} (t : TbOk τ S F H) (ha : H a = none) : TbOk τ S F (upd H a o) :=
  ⟨t.tab.ext fun b u e => by rw [upd_ne (ne_of_none e ha)]; exact e, t.nS, t.nF, t.ks, t.kf⟩
theorem TbOk.chg {τ : Tb} {S F H : Hp} {a : Addr} {o o' : HO} (t : TbOk τ S F H) (ha : H a = some o) (n1 : ∀ ps, o ≠ .tbl ps) (n2 : ∀ c q, o ≠ LamX.CodeO c q) : TbOk τ S F (upd H a o') := by
  refine ⟨fun p hp => ?_, t.nS, t.nF, t.ks, t.kf⟩
  obtain ⟨ps, h1, h2, h3⟩ := t.tab p hp
  have ne : p.1 ≠ a := fun z => by rw [z, ha] at h1; exact n1 ps (Option.some.inj h1)
  refine ⟨ps, by rw [upd_ne ne]; exact h1, h2, fun pos cv hc => ?_⟩
  obtain ⟨c, e1, e2⟩ := h3 pos cv hc
  have nc : c ≠ a := fun z => by rw [z, ha] at e2; exact n2 _ _ (Option.some.inj e2)
  exact ⟨c, e1, by rw [upd_ne nc]; exact e2⟩
theorem TbOk.addS {τ : Tb} {S F H : Hp} {a : Addr} {o o' : HO} (t : TbOk τ S F H) (ha : H a = some o) (sa : S a = none) (n1 : ∀ ps, o ≠ .tbl ps) : TbOk τ (upd S a o') F H := by
  refine ⟨t.tab, fun p hp => ?_, t.nF, fun b u e => by rw [upd_ne (ne_of_none (t.ks b u e) sa)]; exact t.ks b u e, t.kf⟩
  obtain ⟨ps, h⟩ := t.at hp
  have ne : p.1 ≠ a := fun z => by rw [z, ha] at h; exact n1 ps (Option.some.inj h)
  rw [upd_ne ne]; exact t.nS p hp
section
variable {K : Fg} {S F H : Hp} {ρ : Rho} {σ : L2.St} {p : Addr} {o : HO}
/-- a new object that never changes -/
theorem TbOk.newF {τ : Tb} {S F H : Hp} {a : Addr} {o : HO} (t : TbOk τ S F H) (ha : H a = none) (fa : F a = none) : TbOk τ S (upd F a o) (upd H a o) := by
  have ne : ∀ p ∈ τ.t, p.1 ≠ a := fun p hp => by obtain ⟨ps, h⟩ := t.at hp; exact ne_of_none h ha
  exact ⟨t.tab.ext fun b u e => by rw [upd_ne (ne_of_none e ha)]; exact e, t.nS, fun p hp => by rw [upd_ne (ne p hp)]; exact t.nF p hp, t.ks, fun b u e => by rw [upd_ne (ne_of_none (t.kf b u e) fa)]; exact t.kf b u e⟩
theorem TbOk.addF {τ : Tb} {S F H : Hp} {a : Addr} {o o' : HO} (t : TbOk τ S F H) (ha : H a = some o) (fa : F a = none) (n1 : ∀ ps, o ≠ .tbl ps) : TbOk τ S (upd F a o') H := by
  refine ⟨t.tab, t.nS, fun p hp => ?_, t.ks, fun b u e => by rw [upd_ne (ne_of_none (t.kf b u e) fa)]; exact t.kf b u e⟩
  obtain ⟨ps, h⟩ := t.at hp
  have ne : p.1 ≠ a := fun z => by rw [z, ha] at h; exact n1 ps (Option.some.inj h)
  rw [upd_ne ne]; exact t.nF p hp
theorem TbOk.free {τ : Tb} {S F H : Hp} {a : Addr} (t : TbOk τ S F H) (fa : F a = none) : τ.gf a = none := by
  cases h : τ.gf a with
  | none => rfl
  | some u => rw [t.kf a u h] at fa; cases fa
theorem TbOk.lessF {τ : Tb} {S F H : Hp} {a : Addr} {o : HO} (t : TbOk τ S (upd F a o) H) (fa : F a = none) (ga : τ.gf a = none) : TbOk τ S F H := by
  refine ⟨t.tab, t.nS, fun p hp => ?_, t.ks, fun b u e => ?_⟩
  · by_cases hb : p.1 = a
    · rw [hb]; exact fa
    · have := t.nF p hp; rw [upd_ne hb] at this; exact this
  · have := t.kf b u e; rw [upd_ne (ne_of_none e ga)] at this; exact this
theorem TbOk.inF {τ : Tb} {S F H : Hp} {a : Addr} {o : HO} (t : TbOk τ S (upd F a o) H) : ∀ p ∈ τ.t, p.1 ≠ a := fun p hp z => by
  have := t.nF p hp; rw [z, upd_same] at this; cases this
theorem ER.new (e : ER K τ S F H ρ σ) (hp : H p = none) : ER K τ (upd S p o) F (upd H p o) ρ σ := by
  have sp : S p = none := by
    cases h : S p with
    | none => rfl
    | some u => rw [e.ex p u h] at hp; cases hp
  have sS : Same S (upd S p o) := fun b u h => by rw [upd_ne (ne_of_none h sp)]; exact h
  refine ⟨e.len, fun b u h => ?_, fun a u h => ?_, fun i d h => ?_, fun i l od h => ?_, e.dis, e.tb.new hp sp⟩
  · by_cases hb : b = p
    · subst hb; rw [upd_same] at h ⊢; exact h
    · rw [upd_ne hb] at h ⊢; exact e.ex b u h
  · obtain ⟨h1, h2⟩ := e.fr a u h
    have ne := ne_of_none h1 hp
    rw [upd_ne ne, upd_ne ne]; exact ⟨h1, h2⟩
  · obtain ⟨v, h1, h2⟩ := e.val i d h
    exact ⟨v, h1, h2.mono sS⟩
  · obtain ⟨h1, h2, h3, ob, h4, h5⟩ := e.own i l od h
    have ne := ne_of_none h4 hp
    rw [upd_ne ne]
    exact ⟨h1, h2, h3, ob, by rw [upd_ne ne]; exact h4, h5.mono sS⟩
theorem ER.sp (e : ER K τ S F H ρ σ) (hp : H p = none) : S p = none := by
  cases h : S p with
  | none => rfl
  | some u => rw [e.ex p u h] at hp; cases hp
theorem ER.fp (e : ER K τ S F H ρ σ) (hp : H p = none) : F p = none := by
  cases h : F p with
  | none => rfl
  | some u => rw [(e.fr p u h).1] at hp; cases hp
theorem ER.sn (e : ER K τ S F H ρ σ) (hp : H p = none) : Same S (upd S p o) := fun b u h => by rw [upd_ne (ne_of_none h (e.sp hp))]; exact h
theorem ER.at (e : ER K τ S F H ρ σ) {a u} (h : S a = some u) : H a = some u := e.ex a u h
/-- an object of one's own changes -/
theorem ER.wr (e : ER K τ S F H ρ σ) {i : Nat} {l : Addr} {od od' : OD} {o' : HO} (h : ρ[i]? = some (Sl.own l od)) (ho : OIs K S o' od') : ER K τ S F (upd H l o') (ρ.set i (.own l od')) σ := by
  obtain ⟨h1, h2, h3, ob, h4, h5⟩ := e.own i l od h
  have hi : i < ρ.length := (List.getElem?_eq_some_iff.mp h).1
  refine ⟨by rw [List.length_set]; exact e.len, fun b u q => ?_, fun a u q => ?_, fun j d q => ?_, fun j m od2 q => ?_, fun j k m o1 o2 q1 q2 => ?_, e.tb.chg h4 h5.notX.1 h5.notX.2⟩
  · rw [upd_ne (ne_of_none q h2)]; exact e.ex b u q
  · obtain ⟨a1, a2⟩ := e.fr a u q
    rw [upd_ne (ne_of_none q h3)]; exact ⟨a1, a2⟩
  · by_cases hj : j = i
    · subst hj; rw [List.getElem?_set_self hi] at q; cases q
    · rw [List.getElem?_set_ne (Ne.symm hj)] at q; exact e.val j d q
  · by_cases hj : j = i
    · subst hj; rw [List.getElem?_set_self hi] at q; cases q
      exact ⟨h1, h2, h3, o', upd_same, ho⟩
    · rw [List.getElem?_set_ne (Ne.symm hj)] at q
      obtain ⟨a1, a2, a3, ob2, a4, a5⟩ := e.own j m od2 q
      have ne : m ≠ l := fun z => by subst z; exact hj (e.dis _ _ _ _ _ q h)
      exact ⟨a1, a2, a3, ob2, by rw [upd_ne ne]; exact a4, a5⟩
  · have back : ∀ {k : Nat} {o1 : OD}, (ρ.set i (.own l od'))[k]? = some (Sl.own m o1) → ∃ o3, ρ[k]? = some (Sl.own m o3) := fun {k o1} q => by
      by_cases hk : k = i
      · subst hk; rw [List.getElem?_set_self hi] at q; cases q; exact ⟨od, h⟩
      · rw [List.getElem?_set_ne (Ne.symm hk)] at q; exact ⟨o1, q⟩
    obtain ⟨o3, q3⟩ := back q1
    obtain ⟨o4, q4⟩ := back q2
    exact e.dis _ _ _ _ _ q3 q4
/-- an object of one's own is no longer changed -/
theorem ER.frz (e : ER K τ S F H ρ σ) {i : Nat} {l : Addr} {od : OD} (h : ρ[i]? = some (Sl.own l od)) : ∃ S', Same S S' ∧ ER K τ S' F H (ρ.set i (.val od.d)) σ ∧ Is K S' (.ref l) od.d := by
  obtain ⟨h1, h2, h3, ob, h4, h5⟩ := e.own i l od h
  have hi : i < ρ.length := (List.getElem?_eq_some_iff.mp h).1
  have sS : Same S (upd S l ob) := fun b u q => by rw [upd_ne (ne_of_none q h2)]; exact q
  have hv : Is K (upd S l ob) (.ref l) od.d := by
    cases h5 with
    | l r => exact .lst upd_same (r.mono sS)
    | k hn r => exact .dic upd_same hn (r.mono sS)
    | t hn r => exact .dct upd_same hn (r.mono sS)
    | i hn r => exact .obj upd_same hn (r.mono sS)
  refine ⟨upd S l ob, sS, ⟨by rw [List.length_set]; exact e.len, fun b u q => ?_, fun a u q => ?_, fun j d q => ?_, fun j m od2 q => ?_, fun j k m o1 o2 q1 q2 => ?_, e.tb.addS h4 h2 h5.notX.1⟩, hv⟩
  · by_cases hb : b = l
    · subst hb; rw [upd_same] at q; cases q; exact h4
    · rw [upd_ne hb] at q; exact e.ex b u q
  · obtain ⟨a1, a2⟩ := e.fr a u q
    rw [upd_ne (ne_of_none q h3)]; exact ⟨a1, a2⟩
  · by_cases hj : j = i
    · subst hj; rw [List.getElem?_set_self hi] at q; cases q
      exact ⟨_, h1, hv⟩
    · rw [List.getElem?_set_ne (Ne.symm hj)] at q
      obtain ⟨v, a1, a2⟩ := e.val j d q
      exact ⟨v, a1, a2.mono sS⟩
  · by_cases hj : j = i
    · subst hj; rw [List.getElem?_set_self hi] at q; cases q
    · rw [List.getElem?_set_ne (Ne.symm hj)] at q
      obtain ⟨a1, a2, a3, ob2, a4, a5⟩ := e.own j m od2 q
      have ne : m ≠ l := fun z => by subst z; exact hj (e.dis _ _ _ _ _ q h)
      exact ⟨a1, by rw [upd_ne ne]; exact a2, a3, ob2, a4, a5.mono sS⟩
  · have back : ∀ {k : Nat} {o1 : OD}, (ρ.set i (.val od.d))[k]? = some (Sl.own m o1) → ρ[k]? = some (Sl.own m o1) := fun {k o1} q => by
      by_cases hk : k = i
      · subst hk; rw [List.getElem?_set_self hi] at q; cases q
      · rw [List.getElem?_set_ne (Ne.symm hk)] at q; exact q
    exact e.dis _ _ _ _ _ (back q1) (back q2)
/-- a slot gets a value -/
theorem ER.set (e : ER K τ S F H ρ σ) {i : Nat} {v : V} {d : D} (hv : Is K S v d) : ER K τ S F H (ρ.set i (.val d)) (σ.set i (some v)) := by
  refine ⟨by rw [List.length_set, List.length_set]; exact e.len, e.ex, e.fr, fun j d' q => ?_, fun j m od2 q => ?_, fun j k m o1 o2 q1 q2 => ?_, e.tb⟩
  · by_cases hj : j = i
    · subst hj
      have hi : j < ρ.length := by
        have := (List.getElem?_eq_some_iff.mp q).1
        rwa [List.length_set] at this
      rw [List.getElem?_set_self hi] at q; cases q
      exact ⟨v, by rw [List.getElem?_set_self (by rw [← e.len]; exact hi)], hv⟩
    · rw [List.getElem?_set_ne (Ne.symm hj)] at q ⊢; exact e.val j d' q
  · by_cases hj : j = i
    · subst hj
      have hi : j < ρ.length := by
        have := (List.getElem?_eq_some_iff.mp q).1
        rwa [List.length_set] at this
      rw [List.getElem?_set_self hi] at q; cases q
    · rw [List.getElem?_set_ne (Ne.symm hj)] at q ⊢; exact e.own j m od2 q
  · have back : ∀ {k : Nat} {o1 : OD}, (ρ.set i (.val d))[k]? = some (Sl.own m o1) → ρ[k]? = some (Sl.own m o1) := fun {k o1} q => by
      by_cases hk : k = i
      · subst hk
        have hi : k < ρ.length := by
          have := (List.getElem?_eq_some_iff.mp q).1
          rwa [List.length_set] at this
        rw [List.getElem?_set_self hi] at q; cases q
      · rw [List.getElem?_set_ne (Ne.symm hk)] at q; exact q
    exact e.dis _ _ _ _ _ (back q1) (back q2)
/-- a slot gets a new object of one's own -/
theorem ER.setOwn (e : ER K τ S F H ρ σ) {i : Nat} {l : Addr} {o : HO} {od : OD} (h1 : H l = some o) (h2 : S l = none) (h3 : F l = none) (h4 : OIs K S o od) (h5 : ∀ (j : Nat) (od' : OD), ρ[j]? ≠ some (Sl.own l od')) : ER K τ S F H (ρ.set i (.own l od)) (σ.set i (some (.ref l))) := by
  refine ⟨by rw [List.length_set, List.length_set]; exact e.len, e.ex, e.fr, fun j d' q => ?_, fun j m od2 q => ?_, fun j k m o1 o2 q1 q2 => ?_, e.tb⟩
  · by_cases hj : j = i
    · subst hj
      have hi : j < ρ.length := by
        have := (List.getElem?_eq_some_iff.mp q).1
        rwa [List.length_set] at this
      rw [List.getElem?_set_self hi] at q; cases q
    · rw [List.getElem?_set_ne (Ne.symm hj)] at q ⊢; exact e.val j d' q
  · by_cases hj : j = i
    · subst hj
      have hi : j < ρ.length := by
        have := (List.getElem?_eq_some_iff.mp q).1
        rwa [List.length_set] at this
      rw [List.getElem?_set_self hi] at q; cases q
      exact ⟨by rw [List.getElem?_set_self (by rw [← e.len]; exact hi)], h2, h3, o, h1, h4⟩
    · rw [List.getElem?_set_ne (Ne.symm hj)] at q ⊢; exact e.own j m od2 q
  · have back : ∀ {k : Nat} {o1 : OD}, (ρ.set i (.own l od))[k]? = some (Sl.own m o1) → (k = i ∧ m = l) ∨ (k ≠ i ∧ ρ[k]? = some (Sl.own m o1)) := fun {k o1} q => by
      by_cases hk : k = i
      · subst hk
        have hi : k < ρ.length := by
          have := (List.getElem?_eq_some_iff.mp q).1
          rwa [List.length_set] at this
        rw [List.getElem?_set_self hi] at q; cases q; exact .inl ⟨rfl, rfl⟩
      · rw [List.getElem?_set_ne (Ne.symm hk)] at q; exact .inr ⟨hk, q⟩
    rcases back q1 with ⟨a1, a2⟩ | ⟨a1, a2⟩ <;> rcases back q2 with ⟨b1, b2⟩ | ⟨b1, b2⟩
    · exact a1.trans b1.symm
    · rw [a2] at b2; exact absurd b2 (h5 _ _)
    · rw [b2] at a2; exact absurd a2 (h5 _ _)
    · exact e.dis _ _ _ _ _ a2 b2
end

/-! ### what a reading means for data -/
abbrev XC := Addr → Str → D → Rho → Prop
abbrev WE := Rho → XC → (D → Rho → Prop) → Prop
abbrev WT := Rho → XC → (Bool → Rho → Prop) → Prop
abbrev WL := Rho → XC → (List D → Rho → Prop) → Prop
structure DE where
  nx : Rho → Prop
  rt : D → Rho → Prop
  bk : Rho → Prop
  ct : Rho → Prop
  xc : XC
  ro : Addr → OD → Rho → Prop := fun _ _ _ => False
abbrev WS := Rho → DE → Prop
def XOk (K : Fg) (τ : Tb) (F : Hp) (W : WX) (S : Hp) (χ : XC) : Prop := ∀ C f d v dd ρ' S' σ' H', χ C f d ρ' → Same S S' → ER K τ S' F H' ρ' σ' → S' dd = some (.xd [(f, v)]) → Is K S' v d → W (.ref C) (some dd) σ' H'
theorem XOk.mono {K : Fg} {F : Hp} {W : WX} {S S1 : Hp} {χ : XC} (h : XOk K τ F W S χ) (e : Same S S1) : XOk K τ F W S1 χ := fun C f d v dd ρ' S' σ' H' a b c d' e' => h C f d v dd ρ' S' σ' H' a (e.trans b) c d' e'
abbrev W0 : WX := fun _ _ _ _ => False
abbrev χ0 : XC := fun _ _ _ _ => False
theorem XOk.none {K : Fg} {F : Hp} {W : WX} {S : Hp} : XOk K τ F W S χ0 := fun _ _ _ _ _ _ _ _ _ h => h.elim

def lE (K : Fg) (τ : Tb) (W : WX) (w : WE) : TE := fun σ H Q => ∃ ρ S F χ Φ, ER K τ S F H ρ σ ∧ w ρ χ Φ ∧ XOk K τ F W S χ ∧ ∀ v d ρ' S' H', Φ d ρ' → Same S S' → Is K S' v d → ER K τ S' F H' ρ' σ → Q v H'
def lT (K : Fg) (τ : Tb) (W : WX) (w : WT) : TT := fun σ H Q => ∃ ρ S F χ Φ, ER K τ S F H ρ σ ∧ w ρ χ Φ ∧ XOk K τ F W S χ ∧ ∀ b ρ' S' H', Φ b ρ' → Same S S' → ER K τ S' F H' ρ' σ → Q b H'
def lL (K : Fg) (τ : Tb) (W : WX) (w : WL) : TA := fun σ H Q => ∃ ρ S F χ Φ, ER K τ S F H ρ σ ∧ w ρ χ Φ ∧ XOk K τ F W S χ ∧ ∀ vs ds ρ' S' H', Φ ds ρ' → Same S S' → IsAll K S' vs ds → ER K τ S' F H' ρ' σ → Q vs H'
def lS (K : Fg) (τ : Tb) (W : WX) (w : WS) : TS := fun D σ H => ∃ ρ S F Δ, ER K τ S F H ρ σ ∧ w ρ Δ ∧ XOk K τ F W S Δ.xc ∧
  (∀ ρ' S' σ' H', Δ.nx ρ' → Same S S' → ER K τ S' F H' ρ' σ' → D.nx σ' H') ∧
  (∀ d v ρ' S' σ' H', Δ.rt d ρ' → Same S S' → Is K S' v d → ER K τ S' F H' ρ' σ' → D.rt v H') ∧
  (∀ ρ' S' σ' H', Δ.bk ρ' → Same S S' → ER K τ S' F H' ρ' σ' → D.bk σ' H') ∧
  (∀ ρ' S' σ' H', Δ.ct ρ' → Same S S' → ER K τ S' F H' ρ' σ' → D.ct σ' H') ∧
  (∀ l od o ρ' S' σ' H', Δ.ro l od ρ' → Same S S' → H' l = some o → OIs K S' o od → S' l = none → F l = none → ER K τ S' F H' ρ' σ' → D.rt (.ref l) H')

theorem PE.imp {X : Cx} {e : Expr} {t t' : TE} (h : PE X e t) (m : ∀ σ H Q, t' σ H Q → t σ H Q) : PE X e t' := ⟨fun pins s σ H Q I q => h.run pins s σ H Q I (m σ H Q q)⟩
theorem PT.imp {X : Cx} {e : Expr} {t t' : TT} (h : PT X e t) (m : ∀ σ H Q, t' σ H Q → t σ H Q) : PT X e t' := ⟨fun pins s σ H Q I q => h.run pins s σ H Q I (m σ H Q q)⟩
theorem PW.imp {X : Cx} {e : Expr} {t t' : TT} (h : PW X e t) (m : ∀ σ H Q, t' σ H Q → t σ H Q) : PW X e t' := ⟨fun wh pins s σ H Q I q => h.run wh pins s σ H Q I (m σ H Q q)⟩
theorem PA.imp {X : Cx} {es : List Expr} {t t' : TA} (h : PA X es t) (m : ∀ σ H Q, t' σ H Q → t σ H Q) : PA X es t' := ⟨fun pos pins s σ H Q I q => h.run pos pins s σ H Q I (m σ H Q q)⟩
theorem PS.imp {X : Cx} {st : Stmt} {t t' : TS} (h : PS X st t) (m : ∀ D σ H, t' D σ H → t D σ H) : PS X st t' := ⟨fun pins s σ H D I q => h.run pins s σ H D I (m D σ H q)⟩
theorem PSs.imp {X : Cx} {st : List Stmt} {t t' : TS} (h : PSs X st t) (m : ∀ D σ H, t' D σ H → t D σ H) : PSs X st t' := ⟨fun pins s σ H D I q => h.run pins s σ H D I (m D σ H q)⟩
end DL
set_option Elab.async false
set_option autoImplicit false
set_option linter.all false
set_option maxRecDepth 100000
set_option maxHeartbeats 3900000
namespace DL
open L2 PyProof.Rows PySem PySem.Spec
variable {τ : Tb}

/-! ### operators on data -/
def OpOk (K : Fg) (τ : Tb) (r : R2) (wr : D → D → (D → Prop) → Prop) : Prop := ∀ (S F H : Hp) (ρ : Rho) (σ : L2.St) (x y : V) (dx dy : D) (Φ : D → Prop) (Q : VK), ER K τ S F H ρ σ → Is K S x dx → Is K S y dy → wr dx dy Φ →
  (∀ v d S' H', Φ d → Same S S' → Is K S' v d → ER K τ S' F H' ρ σ → Q v H') → r x y H Q
def UnOk (K : Fg) (τ : Tb) (r : V → Hp → VK → Prop) (wr : D → (D → Prop) → Prop) : Prop := ∀ (S F H : Hp) (ρ : Rho) (σ : L2.St) (x : V) (dx : D) (Φ : D → Prop) (Q : VK), ER K τ S F H ρ σ → Is K S x dx → wr dx Φ →
  (∀ v d S' H', Φ d → Same S S' → Is K S' v d → ER K τ S' F H' ρ σ → Q v H') → r x H Q
def CallOk (K : Fg) (τ : Tb) (r : List V → Hp → VK → Prop) (wr : List D → (D → Prop) → Prop) : Prop := ∀ (S F H : Hp) (ρ : Rho) (σ : L2.St) (xs : List V) (ds : List D) (Φ : D → Prop) (Q : VK), ER K τ S F H ρ σ → IsAll K S xs ds → wr ds Φ →
  (∀ v d S' H', Φ d → Same S S' → Is K S' v d → ER K τ S' F H' ρ σ → Q v H') → r xs H Q
theorem OpOk.or {K : Fg} {r r' : R2} {w w' : D → D → (D → Prop) → Prop} (h : OpOk K τ r w) (h' : OpOk K τ r' w') : OpOk K τ (fun x y H Q => r x y H Q ∨ r' x y H Q) (fun x y Φ => w x y Φ ∨ w' x y Φ) :=
  fun S F H ρ σ x y dx dy Φ Q e ix iy hw hp => hw.elim (fun z => .inl (h S F H ρ σ x y dx dy Φ Q e ix iy z hp)) fun z => .inr (h' S F H ρ σ x y dx dy Φ Q e ix iy z hp)
theorem OpOk.imp {K : Fg} {r : R2} {w w' : D → D → (D → Prop) → Prop} (h : OpOk K τ r w) (m : ∀ x y Φ, w' x y Φ → w x y Φ) : OpOk K τ r w' :=
  fun S F H ρ σ x y dx dy Φ Q e ix iy hw hp => h S F H ρ σ x y dx dy Φ Q e ix iy (m _ _ _ hw) hp

def wOp (wr : D → D → (D → Prop) → Prop) (wa wb : WE) : WE := fun ρ χ Φ => wa ρ χ fun x ρ1 => wb ρ1 χ fun y ρ2 => wr x y fun z => Φ z ρ2
def wUn (wr : D → (D → Prop) → Prop) (wa : WE) : WE := fun ρ χ Φ => wa ρ χ fun x ρ1 => wr x fun z => Φ z ρ1
def wCB (wr : List D → (D → Prop) → Prop) (wa : WL) : WE := fun ρ χ Φ => wa ρ χ fun xs ρ1 => wr xs fun z => Φ z ρ1
def wC (d : D) : WE := fun ρ _ Φ => Φ d ρ
def wVar (i : Nat) : WE := fun ρ _ Φ => match ρ[i]? with
  | some (.val d) => Φ d ρ
  | some (.own _ o) => Φ o.d (ρ.set i (.val o.d))
  | _ => False

section
variable {K : Fg} {W : WX} {wa wb wc : WE} {σ : L2.St} {H : Hp} {Q : VK}
theorem l_op {r : R2} {wr : D → D → (D → Prop) → Prop} (hr : OpOk K τ r wr) : ∀ σ H Q, lE K τ W (wOp wr wa wb) σ H Q → tOp r (lE K τ W wa) (lE K τ W wb) σ H Q := by
  rintro σ H Q ⟨ρ, S, F, χ, Φ, e, hw, hx, hp⟩
  refine ⟨ρ, S, F, χ, _, e, hw, hx, fun x dx ρ1 S1 H1 h1 s1 i1 e1 => ?_⟩
  refine ⟨ρ1, S1, F, χ, _, e1, h1, hx.mono s1, fun y dy ρ2 S2 H2 h2 s2 i2 e2 => ?_⟩
  exact hr S2 F H2 ρ2 σ x y dx dy _ Q e2 (i1.mono s2) i2 h2 fun v d S3 H3 h3 s3 i3 e3 => hp v d ρ2 S3 H3 h3 ((s1.trans s2).trans s3) i3 e3
theorem l_un {r : V → Hp → VK → Prop} {wr : D → (D → Prop) → Prop} (hr : UnOk K τ r wr) : ∀ σ H Q, lE K τ W (wUn wr wa) σ H Q → tUn r (lE K τ W wa) σ H Q := by
  rintro σ H Q ⟨ρ, S, F, χ, Φ, e, hw, hx, hp⟩
  refine ⟨ρ, S, F, χ, _, e, hw, hx, fun x dx ρ1 S1 H1 h1 s1 i1 e1 => ?_⟩
  exact hr S1 F H1 ρ1 σ x dx _ Q e1 i1 h1 fun v d S3 H3 h3 s3 i3 e3 => hp v d ρ1 S3 H3 h3 (s1.trans s3) i3 e3
theorem l_cb {r : List V → Hp → VK → Prop} {wr : List D → (D → Prop) → Prop} {wl : WL} (hr : CallOk K τ r wr) : ∀ σ H Q, lE K τ W (wCB wr wl) σ H Q → tCB r (lL K τ W wl) σ H Q := by
  rintro σ H Q ⟨ρ, S, F, χ, Φ, e, hw, hx, hp⟩
  refine ⟨ρ, S, F, χ, _, e, hw, hx, fun xs ds ρ1 S1 H1 h1 s1 i1 e1 => ?_⟩
  exact hr S1 F H1 ρ1 σ xs ds _ Q e1 i1 h1 fun v d S3 H3 h3 s3 i3 e3 => hp v d ρ1 S3 H3 h3 (s1.trans s3) i3 e3
theorem l_c {v : V} {d : D} (hd : ∀ S, Is K S v d) : ∀ σ H Q, lE K τ W (wC d) σ H Q → tC v σ H Q := by
  rintro σ H Q ⟨ρ, S, F, χ, Φ, e, hw, hx, hp⟩
  exact hp v d ρ S H hw (Same.refl S) (hd S) e
theorem l_var {i : Nat} : ∀ σ H Q, lE K τ W (wVar i) σ H Q → tVar i σ H Q := by
  rintro σ H Q ⟨ρ, S, F, χ, Φ, e, hw, hx, hp⟩
  unfold wVar at hw
  split at hw
  · rename_i d hd
    obtain ⟨v, h1, h2⟩ := e.val i d hd
    exact ⟨v, h1, hp v d ρ S H hw (Same.refl S) h2 e⟩
  · rename_i l o hd
    obtain ⟨S', s', e', iv⟩ := e.frz hd
    exact ⟨_, (e.own i l o hd).1, hp _ _ _ S' H hw s' iv e'⟩
  · exact hw.elim
end

/-! ### lists of data -/
def wNil : WL := fun ρ _ Φ => Φ [] ρ
def wCons (wa : WE) (wr : WL) : WL := fun ρ χ Φ => wa ρ χ fun x ρ1 => wr ρ1 χ fun xs ρ2 => Φ (x :: xs) ρ2
section
variable {K : Fg} {W : WX} {wa wb wc : WE} {wl wm : WL} {σ : L2.St} {H : Hp} {Q : VK}
theorem l_nil : ∀ σ H Q, lL K τ W wNil σ H Q → tNil σ H Q := by
  rintro σ H Q ⟨ρ, S, F, χ, Φ, e, hw, hx, hp⟩
  exact hp [] [] ρ S H hw (Same.refl S) .nil e
theorem l_cons : ∀ σ H Q, lL K τ W (wCons wa wl) σ H Q → tCons (lE K τ W wa) (lL K τ W wl) σ H Q := by
  rintro σ H Q ⟨ρ, S, F, χ, Φ, e, hw, hx, hp⟩
  refine ⟨ρ, S, F, χ, _, e, hw, hx, fun x dx ρ1 S1 H1 h1 s1 i1 e1 => ?_⟩
  refine ⟨ρ1, S1, F, χ, _, e1, h1, hx.mono s1, fun ys dys ρ2 S2 H2 h2 s2 i2 e2 => ?_⟩
  exact hp (x :: ys) (dx :: dys) ρ2 S2 H2 h2 (s1.trans s2) (.cons (i1.mono s2) i2) e2
def wTup (wl : WL) : WE := fun ρ χ Φ => wl ρ χ fun xs ρ1 => xs.length ≤ sizeLine ∧ Φ (.tup xs) ρ1
def wLst (wl : WL) : WE := fun ρ χ Φ => wl ρ χ fun xs ρ1 => xs.length ≤ sizeLine ∧ Φ (.lst xs) ρ1
theorem l_tup : ∀ σ H Q, lE K τ W (wTup wl) σ H Q → tTup (lL K τ W wl) σ H Q := by
  rintro σ H Q ⟨ρ, S, F, χ, Φ, e, hw, hx, hp⟩
  refine ⟨ρ, S, F, χ, _, e, hw, hx, fun xs ds ρ1 S1 H1 h1 s1 i1 e1 => ⟨by rw [i1.length]; exact h1.1, fun p hp1 => ?_⟩⟩
  exact hp _ _ ρ1 _ _ h1.2 (s1.trans (e1.sn hp1)) (.tup upd_same (i1.mono (e1.sn hp1))) (e1.new hp1)
theorem l_lst : ∀ σ H Q, lE K τ W (wLst wl) σ H Q → tLst (lL K τ W wl) σ H Q := by
  rintro σ H Q ⟨ρ, S, F, χ, Φ, e, hw, hx, hp⟩
  refine ⟨ρ, S, F, χ, _, e, hw, hx, fun xs ds ρ1 S1 H1 h1 s1 i1 e1 => ⟨by rw [i1.length]; exact h1.1, fun p hp1 => ?_⟩⟩
  exact hp _ _ ρ1 _ _ h1.2 (s1.trans (e1.sn hp1)) (.lst upd_same (i1.mono (e1.sn hp1))) (e1.new hp1)
end

/-! ### tests -/
def wB (wa : WE) : WT := fun ρ χ Φ => wa ρ χ fun x ρ1 => match x with
  | .bl b => Φ b ρ1
  | _ => False
def wAnd (wa wb : WT) : WT := fun ρ χ Φ => wa ρ χ fun b ρ1 => if b = true then wb ρ1 χ Φ else Φ false ρ1
def wOr (wa wb : WT) : WT := fun ρ χ Φ => wa ρ χ fun b ρ1 => if b = true then Φ true ρ1 else wb ρ1 χ Φ
def wNot (wa : WT) : WT := fun ρ χ Φ => wa ρ χ fun b ρ1 => Φ (!b) ρ1
def wAndV (wa wb : WE) : WE := fun ρ χ Φ => wa ρ χ fun x ρ1 => match x with
  | .bl b => if b = true then wb ρ1 χ Φ else Φ (.bl false) ρ1
  | _ => False
def wOrV (wa wb : WE) : WE := fun ρ χ Φ => wa ρ χ fun x ρ1 => match x with
  | .bl b => if b = true then Φ (.bl true) ρ1 else wb ρ1 χ Φ
  | _ => False
def wNotV (wa : WE) : WE := fun ρ χ Φ => wa ρ χ fun x ρ1 => match x with
  | .bl b => Φ (.bl (!b)) ρ1
  | _ => False
def wIf (wt : WT) (wa wb : WE) : WE := fun ρ χ Φ => wt ρ χ fun b ρ1 => if b = true then wa ρ1 χ Φ else wb ρ1 χ Φ
def wChain (wr wr' : D → D → (D → Prop) → Prop) (wa wb wc : WE) : WE := fun ρ χ Φ => wa ρ χ fun x ρ1 => wb ρ1 χ fun y ρ2 => wr x y fun z => match z with
  | .bl b => if b = true then wc ρ2 χ fun u ρ3 => wr' y u fun z' => Φ z' ρ3 else Φ (.bl false) ρ2
  | _ => False
section
variable {K : Fg} {W : WX} {wa wb wc : WE} {wt wu : WT} {σ : L2.St} {H : Hp} {Q : VK}
theorem l_B : ∀ σ H Q, lT K τ W (wB wa) σ H Q → tB (lE K τ W wa) σ H Q := by
  rintro σ H Q ⟨ρ, S, F, χ, Φ, e, hw, hx, hp⟩
  refine ⟨ρ, S, F, χ, _, e, hw, hx, fun x dx ρ1 S1 H1 h1 s1 i1 e1 => ?_⟩
  cases dx with
  | bl b => cases i1; exact ⟨b, rfl, hp b ρ1 S1 H1 h1 s1 e1⟩
  | _ => exact False.elim h1
theorem l_test : ∀ σ H Q, lT K τ W (wB wa) σ H Q → tTest (lE K τ W wa) σ H Q := l_B
theorem l_and : ∀ σ H Q, lT K τ W (wAnd wt wu) σ H Q → tAnd (lT K τ W wt) (lT K τ W wu) σ H Q := by
  rintro σ H Q ⟨ρ, S, F, χ, Φ, e, hw, hx, hp⟩
  refine ⟨ρ, S, F, χ, _, e, hw, hx, fun b ρ1 S1 H1 h1 s1 e1 => ?_⟩
  cases b with
  | true => exact ⟨ρ1, S1, F, χ, _, e1, h1, hx.mono s1, fun b ρ2 S2 H2 h2 s2 e2 => hp b ρ2 S2 H2 h2 (s1.trans s2) e2⟩
  | false => exact hp false ρ1 S1 H1 h1 s1 e1
theorem l_or : ∀ σ H Q, lT K τ W (wOr wt wu) σ H Q → tOr (lT K τ W wt) (lT K τ W wu) σ H Q := by
  rintro σ H Q ⟨ρ, S, F, χ, Φ, e, hw, hx, hp⟩
  refine ⟨ρ, S, F, χ, _, e, hw, hx, fun b ρ1 S1 H1 h1 s1 e1 => ?_⟩
  cases b with
  | false => exact ⟨ρ1, S1, F, χ, _, e1, h1, hx.mono s1, fun b ρ2 S2 H2 h2 s2 e2 => hp b ρ2 S2 H2 h2 (s1.trans s2) e2⟩
  | true => exact hp true ρ1 S1 H1 h1 s1 e1
theorem l_not : ∀ σ H Q, lT K τ W (wNot wt) σ H Q → tNot (lT K τ W wt) σ H Q := by
  rintro σ H Q ⟨ρ, S, F, χ, Φ, e, hw, hx, hp⟩
  exact ⟨ρ, S, F, χ, _, e, hw, hx, fun b ρ1 S1 H1 h1 s1 e1 => hp (!b) ρ1 S1 H1 h1 s1 e1⟩
theorem l_andV : ∀ σ H Q, lE K τ W (wAndV wa wb) σ H Q → tAndV (lE K τ W wa) (lE K τ W wb) σ H Q := by
  rintro σ H Q ⟨ρ, S, F, χ, Φ, e, hw, hx, hp⟩
  refine ⟨ρ, S, F, χ, _, e, hw, hx, fun x dx ρ1 S1 H1 h1 s1 i1 e1 => ?_⟩
  cases dx with
  | bl b =>
    cases i1
    refine ⟨b, rfl, ?_⟩
    cases b with
    | true => exact ⟨ρ1, S1, F, χ, _, e1, h1, hx.mono s1, fun v d ρ2 S2 H2 h2 s2 i2 e2 => hp v d ρ2 S2 H2 h2 (s1.trans s2) i2 e2⟩
    | false => exact hp _ _ ρ1 S1 H1 h1 s1 (.bl false) e1
  | _ => exact False.elim h1
theorem l_orV : ∀ σ H Q, lE K τ W (wOrV wa wb) σ H Q → tOrV (lE K τ W wa) (lE K τ W wb) σ H Q := by
  rintro σ H Q ⟨ρ, S, F, χ, Φ, e, hw, hx, hp⟩
  refine ⟨ρ, S, F, χ, _, e, hw, hx, fun x dx ρ1 S1 H1 h1 s1 i1 e1 => ?_⟩
  cases dx with
  | bl b =>
    cases i1
    refine ⟨b, rfl, ?_⟩
    cases b with
    | false => exact ⟨ρ1, S1, F, χ, _, e1, h1, hx.mono s1, fun v d ρ2 S2 H2 h2 s2 i2 e2 => hp v d ρ2 S2 H2 h2 (s1.trans s2) i2 e2⟩
    | true => exact hp _ _ ρ1 S1 H1 h1 s1 (.bl true) e1
  | _ => exact False.elim h1
theorem l_notV : ∀ σ H Q, lE K τ W (wNotV wa) σ H Q → tNotV (lE K τ W wa) σ H Q := by
  rintro σ H Q ⟨ρ, S, F, χ, Φ, e, hw, hx, hp⟩
  refine ⟨ρ, S, F, χ, _, e, hw, hx, fun x dx ρ1 S1 H1 h1 s1 i1 e1 => ?_⟩
  cases dx with
  | bl b => cases i1; exact ⟨b, rfl, hp _ _ ρ1 S1 H1 h1 s1 (.bl _) e1⟩
  | _ => exact False.elim h1
theorem l_if : ∀ σ H Q, lE K τ W (wIf wt wa wb) σ H Q → tIf (lT K τ W wt) (lE K τ W wa) (lE K τ W wb) σ H Q := by
  rintro σ H Q ⟨ρ, S, F, χ, Φ, e, hw, hx, hp⟩
  refine ⟨ρ, S, F, χ, _, e, hw, hx, fun b ρ1 S1 H1 h1 s1 e1 => ?_⟩
  cases b with
  | true => exact ⟨ρ1, S1, F, χ, _, e1, h1, hx.mono s1, fun v d ρ2 S2 H2 h2 s2 i2 e2 => hp v d ρ2 S2 H2 h2 (s1.trans s2) i2 e2⟩
  | false => exact ⟨ρ1, S1, F, χ, _, e1, h1, hx.mono s1, fun v d ρ2 S2 H2 h2 s2 i2 e2 => hp v d ρ2 S2 H2 h2 (s1.trans s2) i2 e2⟩
theorem l_chain {r r' : R2} {wr wr' : D → D → (D → Prop) → Prop} (hr : OpOk K τ r wr) (hr' : OpOk K τ r' wr') : ∀ σ H Q, lE K τ W (wChain wr wr' wa wb wc) σ H Q → tChain r r' (lE K τ W wa) (lE K τ W wb) (lE K τ W wc) σ H Q := by
  rintro σ H Q ⟨ρ, S, F, χ, Φ, e, hw, hx, hp⟩
  refine ⟨ρ, S, F, χ, _, e, hw, hx, fun x dx ρ1 S1 H1 h1 s1 i1 e1 => ?_⟩
  refine ⟨ρ1, S1, F, χ, _, e1, h1, hx.mono s1, fun y dy ρ2 S2 H2 h2 s2 i2 e2 => ?_⟩
  refine hr S2 F H2 ρ2 σ x y dx dy _ _ e2 (i1.mono s2) i2 h2 fun v d S3 H3 h3 s3 i3 e3 => ?_
  cases d with
  | bl b =>
    cases i3
    refine ⟨b, rfl, ?_⟩
    cases b with
    | true =>
      refine ⟨ρ2, S3, F, χ, _, e3, h3, hx.mono ((s1.trans s2).trans s3), fun u du ρ4 S4 H4 h4 s4 i4 e4 => ?_⟩
      exact hr' S4 F H4 ρ4 σ y u dy du _ Q e4 (i2.mono (s3.trans s4)) i4 h4 fun v d S5 H5 h5 s5 i5 e5 => hp v d ρ4 S5 H5 h5 ((((s1.trans s2).trans s3).trans s4).trans s5) i5 e5
    | false => exact hp _ _ ρ2 S3 H3 h3 ((s1.trans s2).trans s3) (.bl false) e3
  | _ => exact False.elim h3
end
end DL
set_option Elab.async false
set_option autoImplicit false
set_option linter.all false
set_option maxRecDepth 100000
set_option maxHeartbeats 3900000
namespace DL
open L2 PyProof.Rows PySem PySem.Spec
variable {τ : Tb}

/-! ### where code runs: what it may raise, how much room there is, no text is being made around it -/
structure Cok (X : Cx) (W : WX) (k : Nat) : Prop where
  tk : Takes X W
  gd : X.A.guards = some []
  rm : Room k X.A
theorem Cok.mono {X : Cx} {W : WX} {j k : Nat} (c : Cok X W k) (h : j ≤ k) : Cok X W j := ⟨c.tk, c.gd, c.rm.mono h⟩
theorem Cok.hu {X : Cx} {W : WX} {k : Nat} (c : Cok X W k) : X.A.units + 1 < cLine := hu_of c.rm
theorem takesB {X : Cx} {s : Shared} {H : Hp} {scope : Scope} {cenv : Env} {fp : List Addr} : Takes (X.blk s H scope cenv fp) W0 := fun _ _ x => by
  rcases x with ⟨_, _, _, _, _, _, _, _, _, _, _, _, _, _, _, _, z⟩; exact absurd z id
theorem Cok.blk {X : Cx} {W : WX} {k : Nat} (c : Cok X W k) (s : Shared) (H : Hp) (scope : Scope) (cenv : Env) (fp : List Addr) : Cok (X.blk s H scope cenv fp) W0 k := ⟨takesB, c.gd, c.rm⟩

/-! ### a def's promise -/
structure FnG (P : Program) (w : World) (K : Fg) (mg : Str → Option Value) (base : Heap) (k : Nat) (f : Addr) (fd : FuncData) (ps : List Str) (sp : Sp) : Prop where
  len : ∀ (vs : List V) (H : Hp) (Q : VK) (E : XK), sp vs H Q E → vs.length = ps.length
  run : ∀ (A : Around) (outer : List Env) (s : Shared) (H : Hp) (args : Args) (us : List Value) (vs : List V) (Q : VK) (E : XK), Room k A → A.guards = some [] → Env0 P w K mg base A outer s H → BindsTo s fd args (ps.zip us) → Vals vs us → sp vs H Q E →
    codeAny (model P w) A (.call (.ref f) args) (CR (L2.CX P w) outer P w H s Q E) s
theorem FnG.mono {P : Program} {w : World} {K : Fg} {mg : Str → Option Value} {base : Heap} {j k : Nat} {f : Addr} {fd : FuncData} {ps : List Str} {sp : Sp} (F : FnG P w K mg base j f fd ps sp) (h : j ≤ k) :
    FnG P w K mg base k f fd ps sp := ⟨F.len, fun A outer s H args us vs Q E hr => F.run A outer s H args us vs Q E (hr.mono h)⟩
/-- the code object of a def -/
def codeOf8 (K : Fg) (f : Addr) : Option Value := match K.lookup f with
  | some ⟨_, _, .func fd, _⟩ => some fd.code
  | _ => none
/-- the body's entry: one more level -/
theorem fnG_of {P : Program} {w : World} {K : Fg} {mg : Str → Option Value} {base : Heap} {x qual : Str} {params : Arguments} {body : List Stmt} {scope : Scope} {dvs : List V} {kws : List (Str × V)} {f : Addr} {fd : FuncData}
    {N ps : List Str} {k : Nat} {sp : Sp} (F : FunD K x qual params body scope dvs kws f fd) (S : FnScope N ps scope) (len : ∀ vs H Q E, sp vs H Q E → vs.length = ps.length)
    (hbody : ∀ (cdv : Value) (A : Around) (outer : List Env) (s : Shared) (H : Hp) (vs : List V) (Q : VK) (E : XK), codeOf8 K f = some cdv → Cok (cxOf (L2.CX P w) P w K mg base N qual scope f cdv A outer s H E) (fun cls d _ H' => E cls d H') k → sp vs H Q E →
      ∃ t, PSs (cxOf (L2.CX P w) P w K mg base N qual scope f cdv A outer s H E) body t ∧ t { nx := fun _ H' => Q .non H', rt := Q } (start N vs) H) :
    FnG P w K mg base (k + 1) f fd ps sp := by
  obtain ⟨_, _, dV, kV, doc, pm, an, cdv, ct, _, rfl, lk, hcd, _, _⟩ := F.ex; refine ⟨len, fun A outer s H args us vs Q E hr hg e0 hb r hsp => ?_⟩
  have hl := len _ _ _ _ hsp
  have kin : K.In s.heap := e0.mod.kin.keeps fun _ _ z => (e0.bs _ _ z).1
  have lim : s.heap.NoLimit := e0.mod.nolimit.keeps fun _ _ z => (e0.bs _ _ z).1
  have kinds := fun (y : Str × Value) (hy : y ∈ ps.zip us) => (S.par y.1 (List.of_mem_zip (a := y.1) (b := y.2) hy).1).imp id fun q => And.intro q (PySem.W.cellsFrom_some scope.names (s.heap.objs.size + 1) [] (.inl q))
  refine codeAny_call_function hr.depth (kin _ _ lk) rfl S.co S.gen rfl (PySem.W.codeRec_of kin hcd) (hb _ _ _ _ (wpAny_newFunctionEnv_cells S.kind kinds fun env he s1 x => ?_))
  cases he; refine ⟨lim.keeps x.toInCall.keep, codeAny_func ?_⟩
  obtain ⟨t, ht, hq⟩ := hbody cdv A outer s H vs Q E (by unfold codeOf8; rw [lk]) ⟨takes_of rfl rfl rfl rfl, hg, hr.deeper _⟩ hsp
  have I : Inv (cxOf (L2.CX P w) P w K mg base N qual scope f cdv A outer s H E) [] (start N vs) H s1 := inv_start S hr.hd e0 hl r x
  refine wpAny_mono (ht.run [] s1 _ H _ I hq) (fun fl s' hs => ?_) fun _ _ z => z
  have fin : ∀ {σ' : L2.St} {H' : Hp} {v : V} {u : Value}, Inv (cxOf (L2.CX P w) P w K mg base N qual scope f cdv A outer s H E) [] σ' H' s' → RelV v u → Q v H' → CE outer P w H s Q u s' :=
    fun J rv q => ⟨_, _, J.os, J.bare, J.base, J.hok, rv, q⟩
  cases fl with
  | ret u =>
    obtain ⟨_, _, _, J, rv, q⟩ := hs; exact fin J rv q
  | next =>
    obtain ⟨σ', H', J, q⟩ := hs
    exact fin (u := .none) (v := .non) J rfl q
  | brk =>
    obtain ⟨_, _, _, q⟩ := hs
    exact False.elim q
  | cont =>
    obtain ⟨_, _, _, q⟩ := hs
    exact False.elim q

section
variable {X : Cx} {W : WX} {k n : Nat} {f C : Addr} {fd : FuncData} {ps ks : List Str} {sp : Sp} {x : Str} {p pos : Pos} {e : Expr} {es : List Expr} {kws : List Keyword} {t tk : TA} {g : List Value → List Value → List Value} {gV : List V → List V → List V}
/-- f(..): E tells by the slots what is wanted of an exception -/
def tCallG (W : WX) (n m : Nat) (sp : Sp) (gV : List V → List V → List V) (t tk : TA) : TE := fun σ H Q => t σ H fun vs H1 => tk σ H1 fun zs H2 => vs.length = n ∧ zs.length = m ∧ sp (gV vs zs) H2 Q fun cls d H' => W cls d σ H'
theorem run_g {pn : List (Addr × Obj)} {σ : L2.St} {H : Hp} {s : Shared} {Q : VK} {us ws : List Value} {vs zs : List V} (F : FnG X.prog X.w X.K X.mg X.base k f fd ps sp) (c : Cok X W k) (hb : KBn X.K fd ps n ks g gV)
    (I : Inv X pn σ H s) (r : Vals vs us) (rz : Vals zs ws) (l1 : vs.length = n) (l2 : zs.length = ks.length) (h : sp (gV vs zs) H Q fun cls d H' => W cls d σ H') : wpAny (model X.prog X.w) X.A (call (.ref f) us (ks.zip ws)) (EP X pn σ Q) X.xe s := by
  have r2 := hb.rel r rz
  refine wpAny_call (codeAny_mono (F.run X.A X.stack s H ⟨us, ks.zip ws⟩ (g us ws) (gV vs zs) Q _ c.rm c.gd I.env0 (hb.to s us ws I.kIn (r.length.symm.trans l1) (rz.length.symm.trans l2)) r2 h) fun r s' hq => ?_)
  cases r with
  | error e => exact c.tk e s' (XE.of_call I (fun cls d H' h => h) hq)
  | ok fl =>
    cases fl with
    | ret u => exact I.after hq
    | next => exact False.elim hq
    | brk => exact False.elim hq
    | cont => exact False.elim hq
/-- f(e, ..) -/
theorem pe_g (F : FnG X.prog X.w X.K X.mg X.base k f fd ps sp) (c : Cok X W k) (hg : Gl X x) (hm : X.mg x = some (.ref f)) (hk : PySem.W.keepIn X.K (.ref f) = true) (hb : KBn X.K fd ps n [] g gV)
    (ha : PA X (e :: es) t) (hpl : (backTo pos (starEach es X.env)).any (·.1) = false := by rfl) (hdb : (x == ("__debug__" : Str)) = false := by decide) (he : starEach (e :: es) X.env = (false, eval e X.env) :: starEach es X.env := by rfl) :
    PE X (.Call (.Name x p) (e :: es) [] pos) (tCallG W n 0 sp gV t tNil) := by
  refine ⟨fun pn s σ H Q I h => ?_⟩
  refine wpAny_Call_Name_kw (ld_glob I hg hm (?_) hdb) <;> refine PySem.W.callWith_K (h₀ := X.base) I.ok.mod.kin hk (thn (ha.run pos pn s σ H _ I h) fun us s1 ⟨vs, H1, i1, r, l1, l2, q⟩ => ⟨i1.kIn, ?_⟩) he hpl
  have z := run_g (ws := []) (zs := []) F c hb i1 r .nil l1 l2 q
  exact z
/-- f(e, .., k = v, ..) -/
theorem pe_gk (F : FnG X.prog X.w X.K X.mg X.base k f fd ps sp) (c : Cok X W k) (hg : Gl X x) (hm : X.mg x = some (.ref f)) (hk : PySem.W.keepIn X.K (.ref f) = true) (hb : KBn X.K fd ps n ks g gV)
    (ha : PA X (e :: es) t) (hkw : PK X kws tk)
    (hall : ((backToKw pos (keywordEach kws X.env)).all (·.1.isSome)) = true := by rfl) (hks : (backToKw pos (keywordEach kws X.env)).filterMap (·.1) = ks := by rfl)
    (he : starEach (e :: es) X.env = (false, eval e X.env) :: starEach es X.env := by rfl) (hdb : (x == ("__debug__" : Str)) = false := by decide) (hpl : ((backTo pos (starEach (e :: es) X.env)).any (·.1) || (backToKw pos (keywordEach kws X.env)).any (·.1.isNone)) = false := by rfl) :
    PE X (.Call (.Name x p) (e :: es) kws pos) (tCallG W n ks.length sp gV t tk) := by
  refine ⟨fun pn s σ H Q I h => ?_⟩
  refine wpAny_Call_Name_kw (ld_glob I hg hm (?_) hdb) <;> refine PySem.W.callWith_KW (h₀ := X.base) I.ok.mod.kin hk hall (thn (ha.run pos pn s σ H _ I h) fun us s1 ⟨vs, H1, i1, r, q⟩ => ?_) hpl he
  refine thn (hkw.run pos pn s1 σ H1 _ i1 q) fun ws s2 ⟨zs, H2, i2, rz, l1, l2, q2⟩ => ⟨i2.kIn, ?_⟩
  rw [hks]
  exact run_g F c hb i2 r rz l1 l2 q2
/-- f(k = v, ..) -/
theorem pe_gk0 (F : FnG X.prog X.w X.K X.mg X.base k f fd ps sp) (c : Cok X W k) (hg : Gl X x) (hm : X.mg x = some (.ref f)) (hk : PySem.W.keepIn X.K (.ref f) = true) (hb : KBn X.K fd ps 0 ks g gV)
    (hkw : PK X kws tk) (hall : (backToKw pos (keywordEach kws X.env)).all (·.1.isSome) = true := by rfl) (hks : (backToKw pos (keywordEach kws X.env)).filterMap (·.1) = ks := by rfl)
    (hpl : ((backTo pos (starEach [] X.env)).any (·.1) || (backToKw pos (keywordEach kws X.env)).any (·.1.isNone)) = false := by rfl) (hdb : (x == ("__debug__" : Str)) = false := by decide) :
    PE X (.Call (.Name x p) [] kws pos) (tCallG W 0 ks.length sp gV tNil tk) := by
  refine ⟨fun pn s σ H Q I h => ?_⟩
  refine wpAny_Call_Name_kw (ld_glob I hg hm (?_) hdb) <;> refine PySem.W.callWith_KW0 (h₀ := X.base) I.ok.mod.kin hk hall ?_ hpl
  refine thn (hkw.run pos pn s σ H _ I h) fun ws s2 ⟨zs, H2, i2, rz, l1, l2, q2⟩ => ⟨i2.kIn, ?_⟩
  rw [hks]
  exact run_g (us := []) (vs := []) F c hb i2 .nil rz rfl l2 q2
/-- C(..), C(k = v, ..): an instance, then __init__ -/
def tMakeG (W : WX) (C : Addr) (n m : Nat) (sp : Sp) (gV : List V → List V → List V) (t tk : TA) : TE := fun σ H Q => t σ H fun vs H1 => tk σ H1 fun zs H2 => vs.length = n ∧ zs.length = m ∧
  ∀ x dx, H2 x = none → H2 dx = none → dx ≠ x → sp (gV (.ref x :: vs) zs) (upd (upd H2 dx (.own x)) x (.ins C dx [])) (fun v H3 => v = .non ∧ Q (.ref x) H3) fun cls d H' => W cls d σ H'
theorem run_makeG {pn : List (Addr × Obj)} {σ : L2.St} {H : Hp} {s : Shared} {Q : VK} {us ws : List Value} {vs zs : List V} (M : Mk X.K C f) (F : FnG X.prog X.w X.K X.mg X.base k f fd ps sp) (c : Cok X W (k + 1)) (hb : KBn X.K fd ps (n + 1) ks g gV)
    (I : Inv X pn σ H s) (r : Vals vs us) (rz : Vals zs ws) (l1 : vs.length = n) (l2 : zs.length = ks.length)
    (h : ∀ x dx, H x = none → H dx = none → dx ≠ x → sp (gV (.ref x :: vs) zs) (upd (upd H dx (.own x)) x (.ins C dx [])) (fun v H2 => v = .non ∧ Q (.ref x) H2) fun cls d H' => W cls d σ H') :
    wpAny (model X.prog X.w) X.A (call (.ref C) us (ks.zip ws)) (EP X pn σ Q) X.xe s := by
  have hq := h _ _ (I.hok.fresh (a := s.heap.objs.size + 1) (Nat.le_succ _)) (I.hok.fresh (a := s.heap.objs.size) (Nat.le_refl _)) (Nat.ne_of_lt (Nat.lt_succ_self _))
  have i2 := Inv.made (C := C) I
  have r2 := hb.rel (show Vals (V.ref _ :: vs) (Value.ref (s.heap.objs.size + 1) :: us) from .cons rfl r) rz
  have n1 : us.length + 1 = n + 1 := congrArg (· + 1) (r.length.symm.trans l1)
  have gd : (X.A.under (.builtin "type.__call__" ⟨.ref C :: us, ks.zip ws⟩)).guards = some [] := by
    rw [← c.gd]
    simp [Around.under, pushGuards, Code.guards, Code.isGuard, guardIds]
  refine wpAny_call (make_map (f := f) I.kIn M.makes M.init (beq_iff_eq.mp M.fn) (codeAny_mono (F.run _ X.stack _ _ ⟨Value.ref (s.heap.objs.size + 1) :: us, ks.zip ws⟩ (g (Value.ref (s.heap.objs.size + 1) :: us) ws) _ _ _ (c.rm.make C us (ks.zip ws)) gd
    (i2.env0.make C us (ks.zip ws)) (hb.to _ (Value.ref (s.heap.objs.size + 1) :: us) ws i2.kIn n1 (rz.length.symm.trans l2)) r2 hq) fun r s' hq' => ?_))
  cases r with
  | error e => exact c.tk e s' (XE.of_call i2 (fun cls d H' h => h) hq')
  | ok fl =>
    cases fl with
    | ret u =>
      obtain ⟨v, H', i3, rv, ev, q3⟩ := i2.after hq'
      subst ev
      exact ⟨rv, ⟨V.ref (s.heap.objs.size + 1), H', i3, rfl, q3⟩⟩
    | next => cases hq'
    | brk => cases hq'
    | cont => cases hq'
theorem pe_mk (M : Mk X.K C f) (F : FnG X.prog X.w X.K X.mg X.base k f fd ps sp) (c : Cok X W (k + 1)) (hg : Gl X x) (hm : X.mg x = some (.ref C)) (hb : KBn X.K fd ps (n + 1) [] g gV)
    (ha : PA X (e :: es) t) (hpl : (backTo pos (starEach es X.env)).any (·.1) = false := by rfl) (hdb : (x == ("__debug__" : Str)) = false := by decide) (he : starEach (e :: es) X.env = (false, eval e X.env) :: starEach es X.env := by rfl) :
    PE X (.Call (.Name x p) (e :: es) [] pos) (tMakeG W C n 0 sp gV t tNil) := by
  refine ⟨fun pn s σ H Q I h => ?_⟩
  refine wpAny_Call_Name_kw (ld_glob I hg hm (?_) hdb) <;> refine PySem.W.callWith_K (h₀ := X.base) I.ok.mod.kin M.kp (thn (ha.run pos pn s σ H _ I h) fun us s1 ⟨vs, H1, i1, r, l1, l2, q⟩ => ⟨i1.kIn, ?_⟩) he hpl
  have z := run_makeG (ws := []) (zs := []) M F c hb i1 r .nil l1 l2 q
  exact z
theorem pe_mkk0 (M : Mk X.K C f) (F : FnG X.prog X.w X.K X.mg X.base k f fd ps sp) (c : Cok X W (k + 1)) (hg : Gl X x) (hm : X.mg x = some (.ref C)) (hb : KBn X.K fd ps 1 ks g gV)
    (hkw : PK X kws tk) (hall : (backToKw pos (keywordEach kws X.env)).all (·.1.isSome) = true := by rfl) (hks : (backToKw pos (keywordEach kws X.env)).filterMap (·.1) = ks := by rfl) 
    (hdb : (x == ("__debug__" : Str)) = false := by decide) (hpl : ((backTo pos (starEach [] X.env)).any (·.1) || (backToKw pos (keywordEach kws X.env)).any (·.1.isNone)) = false := by rfl) :
    PE X (.Call (.Name x p) [] kws pos) (tMakeG W C 0 ks.length sp gV tNil tk) := by
  refine ⟨fun pn s σ H Q I h => ?_⟩
  refine wpAny_Call_Name_kw (ld_glob I hg hm (?_) hdb) <;> refine PySem.W.callWith_KW0 (h₀ := X.base) I.ok.mod.kin M.kp hall ?_ hpl
  refine thn (hkw.run pos pn s σ H _ I h) fun ws s2 ⟨zs, H2, i2, rz, l1, l2, q2⟩ => ⟨i2.kIn, ?_⟩
  rw [hks]
  exact run_makeG (us := []) (vs := []) M F c hb i2 .nil rz rfl l2 q2
end

/-! ### what a def means for data: at most one object of the caller's own, the first argument -/
abbrev Spc := Option OD → List D → (D → Option OD → Prop) → (Addr → Str → D → Prop) → Prop
def args (h : Option (Addr × OD)) (ds : List D) : Rho := (match h with
  | none => []
  | some p => [.own p.1 p.2]) ++ ds.map .val
def lSp (K : Fg) (t : List (Addr × Str)) (n : Nat) (sp : Spc) : Sp := fun vs H Q E => ∃ S F h ds Ψ Ξ, vs.length = n ∧ ER K (tb0 t) S F H (args h ds) (vs.map some) ∧ sp (h.map (·.2)) ds Ψ Ξ ∧
  (∀ d v o' S' H', Ψ d o' → o'.isSome = h.isSome → Same S S' → Is K S' v d → ER K (tb0 t) S' F H' (args (h.bind fun p => o'.map fun o => (p.1, o)) ds) (vs.map some) → Q v H') ∧
  (∀ C f d v dd S' H', Ξ C f d → Same S S' → Same S' H' → TbOk (tb0 t) S' F H' → (∀ a o, F a = some o → H' a = some o ∧ (S' a = none ∨ TupO o)) → S' dd = some (.xd [(f, v)]) → Is K S' v d → E (.ref C) (some dd) H')
theorem ER.vals {K : Fg} {S F H : Hp} {ρ : Rho} {σ : L2.St} (e : ER K τ S F H ρ σ) : Same S H := e.ex
theorem args_none (ds : List D) : args none ds = ds.map .val := rfl
theorem er_args {K : Fg} {S F H : Hp} {vs : List V} {ds : List D} (hi : IsAll K S vs ds) (ex : Same S H) (tb : TbOk τ S F H) (fr : ∀ a o, F a = some o → H a = some o ∧ (S a = none ∨ TupO o)) : ER K τ S F H (args none ds) (vs.map some) := by
  rw [args_none]
  refine ⟨by rw [List.length_map, List.length_map, hi.length], ex, fr, fun i d h => ?_, fun i l od h => ?_, fun i j l o o' h _ => ?_, tb⟩
  · rw [List.getElem?_map] at h
    cases q : ds[i]? with
    | none => rw [q] at h; cases h
    | some d' =>
      rw [q] at h
      have e' : Sl.val d' = Sl.val d := Option.some.inj h
      cases e'
      obtain ⟨v, h1, h2⟩ := hi.get q
      exact ⟨v, by rw [List.getElem?_map, h1]; rfl, h2⟩
  · rw [List.getElem?_map] at h
    cases q : ds[i]? with
    | none => rw [q] at h; cases h
    | some d' => rw [q] at h; cases h
  · rw [List.getElem?_map] at h
    cases q : ds[i]? with
    | none => rw [q] at h; cases h
    | some d' => rw [q] at h; cases h
theorem ER.nTb {K : Fg} {S F H : Hp} {ρ : Rho} {σ : L2.St} (e : ER K τ S F H ρ σ) {i : Nat} {l : Addr} {od : OD} (h : ρ[i]? = some (Sl.own l od)) : l ∉ τ.t.map (·.1) := fun z => by
  obtain ⟨q, hq, rfl⟩ := List.mem_map.mp z
  obtain ⟨-, -, -, o, h4, h5⟩ := e.own _ _ _ h
  obtain ⟨ps, h6⟩ := e.tb.at hq
  rw [h4] at h6; exact h5.notX.1 ps (Option.some.inj h6)
theorem fr_back {S S' H H' Fc : Hp} {a : Addr} {o : HO} (s : Same S S') (ex : Same S' H') (eS : Same S H) (h1 : H a = some o) (h2 : S a = none ∨ TupO o) (k : S a = none → H' a = some o ∧ (S' a = none ∨ TupO o)) : H' a = some o ∧ (S' a = none ∨ TupO o) := by
  cases hS : S a with
  | none => exact k hS
  | some u =>
    have e := eS _ _ hS
    rw [h1] at e
    cases e
    refine ⟨ex _ _ (s _ _ hS), h2.elim (fun z => by rw [hS] at z; cases z) .inr⟩
/-- a caller's view behind a call that owned nothing -/
theorem ER.back {K : Fg} {S F H S' Fc H' : Hp} {ρ : Rho} {σ : L2.St} (e : ER K τ S F H ρ σ) (s : Same S S') (ex : Same S' H') (tT : LamX.Tabs τ.t H') (tS : ∀ p ∈ τ.t, S' p.1 = none) (fc : ∀ a o, a ∉ τ.t.map (·.1) → S a = none → H a = some o → Fc a = some o) (fr : ∀ a o, Fc a = some o → H' a = some o ∧ (S' a = none ∨ TupO o)) : ER K τ S' F H' ρ σ := by
  have nt : ∀ a o, F a = some o → a ∉ τ.t.map (·.1) := fun a o h z => by
    obtain ⟨q, hq, rfl⟩ := List.mem_map.mp z
    rw [e.tb.nF q hq] at h; cases h
  refine ⟨e.len, ex, fun a o h => ?_, fun i d h => ?_, fun i l od h => ?_, e.dis, ⟨tT, tS, e.tb.nF, fun a o h => s _ _ (e.tb.ks a o h), e.tb.kf⟩⟩
  · obtain ⟨h1, h2⟩ := e.fr a o h
    exact fr_back (Fc := Fc) s ex e.ex h1 h2 fun h3 => fr a o (fc a o (nt a o h) h3 h1)
  · obtain ⟨v, h1, h2⟩ := e.val i d h
    exact ⟨v, h1, h2.mono s⟩
  · have nl := e.nTb h
    obtain ⟨h1, h2, h3, o, h4, h5⟩ := e.own i l od h
    obtain ⟨h6, h7⟩ := fr l o (fc l o nl h2 h4)
    exact ⟨h1, h7.resolve_right h5.nt, h3, o, h6, h5.mono s⟩
open Classical in
/-- all that is there, but what never changes and what the callee owns -/
noncomputable def others (t : List (Addr × Str)) (S H : Hp) (p : Addr → Prop) : Hp := fun a => if p a ∨ a ∈ t.map (·.1) then none else if S a = none then H a else none
theorem others_of {S H : Hp} {p : Addr → Prop} {a : Addr} {o : HO} (h0 : a ∉ τ.t.map (·.1)) (h1 : ¬ p a) (h2 : S a = none) (h3 : H a = some o) : others τ.t S H p a = some o := by
  unfold others; rw [if_neg (fun z => z.elim h1 h0), if_pos h2]; exact h3
theorem others_inv {S H : Hp} {p : Addr → Prop} {a : Addr} {o : HO} (h : others τ.t S H p a = some o) : ¬ p a ∧ S a = none ∧ H a = some o := by
  unfold others at h
  split at h
  · cases h
  · split at h
    · rename_i h1 h2; exact ⟨fun z => h1 (.inl z), h2, h⟩
    · cases h
theorem others_tb {S H : Hp} {p : Addr → Prop} {q : Addr × Str} (h : q ∈ τ.t) : others τ.t S H p q.1 = none := by
  unfold others; rw [if_pos (.inr (List.mem_map.mpr ⟨q, h, rfl⟩))]
theorem TbOk.oth {S F H : Hp} {p : Addr → Prop} {S' H' : Hp} (t : TbOk τ S F H) : TbOk (tb0 τ.t) S (others τ.t S' H' p) H := ⟨t.tab, t.nS, fun _ h => others_tb h, (fun _ _ z => nomatch z), fun _ _ z => nomatch z⟩
/-- f(..), all its arguments data -/
def wCallA (n m : Nat) (sp : Spc) (gD : List D → List D → List D) (wa wk : WL) : WE := fun ρ χ Φ => wa ρ χ fun ds ρ1 => wk ρ1 χ fun zs ρ2 => ds.length = n ∧ zs.length = m ∧ sp none (gD ds zs) (fun d _ => Φ d ρ2) fun C f d => χ C f d ρ2
/-- f(x, ..), x the slot i, an object of one's own -/
def wCallB (i : Nat) (n : Nat) (sp : Spc) (wa : WL) : WE := fun ρ χ Φ => (∃ l o, ρ[i]? = some (Sl.own l o)) ∧ wa ρ χ fun ds ρ1 => ds.length = n ∧ match ρ1[i]? with
  | some (.own l o) => sp (some o) ds (fun d o' => ∃ o2, o' = some o2 ∧ Φ d (ρ1.set i (.own l o2))) fun _ _ _ => False
  | _ => False
theorem er_argsO {K : Fg} {S F H : Hp} {vs : List V} {ds : List D} {l : Addr} {o : HO} {od : OD} (hi : IsAll K S vs ds) (ex : Same S H) (tb : TbOk τ S F H) (fr : ∀ a o, F a = some o → H a = some o ∧ (S a = none ∨ TupO o)) (h1 : H l = some o) (h2 : S l = none) (h3 : F l = none) (h4 : OIs K S o od) :
    ER K τ S F H (args (some (l, od)) ds) ((V.ref l :: vs).map some) := by
  have e := er_args hi ex tb fr
  have nov : ∀ (j : Nat) (m : Addr) (o2 : OD), (ds.map Sl.val)[j]? ≠ some (Sl.own m o2) := fun j m o2 h => by
    rw [List.getElem?_map] at h
    cases q : ds[j]? with
    | none => rw [q] at h; cases h
    | some d' => rw [q] at h; cases h
  refine ⟨congrArg Nat.succ e.len, ex, fr, fun i d h => ?_, fun i m o2 h => ?_, fun i j m o1 o2 a b => ?_, tb⟩
  · cases i with
    | zero => cases h
    | succ i => exact e.val i d h
  · cases i with
    | zero =>
      have h' : Sl.own l od = Sl.own m o2 := Option.some.inj h
      cases h'
      exact ⟨rfl, h2, h3, o, h1, h4⟩
    | succ i => exact absurd h (nov i m o2)
  · cases i with
    | zero =>
      cases j with
      | zero => rfl
      | succ j => exact absurd b (nov j m o2)
    | succ i => exact absurd a (nov i m o1)
/-- a caller's view behind a call that owned the object of the slot i -/
theorem ER.backO {K : Fg} {S F H S' Fc H' : Hp} {ρ : Rho} {σ : L2.St} {i : Nat} {l : Addr} {o : OD} {o2 : HO} {od2 : OD} (e : ER K τ S F H ρ σ) (hi : ρ[i]? = some (Sl.own l o)) (s : Same S S') (ex : Same S' H') (tT : LamX.Tabs τ.t H') (tS : ∀ p ∈ τ.t, S' p.1 = none) (fc : ∀ a o, a ∉ τ.t.map (·.1) → a ≠ l → S a = none → H a = some o → Fc a = some o) (fr : ∀ a o, Fc a = some o → H' a = some o ∧ (S' a = none ∨ TupO o))
    (h1 : H' l = some o2) (h2 : S' l = none) (h4 : OIs K S' o2 od2) : ER K τ S' F H' (ρ.set i (.own l od2)) σ := by
  obtain ⟨b1, b2, b3, ob, b4, b5⟩ := e.own i l o hi
  have hil : i < ρ.length := (List.getElem?_eq_some_iff.mp hi).1
  have nt : ∀ a o, F a = some o → a ∉ τ.t.map (·.1) := fun a o h z => by
    obtain ⟨q, hq, rfl⟩ := List.mem_map.mp z
    rw [e.tb.nF q hq] at h; cases h
  refine ⟨by rw [List.length_set]; exact e.len, ex, fun a o h => ?_, fun j d h => ?_, fun j m od h => ?_, fun j k m o1 o3 q1 q2 => ?_, ⟨tT, tS, e.tb.nF, fun a o h => s _ _ (e.tb.ks a o h), e.tb.kf⟩⟩
  · obtain ⟨a1, a2⟩ := e.fr a o h
    exact fr_back (Fc := Fc) s ex e.ex a1 a2 fun a3 => fr a o (fc a o (nt a o h) (fun z => by rw [z, b3] at h; cases h) a3 a1)
  · by_cases hj : j = i
    · subst hj; rw [List.getElem?_set_self hil] at h; cases h
    · rw [List.getElem?_set_ne (Ne.symm hj)] at h
      obtain ⟨v, a1, a2⟩ := e.val j d h
      exact ⟨v, a1, a2.mono s⟩
  · by_cases hj : j = i
    · subst hj; rw [List.getElem?_set_self hil] at h; cases h
      exact ⟨b1, h2, b3, o2, h1, h4⟩
    · rw [List.getElem?_set_ne (Ne.symm hj)] at h
      obtain ⟨a1, a2, a3, o4, a4, a5⟩ := e.own j m od h
      have ne : m ≠ l := fun z => by subst z; exact hj (e.dis _ _ _ _ _ h hi)
      obtain ⟨a6, a7⟩ := fr m o4 (fc m o4 (e.nTb h) ne a2 a4)
      exact ⟨a1, a7.resolve_right a5.nt, a3, o4, a6, a5.mono s⟩
  · have back : ∀ {k : Nat} {o1 : OD}, (ρ.set i (.own l od2))[k]? = some (Sl.own m o1) → ∃ o3, ρ[k]? = some (Sl.own m o3) := fun {k o1} q => by
      by_cases hk : k = i
      · subst hk; rw [List.getElem?_set_self hil] at q; cases q; exact ⟨o, hi⟩
      · rw [List.getElem?_set_ne (Ne.symm hk)] at q; exact ⟨o1, q⟩
    obtain ⟨o5, q3⟩ := back q1
    obtain ⟨o6, q4⟩ := back q2
    exact e.dis _ _ _ _ _ q3 q4
section
variable {K : Fg} {W : WX} {sp : Spc} {n m N : Nat} {gV : List V → List V → List V} {gD : List D → List D → List D} {wa wk : WL}
def GRel (n m N : Nat) (gV : List V → List V → List V) (gD : List D → List D → List D) : Prop := ∀ (K : Fg) (S : Hp) vs ds us es, IsAll K S vs ds → IsAll K S us es → vs.length = n → us.length = m → IsAll K S (gV vs us) (gD ds es) ∧ (gV vs us).length = N
theorem l_callA (hg : GRel n m N gV gD) : ∀ σ H Q, lE K τ W (wCallA n m sp gD wa wk) σ H Q → tCallG W n m (lSp K τ.t N sp) gV (lL K τ W wa) (lL K τ W wk) σ H Q := by
  rintro σ H Q ⟨ρ, S, F, χ, Φ, e, hw, hx, hp⟩
  refine ⟨ρ, S, F, χ, _, e, hw, hx, fun vs ds ρ1 S1 H1 h1 s1 i1 e1 => ?_⟩
  refine ⟨ρ1, S1, F, χ, _, e1, h1, hx.mono s1, fun us es ρ2 S2 H2 h2 s2 i2 e2 => ?_⟩
  obtain ⟨l1, l2, h3⟩ := h2
  have l1' : vs.length = n := by rw [i1.length]; exact l1
  have l2' : us.length = m := by rw [i2.length]; exact l2
  obtain ⟨ig, lg⟩ := hg K S2 vs ds us es (i1.mono s2) i2 l1' l2'
  refine ⟨l1', l2', S2, others τ.t S2 H2 fun _ => False, none, _, _, _, lg, er_args ig e2.ex e2.tb.oth fun a o h => ?_, h3, fun d v o' S' H' q _ s' iv er => ?_, fun C f d v dd S' H' q s' ex tb fr hd iv => ?_⟩
  · obtain ⟨_, a1, a2⟩ := others_inv h
    exact ⟨a2, .inl a1⟩
  · exact hp v d ρ2 S' H' q ((s1.trans s2).trans s') iv (e2.back s' er.ex er.tb.tab er.tb.nS (fun a o n a1 a2 => others_of n (fun z => z) a1 a2) er.fr)
  · exact hx C f d v dd ρ2 S' σ H' q ((s1.trans s2).trans s') (e2.back s' ex tb.tab tb.nS (fun a o n a1 a2 => others_of n (fun z => z) a1 a2) fr) hd iv
theorem l_callB {i : Nat} (hg : ∀ vs, gV vs [] = vs) : ∀ σ H Q, lE K τ W (wCallB i n sp wa) σ H Q → tCallG W (n + 1) 0 (lSp K τ.t (n + 1) sp) gV (tCons (tVar i) (lL K τ W wa)) tNil σ H Q := by
  rintro σ H Q ⟨ρ, S, F, χ, Φ, e, ⟨⟨l, o, hl⟩, hw⟩, hx, hp⟩
  obtain ⟨hσ, _⟩ := e.own i l o hl
  refine ⟨.ref l, hσ, ρ, S, F, χ, _, e, hw, hx, fun vs ds ρ1 S1 H1 h1 s1 i1 e1 => ?_⟩
  obtain ⟨l1, h2⟩ := h1
  have l1' : vs.length = n := by rw [i1.length]; exact l1
  split at h2
  · rename_i l' o' hl'
    obtain ⟨b1, b2, b3, ob, b4, b5⟩ := e1.own i l' o' hl'
    rw [hσ] at b1
    cases b1
    refine ⟨by rw [List.length_cons, l1'], rfl, S1, others τ.t S1 H1 (fun a => a = l), some (l, o'), ds, _, _, by rw [hg, List.length_cons, l1'], ?_, h2, fun d v o2 S' H' q hs s' iv er => ?_, fun C f d v dd S' H' q => q.elim⟩
    · rw [hg]
      exact er_argsO i1 e1.ex e1.tb.oth (fun a o h => by obtain ⟨_, a1, a2⟩ := others_inv h; exact ⟨a2, .inl a1⟩) b4 b2 (by unfold others; rw [if_pos (.inl rfl)]) b5
    · obtain ⟨od2, rfl, q⟩ := q
      rw [hg] at er
      obtain ⟨_, c2, _, o3, c4, c5⟩ := er.own 0 l od2 rfl
      exact hp v d _ S' H' q (s1.trans s') iv (e1.backO hl' s' er.ex er.tb.tab er.tb.nS (fun a o n a0 a1 a2 => others_of (p := fun a => a = l) n a0 a1 a2) er.fr c4 c2 c5)
  · exact h2.elim
end
end DL
set_option Elab.async false
set_option autoImplicit false
set_option linter.all false
set_option maxRecDepth 100000
set_option maxHeartbeats 3900000
namespace DL
open L2 PyProof.Rows PySem PySem.Spec
variable {τ : Tb}

/-! ### statements -/
def DE.withNx (Δ : DE) (n : Rho → Prop) : DE := { Δ with nx := n }
def wSeq (w u : WS) : WS := fun ρ Δ => w ρ { Δ with nx := fun ρ' => u ρ' Δ }
def wNext : WS := fun ρ Δ => Δ.nx ρ
def wBreak : WS := fun ρ Δ => Δ.bk ρ
def wCont : WS := fun ρ Δ => Δ.ct ρ
def wAsg (i : Nat) (wa : WE) : WS := fun ρ Δ => wa ρ Δ.xc fun d ρ1 => Δ.nx (ρ1.set i (.val d))
def wRet (wa : WE) : WS := fun ρ Δ => wa ρ Δ.xc fun d ρ1 => Δ.rt d ρ1
def wRetN : WS := fun ρ Δ => Δ.rt .non ρ
def wDrop (wa : WE) : WS := fun ρ Δ => wa ρ Δ.xc fun _ ρ1 => Δ.nx ρ1
def wIfS (wt : WT) (w u : WS) : WS := fun ρ Δ => wt ρ Δ.xc fun b ρ1 => if b = true then w ρ1 Δ else u ρ1 Δ
section
variable {K : Fg} {W : WX} {wa wb : WE} {wt : WT} {w u : WS}
theorem l_seq : ∀ D σ H, lS K τ W (wSeq w u) D σ H → tSeq (lS K τ W w) (lS K τ W u) D σ H := by
  rintro D σ H ⟨ρ, S, F, Δ, e, hw, hx, h1, h2, h3, h4, h5⟩
  refine ⟨ρ, S, F, _, e, hw, hx, fun ρ' S' σ' H' q s' e' => ?_, h2, h3, h4, h5⟩
  exact ⟨ρ', S', F, Δ, e', q, hx.mono s', fun ρ2 S2 σ2 H2 a b c => h1 ρ2 S2 σ2 H2 a (s'.trans b) c, fun d v ρ2 S2 σ2 H2 a b c f => h2 d v ρ2 S2 σ2 H2 a (s'.trans b) c f,
    fun ρ2 S2 σ2 H2 a b c => h3 ρ2 S2 σ2 H2 a (s'.trans b) c, fun ρ2 S2 σ2 H2 a b c => h4 ρ2 S2 σ2 H2 a (s'.trans b) c, fun l od o ρ2 S2 σ2 H2 a b => h5 l od o ρ2 S2 σ2 H2 a (s'.trans b)⟩
theorem l_next : ∀ D σ H, lS K τ W wNext D σ H → tNext D σ H := by
  rintro D σ H ⟨ρ, S, F, Δ, e, hw, hx, h1, h2, h3, h4, h5⟩
  exact h1 ρ S σ H hw (Same.refl S) e
theorem l_brk : ∀ D σ H, lS K τ W wBreak D σ H → tBreak D σ H := by
  rintro D σ H ⟨ρ, S, F, Δ, e, hw, hx, h1, h2, h3, h4, h5⟩
  exact h3 ρ S σ H hw (Same.refl S) e
theorem l_cnt : ∀ D σ H, lS K τ W wCont D σ H → tCont D σ H := by
  rintro D σ H ⟨ρ, S, F, Δ, e, hw, hx, h1, h2, h3, h4, h5⟩
  exact h4 ρ S σ H hw (Same.refl S) e
theorem l_asg {i : Nat} : ∀ D σ H, lS K τ W (wAsg i wa) D σ H → tAsg (lE K τ W wa) (gName i) D σ H := by
  rintro D σ H ⟨ρ, S, F, Δ, e, hw, hx, h1, h2, h3, h4, h5⟩
  exact ⟨ρ, S, F, _, _, e, hw, hx, fun v d ρ' S' H' q s' iv e' => h1 _ S' _ H' q s' (e'.set iv)⟩
theorem l_ret : ∀ D σ H, lS K τ W (wRet wa) D σ H → tRet (lE K τ W wa) D σ H := by
  rintro D σ H ⟨ρ, S, F, Δ, e, hw, hx, h1, h2, h3, h4, h5⟩
  exact ⟨ρ, S, F, _, _, e, hw, hx, fun v d ρ' S' H' q s' iv e' => h2 d v _ S' _ H' q s' iv e'⟩
theorem l_retN : ∀ D σ H, lS K τ W wRetN D σ H → tRetN D σ H := by
  rintro D σ H ⟨ρ, S, F, Δ, e, hw, hx, h1, h2, h3, h4, h5⟩
  exact h2 .non .non ρ S σ H hw (Same.refl S) .non e
theorem l_drop : ∀ D σ H, lS K τ W (wDrop wa) D σ H → tDrop (lE K τ W wa) D σ H := by
  rintro D σ H ⟨ρ, S, F, Δ, e, hw, hx, h1, h2, h3, h4, h5⟩
  exact ⟨ρ, S, F, _, _, e, hw, hx, fun v d ρ' S' H' q s' iv e' => h1 _ S' _ H' q s' e'⟩
theorem l_ifS : ∀ D σ H, lS K τ W (wIfS wt w u) D σ H → tIfS (lT K τ W wt) (lS K τ W w) (lS K τ W u) D σ H := by
  rintro D σ H ⟨ρ, S, F, Δ, e, hw, hx, h1, h2, h3, h4, h5⟩
  refine ⟨ρ, S, F, _, _, e, hw, hx, fun b ρ' S' H' q s' e' => ?_⟩
  have go : ∀ w' : WS, w' ρ' Δ → lS K τ W w' D σ H' := fun w' q => ⟨ρ', S', F, Δ, e', q, hx.mono s', fun ρ2 S2 σ2 H2 a b c => h1 ρ2 S2 σ2 H2 a (s'.trans b) c, fun d v ρ2 S2 σ2 H2 a b c f => h2 d v ρ2 S2 σ2 H2 a (s'.trans b) c f,
    fun ρ2 S2 σ2 H2 a b c => h3 ρ2 S2 σ2 H2 a (s'.trans b) c, fun ρ2 S2 σ2 H2 a b c => h4 ρ2 S2 σ2 H2 a (s'.trans b) c, fun l od o ρ2 S2 σ2 H2 a b => h5 l od o ρ2 S2 σ2 H2 a (s'.trans b)⟩
  cases b with
  | true => exact go w q
  | false => exact go u q
end

def wRetO (wo : Rho → XC → (Addr → OD → Rho → Prop) → Prop) : WS := fun ρ Δ => wo ρ Δ.xc fun l od ρ1 => Δ.ro l od ρ1
/-! ### targets -/
abbrev WG := D → Rho → (Rho → Prop) → Prop
abbrev WGs := List D → Rho → (Rho → Prop) → Prop
def lG (K : Fg) (τ : Tb) (g : WG) : TG := fun x σ H Q => ∃ ρ S F d Φ, ER K τ S F H ρ σ ∧ Is K S x d ∧ g d ρ Φ ∧ ∀ ρ' S' σ' H', Φ ρ' → Same S S' → ER K τ S' F H' ρ' σ' → Q σ' H'
def lGs (K : Fg) (τ : Tb) (g : WGs) : TGs := fun xs σ H Q => ∃ ρ S F ds Φ, ER K τ S F H ρ σ ∧ IsAll K S xs ds ∧ g ds ρ Φ ∧ ∀ ρ' S' σ' H', Φ ρ' → Same S S' → ER K τ S' F H' ρ' σ' → Q σ' H'
def wgName (i : Nat) : WG := fun d ρ Φ => Φ (ρ.set i (.val d))
def wgNil : WGs := fun ds ρ Φ => ds = [] ∧ Φ ρ
def wgCons (g : WG) (gs : WGs) : WGs := fun ds ρ Φ => match ds with
  | d :: ds => g d ρ fun ρ1 => gs ds ρ1 Φ
  | [] => False
def wgTup (n : Nat) (gs : WGs) : WG := fun d ρ Φ => match d with
  | .tup ds => ds.length = n ∧ gs ds ρ Φ
  | _ => False
theorem PG.imp {X : Cx} {e : Expr} {t t' : TG} (h : PG X e t) (m : ∀ x σ H Q, t' x σ H Q → t x σ H Q) : PG X e t' := ⟨fun pins s σ H v u Q I r q => h.run pins s σ H v u Q I r (m v σ H Q q)⟩
theorem PGs.imp {X : Cx} {e : List Expr} {t t' : TGs} (h : PGs X e t) (m : ∀ x σ H Q, t' x σ H Q → t x σ H Q) : PGs X e t' := ⟨fun pins s σ H v u Q I r q => h.run pins s σ H v u Q I r (m v σ H Q q)⟩
section
variable {K : Fg}
theorem g_name {i : Nat} : ∀ x σ H Q, lG K τ (wgName i) x σ H Q → gName i x σ H Q := by
  rintro x σ H Q ⟨ρ, S, F, d, Φ, e, hi, hg, hp⟩
  exact hp _ S _ H hg (Same.refl S) (e.set hi)
theorem g_nil : ∀ x σ H Q, lGs K τ wgNil x σ H Q → gNil x σ H Q := by
  rintro x σ H Q ⟨ρ, S, F, d, Φ, e, hi, ⟨h1, hg⟩, hp⟩
  subst h1
  cases hi
  exact ⟨rfl, hp _ S _ H hg (Same.refl S) e⟩
theorem g_cons {g : WG} {gs : WGs} : ∀ x σ H Q, lGs K τ (wgCons g gs) x σ H Q → gCons (lG K τ g) (lGs K τ gs) x σ H Q := by
  rintro x σ H Q ⟨ρ, S, F, ds, Φ, e, hi, hg, hp⟩
  cases hi with
  | nil => exact hg.elim
  | cons a b => exact ⟨_, _, rfl, ρ, S, F, _, _, e, a, hg, fun ρ' S' σ' H' q s' e' => ⟨ρ', S', F, _, _, e', b.mono s', q, fun ρ2 S2 σ2 H2 q2 s2 e2 => hp ρ2 S2 σ2 H2 q2 (s'.trans s2) e2⟩⟩
theorem g_tup {n : Nat} {gs : WGs} : ∀ x σ H Q, lG K τ (wgTup n gs) x σ H Q → gTup K n (lGs K τ gs) x σ H Q := by
  rintro x σ H Q ⟨ρ, S, F, d, Φ, e, hi, hg, hp⟩
  cases hi with
  | tup h1 h2 => exact ⟨_, _, rfl, .inl (.inl (e.ex _ _ h1)), h2.length.trans hg.1, ρ, S, F, _, Φ, e, h2, hg.2, hp⟩
  | _ => exact False.elim hg
theorem l_asgG {W : WX} {wa : WE} {g : WG} : ∀ D σ H, lS K τ W (fun ρ Δ => wa ρ Δ.xc fun d ρ1 => g d ρ1 Δ.nx) D σ H → tAsg (lE K τ W wa) (lG K τ g) D σ H := by
  rintro D σ H ⟨ρ, S, F, Δ, e, hw, hx, h1, h2, h3, h4, h5⟩
  exact ⟨ρ, S, F, _, _, e, hw, hx, fun v d ρ' S' H' q s' iv e' => ⟨ρ', S', F, d, _, e', iv, q, fun ρ2 S2 σ2 H2 q2 s2 e2 => h1 ρ2 S2 σ2 H2 q2 (s'.trans s2) e2⟩⟩
end
def wAsgG (g : WG) (wa : WE) : WS := fun ρ Δ => wa ρ Δ.xc fun d ρ1 => g d ρ1 Δ.nx

/-! ### walks -/
structure DWk (K : Fg) (τ : Tb) (S : Hp) (J : It) (ds : List D) : Prop where
  go : ∀ i H, i < ds.length → Same S H → J.go i H
  stop : ∀ H, Same S H → J.stop ds.length H
  yld : ∀ i H x H', i < ds.length → Same S H → J.yld i H x H' → ∃ d, ds[i]? = some d ∧ ∀ S1 F (ρ : Rho) (σ : L2.St), Same S S1 → ER K τ S1 F H ρ σ → ∃ S2, Same S1 S2 ∧ Is K S2 x d ∧ ER K τ S2 F H' ρ σ
theorem DWk.mono {K : Fg} {S S' : Hp} {J : It} {ds : List D} (h : DWk K τ S J ds) (s : Same S S') : DWk K τ S' J ds :=
  ⟨fun i H a b => h.go i H a (s.trans b), fun H b => h.stop H (s.trans b), fun i H x H' a b c => by
    obtain ⟨d, h1, h2⟩ := h.yld i H x H' a (s.trans b) c
    exact ⟨d, h1, fun S1 F ρ σ q e => h2 S1 F ρ σ (s.trans q) e⟩⟩
def lI (K : Fg) (τ : Tb) (W : WX) (w : WL) : TI := fun σ H R => ∃ ρ S F χ Φ, ER K τ S F H ρ σ ∧ w ρ χ Φ ∧ XOk K τ F W S χ ∧ ∀ J ds ρ' S' H', Φ ds ρ' → Same S S' → ER K τ S' F H' ρ' σ → DWk K τ S' J ds → R J H'
theorem PI.imp {X : Cx} {tg e : Expr} {t t' : TI} (h : PI X tg e t) (m : ∀ σ H Q, t' σ H Q → t σ H Q) : PI X tg e t' := ⟨fun pins s σ H R I q => h.run pins s σ H R I (m σ H R q)⟩
theorem dwk_list {K : Fg} {S : Hp} {a : Addr} {vs : List V} {ds : List D} (h : S a = some (.lst vs)) (hi : IsAll K S vs ds) : DWk K τ S (Itl K a) ds := by
  have hl := hi.length
  refine ⟨fun i H h1 s => ⟨vs, vs[i]'(by omega), .inl (.inl (s _ _ h)), by simp⟩, fun H s => ⟨vs, .inl (.inl (s _ _ h)), by omega⟩, fun i H x H' h1 s y => ?_⟩
  obtain ⟨rfl, y⟩ := y
  have hx := y vs (.inl (.inl (s _ _ h)))
  obtain ⟨v, q1, q2⟩ := hi.get (i := i) (d := ds[i]) (by simp [h1])
  rw [q1] at hx
  cases hx
  exact ⟨ds[i], by simp [h1], fun S1 F ρ σ s1 e => ⟨S1, Same.refl S1, q2.mono s1, e⟩⟩
theorem dwk_tup {K : Fg} {S : Hp} {a : Addr} {vs : List V} {ds : List D} (h : S a = some (.tup vs)) (hi : IsAll K S vs ds) : DWk K τ S (Itt K a) ds := by
  have hl := hi.length
  refine ⟨fun i H h1 s => ⟨vs, vs[i]'(by omega), .inl (.inl (s _ _ h)), by simp⟩, fun H s => ⟨vs, .inl (.inl (s _ _ h)), by omega⟩, fun i H x H' h1 s y => ?_⟩
  obtain ⟨rfl, y⟩ := y
  have hx := y vs (.inl (.inl (s _ _ h)))
  obtain ⟨v, q1, q2⟩ := hi.get (i := i) (d := ds[i]) (by simp [h1])
  rw [q1] at hx
  cases hx
  exact ⟨ds[i], by simp [h1], fun S1 F ρ σ s1 e => ⟨S1, Same.refl S1, q2.mono s1, e⟩⟩
def rgD (lo : Int) (n : Nat) : List D := (List.range n).map fun i => D.int (lo + (i : Nat))
theorem dwk_range {K : Fg} {S : Hp} {lo : Int} {n : Nat} : DWk K τ S (Itr lo n) (rgD lo n) := by
  have hl : (rgD lo n).length = n := by simp [rgD]
  refine ⟨fun i H h1 s => ?_, fun H s => ?_, fun i H x H' h1 s y => ?_⟩
  · rw [hl] at h1; exact h1
  · rw [hl]; exact Nat.le_refl n
  · obtain ⟨rfl, rfl⟩ := y
    rw [hl] at h1
    exact ⟨.int (lo + i), by simp [rgD, h1], fun S1 F ρ σ s1 e => ⟨S1, Same.refl S1, .int _, e⟩⟩
/-- a list or a tuple, whichever it is -/
def wiSeq (wa : WE) : WL := fun ρ χ Φ => wa ρ χ fun d ρ1 => match d with
  | .lst ds => Φ ds ρ1
  | .tup ds => Φ ds ρ1
  | _ => False
theorem d_seq {X : Cx} {tg l : Expr} {W : WX} {wa : WE} (hl : PE X l (lE X.K τ W wa)) : PI X tg l (lI X.K τ W (wiSeq wa)) := by
  constructor; rintro pins s σ H R I ⟨ρ, S, F, χ, Φ, e, hw, hx, hp⟩
  have h' : lE X.K τ W wa σ H (fun x H1 => (∃ a xs, x = .ref a ∧ SqL X.K H1 a xs ∧ R (Itl X.K a) H1) ∨ ∃ a xs, x = .ref a ∧ SqT X.K H1 a xs ∧ R (Itt X.K a) H1) := by
    refine ⟨ρ, S, F, χ, _, e, hw, hx, fun v d ρ' S' H' q s' iv e' => ?_⟩
    cases iv with
    | lst h1 h2 => exact .inl ⟨_, _, rfl, .inl (.inl (e'.ex _ _ h1)), hp _ _ ρ' S' H' q s' e' (dwk_list h1 h2)⟩
    | tup h1 h2 => exact .inr ⟨_, _, rfl, .inl (.inl (e'.ex _ _ h1)), hp _ _ ρ' S' H' q s' e' (dwk_tup h1 h2)⟩
    | _ => exact False.elim q
  refine thn (hl.run pins s σ H _ I h') fun v s1 ⟨x, H1, I1, r1, q1⟩ => ?_
  have fresh : ∀ b ∈ [s1.heap.objs.size], FpOk X pins H1 b := fun b hb => by
    cases List.mem_singleton.mp hb; exact Inv.fpOk I1 (Nat.le_refl _) (I1.hok.fresh (Nat.le_refl s1.heap.objs.size))
  rcases q1 with ⟨a, xs, rfl, hq, q⟩ | ⟨a, xs, rfl, hq, q⟩ <;> cases r1
  · obtain ⟨_, _, p, _⟩ := I1.list hq
    exact wpAny_pyIter_list p.isList ⟨_, _, _, _, H1, rfl, I1.kept (t' := s1.toks) fun _ _ z => Heap.get?_push_of_some _ z, turn_list a _, ⟨_, Heap.get?_push_size _ rfl, rfl, rfl⟩, fresh, q⟩
  · obtain ⟨_, _, p, _⟩ := I1.tuple hq
    exact wpAny_pyIter_tuple p ⟨_, _, _, _, H1, rfl, I1.kept (t' := s1.toks) fun _ _ z => Heap.get?_push_of_some _ z, turn_tuple a _, ⟨_, Heap.get?_push_size _ rfl, rfl, rfl⟩, fresh, q⟩
def wiRg1 (wa : WL) : WL := fun ρ χ Φ => wa ρ χ fun ds ρ1 => match ds with
  | [.int j] => (-(2 ^ 62) ≤ j ∧ j < 2 ^ 62) ∧ Φ (rgD 0 j.toNat) ρ1
  | _ => False
def wiRg2 (wa : WL) : WL := fun ρ χ Φ => wa ρ χ fun ds ρ1 => match ds with
  | [.int i, .int j] => (-(2 ^ 62) ≤ i ∧ i < 2 ^ 62 ∧ -(2 ^ 62) ≤ j ∧ j < 2 ^ 62) ∧ Φ (rgD i (j - i).toNat) ρ1
  | _ => False
theorem i_rg1 {K : Fg} {W : WX} {wa : WL} : ∀ σ H R, lI K τ W (wiRg1 wa) σ H R → iRng1 (lL K τ W wa) σ H R := by
  rintro σ H R ⟨ρ, S, F, χ, Φ, e, hw, hx, hp⟩
  refine ⟨ρ, S, F, χ, _, e, hw, hx, fun vs ds ρ1 S1 H1 h1 s1 i1 e1 => ?_⟩
  split at h1
  · cases i1 with
    | cons a b =>
      cases a
      cases b
      exact ⟨_, rfl, h1.1.1, h1.1.2, hp _ _ ρ1 S1 H1 h1.2 s1 e1 dwk_range⟩
  · exact h1.elim
theorem i_rg2 {K : Fg} {W : WX} {wa : WL} : ∀ σ H R, lI K τ W (wiRg2 wa) σ H R → iRng2 (lL K τ W wa) σ H R := by
  rintro σ H R ⟨ρ, S, F, χ, Φ, e, hw, hx, hp⟩
  refine ⟨ρ, S, F, χ, _, e, hw, hx, fun vs ds ρ1 S1 H1 h1 s1 i1 e1 => ?_⟩
  split at h1
  · cases i1 with
    | cons a b =>
      cases a
      cases b with
      | cons a b =>
        cases a
        cases b
        exact ⟨_, _, rfl, h1.1, hp _ _ ρ1 S1 H1 h1.2 s1 e1 dwk_range⟩
  · exact h1.elim

/-! ### for -/
def wForL (g : WG) (wb : WS) : List D → Rho → DE → Prop
  | [], ρ, Δ => Δ.nx ρ
  | d :: ds, ρ, Δ => g d ρ fun ρ1 => wb ρ1 { Δ with nx := fun ρ' => wForL g wb ds ρ' Δ, ct := fun ρ' => wForL g wb ds ρ' Δ, bk := Δ.nx }
def wFor (wi : WL) (g : WG) (wb : WS) : WS := fun ρ Δ => wi ρ Δ.xc fun ds ρ1 => wForL g wb ds ρ1 Δ
theorem l_for {K : Fg} {W : WX} {wi : WL} {g : WG} {wb : WS} : ∀ D σ H, lS K τ W (wFor wi g wb) D σ H → tFor (lI K τ W wi) (lG K τ g) (lS K τ W wb) D σ H := by
  rintro D σ H ⟨ρ, S, F, Δ, e, hw, hx, h1, h2, h3, h4, h5⟩
  refine ⟨ρ, S, F, _, _, e, hw, hx, fun J ds ρ1 S1 H1 q1 s1 e1 wk => ?_⟩
  refine ⟨fun i m σ' H' => m = ds.length - i ∧ i ≤ ds.length ∧ ∃ ρ' S', Same S1 S' ∧ ER K τ S' F H' ρ' σ' ∧ wForL g wb (ds.drop i) ρ' Δ, ⟨_, rfl, Nat.zero_le _, ρ1, S1, Same.refl S1, e1, q1⟩, ?_⟩
  rintro i m σ' H' ⟨rfl, hi, ρ', S', s', e', q⟩
  by_cases hlt : i < ds.length
  · refine .inr ⟨wk.go i H' hlt (s'.trans e'.ex), fun σ2 H2 => ∃ ρ2 S2, Same S1 S2 ∧ ER K τ S2 F H2 ρ2 σ2 ∧ wForL g wb (ds.drop (i + 1)) ρ2 Δ, fun σ2 H2 n2 => ⟨ds.length - (i + 1), by omega, rfl, hlt, n2⟩, fun x H2 y => ?_⟩
    obtain ⟨d, hd, y2⟩ := wk.yld i H' x H2 hlt (s'.trans e'.ex) y
    obtain ⟨S2, s2, i2, e2⟩ := y2 S' F ρ' σ' s' e'
    have ed : ds.drop i = d :: ds.drop (i + 1) := by
      rw [(List.drop_eq_getElem_cons hlt)]
      rw [List.getElem?_eq_getElem hlt] at hd
      rw [Option.some.inj hd]
    rw [ed] at q
    refine ⟨ρ', S2, F, d, _, e2, i2, q, fun ρ3 S3 σ3 H3 q3 s3 e3 => ?_⟩
    have t3 : Same S S3 := ((s1.trans s').trans s2).trans s3
    exact ⟨ρ3, S3, F, _, e3, q3, hx.mono t3, fun ρ4 S4 σ4 H4 a b c => ⟨ρ4, S4, ((s'.trans s2).trans s3).trans b, c, a⟩, fun d v ρ4 S4 σ4 H4 a b c f => h2 d v ρ4 S4 σ4 H4 a (t3.trans b) c f,
      fun ρ4 S4 σ4 H4 a b c => h1 ρ4 S4 σ4 H4 a (t3.trans b) c, fun ρ4 S4 σ4 H4 a b c => ⟨ρ4, S4, ((s'.trans s2).trans s3).trans b, c, a⟩, fun l od o ρ4 S4 σ4 H4 a b => h5 l od o ρ4 S4 σ4 H4 a (t3.trans b)⟩
  · have ei : i = ds.length := by omega
    subst ei
    rw [List.drop_length] at q
    exact .inl ⟨wk.stop H' (s'.trans e'.ex), h1 ρ' S' σ' H' q (s1.trans s') e'⟩
end DL
set_option Elab.async false
set_option autoImplicit false
set_option linter.all false
set_option maxRecDepth 100000
set_option maxHeartbeats 3900000
namespace DL
open L2 PyProof.Rows PySem PySem.Spec
variable {τ : Tb}

/-! ### operators -/
def wAdd : D → D → (D → Prop) → Prop := fun x y Φ => match x, y with
  | .int a, .int b => Φ (.int (a + b))
  | .str a, .str b => a.length + b.length ≤ sizeLine ∧ Φ (.str (a ++ b))
  | .lst a, .lst b => a.length + b.length ≤ sizeLine ∧ Φ (.lst (a ++ b))
  | .tup a, .tup b => a.length + b.length ≤ sizeLine ∧ Φ (.tup (a ++ b))
  | _, _ => False
def wSub : D → D → (D → Prop) → Prop := fun x y Φ => match x, y with
  | .int a, .int b => Φ (.int (a - b))
  | _, _ => False
def wMul : D → D → (D → Prop) → Prop := fun x y Φ => match x, y with
  | .int a, .int b => CMul a b ∧ Φ (.int (a * b))
  | .lst a, .int k => -(2 ^ 63) ≤ k ∧ k < 2 ^ 63 ∧ a.length * k.toNat ≤ sizeLine ∧ Φ (.lst (List.replicate k.toNat a).flatten)
  | _, _ => False
def wMod : D → D → (D → Prop) → Prop := fun x y Φ => match x, y with
  | .int a, .int b => 0 < b ∧ Φ (.int (a % b))
  | _, _ => False
def wDiv : D → D → (D → Prop) → Prop := fun x y Φ => match x, y with
  | .int a, .int b => CDiv a b ∧ Φ (.int (a / b))
  | _, _ => False
def wPow : D → D → (D → Prop) → Prop := fun x y Φ => match x, y with
  | .int a, .int b => CPow a b ∧ Φ (.int (a ^ b.toNat))
  | _, _ => False
def wCmp (p : Int → Int → Bool) : D → D → (D → Prop) → Prop := fun x y Φ => match x, y with
  | .int a, .int b => Φ (.bl (p a b))
  | _, _ => False
section
variable {K : Fg}
theorem ok_I0 {g : Int → Int → Int} {wr : D → D → (D → Prop) → Prop} (h : ∀ x y Φ, wr x y Φ → ∃ a b, x = .int a ∧ y = .int b ∧ Φ (.int (g a b))) : OpOk K τ (rI0 fun i j => .int (g i j)) wr := by
  intro S F H ρ σ x y dx dy Φ Q e ix iy hw hp
  obtain ⟨a, b, rfl, rfl, q⟩ := h _ _ _ hw
  cases ix
  cases iy
  exact ⟨a, b, rfl, rfl, hp _ _ S H q (Same.refl S) (.int _) e⟩
theorem ok_I {C : Int → Int → Prop} {g : Int → Int → Int} {wr : D → D → (D → Prop) → Prop} (h : ∀ x y Φ, wr x y Φ → ∃ a b, x = .int a ∧ y = .int b ∧ C a b ∧ Φ (.int (g a b))) : OpOk K τ (rI C fun i j => .int (g i j)) wr := by
  intro S F H ρ σ x y dx dy Φ Q e ix iy hw hp
  obtain ⟨a, b, rfl, rfl, hc, q⟩ := h _ _ _ hw
  cases ix
  cases iy
  exact ⟨a, b, rfl, rfl, hc, hp _ _ S H q (Same.refl S) (.int _) e⟩
theorem ok_B0 {p : Int → Int → Bool} : OpOk K τ (rI0 fun i j => .bl (p i j)) (wCmp p) := by
  intro S F H ρ σ x y dx dy Φ Q e ix iy hw hp
  unfold wCmp at hw
  split at hw
  · cases ix
    cases iy
    exact ⟨_, _, rfl, rfl, hp _ _ S H hw (Same.refl S) (.bl _) e⟩
  · exact hw.elim
theorem ok_sub : OpOk K τ (rI0 fun i j => .int (i - j)) wSub := ok_I0 fun x y Φ h => by
  unfold wSub at h
  split at h
  · exact ⟨_, _, rfl, rfl, h⟩
  · exact h.elim
theorem ok_mod : OpOk K τ (rI (fun _ j => 0 < j) fun i j => .int (i % j)) wMod := ok_I fun x y Φ h => by
  unfold wMod at h
  split at h
  · exact ⟨_, _, rfl, rfl, h.1, h.2⟩
  · exact h.elim
theorem ok_div : OpOk K τ (rI CDiv fun i j => .int (i / j)) wDiv := ok_I fun x y Φ h => by
  unfold wDiv at h
  split at h
  · exact ⟨_, _, rfl, rfl, h.1, h.2⟩
  · exact h.elim
theorem ok_pow : OpOk K τ (rI CPow fun i j => .int (i ^ j.toNat)) wPow := ok_I fun x y Φ h => by
  unfold wPow at h
  split at h
  · exact ⟨_, _, rfl, rfl, h.1, h.2⟩
  · exact h.elim
def rAddD (K : Fg) : R2 := fun x y H Q => rI0 (fun i j => .int (i + j)) x y H Q ∨ (∃ i j, x = .str i ∧ y = .str j ∧ i.length + j.length ≤ sizeLine ∧ Q (.str (i ++ j)) H) ∨ rCat x y H Q ∨ rCatA K x y H Q
theorem ok_add : OpOk K τ (rAddD K) wAdd := by
  intro S F H ρ σ x y dx dy Φ Q e ix iy hw hp
  unfold wAdd at hw
  split at hw
  · cases ix
    cases iy
    exact .inl ⟨_, _, rfl, rfl, hp _ _ S H hw (Same.refl S) (.int _) e⟩
  · cases ix
    cases iy
    exact .inr (.inl ⟨_, _, rfl, rfl, hw.1, hp _ _ S H hw.2 (Same.refl S) (.str _) e⟩)
  · cases ix with
    | lst a1 a2 =>
      cases iy with
      | lst b1 b2 =>
        refine .inr (.inr (.inl ⟨_, _, _, _, rfl, rfl, e.ex _ _ a1, e.ex _ _ b1, by rw [a2.length, b2.length]; exact hw.1, fun p hp1 => ?_⟩))
        exact hp _ _ _ _ hw.2 (e.sn hp1) (.lst upd_same ((a2.append b2).mono (e.sn hp1))) (e.new hp1)
  · cases ix with
    | tup a1 a2 =>
      cases iy with
      | tup b1 b2 =>
        refine .inr (.inr (.inr ⟨_, _, _, _, rfl, rfl, .inl (.inl (e.ex _ _ a1)), .inl (.inl (e.ex _ _ b1)), by rw [a2.length, b2.length]; exact hw.1, ?_⟩))
        refine ⟨fun z => ?_, fun z1 z2 => ?_, fun _ _ p hp1 => hp _ _ _ _ hw.2 (e.sn hp1) (.tup upd_same ((a2.append b2).mono (e.sn hp1))) (e.new hp1)⟩
        · subst z
          cases a2
          exact hp _ _ S H hw.2 (Same.refl S) (.tup b1 b2) e
        · subst z2
          cases b2
          exact hp _ _ S H (by rw [List.append_nil] at hw; exact hw.2) (Same.refl S) (.tup a1 a2) e
  · exact hw.elim
def rMulD : R2 := fun x y H Q => rI CMul (fun i j => .int (i * j)) x y H Q ∨ rRep x y H Q
theorem isAll_rep {S : Hp} {xs : List V} {ds : List D} (h : IsAll K S xs ds) : ∀ n : Nat, IsAll K S (List.replicate n xs).flatten (List.replicate n ds).flatten
  | 0 => .nil
  | n + 1 => by
    simp only [List.replicate_succ, List.flatten_cons]
    exact h.append (isAll_rep h n)
theorem ok_mul : OpOk K τ rMulD wMul := by
  intro S F H ρ σ x y dx dy Φ Q e ix iy hw hp
  unfold wMul at hw
  split at hw
  · cases ix
    cases iy
    exact .inl ⟨_, _, rfl, rfl, hw.1, hp _ _ S H hw.2 (Same.refl S) (.int _) e⟩
  · cases ix with
    | lst a1 a2 =>
      cases iy
      obtain ⟨h1, h2, h3, h4⟩ := hw
      exact .inr ⟨_, _, _, rfl, rfl, e.ex _ _ a1, h1, h2, by rw [a2.length]; exact h3, fun p hp1 => hp _ _ _ _ h4 (e.sn hp1) (.lst upd_same ((isAll_rep a2 _).mono (e.sn hp1))) (e.new hp1)⟩
  · exact hw.elim
end
theorem or_add {X : Cx} : OpR X (binaryOp .Add) (rAddD X.K) := op_add.or (op_add_str.or (op_cat.or op_catA))
theorem or_mul {X : Cx} : OpR X (binaryOp .Mult) rMulD := op_mul.or op_rep

/-! ### plain data as the model's -/
mutual
def pyOf : D → Option PyData
  | .non => some .none
  | .bl b => some (.bool b)
  | .int i => some (.int i)
  | .str s => some (.str s)
  | .lst xs => match pyOfL xs with
    | some ps => some (.list ps)
    | none => none
  | .tup xs => match pyOfL xs with
    | some ps => some (.tuple ps)
    | none => none
  | .obj _ _ _ => none
  | .dic _ _ => none
  | .dct _ _ => none
  | .scr _ => none
  | .raw _ => none
  | .exn _ _ _ _ => none
  | .err _ _ _ => none
def pyOfL : List D → Option (List PyData)
  | [] => some []
  | x :: xs => match pyOf x, pyOfL xs with
    | some p, some ps => some (p :: ps)
    | _, _ => none
end
section
variable {K : Fg} {S H : Hp}
theorem both_dp (ex : Same S H) : (∀ v d, Is K S v d → ∀ p, pyOf d = some p → Dp K H v p) ∧ (∀ vs ds, IsAll K S vs ds → ∀ ps, pyOfL ds = some ps → DpAll K H vs ps) := by
  have h1 : ∀ {a : Addr} {vs : List V} {ds : List D}, S a = some (.lst vs) → IsAll K S vs ds → (∀ ps, pyOfL ds = some ps → DpAll K H vs ps) → ∀ p, pyOf (.lst ds) = some p → Dp K H (.ref a) p := fun {a vs ds} h _ ih p hp => by
    unfold pyOf at hp
    split at hp
    · rename_i ps hps
      cases hp
      exact .lst (.inl (.inl (ex _ _ h))) (ih _ hps)
    · cases hp
  have h2 : ∀ {a : Addr} {vs : List V} {ds : List D}, S a = some (.tup vs) → IsAll K S vs ds → (∀ ps, pyOfL ds = some ps → DpAll K H vs ps) → ∀ p, pyOf (.tup ds) = some p → Dp K H (.ref a) p := fun {a vs ds} h _ ih p hp => by
    unfold pyOf at hp
    split at hp
    · rename_i ps hps
      cases hp
      exact .tup (.inl (.inl (ex _ _ h))) (ih _ hps)
    · cases hp
  have h3 : ∀ ps, pyOfL [] = some ps → DpAll K H [] ps := fun ps h => by
    unfold pyOfL at h
    cases h
    exact .nil
  have h4 : ∀ {v : V} {vs : List V} {d : D} {ds : List D}, Is K S v d → IsAll K S vs ds → (∀ p, pyOf d = some p → Dp K H v p) → (∀ ps, pyOfL ds = some ps → DpAll K H vs ps) → ∀ ps, pyOfL (d :: ds) = some ps → DpAll K H (v :: vs) ps := fun {v vs d ds} _ _ a b ps h => by
    unfold pyOfL at h
    split at h
    · rename_i p ps' e1 e2
      cases h
      exact .cons (a _ e1) (b _ e2)
    · cases h
  refine ⟨fun v d h => ?_, fun vs ds h => ?_⟩
  · exact Is.rec (motive_1 := fun v d _ => ∀ p, pyOf d = some p → Dp K H v p) (motive_2 := fun vs ds _ => ∀ ps, pyOfL ds = some ps → DpAll K H vs ps)
      (fun p h => by unfold pyOf at h; cases h; exact .non) (fun b p h => by unfold pyOf at h; cases h; exact .bl b) (fun i p h => by unfold pyOf at h; cases h; exact .int i) (fun x p h => by unfold pyOf at h; cases h; exact .str x)
      h1 h2 (fun _ _ _ _ p h => by unfold pyOf at h; cases h) (fun _ _ _ _ p h => by unfold pyOf at h; cases h) (fun _ _ _ _ p h => by unfold pyOf at h; cases h) (fun _ p h => by unfold pyOf at h; cases h) (fun _ p h => by unfold pyOf at h; cases h) (fun _ _ _ p h => by unfold pyOf at h; cases h) (fun _ _ _ _ _ p h => by unfold pyOf at h; cases h) h3 h4 h
  · exact IsAll.rec (motive_1 := fun v d _ => ∀ p, pyOf d = some p → Dp K H v p) (motive_2 := fun vs ds _ => ∀ ps, pyOfL ds = some ps → DpAll K H vs ps)
      (fun p h => by unfold pyOf at h; cases h; exact .non) (fun b p h => by unfold pyOf at h; cases h; exact .bl b) (fun i p h => by unfold pyOf at h; cases h; exact .int i) (fun x p h => by unfold pyOf at h; cases h; exact .str x)
      h1 h2 (fun _ _ _ _ p h => by unfold pyOf at h; cases h) (fun _ _ _ _ p h => by unfold pyOf at h; cases h) (fun _ _ _ _ p h => by unfold pyOf at h; cases h) (fun _ p h => by unfold pyOf at h; cases h) (fun _ p h => by unfold pyOf at h; cases h) (fun _ _ _ p h => by unfold pyOf at h; cases h) (fun _ _ _ _ _ p h => by unfold pyOf at h; cases h) h3 h4 h
theorem Is.dp {v : V} {d : D} {p : PyData} (h : Is K S v d) (ex : Same S H) (hp : pyOf d = some p) : Dp K H v p := (both_dp ex).1 v d h p hp
end
def wEq (neg : Bool) : D → D → (D → Prop) → Prop := fun x y Φ => ∃ p q, pyOf x = some p ∧ pyOf y = some q ∧ SeqAt.shaped p = true ∧ SeqAt.shaped q = true ∧ Φ (.bl (if neg = true then !PyData.eqv p q else PyData.eqv p q))
theorem ok_eq {K : Fg} : OpOk K τ (rEqD K) (wEq false) := by
  intro S F H ρ σ x y dx dy Φ Q e ix iy ⟨p, q, h1, h2, h3, h4, h5⟩ hp
  exact ⟨p, q, ix.dp e.ex h1, iy.dp e.ex h2, h3, h4, hp _ _ S H h5 (Same.refl S) (.bl _) e⟩
theorem ok_ne {K : Fg} : OpOk K τ (rNeD K) (wEq true) := by
  intro S F H ρ σ x y dx dy Φ Q e ix iy ⟨p, q, h1, h2, h3, h4, h5⟩ hp
  exact ⟨p, q, ix.dp e.ex h1, iy.dp e.ex h2, h3, h4, hp _ _ S H h5 (Same.refl S) (.bl _) e⟩
/-- is None, is not None -/
def isNon : D → Option Bool
  | .non => some true
  | .raw _ => none
  | .exn _ _ _ _ => none
  | .err _ _ _ => none
  | _ => some false
def wIsN (neg : Bool) : D → D → (D → Prop) → Prop := fun x y Φ => y = .non ∧ ∃ b, isNon x = some b ∧ Φ (.bl (if neg = true then !b else b))
theorem Is.isN {K : Fg} {S : Hp} {v : V} {d : D} {b : Bool} (h : Is K S v d) (hb : isNon d = some b) : decide (v = .non) = b := by
  cases h <;> (unfold isNon at hb; cases hb) <;> first | exact decide_eq_true rfl | exact decide_eq_false (fun z => nomatch z)
theorem ok_isN {K : Fg} : OpOk K τ (fun x y H Q => y = .non ∧ Q (.bl (decide (x = .non))) H) (wIsN false) := by
  rintro S F H ρ σ x y dx dy Φ Q e ix iy ⟨rfl, b, h1, h2⟩ hp
  cases iy
  refine ⟨rfl, hp _ _ S H h2 (Same.refl S) ?_ e⟩
  rw [ix.isN h1]
  exact .bl b
theorem ok_notN {K : Fg} : OpOk K τ (fun x y H Q => y = .non ∧ Q (.bl (!decide (x = .non))) H) (wIsN true) := by
  rintro S F H ρ σ x y dx dy Φ Q e ix iy ⟨rfl, b, h1, h2⟩ hp
  cases iy
  refine ⟨rfl, hp _ _ S H h2 (Same.refl S) ?_ e⟩
  rw [ix.isN h1]
  exact .bl (!b)

/-! ### items and slices -/
def wIx : D → D → (D → Prop) → Prop := fun x y Φ => match x, y with
  | .lst ds, .int i => ∃ d, atI ds i = some d ∧ Φ d
  | .tup ds, .int i => ∃ d, atI ds i = some d ∧ Φ d
  | .scr is, .int i => ∃ n, atI is i = some n ∧ Φ (.int n)
  | .str z, .int i => ∃ c, z.length ≤ sizeLine ∧ atI z.cps.toList i = some c ∧ Φ (.str ⟨#[c]⟩)
  | _, _ => False
theorem atI_all {K : Fg} {S : Hp} {vs : List V} {ds : List D} {i : Int} {d : D} (h : IsAll K S vs ds) (e : atI ds i = some d) : ∃ v, atI vs i = some v ∧ Is K S v d := by
  unfold atI at e ⊢
  rw [h.length]
  cases q : ixN ds.length i with
  | none => exact absurd (q ▸ e) (by intro z; cases z)
  | some j => rw [q] at e; exact h.get e
theorem ok_ix {K : Fg} : OpOk K τ (rIx K) wIx := by
  intro S F H ρ σ x y dx dy Φ Q e ix iy hw hp
  unfold wIx at hw
  split at hw
  · obtain ⟨d, h1, h2⟩ := hw
    cases ix with
    | lst a1 a2 =>
      cases iy
      obtain ⟨v, h3, h4⟩ := atI_all a2 h1
      exact .inl ⟨_, _, _, v, rfl, rfl, .inl (.inl (e.ex _ _ a1)), h3, hp _ _ S H h2 (Same.refl S) h4 e⟩
  · obtain ⟨d, h1, h2⟩ := hw
    cases ix with
    | tup a1 a2 =>
      cases iy
      obtain ⟨v, h3, h4⟩ := atI_all a2 h1
      exact .inr (.inl ⟨_, _, _, v, rfl, rfl, .inl (.inl (e.ex _ _ a1)), h3, hp _ _ S H h2 (Same.refl S) h4 e⟩)
  · obtain ⟨n, h1, h2⟩ := hw
    cases ix with
    | scr a1 =>
      cases iy
      refine .inl ⟨_, _, _, .int n, rfl, rfl, e.ex.seq a1, ?_, hp _ _ S H h2 (Same.refl S) (.int n) e⟩
      unfold atI at h1 ⊢
      rw [List.length_map]
      cases q : ixN _ _ with
      | none => rw [q] at h1; cases h1
      | some j =>
        rw [q] at h1
        rw [Option.bind_some] at h1 ⊢
        rw [List.getElem?_map, h1]
        rfl
  · obtain ⟨c, h1, h2, h3⟩ := hw
    cases ix
    cases iy
    exact .inr (.inr ⟨_, _, c, rfl, rfl, h1, h2, hp _ _ S H h3 (Same.refl S) (.str _) e⟩)
  · exact hw.elim
abbrev WO := Rho → XC → (Option Int → Rho → Prop) → Prop
def lO (K : Fg) (τ : Tb) (W : WX) (w : WO) : TO := fun σ H Q => ∃ ρ S F χ Φ, ER K τ S F H ρ σ ∧ w ρ χ Φ ∧ XOk K τ F W S χ ∧ ∀ o ρ' S' H', Φ o ρ' → Same S S' → ER K τ S' F H' ρ' σ → Q o H'
def woNone : WO := fun ρ _ Φ => Φ none ρ
def woSome (wa : WE) : WO := fun ρ χ Φ => wa ρ χ fun d ρ1 => match d with
  | .int i => Φ (some i) ρ1
  | _ => False
def cutD {α : Type} (xs : List α) (lo hi : Option Int) : List α := (xs.drop (HT.sIx xs.length 0 lo)).take (HT.sIx xs.length xs.length hi - HT.sIx xs.length 0 lo)
def wSl (wa : WE) (wl wh : WO) : WE := fun ρ χ Φ => wa ρ χ fun x ρ1 => wl ρ1 χ fun lo ρ2 => wh ρ2 χ fun hi ρ3 => match x with
  | .lst ds => Φ (.lst (cutD ds lo hi)) ρ3
  | .tup ds => Φ (.tup (cutD ds lo hi)) ρ3
  | _ => False
def rSlD (K : Fg) : V → Option Int → Option Int → Hp → VK → Prop := fun x lo hi H Q => rSlL K x lo hi H Q ∨ rSlA K x lo hi H Q
theorem SlR.or {X : Cx} {r r' : V → Option Int → Option Int → Hp → VK → Prop} (h : SlR X r) (h' : SlR X r') : SlR X (fun x lo hi H Q => r x lo hi H Q ∨ r' x lo hi H Q) := by
  intro _ _ _ _ _ _ _ _ _ _ _ _ I rx hs pl pu q
  exact q.elim (h _ _ _ _ _ _ _ _ _ _ _ _ I rx hs pl pu) (h' _ _ _ _ _ _ _ _ _ _ _ _ I rx hs pl pu)
theorem l_sl {K : Fg} {W : WX} {wa : WE} {wl wh : WO} : ∀ σ H Q, lE K τ W (wSl wa wl wh) σ H Q → tSl (rSlD K) (lE K τ W wa) (lO K τ W wl) (lO K τ W wh) σ H Q := by
  rintro σ H Q ⟨ρ, S, F, χ, Φ, e, hw, hx, hp⟩
  refine ⟨ρ, S, F, χ, _, e, hw, hx, fun x dx ρ1 S1 H1 h1 s1 i1 e1 => ?_⟩
  refine ⟨ρ1, S1, F, χ, _, e1, h1, hx.mono s1, fun lo ρ2 S2 H2 h2 s2 e2 => ?_⟩
  refine ⟨ρ2, S2, F, χ, _, e2, h2, hx.mono (s1.trans s2), fun hi ρ3 S3 H3 h3 s3 e3 => ?_⟩
  have i3 := i1.mono (s2.trans s3)
  have t3 := (s1.trans s2).trans s3
  cases i3 with
  | lst a1 a2 =>
    refine .inl ⟨_, _, rfl, .inl (.inl (e3.ex _ _ a1)), fun p hp1 => ?_⟩
    refine hp _ _ ρ3 _ _ h3 (t3.trans (e3.sn hp1)) (.lst upd_same ?_) (e3.new hp1)
    unfold cutV cutD
    rw [← a2.length]
    exact ((a2.drop _).take _).mono (e3.sn hp1)
  | tup a1 a2 =>
    refine .inr ⟨_, _, rfl, .inl (.inl (e3.ex _ _ a1)), fun z => ?_, fun _ p hp1 => ?_⟩
    · refine hp _ _ ρ3 S3 H3 h3 t3 ?_ e3
      unfold cutD
      rw [a2.length] at z
      rw [z.1, z.2, List.drop_zero, Nat.sub_zero, List.take_length]
      exact .tup a1 a2
    · refine hp _ _ ρ3 _ _ h3 (t3.trans (e3.sn hp1)) (.tup upd_same ?_) (e3.new hp1)
      unfold cutV cutD
      rw [← a2.length]
      exact ((a2.drop _).take _).mono (e3.sn hp1)
  | _ => exact False.elim h3
theorem o_none {K : Fg} {W : WX} : ∀ σ H Q, lO K τ W woNone σ H Q → tNoPart σ H Q := by
  rintro σ H Q ⟨ρ, S, F, χ, Φ, e, hw, hx, hp⟩
  exact hp none ρ S H hw (Same.refl S) e
theorem o_some {K : Fg} {W : WX} {wa : WE} : ∀ σ H Q, lO K τ W (woSome wa) σ H Q → tPart (lE K τ W wa) σ H Q := by
  rintro σ H Q ⟨ρ, S, F, χ, Φ, e, hw, hx, hp⟩
  refine ⟨ρ, S, F, χ, _, e, hw, hx, fun x dx ρ1 S1 H1 h1 s1 i1 e1 => ?_⟩
  cases i1 with
  | int i => exact ⟨i, rfl, hp _ ρ1 S1 H1 h1 s1 e1⟩
  | _ => exact False.elim h1
end DL
set_option Elab.async false
set_option autoImplicit false
set_option linter.all false
set_option maxRecDepth 100000
set_option maxHeartbeats 3900000
namespace DL
open L2 PyProof.Rows PySem PySem.Spec
variable {τ : Tb}

theorem CallR.or {X : Cx} {f : Value} {r r' : List V → Hp → VK → Prop} (h : CallR X f r) (h' : CallR X f r') : CallR X f (fun xs H Q => r xs H Q ∨ r' xs H Q) := by
  intro _ _ _ _ _ _ _ I r q
  exact q.elim (h _ _ _ _ _ _ _ I r) (h' _ _ _ _ _ _ _ I r)
/-! ### built-ins by name -/
abbrev WCl := List D → (D → Prop) → Prop
def wLen : WCl := fun ds Φ => match ds with
  | [.lst xs] => Φ (.int xs.length)
  | [.tup xs] => Φ (.int xs.length)
  | [.scr is] => Φ (.int is.length)
  | [.str z] => z.length ≤ sizeLine ∧ Φ (.int z.length)
  | _ => False
def rLenD (K : Fg) : List V → Hp → VK → Prop := fun xs H Q => (∃ p ys, xs = [.ref p] ∧ (SqL K H p ys ∨ SqT K H p ys) ∧ Q (.int ys.length) H) ∨ ∃ z, xs = [.str z] ∧ z.length ≤ sizeLine ∧ Q (.int z.length) H
theorem cr_lenD {X : Cx} : CallR X (.builtin "len") (rLenD X.K) := CallR.or call_len_seq call_len_str
theorem isAll1 {K : Fg} {S : Hp} {vs : List V} {d : D} (h : IsAll K S vs [d]) : ∃ v, vs = [v] ∧ Is K S v d := by
  cases h with
  | cons a b => cases b; exact ⟨_, rfl, a⟩
theorem isAll2 {K : Fg} {S : Hp} {vs : List V} {d e : D} (h : IsAll K S vs [d, e]) : ∃ v u, vs = [v, u] ∧ Is K S v d ∧ Is K S u e := by
  cases h with
  | cons a b => cases b with
    | cons b c => cases c; exact ⟨_, _, rfl, a, b⟩
section
variable {K : Fg}
theorem ok_len : CallOk K τ (rLenD K) wLen := by
  intro S F H ρ σ vs ds Φ Q e hi hw hp
  unfold wLen at hw
  split at hw
  · obtain ⟨v, rfl, iv⟩ := isAll1 hi
    cases iv with
    | lst a1 a2 => exact .inl ⟨_, _, rfl, .inl (.inl (.inl (e.ex _ _ a1))), by rw [a2.length]; exact hp _ _ S H hw (Same.refl S) (.int _) e⟩
  · obtain ⟨v, rfl, iv⟩ := isAll1 hi
    cases iv with
    | tup a1 a2 => exact .inl ⟨_, _, rfl, .inr (.inl (.inl (e.ex _ _ a1))), by rw [a2.length]; exact hp _ _ S H hw (Same.refl S) (.int _) e⟩
  · obtain ⟨v, rfl, iv⟩ := isAll1 hi
    cases iv with
    | scr a1 => exact .inl ⟨_, _, rfl, .inl (e.ex.seq a1), by rw [List.length_map]; exact hp _ _ S H hw (Same.refl S) (.int _) e⟩
  · obtain ⟨v, rfl, iv⟩ := isAll1 hi
    cases iv
    exact .inr ⟨_, rfl, hw.1, hp _ _ S H hw.2 (Same.refl S) (.int _) e⟩
  · exact hw.elim
def wAbs : WCl := fun ds Φ => match ds with
  | [.int i] => Φ (.int (if i < 0 then -i else i))
  | _ => False
theorem ok_abs : CallOk K τ (fun xs H Q => ∃ i, xs = [.int i] ∧ Q (.int (if i < 0 then -i else i)) H) wAbs := by
  intro S F H ρ σ vs ds Φ Q e hi hw hp
  unfold wAbs at hw
  split at hw
  · obtain ⟨v, rfl, iv⟩ := isAll1 hi
    cases iv
    exact ⟨_, rfl, hp _ _ S H hw (Same.refl S) (.int _) e⟩
  · exact hw.elim
def wMin2 : WCl := fun ds Φ => match ds with
  | [.int i, .int j] => Φ (.int (if j < i then j else i))
  | _ => False
def wMax2 : WCl := fun ds Φ => match ds with
  | [.int i, .int j] => Φ (.int (if j > i then j else i))
  | _ => False
theorem ok_min2 : CallOk K τ (fun xs H Q => ∃ i j, xs = [.int i, .int j] ∧ Q (.int (if j < i then j else i)) H) wMin2 := by
  intro S F H ρ σ vs ds Φ Q e hi hw hp
  unfold wMin2 at hw
  split at hw
  · obtain ⟨v, u, rfl, iv, iu⟩ := isAll2 hi
    cases iv
    cases iu
    exact ⟨_, _, rfl, hp _ _ S H hw (Same.refl S) (.int _) e⟩
  · exact hw.elim
theorem ok_max2 : CallOk K τ (fun xs H Q => ∃ i j, xs = [.int i, .int j] ∧ Q (.int (if j > i then j else i)) H) wMax2 := by
  intro S F H ρ σ vs ds Φ Q e hi hw hp
  unfold wMax2 at hw
  split at hw
  · obtain ⟨v, u, rfl, iv, iu⟩ := isAll2 hi
    cases iv
    cases iu
    exact ⟨_, _, rfl, hp _ _ S H hw (Same.refl S) (.int _) e⟩
  · exact hw.elim
def wInt : WCl := fun ds Φ => match ds with
  | [.int i] => Φ (.int i)
  | [.bl k] => Φ (.int (if k then 1 else 0))
  | _ => False
theorem ok_int : CallOk K τ (fun xs H Q => (∃ i, xs = [.int i] ∧ Q (.int i) H) ∨ ∃ k, xs = [.bl k] ∧ Q (.int (if k then 1 else 0)) H) wInt := by
  intro S F H ρ σ vs ds Φ Q e hi hw hp
  unfold wInt at hw
  split at hw
  · obtain ⟨v, rfl, iv⟩ := isAll1 hi
    cases iv
    exact .inl ⟨_, rfl, hp _ _ S H hw (Same.refl S) (.int _) e⟩
  · obtain ⟨v, rfl, iv⟩ := isAll1 hi
    cases iv
    exact .inr ⟨_, rfl, hp _ _ S H hw (Same.refl S) (.int _) e⟩
  · exact hw.elim
def wStr : WCl := fun ds Φ => match ds with
  | [.int i] => i.natAbs.log2 < 1920 ∧ Φ (.str (toString i))
  | _ => False
theorem ok_str : CallOk K τ (fun xs H Q => ∃ i, xs = [.int i] ∧ i.natAbs.log2 < 1920 ∧ Q (.str (toString i)) H) wStr := by
  intro S F H ρ σ vs ds Φ Q e hi hw hp
  unfold wStr at hw
  split at hw
  · obtain ⟨v, rfl, iv⟩ := isAll1 hi
    cases iv
    exact ⟨_, rfl, hw.1, hp _ _ S H hw.2 (Same.refl S) (.str _) e⟩
  · exact hw.elim
def wTupOf : WCl := fun ds Φ => match ds with
  | [.lst xs] => Φ (.tup xs)
  | [.tup xs] => Φ (.tup xs)
  | _ => False
theorem ok_tupOf : CallOk K τ (fun xs H Q => ∃ p ys, xs = [.ref p] ∧ ((SqL K H p ys ∧ ∀ l, H l = none → Q (.ref l) (upd H l (.tup ys))) ∨ (SqT K H p ys ∧ Q (.ref p) H))) wTupOf := by
  intro S F H ρ σ vs ds Φ Q e hi hw hp
  unfold wTupOf at hw
  split at hw
  · obtain ⟨v, rfl, iv⟩ := isAll1 hi
    cases iv with
    | lst a1 a2 => exact ⟨_, _, rfl, .inl ⟨.inl (.inl (e.ex _ _ a1)), fun p hp1 => hp _ _ _ _ hw (e.sn hp1) (.tup upd_same (a2.mono (e.sn hp1))) (e.new hp1)⟩⟩
  · obtain ⟨v, rfl, iv⟩ := isAll1 hi
    cases iv with
    | tup a1 a2 => exact ⟨_, _, rfl, .inr ⟨.inl (.inl (e.ex _ _ a1)), hp _ _ S H hw (Same.refl S) (.tup a1 a2) e⟩⟩
  · exact hw.elim
def wLstOf : WCl := fun ds Φ => match ds with
  | [.lst xs] => Φ (.lst xs)
  | [.tup xs] => Φ (.lst xs)
  | _ => False
theorem ok_lstOf : CallOk K τ (fun xs H Q => ∃ p ys, xs = [.ref p] ∧ (SqL K H p ys ∨ SqT K H p ys) ∧ ∀ l, H l = none → Q (.ref l) (upd H l (.lst ys))) wLstOf := by
  intro S F H ρ σ vs ds Φ Q e hi hw hp
  unfold wLstOf at hw
  split at hw
  · obtain ⟨v, rfl, iv⟩ := isAll1 hi
    cases iv with
    | lst a1 a2 => exact ⟨_, _, rfl, .inl (.inl (.inl (e.ex _ _ a1))), fun p hp1 => hp _ _ _ _ hw (e.sn hp1) (.lst upd_same (a2.mono (e.sn hp1))) (e.new hp1)⟩
  · obtain ⟨v, rfl, iv⟩ := isAll1 hi
    cases iv with
    | tup a1 a2 => exact ⟨_, _, rfl, .inr (.inl (.inl (e.ex _ _ a1))), fun p hp1 => hp _ _ _ _ hw (e.sn hp1) (.lst upd_same (a2.mono (e.sn hp1))) (e.new hp1)⟩
  · exact hw.elim
end

/-! ### repr -/
mutual
theorem noDict_of : ∀ (d : D) (p : PyData), pyOf d = some p → p.hasDict = false
  | .non, p, h => by unfold pyOf at h; cases h; simp only [PyData.hasDict]
  | .bl _, p, h => by unfold pyOf at h; cases h; simp only [PyData.hasDict]
  | .int _, p, h => by unfold pyOf at h; cases h; simp only [PyData.hasDict]
  | .str _, p, h => by unfold pyOf at h; cases h; simp only [PyData.hasDict]
  | .lst xs, p, h => by
    unfold pyOf at h
    split at h
    · rename_i ps e
      cases h
      simp only [PyData.hasDict]
      exact noDict_ofL xs ps e
    · cases h
  | .tup xs, p, h => by
    unfold pyOf at h
    split at h
    · rename_i ps e
      cases h
      simp only [PyData.hasDict]
      exact noDict_ofL xs ps e
    · cases h
  | .obj _ _ _, p, h => by unfold pyOf at h; cases h
  | .dic _ _, p, h => by unfold pyOf at h; cases h
  | .scr _, p, h => by unfold pyOf at h; cases h
  | .raw _, p, h => by unfold pyOf at h; cases h
  | .exn _ _ _ _, p, h => by unfold pyOf at h; cases h
theorem noDict_ofL : ∀ (ds : List D) (ps : List PyData), pyOfL ds = some ps → PyData.hasDictAll ps = false
  | [], ps, h => by unfold pyOfL at h; cases h; simp only [PyData.hasDictAll]
  | d :: ds, ps, h => by
    unfold pyOfL at h
    split at h
    · rename_i p ps' e1 e2
      cases h
      simp only [PyData.hasDictAll]
      rw [noDict_of d p e1, noDict_ofL ds ps' e2]
      rfl
    · cases h
end
def wRepr : WCl := fun ds Φ => ∃ d p, ds = [d] ∧ pyOf d = some p ∧ p.showable = true ∧ p.depth ≤ 64 ∧ p.shown.length ≤ sizeLine ∧ Φ (.str p.shown)
def rRepr (K : Fg) : List V → Hp → VK → Prop := fun xs H Q => ∃ v p, xs = [v] ∧ Dp K H v p ∧ p.showable = true ∧ p.hasDict = false ∧ p.depth ≤ 64 ∧ p.shown.length ≤ sizeLine ∧ Q (.str p.shown) H
theorem ok_repr {K : Fg} : CallOk K τ (rRepr K) wRepr := by
  rintro S F H ρ σ vs ds Φ Q e hi ⟨d, p, rfl, h1, h2, h3, h4, h5⟩ hp
  obtain ⟨v, rfl, iv⟩ := isAll1 hi
  exact ⟨v, p, rfl, iv.dp e.ex h1, h2, noDict_of d p h1, h3, h4, hp _ _ S H h5 (Same.refl S) (.str _) e⟩
theorem cr_repr {X : Cx} {W : WX} {k : Nat} (c : Cok X W k) : CallR X (.builtin "repr") (rRepr X.K) := by
  rintro pins s σ H xs us Q I r ⟨v, p, rfl, dp, hs, hn, hd, hz, q⟩
  obtain ⟨u, rfl, ru⟩ := vals1 r; obtain ⟨as, rd⟩ := Dp.reads I p v u dp ru
  have hu := c.rm.un
  cases dp with
  | non => cases ru; exact PySem.P.repr_of_none ⟨.str _, H, I.tok _, ⟨_, rfl⟩, by simpa only [PyData.shown] using q⟩
  | bl b => cases ru; exact PySem.P.repr_of_bool ⟨.str _, H, I.tok _, ⟨_, rfl⟩, by simpa only [PyData.shown] using q⟩
  | int i =>
    obtain ⟨t, rfl⟩ := ru
    exact PySem.P.repr_of_int (by simpa [PyData.showable] using hs) ⟨.str _, H, I.tok _, ⟨_, rfl⟩, by simpa only [PyData.shown] using q⟩
  | str x =>
    obtain ⟨t, rfl⟩ := ru
    exact PySem.P.repr_of_str ⟨.str _, H, I.tok _, ⟨_, rfl⟩, by simpa only [PyData.shown] using q⟩ (by simpa only [PyData.shown] using hz)
  | lst a b =>
    cases ru
    exact repr_of_reads' (h₀ := s.heap) rd hs (fun e => by rw [hn] at e; cases e) c.gd (by omega) (fun _ _ e => e) (fun h' u tk hk => ⟨.str _, H, I.kept hk, ⟨_, rfl⟩, q⟩) hz
  | tup a b =>
    cases ru
    exact repr_of_reads' (h₀ := s.heap) rd hs (fun e => by rw [hn] at e; cases e) c.gd (by omega) (fun _ _ e => e) (fun h' u tk hk => ⟨.str _, H, I.kept hk, ⟨_, rfl⟩, q⟩) hz

/-! ### fields -/
def lookD : List Str → List D → Str → Option D
  | n :: ns, d :: ds, f => if n = f then some d else lookD ns ds f
  | _, _, _ => none
theorem look_fs {K : Fg} {S : Hp} {f : Str} : ∀ {vs : List (Str × V)} {ds : List D} {d : D}, IsAll K S (vs.map (·.2)) ds → lookD (vs.map (·.1)) ds f = some d → ∃ v, vs.lookup f = some v ∧ Is K S v d
  | [], ds, d, hi, h => by cases hi; cases h
  | (n, v) :: vs, ds, d, hi, h => by
    cases hi with
    | cons a b =>
      have h : (if n = f then some _ else lookD (vs.map (·.1)) _ f) = some d := h
      by_cases e : n = f
      · rw [if_pos e] at h
        cases h
        subst e
        exact ⟨v, by simp [List.lookup], a⟩
      · rw [if_neg e] at h
        obtain ⟨u, h1, h2⟩ := look_fs b h
        refine ⟨u, ?_, h2⟩
        have e' : (f == n) = false := by simpa using fun z => e z.symm
        simp [List.lookup, e', h1]
def wFld (C : Addr) (f : Str) (wa : WE) : WE := fun ρ χ Φ => wa ρ χ fun x ρ1 => match x with
  | .obj c ns ds => c = C ∧ ∃ d, lookD ns ds f = some d ∧ Φ d ρ1
  | _ => False
theorem l_fld {K : Fg} {W : WX} {C : Addr} {f : Str} {wa : WE} (hc : Cls K C) (hn : NoAttr K C f) : ∀ σ H Q, lE K τ W (wFld C f wa) σ H Q → tFld K (lE K τ W wa) f σ H Q := by
  rintro σ H Q ⟨ρ, S, F, χ, Φ, e, hw, hx, hp⟩
  refine ⟨ρ, S, F, χ, _, e, hw, hx, fun x dx ρ1 S1 H1 h1 s1 i1 e1 => ?_⟩
  cases i1 with
  | obj a1 a2 a3 =>
    obtain ⟨rfl, d, h2, h3⟩ := h1
    subst a2
    obtain ⟨v, h4, h5⟩ := look_fs a3 h2
    exact ⟨_, _, _, _, v, rfl, e1.ex _ _ a1, hc, hn, h4, hp v d ρ1 S1 H1 h3 s1 h5 e1⟩
  | _ => exact False.elim h1

/-! ### texts -/
def wM1 (wr : Str → D → (D → Prop) → Prop) (wa wb : WE) : WE := fun ρ χ Φ => wa ρ χ fun x ρ1 => match x with
  | .str a => wb ρ1 χ fun y ρ2 => wr a y fun z => Φ z ρ2
  | _ => False
def wM0 (wr : Str → (D → Prop) → Prop) (wa : WE) : WE := fun ρ χ Φ => wa ρ χ fun x ρ1 => match x with
  | .str a => wr a fun z => Φ z ρ1
  | _ => False
def wJoin : Str → D → (D → Prop) → Prop := fun a y Φ => match y with
  | .lst ds => ∃ ys : List Str, ds = ys.map D.str ∧ (ys.map (·.length)).sum + ys.length * a.length ≤ 16777216 ∧ Φ (.str (Txt.join a ys))
  | _ => False
def wSplit : Str → D → (D → Prop) → Prop := fun a y Φ => match y with
  | .str b => (b.length == 0) = false ∧ a.length + 2 ≤ sizeLine ∧ Φ (.lst ((Txt.split a b).map D.str))
  | _ => False
def MtOk (K : Fg) (τ : Tb) (r : V → List V → Hp → VK → Prop) (wr : Str → D → (D → Prop) → Prop) : Prop := ∀ (S F H : Hp) (ρ : Rho) (σ : L2.St) (a : Str) (y : V) (dy : D) (Φ : D → Prop) (Q : VK), ER K τ S F H ρ σ → Is K S y dy → wr a dy Φ →
  (∀ v d S' H', Φ d → Same S S' → Is K S' v d → ER K τ S' F H' ρ σ → Q v H') → r (.str a) [y] H Q
theorem l_m1 {K : Fg} {W : WX} {wa wb : WE} {r : V → List V → Hp → VK → Prop} {wr : Str → D → (D → Prop) → Prop} (hr : MtOk K τ r wr) : ∀ σ H Q, lE K τ W (wM1 wr wa wb) σ H Q → tM1 r (lE K τ W wa) (lE K τ W wb) σ H Q := by
  rintro σ H Q ⟨ρ, S, F, χ, Φ, e, hw, hx, hp⟩
  refine ⟨ρ, S, F, χ, _, e, hw, hx, fun x dx ρ1 S1 H1 h1 s1 i1 e1 => ?_⟩
  cases i1 with
  | str a => exact ⟨⟨a, rfl⟩, ρ1, S1, F, χ, _, e1, h1, hx.mono s1, fun y dy ρ2 S2 H2 h2 s2 i2 e2 => hr S2 F H2 ρ2 σ a y dy _ Q e2 i2 h2 fun v d S3 H3 h3 s3 i3 e3 => hp v d ρ2 S3 H3 h3 ((s1.trans s2).trans s3) i3 e3⟩
  | _ => exact False.elim h1
theorem isAll_str {K : Fg} {S : Hp} : ∀ {ys : List Str} {vs : List V}, IsAll K S vs (ys.map D.str) → vs = ys.map V.str
  | [], _, h => by cases h; rfl
  | y :: ys, _, h => by
    cases h with
    | cons a b =>
      cases a
      rw [isAll_str b]
      rfl
theorem isAll_of_str {K : Fg} {S : Hp} : ∀ ys : List Str, IsAll K S (ys.map V.str) (ys.map D.str)
  | [] => .nil
  | y :: ys => .cons (.str y) (isAll_of_str ys)
abbrev rJoin (K : Fg) : V → List V → Hp → VK → Prop := fun x xs H Q => ∃ a p, ∃ ys : List Str, x = .str a ∧ xs = [.ref p] ∧ (SqL K H p (ys.map V.str) ∨ SqT K H p (ys.map V.str)) ∧ (ys.map (·.length)).sum + ys.length * a.length ≤ 16777216 ∧ Q (.str (Txt.join a ys)) H
theorem ok_join {K : Fg} : MtOk K τ (rJoin K) wJoin := by
  intro S F H ρ σ a y dy Φ Q e iy hw hp
  unfold wJoin at hw
  split at hw
  · obtain ⟨ys, h1, h2, h3⟩ := hw
    subst h1
    cases iy with
    | lst a1 a2 =>
      rw [isAll_str a2] at a1
      exact ⟨a, _, ys, rfl, rfl, .inl (.inl (.inl (e.ex _ _ a1))), h2, hp _ _ S H h3 (Same.refl S) (.str _) e⟩
  · exact hw.elim
theorem ok_split {K : Fg} : MtOk K τ (fun x xs H Q => ∃ a b, x = .str a ∧ xs = [.str b] ∧ (b.length == 0) = false ∧ a.length + 2 ≤ sizeLine ∧ rNewStrs (Txt.split a b) H Q) wSplit := by
  intro S F H ρ σ a y dy Φ Q e iy hw hp
  unfold wSplit at hw
  split at hw
  · cases iy
    exact ⟨a, _, rfl, rfl, hw.1, hw.2.1, fun p hp1 => hp _ _ _ _ hw.2.2 (e.sn hp1) (.lst upd_same (isAll_of_str _)) (e.new hp1)⟩
  · exact hw.elim

/-! ### tuple(range(..)), list(range(..)) -/
def wRgT (wi : WL) : WE := fun ρ χ Φ => wi ρ χ fun ds ρ1 => match ds with
  | [.int n] => RgOk 0 n ∧ Φ (.tup (rgD 0 n.toNat)) ρ1
  | _ => False
def wRgL (wi : WL) : WE := fun ρ χ Φ => wi ρ χ fun ds ρ1 => match ds with
  | [.int n] => RgOk 0 n ∧ Φ (.lst (rgD 0 n.toNat)) ρ1
  | _ => False
theorem isAll_rg {K : Fg} {S : Hp} (a b : Int) : IsAll K S (rgV a b) (rgD a (b - a).toNat) := by
  unfold rgV rgD
  generalize (b - a).toNat = n
  have : ∀ l : List Nat, IsAll K S (l.map fun i => V.int (a + (i : Nat))) (l.map fun i => D.int (a + (i : Nat))) := fun l => by
    induction l with
    | nil => exact .nil
    | cons x l ih => exact .cons (.int _) ih
  exact this _
theorem l_rgT {K : Fg} {W : WX} {wa : WE} : ∀ σ H Q, lE K τ W (wRgT (wCons wa wNil)) σ H Q → tTupRg (tRg1 (lE K τ W wa)) σ H Q := by
  rintro σ H Q ⟨ρ, S, F, χ, Φ, e, hw, hx, hp⟩
  refine ⟨ρ, S, F, χ, _, e, hw, hx, fun x dx ρ1 S1 H1 h1 s1 i1 e1 => ?_⟩
  unfold wNil at h1
  cases i1 with
  | int n =>
    refine ⟨n, rfl, h1.1, fun p hp1 => hp _ _ ρ1 _ _ h1.2 (s1.trans (e1.sn hp1)) (.tup upd_same ?_) (e1.new hp1)⟩
    have z := isAll_rg (K := K) (S := upd S1 p (.tup (rgV 0 n))) 0 n
    rw [Int.sub_zero] at z
    exact z
  | _ => exact False.elim h1
theorem l_rgL {K : Fg} {W : WX} {wa : WE} : ∀ σ H Q, lE K τ W (wRgL (wCons wa wNil)) σ H Q → tLstRg (tRg1 (lE K τ W wa)) σ H Q := by
  rintro σ H Q ⟨ρ, S, F, χ, Φ, e, hw, hx, hp⟩
  refine ⟨ρ, S, F, χ, _, e, hw, hx, fun x dx ρ1 S1 H1 h1 s1 i1 e1 => ?_⟩
  unfold wNil at h1
  cases i1 with
  | int n =>
    refine ⟨n, rfl, h1.1, fun p hp1 => hp _ _ ρ1 _ _ h1.2 (s1.trans (e1.sn hp1)) (.lst upd_same ?_) (e1.new hp1)⟩
    have z := isAll_rg (K := K) (S := upd S1 p (.lst (rgV 0 n))) 0 n
    rw [Int.sub_zero] at z
    exact z
  | _ => exact False.elim h1
end DL
set_option Elab.async false
set_option autoImplicit false
set_option linter.all false
set_option maxRecDepth 100000
set_option maxHeartbeats 3900000
namespace DL
open L2 PyProof.Rows PySem PySem.Spec
variable {τ : Tb}

/-! ### comprehensions -/
theorem wipe_set_out {σ : L2.St} {i : Nat} {x : Option V} : ∀ {vs : List Nat}, i ∉ vs → wipe (σ.set i x) vs = (wipe σ vs).set i x
  | [], _ => rfl
  | v :: vs, h => by
    have h1 : i ≠ v := fun z => h (by rw [z]; exact List.mem_cons_self)
    have h2 : i ∉ vs := fun z => h (List.mem_cons_of_mem _ z)
    unfold wipe
    rw [wipe_set_out h2, List.set_comm _ _ h1]
theorem wipe_set {σ : L2.St} {i : Nat} {x : Option V} : ∀ {vs : List Nat}, i ∈ vs → wipe (σ.set i x) vs = wipe σ vs
  | [], h => by cases h
  | v :: vs, h => by
    unfold wipe
    by_cases hi : i ∈ vs
    · rw [wipe_set hi]
    · have e : i = v := (List.mem_cons.mp h).resolve_right hi
      subst e
      rw [wipe_set_out hi, List.set_set]
theorem wipe_in {σ : L2.St} : ∀ {vs us : List Nat}, (∀ v ∈ us, v ∈ vs) → wipe (wipe σ us) vs = wipe σ vs
  | vs, [], _ => rfl
  | vs, u :: us, h => by
    show wipe ((wipe σ us).set u none) vs = _
    rw [wipe_set (h u List.mem_cons_self)]
    exact wipe_in fun v hv => h v (List.mem_cons_of_mem _ hv)
theorem wipe_wipe {σ : L2.St} {vs : List Nat} : wipe (wipe σ vs) vs = wipe σ vs := wipe_in fun _ h => h
def wipeR (ρ : Rho) : List Nat → Rho
  | [] => ρ
  | v :: vs => (wipeR ρ vs).set v .un
def backR (ρ0 ρ : Rho) : List Nat → Rho
  | [] => ρ
  | v :: vs => (backR ρ0 ρ vs).set v (match ρ0[v]? with
    | some (.val d) => .val d
    | _ => .un)
section
variable {K : Fg} {S F H : Hp} {ρ ρ0 : Rho} {σ : L2.St}
theorem wipeR_len : ∀ vs : List Nat, (wipeR ρ vs).length = ρ.length
  | [] => rfl
  | v :: vs => by unfold wipeR; rw [List.length_set]; exact wipeR_len vs
theorem backR_len : ∀ vs : List Nat, (backR ρ0 ρ vs).length = ρ.length
  | [] => rfl
  | v :: vs => by unfold backR; rw [List.length_set]; exact backR_len vs
theorem wipeR_at {i : Nat} {s : Sl} : ∀ {vs : List Nat}, (wipeR ρ vs)[i]? = some s → s = .un ∨ (i ∉ vs ∧ ρ[i]? = some s)
  | [], h => .inr ⟨by simp, h⟩
  | v :: vs, h => by
    unfold wipeR at h
    by_cases hi : v = i
    · subst hi
      have hv : v < (wipeR ρ vs).length := by
        have := (List.getElem?_eq_some_iff.mp h).1
        rwa [List.length_set] at this
      rw [List.getElem?_set_self hv] at h
      cases h
      exact .inl rfl
    · replace h := (List.getElem?_set_ne hi).symm.trans h
      rcases wipeR_at h with z | ⟨z1, z2⟩
      · exact .inl z
      · exact .inr ⟨by simp only [List.mem_cons, not_or]; exact ⟨fun e => hi e.symm, z1⟩, z2⟩
theorem backR_at {i : Nat} {s : Sl} : ∀ {vs : List Nat}, (backR ρ0 ρ vs)[i]? = some s → s = .un ∨ (i ∈ vs ∧ (∃ d, s = .val d) ∧ ρ0[i]? = some s) ∨ (i ∉ vs ∧ ρ[i]? = some s)
  | [], h => .inr (.inr ⟨by simp, h⟩)
  | v :: vs, h => by
    unfold backR at h
    by_cases hi : v = i
    · subst hi
      have hv : v < (backR ρ0 ρ vs).length := by
        have := (List.getElem?_eq_some_iff.mp h).1
        rwa [List.length_set] at this
      rw [List.getElem?_set_self hv] at h
      have h' := Option.some.inj h
      split at h'
      · rename_i d hd
        subst h'
        exact .inr (.inl ⟨List.mem_cons_self, ⟨d, rfl⟩, hd⟩)
      · exact .inl h'.symm
    · replace h := (List.getElem?_set_ne hi).symm.trans h
      rcases backR_at h with z | ⟨z1, z2⟩ | ⟨z1, z2⟩
      · exact .inl z
      · exact .inr (.inl ⟨List.mem_cons_of_mem _ z1, z2⟩)
      · exact .inr (.inr ⟨by simp only [List.mem_cons, not_or]; exact ⟨fun e => hi e.symm, z1⟩, z2⟩)
theorem wipe_get {i : Nat} {x : Option V} : ∀ {vs : List Nat}, i ∉ vs → (wipe σ vs)[i]? = σ[i]?
  | [], _ => rfl
  | v :: vs, h => by
    unfold wipe
    rw [List.getElem?_set_ne (fun z => h (by rw [z]; exact List.mem_cons_self))]
    exact wipe_get (x := x) fun z => h (List.mem_cons_of_mem _ z)
theorem ER.wipe (e : ER K τ S F H ρ σ) (vs : List Nat) : ER K τ S F H (wipeR ρ vs) (wipe σ vs) := by
  refine ⟨by rw [wipeR_len, wipe_length]; exact e.len, e.ex, e.fr, fun i d h => ?_, fun i l od h => ?_, fun i j l o o' h1 h2 => ?_, e.tb⟩
  · rcases wipeR_at h with z | ⟨z1, z2⟩
    · cases z
    · rw [wipe_get (x := none) z1]; exact e.val i d z2
  · rcases wipeR_at h with z | ⟨z1, z2⟩
    · cases z
    · rw [wipe_get (x := none) z1]; exact e.own i l od z2
  · rcases wipeR_at h1 with z | ⟨_, z2⟩
    · cases z
    · rcases wipeR_at h2 with z | ⟨_, z4⟩
      · cases z
      · exact e.dis i j l o o' z2 z4
theorem ER.restore {S1 F1 H1 : Hp} {vs : List Nat} (e1 : ER K τ S1 F1 H1 ρ0 σ) (s : Same S1 S) (e : ER K τ S F H ρ (L2.wipe σ vs)) : ER K τ S F H (backR ρ0 ρ vs) σ := by
  refine ⟨by rw [backR_len, e.len, wipe_length], e.ex, e.fr, fun i d h => ?_, fun i l od h => ?_, fun i j l o o' h1 h2 => ?_, e.tb⟩
  · rcases backR_at h with z | ⟨z1, _, z2⟩ | ⟨z1, z2⟩
    · cases z
    · obtain ⟨v, a, b⟩ := e1.val i d z2
      exact ⟨v, a, b.mono s⟩
    · obtain ⟨v, a, b⟩ := e.val i d z2
      rw [wipe_get (x := none) z1] at a
      exact ⟨v, a, b⟩
  · rcases backR_at h with z | ⟨_, ⟨d, z⟩, _⟩ | ⟨z1, z2⟩
    · cases z
    · cases z
    · have q := e.own i l od z2
      rw [wipe_get (x := none) z1] at q
      exact q
  · rcases backR_at h1 with z | ⟨_, ⟨d, z⟩, _⟩ | ⟨_, z2⟩
    · cases z
    · cases z
    · rcases backR_at h2 with z | ⟨_, ⟨d, z⟩, _⟩ | ⟨_, z4⟩
      · cases z
      · cases z
      · exact e.dis i j l o o' z2 z4
/-- a new object that others own -/
theorem ER.addF {p : Addr} {o : HO} (e : ER K τ S F H ρ σ) (hp : H p = none) : ER K τ S (upd F p o) (upd H p o) ρ σ := by
  have sp := e.sp hp
  refine ⟨e.len, fun b u h => by rw [upd_ne (ne_of_none h sp)]; exact e.ex b u h, fun a u h => ?_, e.val, fun i l od h => ?_, e.dis, e.tb.newF hp (e.fp hp)⟩
  · by_cases ha : a = p
    · subst ha; rw [upd_same] at h ⊢; exact ⟨h, .inl sp⟩
    · rw [upd_ne ha] at h ⊢; exact e.fr a u h
  · obtain ⟨h1, h2, h3, ob, h4, h5⟩ := e.own i l od h
    have ne := ne_of_none h4 hp
    rw [upd_ne ne, upd_ne ne]
    exact ⟨h1, h2, h3, ob, h4, h5⟩
/-- it changes -/
theorem ER.chF {p : Addr} {o o' : HO} (e : ER K τ S (upd F p o) H ρ σ) (gp : τ.gf p = none) (nc : ∀ c q, o ≠ LamX.CodeO c q) (nt : ¬ TupO o := by rintro ⟨_, z⟩; cases z) : ER K τ S (upd F p o') (upd H p o') ρ σ := by
  obtain ⟨hp, sp⟩ := e.fr p o upd_same
  replace sp := sp.resolve_right nt
  refine ⟨e.len, fun b u h => by rw [upd_ne (ne_of_none h sp)]; exact e.ex b u h, fun a u h => ?_, e.val, fun i l od h => ?_, e.dis, ?tb⟩
  case tb =>
    have n1 : ∀ ps, o ≠ .tbl ps ∨ ∀ q ∈ τ.t, q.1 ≠ p := fun _ => .inr e.tb.inF
    refine ⟨fun q hq => ?_, e.tb.nS, fun q hq => by rw [upd_ne (e.tb.inF q hq)]; have := e.tb.nF q hq; rw [upd_ne (e.tb.inF q hq)] at this; exact this, e.tb.ks, fun b u z => by have := e.tb.kf b u z; rw [upd_ne (ne_of_none z gp)] at this ⊢; exact this⟩
    obtain ⟨ps, h1, h2, h3⟩ := e.tb.tab q hq
    refine ⟨ps, by rw [upd_ne (e.tb.inF q hq)]; exact h1, h2, fun pos cv hc => ?_⟩
    obtain ⟨c, e1, e2⟩ := h3 pos cv hc
    have ncp : c ≠ p := fun z => by rw [z, hp] at e2; exact nc _ _ (Option.some.inj e2)
    exact ⟨c, e1, by rw [upd_ne ncp]; exact e2⟩
  · by_cases ha : a = p
    · subst ha; rw [upd_same] at h ⊢; exact ⟨h, .inl sp⟩
    · rw [upd_ne ha] at h ⊢; exact e.fr a u (by rw [upd_ne ha]; exact h)
  · obtain ⟨h1, h2, h3, ob, h4, h5⟩ := e.own i l od h
    have ne : l ≠ p := fun z => by rw [z, upd_same] at h3; cases h3
    rw [upd_ne ne] at h3
    rw [upd_ne ne, upd_ne ne]
    exact ⟨h1, h2, h3, ob, h4, h5⟩
/-- it is done: it never changes any more -/
theorem ER.doneF {p : Addr} {o : HO} (e : ER K τ S (upd F p o) H ρ σ) (fp : F p = none) (gp : τ.gf p = none) (nt : ¬ TupO o := by rintro ⟨_, z⟩; cases z) : ER K τ (upd S p o) F H ρ σ ∧ Same S (upd S p o) := by
  obtain ⟨hp, sp⟩ := e.fr p o upd_same
  replace sp := sp.resolve_right nt
  have sS : Same S (upd S p o) := fun b u h => by rw [upd_ne (ne_of_none h sp)]; exact h
  refine ⟨⟨e.len, fun b u h => ?_, fun a u h => ?_, fun i d h => ?_, fun i l od h => ?_, e.dis, ⟨e.tb.tab, fun q hq => by rw [upd_ne (e.tb.inF q hq)]; exact e.tb.nS q hq, (e.tb.lessF fp gp).nF, (fun b u z => by rw [upd_ne (ne_of_none (e.tb.ks b u z) sp)]; exact e.tb.ks b u z), (e.tb.lessF fp gp).kf⟩⟩, sS⟩
  · by_cases hb : b = p
    · subst hb; rw [upd_same] at h; cases h; exact hp
    · rw [upd_ne hb] at h; exact e.ex b u h
  · have ne := ne_of_none h fp
    obtain ⟨a1, a2⟩ := e.fr a u (by rw [upd_ne ne]; exact h)
    rw [upd_ne ne]; exact ⟨a1, a2⟩
  · obtain ⟨v, a1, a2⟩ := e.val i d h
    exact ⟨v, a1, a2.mono sS⟩
  · obtain ⟨h1, h2, h3, ob, h4, h5⟩ := e.own i l od h
    have ne : l ≠ p := fun z => by rw [z, upd_same] at h3; cases h3
    rw [upd_ne ne] at h3
    rw [upd_ne ne]
    exact ⟨h1, h2, h3, ob, h4, h5.mono sS⟩
end
/-- a target within a comprehension: its slots are the comprehension's own -/
def lGc (K : Fg) (τ : Tb) (vs : List Nat) (g : WG) : TG := fun x σ H Q => ∃ ρ S F d Φ, ER K τ S F H ρ σ ∧ Is K S x d ∧ g d ρ Φ ∧ ∀ ρ' S' σ' H', Φ ρ' → Same S S' → ER K τ S' F H' ρ' σ' → wipe σ' vs = wipe σ vs → Q σ' H'
def lGcs (K : Fg) (τ : Tb) (vs : List Nat) (g : WGs) : TGs := fun xs σ H Q => ∃ ρ S F ds Φ, ER K τ S F H ρ σ ∧ IsAll K S xs ds ∧ g ds ρ Φ ∧ ∀ ρ' S' σ' H', Φ ρ' → Same S S' → ER K τ S' F H' ρ' σ' → wipe σ' vs = wipe σ vs → Q σ' H'
section
variable {K : Fg} {vs : List Nat}
theorem gc_name {i : Nat} (hi : i ∈ vs) : ∀ x σ H Q, lGc K τ vs (wgName i) x σ H Q → gName i x σ H Q := by
  rintro x σ H Q ⟨ρ, S, F, d, Φ, e, hx, hg, hp⟩
  exact hp _ S _ H hg (Same.refl S) (e.set hx) (wipe_set hi)
theorem gc_nil : ∀ x σ H Q, lGcs K τ vs wgNil x σ H Q → gNil x σ H Q := by
  rintro x σ H Q ⟨ρ, S, F, d, Φ, e, hi, ⟨h1, hg⟩, hp⟩
  subst h1
  cases hi
  exact ⟨rfl, hp _ S _ H hg (Same.refl S) e rfl⟩
theorem gc_cons {g : WG} {gs : WGs} : ∀ x σ H Q, lGcs K τ vs (wgCons g gs) x σ H Q → gCons (lGc K τ vs g) (lGcs K τ vs gs) x σ H Q := by
  rintro x σ H Q ⟨ρ, S, F, ds, Φ, e, hi, hg, hp⟩
  cases hi with
  | nil => exact hg.elim
  | cons a b => exact ⟨_, _, rfl, ρ, S, F, _, _, e, a, hg, fun ρ' S' σ' H' q s' e' w' => ⟨ρ', S', F, _, _, e', b.mono s', q, fun ρ2 S2 σ2 H2 q2 s2 e2 w2 => hp ρ2 S2 σ2 H2 q2 (s'.trans s2) e2 (w2.trans w')⟩⟩
theorem gc_tup {n : Nat} {gs : WGs} : ∀ x σ H Q, lGc K τ vs (wgTup n gs) x σ H Q → gTup K n (lGcs K τ vs gs) x σ H Q := by
  rintro x σ H Q ⟨ρ, S, F, d, Φ, e, hi, hg, hp⟩
  cases hi with
  | tup h1 h2 => exact ⟨_, _, rfl, .inl (.inl (e.ex _ _ h1)), h2.length.trans hg.1, ρ, S, F, _, Φ, e, h2, hg.2, hp⟩
  | _ => exact False.elim hg
end
def wTrue : WT := fun ρ _ Φ => Φ true ρ
theorem l_yes {K : Fg} {W : WX} : ∀ σ H Q, lT K τ W wTrue σ H Q → tYes σ H Q := by
  rintro σ H Q ⟨ρ, S, F, χ, Φ, e, hw, hx, hp⟩
  exact hp true ρ S H hw (Same.refl S) e
def wLcL (g : WG) (wt : WT) (we : WE) (vs : List Nat) : List D → List D → Rho → (List D → Rho → Prop) → Prop
  | [], acc, ρ, Φ => Φ acc ρ
  | d :: ds, acc, ρ, Φ => g d ρ fun ρ1 => wt ρ1 χ0 fun b ρ2 => if b = true then we ρ2 χ0 fun y ρ3 => acc.length < sizeLine ∧ wLcL g wt we vs ds (acc ++ [y]) (wipeR ρ3 vs) Φ else wLcL g wt we vs ds acc (wipeR ρ2 vs) Φ
def wLc (wi : WL) (g : WG) (wt : WT) (we : WE) (vs : List Nat) : WE := fun ρ χ Φ => wi ρ χ fun ds ρ1 => wLcL g wt we vs ds [] (wipeR ρ1 vs) fun ys ρ2 => Φ (.lst ys) (backR ρ1 ρ2 vs)
theorem l_lc {K : Fg} {W : WX} {wi : WL} {g : WG} {wt : WT} {we : WE} {vs : List Nat} : ∀ σ H Q, lE K τ W (wLc wi g wt we vs) σ H Q → tLc (lI K τ W wi) (lGc K τ vs g) (lT K τ W0 wt) (lE K τ W0 we) vs σ H Q := by
  rintro σ H Q ⟨ρ, S, F, χ, Φ, e, hw, hx, hp⟩
  refine ⟨ρ, S, F, χ, _, e, hw, hx, fun J ds ρ1 S1 H1 q1 s1 e1 wk => fun L hL => ?_⟩
  have fL := e1.fp hL
  have gL := e1.tb.free fL
  refine ⟨fun i m H' => m = ds.length - i ∧ i ≤ ds.length ∧ ∃ ρ' S' us acc, Same S1 S' ∧ ER K τ S' (upd F L (.lst us)) H' ρ' (wipe σ vs) ∧ IsAll K S' us acc ∧ wLcL g wt we vs (ds.drop i) acc ρ' (fun ys ρ2 => Φ (.lst ys) (backR ρ1 ρ2 vs)),
    ⟨_, rfl, Nat.zero_le _, wipeR ρ1 vs, S1, [], [], Same.refl S1, (e1.wipe vs).addF hL, .nil, q1⟩, ?_⟩
  rintro i m H' ⟨rfl, hi, ρ', S', us, acc, s', e', iu, q⟩
  by_cases hlt : i < ds.length
  · refine .inr ⟨wk.go i H' hlt (s'.trans e'.ex), fun H2 => ∃ ρ2 S2 us2 acc2, Same S1 S2 ∧ ER K τ S2 (upd F L (.lst us2)) H2 ρ2 (wipe σ vs) ∧ IsAll K S2 us2 acc2 ∧ wLcL g wt we vs (ds.drop (i + 1)) acc2 ρ2 (fun ys ρ3 => Φ (.lst ys) (backR ρ1 ρ3 vs)), fun H2 n2 => ⟨ds.length - (i + 1), by omega, rfl, hlt, n2⟩, fun x H2 y => ?_⟩
    obtain ⟨d, hd, y2⟩ := wk.yld i H' x H2 hlt (s'.trans e'.ex) y
    obtain ⟨S2, s2, i2, e2⟩ := y2 S' _ ρ' _ s' e'
    have ed : ds.drop i = d :: ds.drop (i + 1) := by
      rw [(List.drop_eq_getElem_cons hlt)]
      rw [List.getElem?_eq_getElem hlt] at hd
      rw [Option.some.inj hd]
    rw [ed] at q
    refine ⟨ρ', S2, _, d, _, e2, i2, q, fun ρ3 S3 σ3 H3 q3 s3 e3 w3 => ⟨w3.trans wipe_wipe, ?_⟩⟩
    have w3' : wipe σ3 vs = wipe σ vs := w3.trans wipe_wipe
    refine ⟨ρ3, S3, _, χ0, _, e3, q3, XOk.none, fun b ρ4 S4 H4 q4 s4 e4 => ?_⟩
    cases b with
    | false =>
      rw [if_neg Bool.false_ne_true] at q4 ⊢
      have e5 := e4.wipe vs
      rw [w3'] at e5
      exact ⟨_, S4, us, acc, ((s'.trans s2).trans s3).trans s4, e5, iu.mono ((s2.trans s3).trans s4), q4⟩
    | true =>
      rw [if_pos rfl] at q4 ⊢
      refine ⟨ρ4, S4, _, χ0, _, e4, q4, XOk.none, fun v dv ρ5 S5 H5 q5 s5 i5 e5 => ?_⟩
      obtain ⟨hl, q5⟩ := q5
      obtain ⟨h5, _⟩ := e5.fr L _ upd_same
      have iu5 := iu.mono (((s2.trans s3).trans s4).trans s5)
      refine ⟨us, h5, by rw [iu.length]; exact hl, ?_⟩
      have e6 := (e5.wipe vs).chF (o' := .lst (us ++ [v])) gL (fun c q z => by unfold LamX.CodeO at z; cases z)
      rw [w3'] at e6
      exact ⟨_, S5, us ++ [v], acc ++ [dv], (((s'.trans s2).trans s3).trans s4).trans s5, e6, iu5.append (.cons i5 .nil), q5⟩
  · have ei : i = ds.length := by omega
    subst ei
    rw [List.drop_length] at q
    refine .inl ⟨wk.stop H' (s'.trans e'.ex), ?_⟩
    obtain ⟨e7, s7⟩ := e'.doneF fL gL
    exact hp _ _ _ _ H' q ((s1.trans s').trans s7) (.lst upd_same (iu.mono s7)) (e1.restore (s'.trans s7) e7)
end DL
set_option Elab.async false
set_option autoImplicit false
set_option linter.all false
set_option maxRecDepth 100000
set_option maxHeartbeats 3900000
namespace DL
open L2 PyProof.Rows PySem PySem.Spec
variable {τ : Tb}

/-! ### objects of one's own -/
section
variable {K : Fg} {S F H : Hp} {ρ : Rho} {σ : L2.St}
theorem ER.addH {p : Addr} {o : HO} (e : ER K τ S F H ρ σ) (hp : H p = none) : ER K τ S F (upd H p o) ρ σ := by
  have sp := e.sp hp
  refine ⟨e.len, fun b u h => by rw [upd_ne (ne_of_none h sp)]; exact e.ex b u h, fun a u h => ?_, e.val, fun i l od h => ?_, e.dis, e.tb.newH hp⟩
  · obtain ⟨a1, a2⟩ := e.fr a u h
    rw [upd_ne (ne_of_none a1 hp)]; exact ⟨a1, a2⟩
  · obtain ⟨h1, h2, h3, ob, h4, h5⟩ := e.own i l od h
    have ne := ne_of_none h4 hp
    rw [upd_ne ne]
    exact ⟨h1, h2, h3, ob, h4, h5⟩
theorem ER.notOwn {p : Addr} (e : ER K τ S F H ρ σ) (hp : H p = none) : ∀ (j : Nat) (o2 : OD), ρ[j]? ≠ some (Sl.own p o2) := fun j o2 h => by
  obtain ⟨_, _, _, ob, h4, _⟩ := e.own j p o2 h
  rw [hp] at h4; cases h4
end
abbrev WEO := Rho → XC → (Addr → OD → Rho → Prop) → Prop
def lEO (K : Fg) (τ : Tb) (W : WX) (w : WEO) : TE := fun σ H Q => ∃ ρ S F χ Φ, ER K τ S F H ρ σ ∧ w ρ χ Φ ∧ XOk K τ F W S χ ∧ ∀ l od o ρ' S' H', Φ l od ρ' → Same S S' → H' l = some o → OIs K S' o od → S' l = none → F l = none → (∀ (j : Nat) (o2 : OD), ρ'[j]? ≠ some (Sl.own l o2)) → ER K τ S' F H' ρ' σ → Q (.ref l) H'
def woLst (wl : WL) : WEO := fun ρ χ Φ => wl ρ χ fun xs ρ1 => xs.length ≤ sizeLine ∧ ∀ l, Φ l (.l xs) ρ1
def woLstOf (wa : WL) : WEO := fun ρ χ Φ => wa ρ χ fun ds ρ1 => match ds with
  | [.lst xs] => ∀ l, Φ l (.l xs) ρ1
  | [.tup xs] => ∀ l, Φ l (.l xs) ρ1
  | _ => False
def woDic : WEO := fun ρ _ Φ => ∀ l, Φ l (.k [] []) ρ
def woLc (wi : WL) (g : WG) (wt : WT) (we : WE) (vs : List Nat) : WEO := fun ρ χ Φ => wi ρ χ fun ds ρ1 => wLcL g wt we vs ds [] (wipeR ρ1 vs) fun ys ρ2 => ∀ l, Φ l (.l ys) (backR ρ1 ρ2 vs)
section
variable {K : Fg} {W : WX} {wl : WL}
theorem lo_lst : ∀ σ H Q, lEO K τ W (woLst wl) σ H Q → tLst (lL K τ W wl) σ H Q := by
  rintro σ H Q ⟨ρ, S, F, χ, Φ, e, hw, hx, hp⟩
  refine ⟨ρ, S, F, χ, _, e, hw, hx, fun xs ds ρ1 S1 H1 h1 s1 i1 e1 => ⟨by rw [i1.length]; exact h1.1, fun p hp1 => ?_⟩⟩
  exact hp p _ _ ρ1 S1 _ (h1.2 p) s1 upd_same (.l i1) (e1.sp hp1) (e1.fp hp1) (e1.notOwn hp1) (e1.addH hp1)
theorem lo_lstOf : ∀ σ H Q, lEO K τ W (woLstOf wl) σ H Q → tCB (fun xs H Q => ∃ p ys, xs = [.ref p] ∧ (SqL K H p ys ∨ SqT K H p ys) ∧ ∀ l, H l = none → Q (.ref l) (upd H l (.lst ys))) (lL K τ W wl) σ H Q := by
  rintro σ H Q ⟨ρ, S, F, χ, Φ, e, hw, hx, hp⟩
  refine ⟨ρ, S, F, χ, _, e, hw, hx, fun xs ds ρ1 S1 H1 h1 s1 i1 e1 => ?_⟩
  split at h1
  · obtain ⟨v, rfl, iv⟩ := isAll1 i1
    cases iv with
    | lst a1 a2 => exact ⟨_, _, rfl, .inl (.inl (.inl (e1.ex _ _ a1))), fun p hp1 => hp p _ _ ρ1 S1 _ (h1 p) s1 upd_same (.l a2) (e1.sp hp1) (e1.fp hp1) (e1.notOwn hp1) (e1.addH hp1)⟩
  · obtain ⟨v, rfl, iv⟩ := isAll1 i1
    cases iv with
    | tup a1 a2 => exact ⟨_, _, rfl, .inr (.inl (.inl (e1.ex _ _ a1))), fun p hp1 => hp p _ _ ρ1 S1 _ (h1 p) s1 upd_same (.l a2) (e1.sp hp1) (e1.fp hp1) (e1.notOwn hp1) (e1.addH hp1)⟩
  · exact h1.elim
theorem lo_dic : ∀ σ H Q, lEO K τ W woDic σ H Q → tDNewK σ H Q := by
  rintro σ H Q ⟨ρ, S, F, χ, Φ, e, hw, hx, hp⟩
  intro p hp1
  exact hp p _ _ ρ S _ (hw p) (Same.refl S) upd_same (.k rfl .nil) (e.sp hp1) (e.fp hp1) (e.notOwn hp1) (e.addH hp1)
theorem lo_lc {wi : WL} {g : WG} {wt : WT} {we : WE} {vs : List Nat} : ∀ σ H Q, lEO K τ W (woLc wi g wt we vs) σ H Q → tLc (lI K τ W wi) (lGc K τ vs g) (lT K τ W0 wt) (lE K τ W0 we) vs σ H Q := by
  rintro σ H Q ⟨ρ, S, F, χ, Φ, e, hw, hx, hp⟩
  refine ⟨ρ, S, F, χ, _, e, hw, hx, fun J ds ρ1 S1 H1 q1 s1 e1 wk => fun L hL => ?_⟩
  have fL := e1.fp hL
  have gL := e1.tb.free fL
  refine ⟨fun i m H' => m = ds.length - i ∧ i ≤ ds.length ∧ ∃ ρ' S' us acc, Same S1 S' ∧ ER K τ S' (upd F L (.lst us)) H' ρ' (wipe σ vs) ∧ IsAll K S' us acc ∧ wLcL g wt we vs (ds.drop i) acc ρ' (fun ys ρ2 => ∀ l, Φ l (.l ys) (backR ρ1 ρ2 vs)),
    ⟨_, rfl, Nat.zero_le _, wipeR ρ1 vs, S1, [], [], Same.refl S1, (e1.wipe vs).addF hL, .nil, q1⟩, ?_⟩
  rintro i m H' ⟨rfl, hi, ρ', S', us, acc, s', e', iu, q⟩
  by_cases hlt : i < ds.length
  · refine .inr ⟨wk.go i H' hlt (s'.trans e'.ex), fun H2 => ∃ ρ2 S2 us2 acc2, Same S1 S2 ∧ ER K τ S2 (upd F L (.lst us2)) H2 ρ2 (wipe σ vs) ∧ IsAll K S2 us2 acc2 ∧ wLcL g wt we vs (ds.drop (i + 1)) acc2 ρ2 (fun ys ρ3 => ∀ l, Φ l (.l ys) (backR ρ1 ρ3 vs)), fun H2 n2 => ⟨ds.length - (i + 1), by omega, rfl, hlt, n2⟩, fun x H2 y => ?_⟩
    obtain ⟨d, hd, y2⟩ := wk.yld i H' x H2 hlt (s'.trans e'.ex) y
    obtain ⟨S2, s2, i2, e2⟩ := y2 S' _ ρ' _ s' e'
    have ed : ds.drop i = d :: ds.drop (i + 1) := by
      rw [(List.drop_eq_getElem_cons hlt)]
      rw [List.getElem?_eq_getElem hlt] at hd
      rw [Option.some.inj hd]
    rw [ed] at q
    refine ⟨ρ', S2, _, d, _, e2, i2, q, fun ρ3 S3 σ3 H3 q3 s3 e3 w3 => ⟨w3.trans wipe_wipe, ?_⟩⟩
    have w3' : wipe σ3 vs = wipe σ vs := w3.trans wipe_wipe
    refine ⟨ρ3, S3, _, χ0, _, e3, q3, XOk.none, fun b ρ4 S4 H4 q4 s4 e4 => ?_⟩
    cases b with
    | false =>
      rw [if_neg Bool.false_ne_true] at q4 ⊢
      have e5 := e4.wipe vs
      rw [w3'] at e5
      exact ⟨_, S4, us, acc, ((s'.trans s2).trans s3).trans s4, e5, iu.mono ((s2.trans s3).trans s4), q4⟩
    | true =>
      rw [if_pos rfl] at q4 ⊢
      refine ⟨ρ4, S4, _, χ0, _, e4, q4, XOk.none, fun v dv ρ5 S5 H5 q5 s5 i5 e5 => ?_⟩
      obtain ⟨hl, q5⟩ := q5
      obtain ⟨h5, _⟩ := e5.fr L _ upd_same
      have iu5 := iu.mono (((s2.trans s3).trans s4).trans s5)
      refine ⟨us, h5, by rw [iu.length]; exact hl, ?_⟩
      have e6 := (e5.wipe vs).chF (o' := .lst (us ++ [v])) gL (fun c q z => by unfold LamX.CodeO at z; cases z)
      rw [w3'] at e6
      exact ⟨_, S5, us ++ [v], acc ++ [dv], (((s'.trans s2).trans s3).trans s4).trans s5, e6, iu5.append (.cons i5 .nil), q5⟩
  · have ei : i = ds.length := by omega
    subst ei
    rw [List.drop_length] at q
    refine .inl ⟨wk.stop H' (s'.trans e'.ex), ?_⟩
    obtain ⟨hL2, sL2⟩ := e'.fr L _ upd_same
    replace sL2 := sL2.resolve_right (by rintro ⟨_, z⟩; cases z)
    have e8 : ER K τ S' F H' ρ' (wipe σ vs) := by
      refine ⟨e'.len, e'.ex, fun a o h => e'.fr a o (by rw [upd_ne (ne_of_none h fL)]; exact h), e'.val, fun i l od h => ?_, e'.dis, e'.tb.lessF fL gL⟩
      obtain ⟨a1, a2, a3, a4⟩ := e'.own i l od h
      have ne : l ≠ L := fun z => by rw [z, upd_same] at a3; cases a3
      rw [upd_ne ne] at a3
      exact ⟨a1, a2, a3, a4⟩
    refine hp L _ _ _ S' H' (q L) (s1.trans s') hL2 (.l iu) sL2 fL (fun j o2 h => ?_) (e1.restore s' e8)
    rcases backR_at h with z | ⟨_, ⟨d, z⟩, _⟩ | ⟨_, z2⟩
    · cases z
    · cases z
    · have a3 := (e'.own j L o2 z2).2.2.1
      rw [upd_same] at a3
      cases a3
end
def wAsgO (i : Nat) (wo : WEO) : WS := fun ρ Δ => wo ρ Δ.xc fun l od ρ1 => Δ.nx (ρ1.set i (.own l od))
theorem l_asgO {K : Fg} {W : WX} {wo : WEO} {i : Nat} : ∀ D σ H, lS K τ W (wAsgO i wo) D σ H → tAsg (lEO K τ W wo) (gName i) D σ H := by
  rintro D σ H ⟨ρ, S, F, Δ, e, hw, hx, h1, h2, h3, h4, h5⟩
  exact ⟨ρ, S, F, _, _, e, hw, hx, fun l od o ρ' S' H' q s' a1 a2 a3 a4 a5 e' => h1 _ S' _ H' q s' (e'.setOwn a1 a3 a4 a2 a5)⟩
theorem l_retO {K : Fg} {W : WX} {wo : WEO} : ∀ D σ H, lS K τ W (wRetO wo) D σ H → tRet (lEO K τ W wo) D σ H := by
  rintro D σ H ⟨ρ, S, F, Δ, e, hw, hx, h1, h2, h3, h4, h5⟩
  exact ⟨ρ, S, F, _, _, e, hw, hx, fun l od o ρ' S' H' q s' a1 a2 a3 a4 a5 e' => h5 l od o ρ' S' _ H' q s' a1 a2 a3 a4 e'⟩
/-- x[e] of one's own list -/
def wIxO (i : Nat) (wi : WE) : WE := fun ρ χ Φ => (∃ l xs, ρ[i]? = some (Sl.own l (.l xs))) ∧ wi ρ χ fun k ρ1 => match k, ρ1[i]? with
  | .int j, some (.own _ (.l xs)) => ∃ d, atI xs j = some d ∧ Φ d ρ1
  | _, _ => False
/-- len(x) of one's own list -/
def wLenO (i : Nat) : WE := fun ρ _ Φ => match ρ[i]? with
  | some (.own _ (.l xs)) => Φ (.int xs.length) ρ
  | _ => False
/-- x.append(e) -/
def wApp (i : Nat) (wa : WE) : WS := fun ρ Δ => (∃ l xs, ρ[i]? = some (Sl.own l (.l xs))) ∧ wa ρ Δ.xc fun d ρ1 => match ρ1[i]? with
  | some (.own l (.l xs)) => xs.length < sizeLine ∧ Δ.nx (ρ1.set i (.own l (.l (xs ++ [d]))))
  | _ => False
/-- x[k] = e -/
def wSetO (i : Nat) (wk wa : WE) : WS := fun ρ Δ => wa ρ Δ.xc fun d ρ1 => (∃ l xs, ρ1[i]? = some (Sl.own l (.l xs))) ∧ wk ρ1 Δ.xc fun k ρ2 => match k, ρ2[i]? with
  | .int z, some (.own l (.l xs)) => ∃ j, ixN xs.length z = some j ∧ Δ.nx (ρ2.set i (.own l (.l (xs.set j d))))
  | _, _ => False
section
variable {K : Fg} {W : WX} {wa wk : WE} {i : Nat}
theorem l_ixO : ∀ σ H Q, lE K τ W (wIxO i wk) σ H Q → tOp (rIx K) (tVar i) (lE K τ W wk) σ H Q := by
  rintro σ H Q ⟨ρ, S, F, χ, Φ, e, ⟨⟨l, xs, hl⟩, hw⟩, hx, hp⟩
  obtain ⟨hσ, _⟩ := e.own i l _ hl
  refine ⟨.ref l, hσ, ρ, S, F, χ, _, e, hw, hx, fun x dx ρ1 S1 H1 h1 s1 i1 e1 => ?_⟩
  split at h1
  · rename_i j l' ys hl'
    obtain ⟨b1, b2, b3, ob, b4, b5⟩ := e1.own i l' _ hl'
    rw [hσ] at b1
    cases b1
    cases i1
    cases b5 with
    | l b6 =>
      obtain ⟨d, h2, h3⟩ := h1
      obtain ⟨v, h4, h5⟩ := atI_all b6 h2
      exact .inl ⟨_, _, _, v, rfl, rfl, .inl (.inl b4), h4, hp v d ρ1 S1 H1 h3 s1 h5 e1⟩
  · exact h1.elim
theorem l_lenO : ∀ σ H Q, lE K τ W (wLenO i) σ H Q → tCB (rLenD K) (tCons (tVar i) tNil) σ H Q := by
  rintro σ H Q ⟨ρ, S, F, χ, Φ, e, hw, hx, hp⟩
  unfold wLenO at hw
  split at hw
  · rename_i l xs hl
    obtain ⟨b1, b2, b3, ob, b4, b5⟩ := e.own i l _ hl
    cases b5 with
    | l b6 => exact ⟨.ref l, b1, .inl ⟨l, _, rfl, .inl (.inl (.inl b4)), by rw [b6.length]; exact hp _ _ ρ S H hw (Same.refl S) (.int _) e⟩⟩
  · exact hw.elim
theorem l_app : ∀ D σ H, lS K τ W (wApp i wa) D σ H → tDrop (tBM K "list" rAppend (tVar i) (tCons (lE K τ W wa) tNil)) D σ H := by
  rintro D σ H ⟨ρ, S, F, Δ, e, ⟨⟨l, xs, hl⟩, hw⟩, hx, h1, h2, h3, h4, h5⟩
  obtain ⟨hσ, a2, a3, ob, a4, a5⟩ := e.own i l _ hl
  cases a5 with
  | l a6 =>
    refine ⟨.ref l, hσ, .inl ⟨rfl, _, .inl (.inl a4)⟩, ρ, S, F, _, _, e, hw, hx, fun x dx ρ1 S1 H1 q1 s1 i1 e1 => ?_⟩
    split at q1
    · rename_i l' ys hl'
      obtain ⟨b1, b2, b3, ob, b4, b5⟩ := e1.own i l' _ hl'
      rw [hσ] at b1
      cases b1
      cases b5 with
      | l b6 => exact ⟨l, _, x, rfl, rfl, b4, by rw [b6.length]; exact q1.1, h1 _ S1 _ _ q1.2 s1 (e1.wr hl' (.l (b6.append (.cons i1 .nil))))⟩
    · exact q1.elim
theorem l_setO : ∀ D σ H, lS K τ W (wSetO i wk wa) D σ H → tAsg (lE K τ W wa) (gSub (tVar i) (lE K τ W wk) rSetL) D σ H := by
  rintro D σ H ⟨ρ, S, F, Δ, e, hw, hx, h1, h2, h3, h4, h5⟩
  refine ⟨ρ, S, F, _, _, e, hw, hx, fun x dx ρ1 S1 H1 q1 s1 i1 e1 => ?_⟩
  obtain ⟨⟨l, xs, hl⟩, q1⟩ := q1
  obtain ⟨hσ, _⟩ := e1.own i l _ hl
  refine ⟨.ref l, hσ, ρ1, S1, F, _, _, e1, q1, hx.mono s1, fun y dy ρ2 S2 H2 q2 s2 i2 e2 => ?_⟩
  split at q2
  · rename_i z l' ys hl'
    obtain ⟨b1, b2, b3, ob, b4, b5⟩ := e2.own i l' _ hl'
    rw [hσ] at b1
    cases b1
    cases i2
    cases b5 with
    | l b6 =>
      obtain ⟨j, q3, q4⟩ := q2
      exact ⟨l, _, z, j, rfl, rfl, b4, by rw [b6.length]; exact q3, h1 _ S2 _ _ q4 (s1.trans s2) (e2.wr hl' (.l (IsAll.set (i1.mono s2) j b6)))⟩
  · exact q2.elim
end

/-! ### dicts -/
def keyD : D → Option Key
  | .int i => some (.inl i)
  | .str s => some (.inr s)
  | _ => none
def valD : List Key → List D → Key → Option D
  | k :: ks, d :: ds, x => if k = x then some d else valD ks ds x
  | _, _, _ => none
theorem keyD_is {K : Fg} {S : Hp} {v : V} {d : D} {k : Key} (h : Is K S v d) (e : keyD d = some k) : v = kV k := by
  cases h <;> unfold keyD at e <;> cases e <;> rfl
theorem valD_is {K : Fg} {S : Hp} {x : Key} : ∀ {kvs : List (Key × V)} {ds : List D}, IsAll K S (kvs.map (·.2)) ds → (valD (kvs.map (·.1)) ds x = none ∧ valV kvs x = none) ∨ ∃ d v, valD (kvs.map (·.1)) ds x = some d ∧ valV kvs x = some v ∧ Is K S v d
  | [], ds, hi => by
    cases hi
    exact .inl ⟨rfl, rfl⟩
  | (k, v) :: kvs, ds, hi => by
    cases hi with
    | @cons _ _ d ds' a b =>
      by_cases e : k = x
      · exact .inr ⟨d, v, by show (if k = x then some d else _) = _; rw [if_pos e], valV_pos e, a⟩
      · have q := valD_is (x := x) b
        have e1 : valD (((k, v) :: kvs).map (·.1)) (d :: ds') x = valD (kvs.map (·.1)) ds' x := by show (if k = x then some d else _) = _; rw [if_neg e]
        rw [e1, valV_neg (p := (k, v)) e]
        exact q
def wDGet (wa wk : WE) : WE := fun ρ χ Φ => wa ρ χ fun x ρ1 => wk ρ1 χ fun y ρ2 => match x with
  | .dic ks ds => ∃ k d, keyD y = some k ∧ valD ks ds k = some d ∧ Φ d ρ2
  | _ => False
def wDGet2 (wa wk wz : WE) : WE := fun ρ χ Φ => wa ρ χ fun x ρ1 => match x with
  | .dic ks ds => wk ρ1 χ fun y ρ2 => wz ρ2 χ fun z ρ3 => ∃ k, keyD y = some k ∧ Φ ((valD ks ds k).getD z) ρ3
  | _ => False
def wDIn (neg : Bool) (wk wa : WE) : WE := fun ρ χ Φ => wk ρ χ fun y ρ1 => wa ρ1 χ fun x ρ2 => match x with
  | .dic ks ds => ∃ k, keyD y = some k ∧ Φ (.bl (if neg = true then !(valD ks ds k).isSome else (valD ks ds k).isSome)) ρ2
  | _ => False
section
variable {K : Fg} {W : WX} {wa wk wz : WE}
theorem l_dget : ∀ σ H Q, lE K τ W (wDGet wa wk) σ H Q → tDGet (lE K τ W wa) (lE K τ W wk) σ H Q := by
  rintro σ H Q ⟨ρ, S, F, χ, Φ, e, hw, hx, hp⟩
  refine ⟨ρ, S, F, χ, _, e, hw, hx, fun x dx ρ1 S1 H1 h1 s1 i1 e1 => ?_⟩
  refine ⟨ρ1, S1, F, χ, _, e1, h1, hx.mono s1, fun y dy ρ2 S2 H2 h2 s2 i2 e2 => ?_⟩
  cases i1.mono s2 with
  | dic a1 a2 a3 =>
    obtain ⟨k, d, h3, h4, h5⟩ := h2
    subst a2
    rw [keyD_is i2 h3]
    rcases valD_is (x := k) a3 with ⟨z, _⟩ | ⟨d', v, z1, z2, z3⟩
    · rw [h4] at z; cases z
    · rw [h4] at z1
      cases z1
      refine ⟨_, v, rfl, ?_, hp v d ρ2 S2 H2 h5 (s1.trans s2) z3 e2⟩
      rw [← z2]
      exact DGet.k (e2.ex _ _ a1)
  | _ => exact False.elim h2
theorem l_dget2 : ∀ σ H Q, lE K τ W (wDGet2 wa wk wz) σ H Q → tDGet2 (lE K τ W wa) (lE K τ W wk) (lE K τ W wz) σ H Q := by
  rintro σ H Q ⟨ρ, S, F, χ, Φ, e, hw, hx, hp⟩
  refine ⟨ρ, S, F, χ, _, e, hw, hx, fun x dx ρ1 S1 H1 h1 s1 i1 e1 => ?_⟩
  cases i1 with
  | dic a1 a2 a3 =>
    refine ⟨_, rfl, .inl ⟨_, .inl (e1.ex _ _ a1)⟩, ρ1, S1, F, χ, _, e1, h1, hx.mono s1, fun y dy ρ2 S2 H2 h2 s2 i2 e2 => ?_⟩
    refine ⟨ρ2, S2, F, χ, _, e2, h2, hx.mono (s1.trans s2), fun z dz ρ3 S3 H3 h3 s3 i3 e3 => ?_⟩
    obtain ⟨k, h4, h5⟩ := h3
    subst a2
    rw [keyD_is i2 h4]
    refine ⟨_, DGet.k (e3.ex _ _ (s3 _ _ (s2 _ _ a1))), ?_⟩
    rcases valD_is (x := k) a3 with ⟨z1, z2⟩ | ⟨d', v, z1, z2, z3⟩
    · rw [z1] at h5
      rw [z2]
      exact hp _ _ ρ3 S3 H3 h5 ((s1.trans s2).trans s3) i3 e3
    · rw [z1] at h5
      rw [z2]
      exact hp _ _ ρ3 S3 H3 h5 ((s1.trans s2).trans s3) (z3.mono (s2.trans s3)) e3
  | _ => exact False.elim h1
theorem l_din : ∀ σ H Q, lE K τ W (wDIn false wk wa) σ H Q → tDIn (lE K τ W wk) (lE K τ W wa) σ H Q := by
  rintro σ H Q ⟨ρ, S, F, χ, Φ, e, hw, hx, hp⟩
  refine ⟨ρ, S, F, χ, _, e, hw, hx, fun y dy ρ1 S1 H1 h1 s1 i1 e1 => ?_⟩
  refine ⟨ρ1, S1, F, χ, _, e1, h1, hx.mono s1, fun x dx ρ2 S2 H2 h2 s2 i2 e2 => ?_⟩
  cases i2 with
  | dic a1 a2 a3 =>
    obtain ⟨k, h3, h4⟩ := h2
    subst a2
    rw [keyD_is i1 h3]
    refine ⟨_, _, rfl, DGet.k (e2.ex _ _ a1), ?_⟩
    rcases valD_is (x := k) a3 with ⟨z1, z2⟩ | ⟨d', v, z1, z2, z3⟩
    · rw [z1] at h4
      rw [z2]
      exact hp _ _ ρ2 S2 H2 h4 (s1.trans s2) (.bl _) e2
    · rw [z1] at h4
      rw [z2]
      exact hp _ _ ρ2 S2 H2 h4 (s1.trans s2) (.bl _) e2
  | _ => exact False.elim h2
theorem l_dnin : ∀ σ H Q, lE K τ W (wDIn true wk wa) σ H Q → tDNotIn (lE K τ W wk) (lE K τ W wa) σ H Q := by
  rintro σ H Q ⟨ρ, S, F, χ, Φ, e, hw, hx, hp⟩
  refine ⟨ρ, S, F, χ, _, e, hw, hx, fun y dy ρ1 S1 H1 h1 s1 i1 e1 => ?_⟩
  refine ⟨ρ1, S1, F, χ, _, e1, h1, hx.mono s1, fun x dx ρ2 S2 H2 h2 s2 i2 e2 => ?_⟩
  cases i2 with
  | dic a1 a2 a3 =>
    obtain ⟨k, h3, h4⟩ := h2
    subst a2
    rw [keyD_is i1 h3]
    refine ⟨_, _, rfl, DGet.k (e2.ex _ _ a1), ?_⟩
    rcases valD_is (x := k) a3 with ⟨z1, z2⟩ | ⟨d', v, z1, z2, z3⟩
    · rw [z1] at h4
      rw [z2]
      exact hp _ _ ρ2 S2 H2 h4 (s1.trans s2) (.bl _) e2
    · rw [z1] at h4
      rw [z2]
      exact hp _ _ ρ2 S2 H2 h4 (s1.trans s2) (.bl _) e2
  | _ => exact False.elim h2
end
end DL
set_option Elab.async false
set_option autoImplicit false
set_option linter.all false
set_option maxRecDepth 100000
set_option maxHeartbeats 3900000
namespace DL
open L2 PyProof.Rows PySem PySem.Spec
variable {τ : Tb}

/-! ### f-strings -/
def wJs : List WE → Str → Rho → XC → (Str → Rho → Prop) → Prop
  | [], acc, ρ, _, Φ => Φ acc ρ
  | w :: ws, acc, ρ, χ, Φ => w ρ χ fun x ρ1 => match x with
    | .str y => (acc ++ y).length ≤ sizeLine ∧ wJs ws (acc ++ y) ρ1 χ Φ
    | _ => False
def wFmt (wa : WE) : WE := fun ρ χ Φ => wa ρ χ fun x ρ1 => match x with
  | .str y => y.length ≤ sizeLine ∧ Φ (.str y) ρ1
  | .int i => i.natAbs.log2 < 1920 ∧ Φ (.str (toString i)) ρ1
  | _ => False
def wFs (ws : List WE) : WE := fun ρ χ Φ => wJs ws Str.empty ρ χ fun z ρ1 => Φ (.str z) ρ1
section
variable {K : Fg} {W : WX}
theorem l_fmt {wa : WE} : ∀ σ H Q, lE K τ W (wFmt wa) σ H Q → tFmt (lE K τ W wa) σ H Q := by
  rintro σ H Q ⟨ρ, S, F, χ, Φ, e, hw, hx, hp⟩
  refine ⟨ρ, S, F, χ, _, e, hw, hx, fun x dx ρ1 S1 H1 h1 s1 i1 e1 => ?_⟩
  cases i1 with
  | str y => exact .inl ⟨y, rfl, h1.1, hp _ _ ρ1 S1 H1 h1.2 s1 (.str _) e1⟩
  | int i => exact .inr ⟨i, rfl, h1.1, hp _ _ ρ1 S1 H1 h1.2 s1 (.str _) e1⟩
  | _ => exact False.elim h1
theorem l_js : ∀ (ws : List WE) (acc : Str) σ H (Q : Str → Hp → Prop) ρ S F χ Φ, ER K τ S F H ρ σ → wJs ws acc ρ χ Φ → XOk K τ F W S χ → (∀ z ρ' S' H', Φ z ρ' → Same S S' → ER K τ S' F H' ρ' σ → Q z H') → tJs (ws.map (lE K τ W)) acc σ H Q
  | [], acc, σ, H, Q, ρ, S, F, χ, Φ, e, hw, hx, hp => hp acc ρ S H hw (Same.refl S) e
  | w :: ws, acc, σ, H, Q, ρ, S, F, χ, Φ, e, hw, hx, hp => by
    refine ⟨ρ, S, F, χ, _, e, hw, hx, fun x dx ρ1 S1 H1 h1 s1 i1 e1 => ?_⟩
    cases i1 with
    | str y => exact ⟨y, rfl, h1.1, l_js ws _ σ H1 Q ρ1 S1 F χ Φ e1 h1.2 (hx.mono s1) fun z ρ' S' H' q s' e' => hp z ρ' S' H' q (s1.trans s') e'⟩
    | _ => exact False.elim h1
theorem l_fs {ws : List WE} : ∀ σ H Q, lE K τ W (wFs ws) σ H Q → tJs (ws.map (lE K τ W)) Str.empty σ H fun out H1 => Q (.str out) H1 := by
  rintro σ H Q ⟨ρ, S, F, χ, Φ, e, hw, hx, hp⟩
  exact l_js ws _ σ H _ ρ S F χ _ e hw hx fun z ρ' S' H' q s' e' => hp _ _ ρ' S' H' q s' (.str z) e'
end

/-! ### two names at once -/
def wPar (i j : Nat) (wl : WL) : WS := fun ρ Δ => wl ρ Δ.xc fun ds ρ1 => match ds with
  | [d, d'] => Δ.nx ((ρ1.set i (.val d)).set j (.val d'))
  | _ => False
def wParO (i j : Nat) (wa : WE) (wo : WEO) : WS := fun ρ Δ => wa ρ Δ.xc fun d ρ1 => wo ρ1 Δ.xc fun l od ρ2 => Δ.nx ((ρ2.set i (.val d)).set j (.own l od))
def wPar3 (i j k : Nat) (wl : WL) : WS := fun ρ Δ => wl ρ Δ.xc fun ds ρ1 => match ds with
  | [d, d', d''] => Δ.nx (((ρ1.set i (.val d)).set j (.val d')).set k (.val d''))
  | _ => False
section
variable {K : Fg} {W : WX}
theorem l_par {i j : Nat} {wl : WL} : ∀ D σ H, lS K τ W (wPar i j wl) D σ H → tPar i j (lL K τ W wl) D σ H := by
  rintro D σ H ⟨ρ, S, F, Δ, e, hw, hx, h1, h2, h3, h4, h5⟩
  refine ⟨ρ, S, F, _, _, e, hw, hx, fun vs ds ρ1 S1 H1 q1 s1 i1 e1 => ?_⟩
  split at q1
  · obtain ⟨v, u, rfl, iv, iu⟩ := isAll2 i1
    exact ⟨v, u, rfl, h1 _ S1 _ _ q1 s1 ((e1.set iv).set iu)⟩
  · exact q1.elim
theorem l_par3 {i j k : Nat} {wl : WL} : ∀ D σ H, lS K τ W (wPar3 i j k wl) D σ H → tPar3 i j k (lL K τ W wl) D σ H := by
  rintro D σ H ⟨ρ, S, F, Δ, e, hw, hx, h1, h2, h3, h4, h5⟩
  refine ⟨ρ, S, F, _, _, e, hw, hx, fun vs ds ρ1 S1 H1 q1 s1 i1 e1 => ?_⟩
  split at q1
  · cases i1 with
    | cons iv i1 => cases i1 with
      | cons iu i1 => cases i1 with
        | cons it i1 => cases i1; exact ⟨_, _, _, rfl, h1 _ S1 _ _ q1 s1 (((e1.set iv).set iu).set it)⟩
  · exact q1.elim
theorem notOwn_set {ρ : Rho} {i : Nat} {d : D} {l : Addr} (h : ∀ (j : Nat) (o2 : OD), ρ[j]? ≠ some (Sl.own l o2)) : ∀ (j : Nat) (o2 : OD), (ρ.set i (.val d))[j]? ≠ some (Sl.own l o2) := fun j o2 q => by
  by_cases hj : j = i
  · subst hj
    have hi : j < ρ.length := by
      have := (List.getElem?_eq_some_iff.mp q).1
      rwa [List.length_set] at this
    rw [List.getElem?_set_self hi] at q; cases q
  · rw [List.getElem?_set_ne (Ne.symm hj)] at q; exact h j o2 q
theorem l_parO {i j : Nat} {wa : WE} {wo : WEO} : ∀ D σ H, lS K τ W (wParO i j wa wo) D σ H → tPar i j (tCons (lE K τ W wa) (tCons (lEO K τ W wo) tNil)) D σ H := by
  rintro D σ H ⟨ρ, S, F, Δ, e, hw, hx, h1, h2, h3, h4, h5⟩
  refine ⟨ρ, S, F, _, _, e, hw, hx, fun v d ρ1 S1 H1 q1 s1 i1 e1 => ?_⟩
  refine ⟨ρ1, S1, F, _, _, e1, q1, hx.mono s1, fun l od o ρ2 S2 H2 q2 s2 a1 a2 a3 a4 a5 e2 => ?_⟩
  exact ⟨v, _, rfl, h1 _ S2 _ _ q2 (s1.trans s2) ((e2.set (i1.mono s2)).setOwn a1 a3 a4 a2 (notOwn_set a5))⟩
end

/-! ### a def as a whole -/
theorem er_more {K : Fg} {S F H : Hp} {ρ : Rho} {σ : L2.St} (e : ER K τ S F H ρ σ) (k : Nat) : ER K τ S F H (ρ ++ List.replicate k .un) (σ ++ List.replicate k none) := by
  have at_ : ∀ {i : Nat} {s : Sl}, (ρ ++ List.replicate k Sl.un)[i]? = some s → s = .un ∨ ρ[i]? = some s := fun {i s} h => by
    by_cases hi : i < ρ.length
    · rw [List.getElem?_append_left hi] at h; exact .inr h
    · rw [List.getElem?_append_right (by omega)] at h
      have h2 := List.mem_of_getElem? h
      exact .inl (List.eq_of_mem_replicate h2)
  have go : ∀ {i : Nat} {s : Sl}, ρ[i]? = some s → (σ ++ List.replicate k none)[i]? = σ[i]? := fun {i s} h => by
    have hi := (List.getElem?_eq_some_iff.mp h).1
    rw [List.getElem?_append_left (by rw [← e.len]; exact hi)]
  refine ⟨by rw [List.length_append, List.length_append, e.len, List.length_replicate, List.length_replicate], e.ex, e.fr, fun i d h => ?_, fun i l od h => ?_, fun i j l o o' h1 h2 => ?_, e.tb⟩
  · rcases at_ h with z | z
    · cases z
    · rw [go z]; exact e.val i d z
  · rcases at_ h with z | z
    · cases z
    · rw [go z]; exact e.own i l od z
  · rcases at_ h1 with z | z
    · cases z
    · rcases at_ h2 with z2 | z2
      · cases z2
      · exact e.dis i j l o o' z z2
theorem isAll_of_er {K : Fg} {S F H : Hp} : ∀ {ds : List D} {vs : List V}, ER K τ S F H (args none ds) (vs.map some) → IsAll K S vs ds := by
  intro ds vs e
  have hl : ds.length = vs.length := by have := e.len; rw [args_none, List.length_map, List.length_map] at this; exact this
  have hv : ∀ i d, ds[i]? = some d → ∃ v, vs[i]? = some v ∧ Is K S v d := fun i d h => by
    obtain ⟨v, h1, h2⟩ := e.val i d (by rw [args_none, List.getElem?_map, h]; rfl)
    rw [List.getElem?_map] at h1
    cases q : vs[i]? with
    | none => rw [q] at h1; cases h1
    | some u => rw [q] at h1; cases h1; exact ⟨v, q, h2⟩
  clear e
  induction ds generalizing vs with
  | nil => cases vs with
    | nil => exact .nil
    | cons v vs => cases hl
  | cons d ds ih => cases vs with
    | nil => cases hl
    | cons v vs =>
      obtain ⟨u, h1, h2⟩ := hv 0 d rfl
      cases h1
      exact .cons h2 (ih (by simpa using hl) fun i d h => hv (i + 1) d h)
theorem isAll_of_erO {K : Fg} {S F H : Hp} {ds : List D} {l : Addr} {o : OD} {vs : List V} (e : ER K τ S F H (args (some (l, o)) ds) (vs.map some)) : ∃ us, vs = .ref l :: us ∧ IsAll K S us ds := by
  cases vs with
  | nil => have := e.len; cases this
  | cons v us =>
    obtain ⟨h1, _⟩ := e.own 0 l o rfl
    have h1' : some (some v) = some (some (V.ref l)) := h1
    cases h1'
    refine ⟨us, rfl, ?_⟩
    have hl : ds.length = us.length := by have := e.len; simpa [args] using this
    have hv : ∀ i d, ds[i]? = some d → ∃ v, us[i]? = some v ∧ Is K S v d := fun i d h => by
      obtain ⟨v, h1, h2⟩ := e.val (i + 1) d (by show (ds.map Sl.val)[i]? = _; rw [List.getElem?_map, h]; rfl)
      have h1 : (us.map some)[i]? = some (some v) := h1
      rw [List.getElem?_map] at h1
      cases q : us[i]? with
      | none => rw [q] at h1; cases h1
      | some u => rw [q] at h1; cases h1; exact ⟨v, q, h2⟩
    clear e
    induction ds generalizing us with
    | nil => cases us with
      | nil => exact .nil
      | cons v vs => cases hl
    | cons d ds ih => cases us with
      | nil => cases hl
      | cons v vs =>
        obtain ⟨u, h1, h2⟩ := hv 0 d rfl
        cases h1
        exact .cons h2 (ih vs rfl (by simpa using hl) fun i d h => hv (i + 1) d h)
def outs (hl : Option (Addr × OD)) (ρ : Rho) (P : Option OD → Prop) : Prop := match hl with
  | none => P none
  | some p => ∃ o, ρ[0]? = some (Sl.own p.1 o) ∧ P (some o)
def dEnds (hl : Option (Addr × OD)) (Ψ : D → Option OD → Prop) (Ξ : Addr → Str → D → Prop) : DE where
  nx := fun ρ => outs hl ρ (Ψ .non)
  rt := fun d ρ => outs hl ρ (Ψ d)
  bk := fun _ => False
  ct := fun _ => False
  xc := fun C f d _ => Ξ C f d
section
variable {P : Program} {w : World} {K : Fg} {mg : Str → Option Value} {base : Heap} {x qual : Str} {params : Arguments} {body : List Stmt} {scope : Scope} {dvs : List V} {kws : List (Str × V)} {f : Addr} {fd : FuncData} {N ps : List Str} {k n : Nat}
abbrev wishOf (E : XK) : WX := fun cls d _ H' => E cls d H'
theorem defG {t : List (Addr × Str)} {sp : Spc} {ws : WS} (F : FunD K x qual params body scope dvs kws f fd) (Sc : FnScope N ps scope) (hps : ps.length = n)
    (hd : ∀ (cdv : Value) (A : Around) (outer : List Env) (s : Shared) (H : Hp) (E : XK), codeOf8 K f = some cdv → Cok (cxOf (L2.CX P w) P w K mg base N qual scope f cdv A outer s H E) (wishOf E) k → PSs (cxOf (L2.CX P w) P w K mg base N qual scope f cdv A outer s H E) body (lS K (tb0 t) (wishOf E) ws))
    (hm : ∀ hl ds Ψ Ξ, (args hl ds).length = n → sp (hl.map (·.2)) ds Ψ Ξ → ws (args hl ds ++ List.replicate (N.length - n) .un) (dEnds hl Ψ Ξ)) : FnG P w K mg base (k + 1) f fd ps (lSp K t n sp) := by
  refine fnG_of F Sc (fun vs H Q E h => ?_) fun cdv A outer s H vs Q E hcv c h => ⟨_, hd cdv A outer s H E hcv c, ?_⟩
  · obtain ⟨_, _, _, _, _, _, h, _⟩ := h
    rw [h, hps]
  · obtain ⟨S, Fr, hl, ds, Ψ, Ξ, hn, e, hs, hq, hx⟩ := h
    have la : (args hl ds).length = n := by rw [e.len, List.length_map, hn]
    have ee := er_more e (N.length - n)
    have es : L2.start N vs = vs.map some ++ List.replicate (N.length - n) none := by unfold L2.start; rw [hn]
    -- the arguments behind any steps
    have back : ∀ {d : D} {v : V} {ρ' S' σ' H'}, outs hl ρ' (Ψ d) → Same S S' → Is K S' v d → ER K (tb0 t) S' Fr H' ρ' σ' → Q v H' := by
      intro d v ρ' S' σ' H' q s' iv e'
      cases hl with
      | none => exact hq d v none S' H' q rfl s' iv (er_args ((isAll_of_er e).mono s') e'.ex e'.tb e'.fr)
      | some p =>
        obtain ⟨l, o⟩ := p
        obtain ⟨o', h1, h2⟩ := q
        obtain ⟨us, rfl, iu⟩ := isAll_of_erO e
        obtain ⟨_, b2, b3, ob, b4, b5⟩ := e'.own 0 l o' h1
        exact hq d v (some o') S' H' h2 rfl s' iv (er_argsO (iu.mono s') e'.ex e'.tb e'.fr b4 b2 b3 b5)
    rw [es]
    refine ⟨_, S, Fr, _, ee, hm hl ds Ψ Ξ la hs, ?_, fun ρ' S' σ' H' q s' e' => back q s' .non e', fun d v ρ' S' σ' H' q s' iv e' => back q s' iv e', fun ρ' S' σ' H' q => q.elim, fun ρ' S' σ' H' q => q.elim, fun l od o ρ' S' σ' H' q => q.elim⟩
    exact fun C f d v dd ρ' S' σ' H' q s' e' hd' iv => hx C f d v dd S' H' q s' e'.ex e'.tb e'.fr hd' iv
/-- a def that hands back a new object, its caller's own -/
abbrev SpcO := List D → (OD → Prop) → Prop
def lSpO (K : Fg) (t : List (Addr × Str)) (n : Nat) (sp : SpcO) : Sp := fun vs H Q _ => ∃ S F ds Ψ, vs.length = n ∧ ER K (tb0 t) S F H (args none ds) (vs.map some) ∧ sp ds Ψ ∧
  ∀ od l o S' H', Ψ od → Same S S' → H' l = some o → OIs K S' o od → S' l = none → F l = none → ER K (tb0 t) S' F H' (args none ds) (vs.map some) → Q (.ref l) H'
theorem defO {t : List (Addr × Str)} {sp : SpcO} {ws : WS} (F : FunD K x qual params body scope dvs kws f fd) (Sc : FnScope N ps scope) (hps : ps.length = n)
    (hd : ∀ (cdv : Value) (A : Around) (outer : List Env) (s : Shared) (H : Hp) (E : XK), codeOf8 K f = some cdv → Cok (cxOf (L2.CX P w) P w K mg base N qual scope f cdv A outer s H E) (wishOf E) k → PSs (cxOf (L2.CX P w) P w K mg base N qual scope f cdv A outer s H E) body (lS K (tb0 t) (wishOf E) ws))
    (hm : ∀ ds Ψ, ds.length = n → sp ds Ψ → ws (args none ds ++ List.replicate (N.length - n) .un) { nx := fun _ => False, rt := fun _ _ => False, bk := fun _ => False, ct := fun _ => False, xc := χ0, ro := fun _ od _ => Ψ od }) : FnG P w K mg base (k + 1) f fd ps (lSpO K t n sp) := by
  refine fnG_of F Sc (fun vs H Q E h => ?_) fun cdv A outer s H vs Q E hcv c h => ⟨_, hd cdv A outer s H E hcv c, ?_⟩
  · obtain ⟨_, _, _, _, h, _⟩ := h
    rw [h, hps]
  · obtain ⟨S, Fr, ds, Ψ, hn, e, hs, hq⟩ := h
    have ee := er_more e (N.length - n)
    have es : L2.start N vs = vs.map some ++ List.replicate (N.length - n) none := by unfold L2.start; rw [hn]
    have iu := isAll_of_er e
    rw [es]
    refine ⟨_, S, Fr, _, ee, hm ds Ψ (by rw [← iu.length]; exact hn) hs, XOk.none, fun ρ' S' σ' H' q => q.elim, fun d v ρ' S' σ' H' q => q.elim, fun ρ' S' σ' H' q => q.elim, fun ρ' S' σ' H' q => q.elim, fun l od o ρ' S' σ' H' q s' a1 a2 a3 a4 e' => ?_⟩
    exact hq od l o S' H' q s' a1 a2 a3 a4 (er_args (iu.mono s') e'.ex e'.tb e'.fr)
end

/-! ### calls of such defs; a first argument that was just made -/
def woCall (n : Nat) (sp : SpcO) (wa : WL) : WEO := fun ρ χ Φ => wa ρ χ fun ds ρ1 => ds.length = n ∧ sp ds fun od => ∀ l, Φ l od ρ1
def wCallT (n : Nat) (sp : Spc) (wo : WEO) (wa : WL) : WE := fun ρ χ Φ => wo ρ χ fun _ od ρ1 => wa ρ1 χ fun ds ρ2 => ds.length = n ∧ sp (some od) ds (fun d _ => Φ d ρ2) fun _ _ _ => False
section
variable {K : Fg} {W : WX} {n : Nat} {gV : List V → List V → List V}
theorem lo_call {sp : SpcO} {wa : WL} (hg : ∀ vs, gV vs [] = vs) : ∀ σ H Q, lEO K τ W (woCall n sp wa) σ H Q → tCallG W n 0 (lSpO K τ.t n sp) gV (lL K τ W wa) tNil σ H Q := by
  rintro σ H Q ⟨ρ, S, F, χ, Φ, e, hw, hx, hp⟩
  refine ⟨ρ, S, F, χ, _, e, hw, hx, fun vs ds ρ1 S1 H1 h1 s1 i1 e1 => ?_⟩
  obtain ⟨l1, h2⟩ := h1
  have l1' : vs.length = n := by rw [i1.length]; exact l1
  have fr : ∀ a o, others τ.t S1 H1 (fun _ => False) a = some o → H1 a = some o ∧ (S1 a = none ∨ TupO o) := fun a o h => by
    obtain ⟨_, a1, a2⟩ := others_inv h
    exact ⟨a2, .inl a1⟩
  refine ⟨l1', rfl, S1, others τ.t S1 H1 fun _ => False, ds, _, by rw [hg, l1'], by rw [hg]; exact er_args i1 e1.ex e1.tb.oth fr, h2, fun od l o S' H' q s' a1 a2 a3 a4 er => ?_⟩
  have hl : H1 l = none := by
    have s1l : S1 l = none := by
      cases h : S1 l with
      | none => rfl
      | some u => rw [s' l u h] at a3; cases a3
    cases h : H1 l with
    | none => rfl
    | some u =>
      have nl : l ∉ τ.t.map (·.1) := fun z => by
        obtain ⟨q, hq, rfl⟩ := List.mem_map.mp z
        obtain ⟨ps, h6⟩ := er.tb.at hq
        rw [a1] at h6; exact a2.notX.1 ps (Option.some.inj h6)
      rw [others_of (p := fun _ => False) nl (fun z => z) s1l h] at a4; cases a4
  exact hp l od o ρ1 S' H' (q l) (s1.trans s') a1 a2 a3 (e1.fp hl) (e1.notOwn hl) (e1.back s' er.ex er.tb.tab er.tb.nS (fun a o n a1 a2 => others_of n (fun z => z) a1 a2) er.fr)
theorem ER.lessF {S F H : Hp} {ρ : Rho} {σ : L2.St} {p : Addr} {o : HO} (e : ER K τ S (upd F p o) H ρ σ) (fp : F p = none) (gp : τ.gf p = none) : ER K τ S F H ρ σ := by
  refine ⟨e.len, e.ex, fun a u h => e.fr a u (by rw [upd_ne (ne_of_none h fp)]; exact h), e.val, fun i l od h => ?_, e.dis, e.tb.lessF fp gp⟩
  obtain ⟨a1, a2, a3, a4⟩ := e.own i l od h
  have ne : l ≠ p := fun z => by rw [z, upd_same] at a3; cases a3
  rw [upd_ne ne] at a3
  exact ⟨a1, a2, a3, a4⟩
theorem l_callT {sp : Spc} {wo : WEO} {wa : WL} (hg : ∀ vs, gV vs [] = vs) : ∀ σ H Q, lE K τ W (wCallT n sp wo wa) σ H Q → tCallG W (n + 1) 0 (lSp K τ.t (n + 1) sp) gV (tCons (lEO K τ W wo) (lL K τ W wa)) tNil σ H Q := by
  rintro σ H Q ⟨ρ, S, F, χ, Φ, e, hw, hx, hp⟩
  refine ⟨ρ, S, F, χ, _, e, hw, hx, fun l od o ρ1 S1 H1 h1 s1 a1 a2 a3 a4 a5 e1 => ?_⟩
  have eF : ER K τ S1 (upd F l o) H1 ρ1 σ := by
    refine ⟨e1.len, e1.ex, fun a u h => ?_, e1.val, fun i m od2 h => ?_, e1.dis, e1.tb.addF a1 a4 a2.notX.1⟩
    · by_cases ha : a = l
      · subst ha; rw [upd_same] at h; cases h; exact ⟨a1, .inl a3⟩
      · rw [upd_ne ha] at h; exact e1.fr a u h
    · obtain ⟨b1, b2, b3, b4⟩ := e1.own i m od2 h
      have ne : m ≠ l := fun z => by subst z; exact a5 i od2 h
      exact ⟨b1, b2, by rw [upd_ne ne]; exact b3, b4⟩
  have hx' : XOk K τ (upd F l o) W S1 χ := fun C f d v dd ρ' S' σ' H' b1 b2 b3 b4 b5 => hx C f d v dd ρ' S' σ' H' b1 (s1.trans b2) (b3.lessF a4 (e1.tb.free a4)) b4 b5
  refine ⟨ρ1, S1, upd F l o, χ, _, eF, h1, hx', fun vs ds ρ2 S2 H2 h2 s2 i2 e2 => ?_⟩
  obtain ⟨l1, h2⟩ := h2
  have l1' : vs.length = n := by rw [i2.length]; exact l1
  obtain ⟨hl, sl⟩ := e2.fr l o upd_same
  replace sl := sl.resolve_right a2.nt
  refine ⟨by rw [List.length_cons, l1'], rfl, S2, others τ.t S2 H2 (fun a => a = l), some (l, od), ds, _, _, by rw [hg, List.length_cons, l1'], ?_, h2, fun d v o2 S' H' q hs s' iv er => ?_, fun C f d v dd S' H' q => q.elim⟩
  · rw [hg]
    exact er_argsO i2 e2.ex e2.tb.oth (fun a o h => by obtain ⟨_, a1, a2⟩ := others_inv h; exact ⟨a2, .inl a1⟩) hl sl (by unfold others; rw [if_pos (.inl rfl)]) (a2.mono s2)
  · have e3 : ER K τ S2 F H2 ρ2 σ := e2.lessF a4 (e1.tb.free a4)
    have no : ∀ (j : Nat) (o2 : OD), ρ2[j]? ≠ some (Sl.own l o2) := fun j o2 h => by
      have b3 := (e2.own j l o2 h).2.2.1
      rw [upd_same] at b3; cases b3
    -- back to the caller: all but l is kept
    have e4 : ER K τ S' F H' ρ2 σ := by
      have keep : ∀ a u, a ∉ τ.t.map (·.1) → a ≠ l → S2 a = none → H2 a = some u → H' a = some u ∧ (S' a = none ∨ TupO u) := fun a u n b0 b1 b2 => er.fr a u (others_of (p := fun a => a = l) n b0 b1 b2)
      have nt : ∀ a o, F a = some o → a ∉ τ.t.map (·.1) := fun a o h z => by
        obtain ⟨q, hq, rfl⟩ := List.mem_map.mp z
        rw [e3.tb.nF q hq] at h; cases h
      refine ⟨e3.len, er.ex, fun a u h => ?_, fun i d h => ?_, fun i m od2 h => ?_, e3.dis, ⟨er.tb.tab, er.tb.nS, e3.tb.nF, fun a o h => s' _ _ (e3.tb.ks a o h), e3.tb.kf⟩⟩
      · obtain ⟨b1, b2⟩ := e3.fr a u h
        exact fr_back (Fc := F) s' er.ex e3.ex b1 b2 fun b3 => keep a u (nt a u h) (fun z => by rw [z, a4] at h; cases h) b3 b1
      · obtain ⟨v, b1, b2⟩ := e3.val i d h
        exact ⟨v, b1, b2.mono s'⟩
      · obtain ⟨b1, b2, b3, ob, b4, b5⟩ := e3.own i m od2 h
        have ne : m ≠ l := fun z => by subst z; exact no i od2 h
        obtain ⟨b6, b7⟩ := keep m ob (e3.nTb h) ne b2 b4
        exact ⟨b1, b7.resolve_right b5.nt, b3, ob, b6, b5.mono s'⟩
    exact hp v d ρ2 S' H' q ((s1.trans s2).trans s') iv e4
end
end DL
set_option Elab.async false
set_option autoImplicit false
set_option linter.all false
set_option maxRecDepth 100000
set_option maxHeartbeats 3900000
namespace PySem
namespace DLK
open PySem.W PySem.Calls PyProof.Rows PySem.HandSPX
/-! ### own error classes that stand over KeyError: as the library's for ValueError, the class between being one more -/
abbrev keTail : List Value := [.type "KeyError", .type "LookupError", .type "Exception", .type "BaseException", .type "object"]
section
variable {prog : Program} {w : World} {A : Around} {R : Result → Shared → Prop} {hp : Heap} {g : Array GenState} {d : Drawn} {tk : Nat} {os : OsState} {nm qn : Str} {C N fI : Addr} {bs sub zs : List Value} {sn : List Str} {ab : Bool} {col : Option Bool} {dd : Option Addr} {k0 k1 k2 k3 k5 : Option Value}
abbrev keO (C t : Addr) : Obj := { cls := .ref C, data := .fields #[.ref t, .none, .none, .none, .bool false, .none] }
theorem ke_in (X : String) : (Value.ref C :: keTail).contains (.type X) = keTail.contains (.type X) := by rw [List.contains_cons]; rfl
theorem ke_check {M : Model} {E : Value → Shared → Prop} {Q : Unit → Shared → Prop} (hC : hp.get? C = some (excClassObj nm qn C N bs keTail true sn sub ab col dd k0 k1 k2 k3 k5 "LookupError.__new__")) (hq : Q () ⟨hp, g, d, tk, os⟩) :
    wpAny M A (checkBuiltinCall "LookupError.__new__" ⟨.ref C :: zs, []⟩) Q E ⟨hp, g, d, tk, os⟩ := by
  have F := PySem.F.excBase_LookupError
  have hB : (Value.ref C :: keTail).contains (.type "LookupError") = true := (ke_in _).trans (by decide +kernel)
  have hs := F.noStar
  (simp only [checkBuiltinCall, F.newKind, F.newSplit, F.newRow])
  (repeat (first | refine wpAny_loadPart_at hC ?_ | (refine wpAny_isSubtype_exc hC ?_; rw [hB]) | refine wpAny_staticBase_exc hC ?_ | refine wpAny_madeBy_exc hC ?_ | simp only [bne_self_eq_false, Bool.false_eq_true, if_false] | wp_step))
  exact hq
theorem ke_new (hC : hp.get? C = some (excClassObj nm qn C N bs keTail true sn sub ab col dd k0 k1 k2 k3 k5 "LookupError.__new__")) (hq : R (.ok (.ret (.ref (hp.objs.size + 1)))) ⟨(hp.push (PySem.W.kdv_tup zs)).push (keO C hp.objs.size), g, d, tk, os⟩) (hz : zs.length ≤ sizeLine) :
    codeAny (model prog w) A (.builtin "LookupError.__new__" ⟨.ref C :: zs, []⟩) R ⟨hp, g, d, tk, os⟩ := by
  have F := PySem.F.excBase_LookupError
  have he := F.ends
  have hB : (Value.ref C :: keTail).contains (.type "LookupError") = true := (ke_in _).trans (by decide +kernel)
  have hA : (Value.ref C :: keTail).contains (.type "AttributeError") = false := (ke_in _).trans (by decide +kernel)
  have hN : (Value.ref C :: keTail).contains (.type "NameError") = false := (ke_in _).trans (by decide +kernel)
  refine codeAny_builtinAt F.entry ?_; unfold Builtin.«BaseException.__new__»; refine wpAt_bind ?_
  show wpAt _ _ _ (stack >>= _) _ _ _
  refine wpAt_bind (wpAt_stack fun p below => wpAt_of_wpAny ?_); wp_walk; refine wpAt_of_wpAny ?_; rw [F.owner]
  repeat (first | with_reducible refine wpAny_madeHere_exc F.canon hC ?_ | with_reducible refine wpAny_loadPart_at hC ?_ | (with_reducible refine wpAny_isSubtype_exc hC ?_; first | rw [hB] | rw [hA] | rw [hN]) | wp_step)
  show R _ _
  rw [Heap.size_push]; exact hq
theorem ke_type {Q : Fin → Shared → Prop} {E : Value → Shared → Prop} (hC : hp.get? C = some (excClassObj nm qn C N bs keTail true sn sub ab col dd k0 k1 k2 k3 k5 "LookupError.__new__"))
    (hi : W.Looks (model prog w) hp (typeLookup (.ref C) "__init__") (some (.ref fI))) (hb : ∀ self, W.Looks (model prog w) hp (bindSpecial (.ref fI) self) (.ref fI, [self])) (hz : zs.length ≤ sizeLine)
    (hq : codeAny (model prog w) A (.call (.ref fI) ⟨.ref (hp.objs.size + 1) :: zs, []⟩) (fun r s' => match r with | .ok (.ret v) => v = .none ∧ Q (.done (.ret (.ref (hp.objs.size + 1)))) s' | .ok _ => False | .error e => E e s') ⟨(hp.push (W.kdv_tup zs)).push (keO C hp.objs.size), g, d, tk, os⟩) :
    wpAny (model prog w) A (Builtin.«type.__call__» ⟨.ref C :: zs, []⟩) Q E ⟨hp, g, d, tk, os⟩ := by
  (repeat (first | with_reducible refine wpAny_loadPart_at hC ?_ | with_reducible refine wpAny_madeBy_exc hC ?_ | wp_step))
  refine codeAny_call_builtin_code (Code.quiet_builtin _ PySem.F.excBase_LookupError.quiet) (ke_check hC ?_)
  refine ke_new hC ?_ hz
  show wpAny _ _ _ _ _ _
  have kk : ∀ b o, hp.get? b = some o → ((hp.push (W.kdv_tup zs)).push (keO C hp.objs.size)).get? b = some o := fun b o e => Heap.get?_push_of_some _ (Heap.get?_push_of_some _ e)
  have c1 := kk _ _ hC
  have c2 : ((hp.push (W.kdv_tup zs)).push (keO C hp.objs.size)).get? (hp.objs.size + 1) = some (keO C hp.objs.size) := by heap_get
  have c3 : (Value.ref C :: keTail).contains (.ref C) = true := by simp
  have i1 := hi.keeps kk; have b1 := (hb (.ref (hp.objs.size + 1))).keeps kk; unfold isInstance
  (repeat (first | with_reducible refine wpAny_loadPart_at c2 ?_ | (with_reducible refine wpAny_isSubtype_exc c1 ?_; rw [c3]) | wp_step))
  show wpAny _ _ (typeLookup (.ref C) _) _ _ _
  refine i1.at ?_; refine wpAny_holding (wpAny_bind (b1.at ?_)); refine wpAny_bind (wpAny_call (codeAny_mono hq fun r s' z => ?_))
  rcases r with e | (v | _ | _ | _) <;> first | exact z | exact z.elim | skip
  obtain ⟨rfl, z⟩ := z
  first | exact wpAny_pure (wpAny_pure z) | (wp_walk; exact z)
theorem ke_call (hC : hp.get? C = some (excClassObj nm qn C N bs keTail true sn sub ab col dd k0 k1 k2 k3 k5 "LookupError.__new__"))
    (hi : W.Looks (model prog w) hp (typeLookup (.ref C) "__init__") (some (.ref fI))) (hb : ∀ self, W.Looks (model prog w) hp (bindSpecial (.ref fI) self) (.ref fI, [self])) (hz : zs.length ≤ sizeLine)
    (hq : codeAny (model prog w) (A.under (.builtin "type.__call__" ⟨.ref C :: zs, []⟩)) (.call (.ref fI) ⟨.ref (hp.objs.size + 1) :: zs, []⟩) (W.InitBack (hp.objs.size + 1) R) ⟨(hp.push (W.kdv_tup zs)).push (keO C hp.objs.size), g, d, tk, os⟩) :
    codeAny (model prog w) A (.call (.ref C) ⟨zs, []⟩) R ⟨hp, g, d, tk, os⟩ := by
  have f1 := tc_lookup
  have f2 := tc_bind (.ref C)
  have hTy : (⟨hp, g, d, tk, os⟩ : Shared).TypeIs (.ref C) "type" := ⟨_, hC, rfl⟩
  refine codeAny_of_tree ?_
  show wpAny _ _ (callAny (.ref C) _) _ _ _
  repeat (any_goals (first | assumption | with_reducible refine wpAny_loadPart_at hC ?_ | wp_step))
  refine ⟨rfl, ?_⟩
  refine codeAny_call_builtin_at (Code.quiet_builtin _ (by decide +kernel)) entry_typeCall (wpAny_check_type_call_sub hC (ke_type hC hi hb hz ?_))
  refine codeAny_mono hq fun r s' z => ?_
  rcases r with e | (v | _ | _ | _) <;> exact z
end
end DLK
end PySem
set_option Elab.async false
set_option autoImplicit false
set_option linter.all false
set_option maxRecDepth 100000
set_option maxHeartbeats 3900000
namespace PySem
namespace DLK
open PySem.W PySem.Calls PyProof.Rows PySem.HandSPX PySem.F
open Builtin Builtin.ObjectAttr
theorem ke_pass (self : Value) : refuseLoop self "__setattr__" keTail = pure () := by kernel_rfl
section
variable {prog : Program} {w : World} {A : Around} {R : Result → Shared → Prop} {hp : Heap} {g : Array GenState} {d : Drawn} {t : Nat} {os : OsState} {K : W.Frag} {name : Str} {tk : Tok} {v : Value} {x C : Addr} {fv : Array Value} {cd : ClassData}
theorem ke_store (X : K.In hp) (hx : hp.get? x = some { cls := .ref C, data := .fields fv }) (hcd : W.clsIn K C = some cd) (hm : cd.mro = .ref C :: keTail) (hh : cd.hasDict = true) (ha : W.findIn K (.ref C) name = some none)
    (hq : ∀ h' tk' dx, (∀ b o, b ≠ x → hp.get? b = some o → h'.get? b = some o) → hp.objs.size ≤ dx → dx ≠ x → h'.get? x = some { cls := .ref C, dict := some dx, data := .fields fv } → h'.Ns1 dx (fun y => if y = name then some v else none) → R (.ok (.ret .none)) ⟨h', g, d, tk', os⟩) :
    codeAny (model prog w) A (.call (.builtin "object.__setattr__") ⟨[.ref x, .str name tk, v], []⟩) R ⟨hp, g, d, t, os⟩ := by
  have I : W.InstAt hp x { cls := .ref C, data := .fields fv } C none := ⟨hx, rfl, rfl, trivial⟩
  have G := F.store_object
  have hob : cd.mro.contains (.type "object") = true := by rw [hm]; exact (ke_in _).trans (by decide +kernel)
  have hne : cd.mro.isEmpty = false := by rw [hm]; rfl
  have nx : x ≠ hp.objs.size := Nat.ne_of_lt (Heap.lt_size hx)
  have sb : W.Looks (model prog w) hp (isInstance (.ref x) (.type "object")) true := I.type.andThen (W.looks_mroIn X (by unfold W.mroIn; rw [hcd, Option.bind_some, if_neg (by rw [hne]; decide), hob]))
  refine codeAny_call_builtin G.slot.plain G.entry (@W.check_slot (model prog w) _ _ ⟨hp, g, d, t, os⟩ "object.__setattr__" "object" "__setattr__" (.ref x) [.str name tk, v] [] _ G.kind G.split sb (G.args (.ref x) (.str name tk) v) ?_)
  have m1 : W.Looks (model prog w) hp (mroOf (.ref C)) cd.mro := (W.looks_clsIn X hcd).andThen .now
  have m2 : W.Looks (model prog w) hp (storeTaker? none) none := .now
  have m3 : W.Looks (model prog w) hp (classData C) cd := W.looks_clsIn X hcd
  rw [W.osa_eq, refuse_eq]; refine wpAny_bind (wpAny_bind (I.type.at (wpAny_bind (m1.at ?_))))
  rw [hm, refuseLoop_ref, ke_pass]; refine wpAny_pure (wpAny_bind (I.type.at (wpAny_bind ((W.looks_findIn X ha).at (wpAny_bind (m2.at ?_))))))
  show wpAny _ _ (storeInOwnDict (.ref x) (.ref C) (.str name tk) name v false) _ _ _
  obtain ⟨nm, bs, mro, ns, qn, hd, sn, sb', ab, col, del⟩ := cd
  dsimp only at hh; subst hh; unfold storeInOwnDict ownDictForStores
  repeat (first | with_reducible refine store_in_new ?_ ?_ | with_reducible refine wpAny_loadPart_at hx ?_ | with_reducible refine m3.at ?_ | wp_step)
  · exact ⟨_, #[], _, (Heap.get?_update_ne _ _ _ _ nx.symm).trans (Heap.get?_push_at rfl rfl), rfl, fun e he => absurd he (by simp), fun _ => rfl⟩
  · intro h' tk' hn' hs
    have hx1 : (hp.push { cls := .type "dict", data := .dict #[] }).get? x = some { cls := .ref C, data := .fields fv } := Heap.get?_push_of_some _ hx
    refine hq h' tk' hp.objs.size (fun b o hb ho => ?_) (Nat.le_refl _) nx.symm ?_ hn'
    · exact (hs.2 b (Nat.ne_of_lt (Heap.lt_size ho))).trans ((Heap.get?_update_ne _ _ _ _ hb).trans (Heap.get?_push_of_some _ ho))
    · exact (hs.2 x nx).trans (Heap.get?_update_self _ hx1 rfl)
end
end DLK
end PySem
namespace L2
open PySem PySem.Spec PyProof.Rows PySem.DLK
structure OexK (K : PySem.W.Frag) (C : Addr) : Prop where
  cls : ∃ nm q N bs sn sub ab col dd k0 k1 k2 k3 k5, K.lookup C = some (excClassObj nm q C N bs keTail true sn sub ab col dd k0 k1 k2 k3 k5 "LookupError.__new__")
  sa : PySem.W.findIn K (.ref C) "__setattr__" = some (some (.builtin "object.__setattr__"))
  exC : PySem.W.subIn K (.ref C) (.type "BaseException") = some true
  tyC : PySem.W.typeIn K (.ref C) = some (.type "type")
  kC : PySem.W.keepIn K (.ref C) = true
section
variable {X : Cx} {pins : List (Addr × Obj)} {σ : St} {H : Hp} {s : Shared} {a C dx : Addr} {f : Str} {y : V} {u : Value} {Q : Unit → Shared → Prop} {E : Value → Shared → Prop} {A : Around}
/-- self.f = y -/
theorem ke_ost (T : OexK X.K C) (I : Inv X pins σ H s) (e : H a = some (exo a C none)) (hno : PySem.W.findIn X.K (.ref C) f = some none) (ry : RelV y u) (h : ∀ dx s', H dx = none → dx ≠ a → Inv X pins σ (upd (upd H dx (exd dx [(f, y)])) a (exo a C (some dx))) s' → Q () s') :
    wpAny (model X.prog X.w) A (setAttr (.ref a) f u) Q E s := by
  obtain ⟨nm, q, N, bs, sn, sub, ab, col, dd, k0, k1, k2, k3, k5, hC⟩ := T.cls
  have hcl : PySem.W.clsIn X.K C = some { name := nm, bases := bs, mro := .ref C :: keTail, ns := N, qualname := q, hasDict := true, slotNames := sn, subclasses := sub, abstract := ab, collection := col, hasDel := false } := by unfold PySem.W.clsIn; rw [hC] <;> rfl
  obtain ⟨t1, ho⟩ := exo_at I.hok e
  obtain ⟨hp, g, d, t, os⟩ := s
  refine PySem.W.set_plain I.kIn (ox := { cls := .ref C, dict := none, data := .fields #[.ref t1, .none, .none, .none, .bool false, .none] }) (od := none) ⟨ho, rfl, rfl, trivial⟩ T.sa ?_
  refine ke_store I.kIn ho hcl rfl rfl hno fun h' tk' dx k dn dne hx hn => ?_
  have n1 : H dx = none := I.hok.fresh dn
  have n2 : ∀ {b : Addr} {o : Obj}, hp.get? b = some o → b ≠ dx := fun {b o} q => Nat.ne_of_lt (Nat.lt_of_lt_of_le (Heap.lt_size q) dn)
  have n3 : ∀ {b : Addr}, H b = none → b ≠ a := fun {b} n z => by rw [z, e] at n; cases n
  have U : Un X.fs [] H (upd (upd H dx (exd dx [(f, y)])) a (exo a C (some dx))) hp h' := by
    refine ⟨fun b o q n _ _ => k b o (n3 n) q, fun b o q n _ _ => ⟨o.slots, k b o (n3 n) q⟩, fun b o q n _ => by rw [upd_ne (n3 n), upd_ne (n2 q)]; exact n, fun b o q _ => ?_, fun b xs q => ?_, fun b o v q => ?_, fun b ps q => ⟨#[], ?_⟩⟩
    · by_cases hb : b = a
      · exact ⟨_, by rw [hb]; exact hx⟩
      · exact ⟨o, k b o hb q⟩
    · rw [upd_ne (at_ne e q exo_tup), upd_ne (ne_of_none q n1)]; exact q
    · rw [upd_ne (at_ne e q exo_frz), upd_ne (ne_of_none q n1)]; exact q
    · rw [upd_ne (at_ne e q exo_tbl), upd_ne (ne_of_none q n1), q]; simp
  refine h dx _ n1 dne (I.un (t' := tk') U fun b o q => ?_)
  by_cases hb : b = a
  · subst hb; rw [upd_same] at q; cases q; exact exo_ok hx
  · rw [upd_ne hb] at q
    by_cases hd : b = dx
    · subst hd; rw [upd_same] at q; cases q; exact exd_ok hn (relO_put (fs := []) ry fun g => True.intro)
    · rw [upd_ne hd] at q
      refine (I.hok b o q).stay (fun c v hc z => k c v ?_ z) (fun c hc => by rw [upd_ne (at_ne e hc exo_own), upd_ne (ne_of_none hc n1)]; exact hc) (fun c xs hc => by rw [upd_ne (at_ne e hc exo_tup), upd_ne (ne_of_none hc n1)]; exact hc)
      rcases hc with hc | hc
      · rw [hc]; exact hb
      · exact at_ne e hc exo_own
/-- the reading of self.f = e in such an __init__ -/
def tOstK (K : PySem.W.Frag) (f : Str) (to te : TE) : TS := fun D σ H => te σ H fun y H1 => to σ H1 fun x H2 => ∃ a C : Addr, x = .ref a ∧ OexK K C ∧ PySem.W.findIn K (.ref C) f = some none ∧
  H2 a = some (exo a C none) ∧ ∀ dx, H2 dx = none → dx ≠ a → D.nx σ (upd (upd H2 dx (exd dx [(f, y)])) a (exo a C (some dx)))
theorem ps_ostK {o e : Expr} {to te : TE} {p' pos : Pos} (ho : PE X o to) (he : PE X e te) (hs : swapsWith e (some (.Attribute o f p')) pos.line X.env = pure false := by rfl) : PS X (.Assign [.Attribute o f p'] e pos) (tOstK X.K f to te) := by
  constructor; intro pins s σ H D I h
  refine plainObj_wpAny_Assign_Attribute (thn (he.run pins s σ H _ I h) fun v s1 ⟨y, H1, I1, r1, q1⟩ => thn (ho.run pins s1 σ H1 _ I1 q1) fun u s2 ⟨x, H2, I2, r2, a, C, ex, T, hno, ea, q⟩ => ?_) hs
  subst ex
  obtain rfl : u = Value.ref a := r2
  exact ke_ost T I2 ea hno r1 fun dx s' n ne J => ⟨σ, _, J, q dx n ne⟩
theorem pmk_oexK {CX : CXT} {x : Str} {fI : Addr} {k : Nat} {fd : FuncData} {ps : List Str} {sp : Sp} {e : Expr} {es : List Expr} {ta : TA} {p pos : Pos} (T : OexK X.K C) (iC : PySem.W.findIn X.K (.ref C) "__init__" = some (some (.ref fI))) (tI : PySem.W.typeIn X.K (.ref fI) = some (.type "function"))
    (F1 : FnOk X.prog X.w X.K X.mg X.base CX k fI fd ps sp) (hr : Room (k + 1) X.A) (hb : Binds X.K fd ps []) (hx : Passes CX X (fun _ _ _ => False)) (hg : Gl X x) (hm : X.mg x = some (.ref C)) (ha : PA X (e :: es) ta) (hdb : (x == ("__debug__" : Str)) = false := by decide)
    (he : starEach (e :: es) X.env = (false, eval e X.env) :: starEach es X.env := by rfl) (hpl : (backTo pos (starEach es X.env)).any (·.1) = false := by rfl) : PMk X (.Call (.Name x p) (e :: es) [] pos) (tMkO C sp [] ta) := by
  intro pins s σ H Q I h
  obtain ⟨nm, q, N, bs, sn, sub, ab, col, dd, k0, k1, k2, k3, k5, hC⟩ := T.cls
  refine wpAny_Call_Name_kw (ld_glob I hg hm ?_ hdb) <;> refine PySem.W.callWith_K (h₀ := X.base) I.ok.mod.kin T.kC (thn (ha.run pos pins s σ H _ I h) fun us s1 ⟨vs, H1, I1, r1, hz, q1⟩ => ⟨I1.kIn, ?_⟩) he hpl
  show wpAny _ _ (call (.ref C) us) _ _ _
  obtain ⟨hp, g, dr, tk, os⟩ := s1
  have z1 : hp.objs.size ≤ hp.objs.size + 1 := Nat.le_succ _
  have z2 : H1 (hp.objs.size + 1) = none := I1.hok.fresh z1
  have z3 := q1 (hp.objs.size + 1) z2
  rw [List.append_nil] at z3
  have kk : ∀ b o, hp.get? b = some o → ((hp.push (PySem.W.kdv_tup us)).push (keO C hp.objs.size)).get? b = some o := fun b o e => Heap.get?_push_of_some _ (Heap.get?_push_of_some _ e)
  have z4 : ((hp.push (PySem.W.kdv_tup us)).push (keO C hp.objs.size)).get? (hp.objs.size + 1) = some (keO C hp.objs.size) := by heap_get
  have I2 : Inv X pins σ (upd H1 (hp.objs.size + 1) (exo (hp.objs.size + 1) C none)) ⟨(hp.push (PySem.W.kdv_tup us)).push (keO C hp.objs.size), g, dr, tk, os⟩ :=
    I1.laid (t' := tk) (a := hp.objs.size + 1) (o := exo (hp.objs.size + 1) C none) (h' := (hp.push (PySem.W.kdv_tup us)).push (keO C hp.objs.size)) kk z1 (exo_ok z4)
  have r2 : Vals (V.ref (hp.objs.size + 1) :: vs) (Value.ref (hp.objs.size + 1) :: us) := .cons rfl r1
  have hl : (Value.ref (hp.objs.size + 1) :: us).length + ([] : List Value).length = ps.length := by have e := r2.length; rw [F1.len _ _ _ _ z3] at e; exact e.symm
  have hus : us.length ≤ sizeLine := by rw [← Paired.length r1, sizeLine_eq]; omega
  have bt := hb _ (Value.ref (hp.objs.size + 1) :: us) I2.kIn (by rw [List.append_nil]; exact hl)
  rw [List.append_nil] at bt
  refine wpAny_call (ke_call (I1.kIn _ _ hC) (PySem.W.looks_findIn I1.kIn iC) (fun self => PySem.W.bind_fn I1.kIn self tI) hus
    (codeAny_mono (F1.run _ X.stack _ _ ⟨Value.ref (hp.objs.size + 1) :: us, []⟩ (Value.ref (hp.objs.size + 1) :: us) _ _ (fun _ _ _ => False) (hr.make C us []) (I2.env0.make C us []) bt r2 z3) fun r s' hq' => ?_))
  cases r with
  | error er => exact hx pins σ _ _ er s' I2 hq'
  | ok fl =>
    cases fl with
    | ret u =>
      obtain ⟨v, H2, os2, bare2, un2, hok2, rv, ev, d, fs, ea, ed, hd1, q2⟩ := hq'
      subst ev
      obtain ⟨h2, g2, d2, t2, os'⟩ := s'
      exact ⟨rv, mk_end (raises_own T.exC T.tyC) I1 z1 kk un2 hok2 os2 bare2 ea ed hd1 q2⟩
    | next => cases hq'
    | brk => cases hq'
    | cont => cases hq'
end
end L2
set_option Elab.async false
set_option autoImplicit false
set_option linter.all false
set_option maxRecDepth 100000
set_option maxHeartbeats 3900000
namespace DL
open L2 PyProof.Rows PySem PySem.Spec
variable {τ : Tb}
/-! ### errors: raised, caught, looked at -/
section
variable {K : Fg} {S F H : Hp} {ρ : Rho} {σ : L2.St}
/-- a slot is emptied -/
theorem ER.unset (e : ER K τ S F H ρ σ) (i : Nat) : ER K τ S F H (ρ.set i .un) (σ.set i none) := by
  have nu : ∀ {j : Nat} {s : Sl}, s ≠ .un → (ρ.set i .un)[j]? = some s → ρ[j]? = some s ∧ j ≠ i := fun {j s} hs q => by
    by_cases hj : j = i
    · subst hj
      have hl : j < ρ.length := by
        have := (List.getElem?_eq_some_iff.mp q).1
        rwa [List.length_set] at this
      rw [List.getElem?_set_self hl] at q
      exact absurd (Option.some.inj q).symm hs
    · rw [List.getElem?_set_ne (Ne.symm hj)] at q
      exact ⟨q, hj⟩
  refine ⟨by rw [List.length_set, List.length_set]; exact e.len, e.ex, e.fr, fun j d q => ?_, fun j m o q => ?_, fun j k m o1 o2 q1 q2 => ?_, e.tb⟩
  · obtain ⟨q, hj⟩ := nu (by intro z; cases z) q
    rw [List.getElem?_set_ne (Ne.symm hj)]; exact e.val j d q
  · obtain ⟨q, hj⟩ := nu (by intro z; cases z) q
    rw [List.getElem?_set_ne (Ne.symm hj)]; exact e.own j m o q
  · exact e.dis _ _ _ _ _ (nu (by intro z; cases z) q1).1 (nu (by intro z; cases z) q2).1
end

/-- an own error class over ValueError or over KeyError -/
def OexA (K : Fg) (C : Addr) : Prop := OexC K C ∨ OexK K C
/-- __init__ of an error that keeps one thing: self.f = y -/
def spIni (K : Fg) (f : Str) : Sp := fun vs H Q _ => ∃ (a C : Addr) (y : V), vs = [.ref a, y] ∧ H a = some (exo a C none) ∧ OexA K C ∧ PySem.W.findIn K (.ref C) f = some none ∧
  ∀ d, H d = none → d ≠ a → Q .non (upd (upd H d (exd d [(f, y)])) a (exo a C (some d)))
section
variable {P : Program} {w : World} {K : Fg} {mg : Str → Option Value} {base : Heap} {x qual : Str} {params : Arguments} {scope : Scope} {dvs : List V} {kws : List (Str × V)} {fa : Addr} {fd : FuncData} {f s : Str} {k : Nat}
theorem ini_ok {p1 p2 p3 p4 : Pos} (F : FunD K x qual params [.Assign [.Attribute (.Name s p1) f p2] (.Name f p3) p4] scope dvs kws fa fd) (S : FnScope [s, f] [s, f] scope)
    (h0 : Vis scope s) (h1 : Vis scope f) (d0 : ((s == ("__debug__" : Str)) || (s == ("__classdict__" : Str))) = false := by decide) (d1 : ((f == ("__debug__" : Str)) || (f == ("__classdict__" : Str))) = false := by decide) :
    FnOk P w K mg base (L2.CX P w) (k + 1) fa fd [s, f] (spIni K f) := by
  obtain ⟨a0, b0⟩ := Bool.or_eq_false_iff.mp d0
  obtain ⟨a1, b1⟩ := Bool.or_eq_false_iff.mp d1
  refine F.ok S (fun vs H Q E ⟨a, C, y, e, _⟩ => by subst e; rfl) fun cdv A outer s0 H vs Q E hr ⟨a, C, y, e, ea, T, hno, q⟩ => ?_
  subst e
  rcases T with T | T
  · exact ⟨_, pss_one (ps_ost (pe_var (i := 0) rfl h0 a0 b0) (pe_var (i := 1) rfl h1 a1 b1)), y, rfl, .ref a, rfl, a, C, rfl, T, hno, .inl ⟨ea, q⟩⟩
  · exact ⟨_, pss_one (ps_ostK (pe_var (i := 0) rfl h0 a0 b0) (pe_var (i := 1) rfl h1 a1 b1)), y, rfl, .ref a, rfl, a, C, rfl, T, hno, ea, q⟩
end

/-- raise C(e) -/
def wRaise (C : Addr) (f : Str) (wa : WL) : WS := fun ρ Δ => wa ρ Δ.xc fun ds ρ1 => match ds with
  | [d] => Δ.xc C f d ρ1
  | _ => False
structure ErrC (K : Fg) (C fI : Addr) (f : Str) : Prop where
  T : OexA K C
  iC : PySem.W.findIn K (.ref C) "__init__" = some (some (.ref fI))
  tI : PySem.W.typeIn K (.ref fI) = some (.type "function")
  no : PySem.W.findIn K (.ref C) f = some none
section
variable {X : Cx} {W : WX} {k : Nat} {C fI : Addr} {fd : FuncData} {f s x : Str} {e : Expr} {p p2 pos : Pos} {wa : WL}
theorem l_raise (hC : ErrC X.K C fI f) : ∀ D σ H, lS X.K τ W (wRaise C f wa) D σ H → (fun (_ : Ends) σ H => tMkO C (spIni X.K f) [] (lL X.K τ W wa) σ H fun cls d H' => W cls d σ H') D σ H := by
  rintro D σ H ⟨ρ, S, F, Δ, e, hw, hx, -⟩
  refine ⟨ρ, S, F, _, _, e, hw, hx, fun vs ds ρ' S' H' q s' iv e' => ?_⟩
  match ds, q, iv with
  | [d], q, .cons (v := y) r .nil =>
    refine ⟨by simp, fun a ha => ⟨a, C, y, rfl, upd_same, hC.T, hC.no, fun dd h1 h2 => ⟨rfl, dd, _, upd_same, by rw [upd_ne h2]; exact upd_same, ?_, ?_⟩⟩⟩
    · rw [upd_ne h2] at h1; exact h1
    · rw [upd_ne h2] at h1
      have hz : upd (del (upd (upd (upd H' a (exo a C none)) dd (exd dd [(f, y)])) a (exo a C (some dd))) a) dd (.xd [(f, y)]) = upd H' dd (.xd [(f, y)]) := by
        funext b
        by_cases hb : b = dd
        · subst hb; rw [upd_same, upd_same]
        · rw [upd_ne hb, upd_ne hb]
          by_cases hba : b = a
          · subst hba; rw [del_same, ha]
          · rw [del_ne hba, upd_ne hba, upd_ne hb, upd_ne hba]
      rw [hz]
      exact hx C f d y dd ρ' (upd S' dd (.xd [(f, y)])) σ _ q (s'.trans (e'.sn h1)) (e'.new h1) upd_same (r.mono (e'.sn h1))
theorem ps_rs (hc : X.calm = true) (c : Cok X W (k + 1)) (hC : ErrC X.K C fI f) (F1 : FnOk X.prog X.w X.K X.mg X.base (L2.CX X.prog X.w) k fI fd [s, f] (spIni X.K f)) (hb : Binds X.K fd [s, f] []) (hx : Passes (L2.CX X.prog X.w) X (fun _ _ _ => False))
    (hg : Gl X x) (hm : X.mg x = some (.ref C)) (ha : PA X [e] (lL X.K τ W wa)) (hdb : (x == ("__debug__" : Str)) = false := by decide) (he : starEach [e] X.env = [(false, eval e X.env)] := by rfl) :
    PS X (.Raise (some (.Call (.Name x p) [e] [] pos)) none p2) (lS X.K τ W (wRaise C f wa)) :=
  hC.T.elim (fun T => PS.imp (ps_raise hc c.tk (pmk_oex (k := k) T hC.iC hC.tI F1 c.rm hb .nil hx hg hm ha hdb he rfl)) (l_raise hC))
    fun T => PS.imp (ps_raise hc c.tk (pmk_oexK (k := k) T hC.iC hC.tI F1 c.rm hb hx hg hm ha hdb he rfl)) (l_raise hC)
end

/-! ### try .. except C as n -/
def exmD (K : Fg) (C : Addr) (c : Value) : Option Bool := PySem.W.exmOne K (.ref C) c
def wTry (K : Fg) (c : Value) (i : Nat) (wb : WS) (ws : Addr → Value → Option Addr → WS) : WS := fun ρ Δ => wb ρ { Δ with
  xc := fun C f d ρ1 => ∃ b, exmD K C c = some b ∧
    (b = true → ∀ a dd, ws a (.ref C) (some dd) (ρ1.set i (.val (.exn (.ref a) dd f d))) { Δ with nx := fun ρ2 => Δ.nx (ρ2.set i .un), bk := fun ρ2 => Δ.bk (ρ2.set i .un), ct := fun ρ2 => Δ.ct (ρ2.set i .un) }) ∧
    (b = false → Δ.xc C f d ρ1) }
section
variable {K : Fg} {W : WX} {c : Value} {i : Nat} {wb : WS} {ws : Addr → Value → Option Addr → WS}
theorem l_try : ∀ D σ H, lS K τ W (wTry K c i wb ws) D σ H → (fun D σ H => lS K τ (wAs K c i (fun a cls d => lS K τ W (ws a cls d)) W D) wb D σ H) D σ H := by
  rintro D σ H ⟨ρ, S, F, Δ, e, hw, hx, h1, h2, h3, h4, h5⟩
  refine ⟨ρ, S, F, _, e, hw, fun C f d v dd ρ' S' σ' H' q s' e' hd hv => ?_, h1, h2, h3, h4, h5⟩
  obtain ⟨b, hb, yes, no⟩ := q
  refine ⟨b, hb, fun hy a ha => ?_, fun hn => hx C f d v dd ρ' S' σ' H' (no hn) s' e' hd hv⟩
  refine ⟨_, S', F, _, e'.set (v := .ref a) (i := i) (.exn (v := .ref a) hd hv), yes hy a dd, hx.mono s', fun ρ2 S2 σ2 H2 a b c => h1 _ S2 _ H2 a (s'.trans b) (c.unset i), fun d v ρ2 S2 σ2 H2 a b c f => h2 d v ρ2 S2 σ2 H2 a (s'.trans b) c f,
    fun ρ2 S2 σ2 H2 a b c => h3 _ S2 _ H2 a (s'.trans b) (c.unset i), fun ρ2 S2 σ2 H2 a b c => h4 _ S2 _ H2 a (s'.trans b) (c.unset i), fun l od o ρ2 S2 σ2 H2 a b => h5 l od o ρ2 S2 σ2 H2 a (s'.trans b)⟩
end
theorem Cok.tr {X : Cx} {W W' : WX} {k : Nat} (c : Cok X W k) (pn : List (Addr × Obj)) (xe : Value → Shared → Prop) (t : Takes (X.tr pn xe) W') : Cok (X.tr pn xe) W' k := ⟨t, c.gd, c.rm⟩

/-- e.f in the suite -/
def wXf (a : Addr) (cls : Value) (dO : Option Addr) (C : Addr) (f : Str) (wa : WE) : WE := fun ρ χ Φ => wa ρ χ fun x ρ1 => match x with
  | .exn v dd f' d => v = .ref a ∧ cls = .ref C ∧ dO = some dd ∧ f' = f ∧ Φ d ρ1
  | _ => False
theorem l_xf {K : Fg} {W : WX} {a C : Addr} {cls : Value} {dO : Option Addr} {f : Str} {wa : WE} : ∀ σ H Q, lE K τ W (wXf a cls dO C f wa) σ H Q → tXf a cls dO C f (lE K τ W wa) σ H Q := by
  rintro σ H Q ⟨ρ, S, F, χ, Φ, e, hw, hx, hp⟩
  refine ⟨ρ, S, F, χ, _, e, hw, hx, fun v d ρ' S' H' q s' iv e' => ?_⟩
  cases iv with
  | exn h1 h2 =>
    obtain ⟨rfl, hc, rfl, rfl, q⟩ := q
    exact ⟨rfl, hc, _, _, _, rfl, e'.ex _ _ h1, by simp [List.lookup], hp _ _ ρ' S' H' q s' h2 e'⟩
  | _ => exact False.elim q
/-- isinstance(e, D): e the caught error -/
def rIsX (K : Fg) (cls : Value) (dO : Option Addr) (a : Addr) : List V → Hp → VK → Prop := fun xs H Q => ∃ (C : Addr) (c : V) (cv : Value) (dd : Addr) (fs : List (Str × V)) (b : Bool), xs = [.ref a, c] ∧ cls = .ref C ∧ dO = some dd ∧ H dd = some (.xd fs) ∧ ClsV c cv ∧ ExcC K C ∧
  PySem.W.kitOne K (.ref C) cv = some b ∧ Q (.bl b) H
theorem call_isX {X : Cx} {a : Addr} {cls : Value} {dO : Option Addr} {oe : Obj} {pn : List (Addr × Obj)} (hz : Zc cls dO oe) (hf : ∃ vs, oe.data = .fields vs) : CallR (X.suite a ((a, oe) :: pn)) (.builtin "isinstance") (rIsX X.K cls dO a) := by
  rintro pins s σ H xs us Q I r ⟨C, c, cv, dd, fs, b, rfl, rfl, rfl, ea, hcv, C0, e, q⟩
  cases r with
  | cons rx rr =>
    cases rr with
    | cons rt rr =>
      cases rr; cases rx; cases hcv.eq rt
      have hget := (I.pin (a, oe) (List.mem_append_left pins List.mem_cons_self)).1
      obtain ⟨vs, hv⟩ := hf
      obtain ⟨mA, hns, hr⟩ := (show ObjOk X.prog X.w H s.heap dd (.xd fs) from I.hok dd _ ea)
      obtain ⟨od, ho, -⟩ := lookIn_ns hns
      have J : PySem.W.InstAt s.heap a oe C (some od) := ⟨hget, hz.1, by unfold PySem.W.notCls; rw [hv] <;> rfl, by rw [hz.2]; exact ho⟩
      exact PySem.W.kia_one (PySem.W.kitx_exc (by obtain ⟨cd, hc, _⟩ := PySem.W.any_some C0.hd; rw [hc]; rfl) C0.hg C0.hk C0.hs C0.ha C0.hn C0.ht C0.hm) I.kIn J e (fun z => nomatch z) fun tk => ⟨.bl b, H, I.kept (t' := tk) fun _ _ z => z, rfl, q⟩
def rIsXD (K : Fg) (cls : Value) (dO : Option Addr) (a : Addr) : List D → (D → Prop) → Prop := fun ds Φ => match ds with
  | [.exn v dd _ _, .raw c] => v = .ref a ∧ dO = some dd ∧ ∃ (C : Addr) (cv : Value) (b : Bool), cls = .ref C ∧ ClsV c cv ∧ ExcC K C ∧ PySem.W.kitOne K (.ref C) cv = some b ∧ Φ (.bl b)
  | _ => False
theorem ok_isX {K : Fg} {cls : Value} {dO : Option Addr} {a : Addr} : CallOk K τ (rIsX K cls dO a) (rIsXD K cls dO a) := by
  intro S F H ρ σ vs ds Φ Q e hi hw hp
  unfold rIsXD at hw
  split at hw
  · cases hi with
    | cons r1 hi => cases hi with
      | cons r2 hi =>
        cases hi; cases r1 with
        | exn h1 h2 =>
          cases r2
          obtain ⟨rfl, rfl, C, cv, b, rfl, hc, hC, hk, q⟩ := hw
          exact ⟨C, _, cv, _, _, b, rfl, rfl, rfl, e.ex _ _ h1, hc, hC, hk, hp _ _ S H q (Same.refl S) (.bl b) e⟩
  · exact hw.elim
end DL
set_option Elab.async false
set_option autoImplicit false
set_option linter.all false
set_option maxRecDepth 100000
set_option maxHeartbeats 3900000
namespace DL
open L2 PyProof.Rows PySem PySem.Spec
variable {τ : Tb}
/-! ### isinstance(x, C), isinstance(x, (C1, C2)) -/
structure InsC (K : Fg) (C : Addr) : Prop where
  cl : Cls K C
  ha : some (some (.builtin "object.__class__")) = PySem.W.findIn K (.ref C) "__class__"
  hn : some (some (.builtin "getset_descriptor.__get__")) = PySem.W.specialIn K (.builtin "object.__class__") "__get__"
  ht : some true = PySem.W.takesIn K (.builtin "object.__class__")
  hm : some true = PySem.W.mroIn K C (.type "object")
inductive DTy (K : Fg) : D → Value → Prop
  | non : DTy K .non (.type "NoneType")
  | bl (b : Bool) : DTy K (.bl b) (.type "bool")
  | int (i : Int) : DTy K (.int i) (.type "int")
  | str (s : Str) : DTy K (.str s) (.type "str")
  | lst (ds : List D) : DTy K (.lst ds) (.type "list")
  | tup (ds : List D) : DTy K (.tup ds) (.type "tuple")
  | dic (ks : List Key) (ds : List D) : DTy K (.dic ks ds) (.type "dict")
  | obj {C : Addr} (ns : List Str) (ds : List D) (h : InsC K C) : DTy K (.obj C ns ds) (.ref C)
theorem DTy.of {K : Fg} {S H : Hp} {v : V} {d : D} {t : Value} (h : DTy K d t) (iv : Is K S v d) (ex : Same S H) : TyX K H v t := by
  refine .base ?_
  cases h with
  | obj ns ds h => cases iv with
    | obj h1 h2 h3 => exact .ins (ex _ _ h1) h.cl h.ha.symm h.hn.symm h.ht.symm h.hm.symm
  | lst ds => cases iv with
    | lst h1 h2 => exact .lst (ex _ _ h1)
  | tup ds => cases iv with
    | tup h1 h2 => exact .tup (ex _ _ h1)
  | dic ks ds => cases iv with
    | dic h1 h2 h3 => exact .dK (ex _ _ h1)
  | non => cases iv; exact .non
  | bl b => cases iv; exact .bl b
  | int i => cases iv; exact .int i
  | str s => cases iv; exact .str s
def wIsI (K : Fg) : WCl := fun ds Φ => match ds with
  | [x, .raw c] => ∃ (u t : Value) (b : Bool), ClsV c u ∧ DTy K x t ∧ PySem.W.kitOne K t u = some b ∧ Φ (.bl b)
  | _ => False
theorem ok_isI {K : Fg} : CallOk K τ (rIsi K) (wIsI K) := by
  intro S F H ρ σ vs ds Φ Q e hi hw hp
  unfold wIsI at hw
  split at hw
  · obtain ⟨u, t, b, hc, ht, hk, q⟩ := hw
    cases hi with
    | cons r1 hi => cases hi with
      | cons r2 hi =>
        cases hi; cases r2
        exact ⟨_, _, t, u, b, rfl, hc, ht.of r1 e.ex, hk, hp _ _ S H q (Same.refl S) (.bl b) e⟩
  · exact hw.elim
inductive RawAll : List D → List V → Prop
  | nil : RawAll [] []
  | cons (v : V) {ds vs} : RawAll ds vs → RawAll (.raw v :: ds) (v :: vs)
theorem RawAll.of {K : Fg} {S : Hp} : ∀ {ds : List D} {vs ws : List V}, RawAll ds vs → IsAll K S ws ds → ws = vs
  | _, _, _, .nil, .nil => rfl
  | _, _, _, .cons v h, .cons r t => by cases r; rw [h.of t]
def wIsT (K : Fg) : WCl := fun ds Φ => match ds with
  | [x, .tup cs] => ∃ (vs : List V) (us : List Value) (t : Value) (b : Bool), RawAll cs vs ∧ Paired ClsV vs us ∧ DTy K x t ∧ PySem.W.kitAny K t us = some b ∧ Φ (.bl b)
  | _ => False
theorem ok_isT {K : Fg} : CallOk K τ (rIsiT K) (wIsT K) := by
  intro S F H ρ σ vs ds Φ Q e hi hw hp
  unfold wIsT at hw
  split at hw
  · obtain ⟨vs, us, t, b, hr, hc, ht, hk, q⟩ := hw
    cases hi with
    | cons r1 hi => cases hi with
      | cons r2 hi =>
        cases hi; cases r2 with
        | tup h1 h2 =>
          cases hr.of h2
          exact ⟨_, _, _, t, us, b, rfl, e.ex _ _ h1, hc, ht.of r1 e.ex, hk, hp _ _ S H q (Same.refl S) (.bl b) e⟩
  · exact hw.elim

/-! ### enumerate of a tuple -/
theorem enum_new {v : Value} {o : Obj} {J : Heap → Prop} (B : PySem.Begins v o J) :
    Meets (Builtin.«enumerate.__new__» ⟨[.type "enumerate", v], []⟩) (fun _ R s => J s.heap ∧
      R (.ok (.ret (.ref (s.heap.objs.size + 1)))) { s with heap := (s.heap.push o).push { cls := .type "enumerate", data := .fields #[.none, .bool false, .ref s.heap.objs.size, rawInt 0, .none, .none] } }) :=
  .of_wp fun prog w A R s j0 => by
    rcases s with ⟨hp, gs, dr, tks, os⟩
    obtain ⟨j, h⟩ := j0
    have hsub := sub_enumerate
    have z : (hp.push o).objs.size = hp.objs.size + 1 := Heap.size_push ..
    have it0 : ∀ {A' : Around} {E Q : Value → Shared → Prop}, Q (.ref hp.objs.size) ⟨hp.push o, gs, dr, tks, os⟩ → wpAny (model prog w) A' (pyIter v) Q E ⟨hp, gs, dr, tks, os⟩ := fun q => B.iter _ _ _ _ _ _ j q
    have fin : R (.ok (.ret (.ref (hp.push o).objs.size))) ⟨(hp.push o).push { cls := .type "enumerate", data := .fields #[.none, .bool false, .ref hp.objs.size, rawInt 0, .none, .none] }, gs, dr, tks, os⟩ := by rw [z]; exact h
    wp_walk using it0
    refine wpAny_stack_any fun _ => wpAny_pure ?_; split
    · rename_i c _ _ _ _ _
      cases (c == Value.type "enumerate") <;> (wp_walk using it0; exact ⟨_, rfl, fin⟩)
    · wp_walk using it0
      exact ⟨_, rfl, fin⟩
theorem call_enum {prog : Program} {w : World} {A : Around} {E Q : Value → Shared → Prop} {s : Shared} {v : Value} {o : Obj} {J : Heap → Prop} (B : PySem.Begins v o J) (j : J s.heap)
    (h : ∀ h', IsEnum h' (s.heap.objs.size + 1) s.heap.objs.size 0 .none → h'.get? s.heap.objs.size = some o → (∀ b o, s.heap.get? b = some o → h'.get? b = some o) → Q (.ref (s.heap.objs.size + 1)) { s with heap := h' }) :
    wpAny (model prog w) A (call (.type "enumerate") [v]) Q E s := by
  have z : (s.heap.push o).objs.size = s.heap.objs.size + 1 := Heap.size_push ..
  have he : IsEnum ((s.heap.push o).push { cls := .type "enumerate", data := .fields #[.none, .bool false, .ref s.heap.objs.size, rawInt 0, .none, .none] }) (s.heap.objs.size + 1) s.heap.objs.size 0 .none := by
    rw [← z]; exact Heap.get?_push_size _ rfl
  exact callType_new F.called_enumerate (by decide) (F.typeCall_enumerate_1 _) (F.newCall_enumerate_1 _) (fun ob => F.args_object_init_2 ob _) F.entry_enumerate_new (enum_new B)
    ⟨j, ⟨_, he, rfl⟩, h _ he (Heap.get?_push_of_some _ (Heap.get?_push_size _ B.free)) fun b o x => Heap.get?_push_of_some _ (Heap.get?_push_of_some _ x)⟩

/-- the tuple at a, each item in a new pair with its place -/
def Iet (K : Fg) (a : Addr) : It :=
  ⟨fun i H => ∃ (xs : List V) (x : V), SqT K H a xs ∧ xs[i]? = some x, fun i H v H' => ∃ T x, v = .ref T ∧ H T = none ∧ H' = upd H T (.tup [.int (i : Nat), x]) ∧ ∀ xs, SqT K H a xs → xs[i]? = some x, fun i H => ∃ xs : List V, SqT K H a xs ∧ xs.length = i⟩
theorem turn_enumT {P : Program} {w : World} {K : Fg} {elts : List Expr} {kk : Nat} {tpos : Pos} (a e it : Addr) :
    Turn P w K (.Tuple elts kk tpos) (Iet K a) [e, it] e (fun i h => (∃ old, IsEnum h e it ((i : Nat) : Int) old) ∧ h.IsTupleIter it a i ∧ e ≠ it ∧ a ≠ it ∧ e ≠ a) where
  mem := List.mem_cons_self
  obj := by
    rintro i h ⟨⟨old, he⟩, ⟨o, ho, hc, hd⟩, -⟩ b hb
    obtain rfl | hb := List.mem_cons.mp hb
    · exact ⟨_, he, fun v q => nomatch q⟩
    · cases List.mem_singleton.mp hb
      exact ⟨o, ho, fun v q => nomatch hd.symm.trans q⟩
  keep := by
    rintro i h h' ⟨⟨old, he⟩, hi, hne⟩ k
    exact ⟨⟨old, k e List.mem_cons_self _ he⟩, hi.at fun o q => k it (List.mem_cons_of_mem _ List.mem_cons_self) o q, hne⟩
  item := by
    rintro X rfl rfl rfl hc i pins s σ H E I hf ⟨⟨old, he⟩, hit, hne, hai, hea⟩ ⟨xs, x, hq, hx⟩
    obtain ⟨its, rv, p, -⟩ := I.tuple hq
    have ⟨u, hu, ru⟩ := rv.get hx
    have hlt : i < its.toArray.size := by
      have := (List.getElem?_eq_some_iff.mp hu).1
      simpa using this
    have hel := Heap.lt_size he
    have hil : it < s.heap.objs.size := let ⟨_, q, _⟩ := hit; Heap.lt_size q
    refine wpAny_pyNext_enum_itemD (Draws.tuple (show X.A.in1.handled = none from I.ok.hd hc) it a hai its.toArray) he ⟨hit, p⟩ hlt hne (by simp [hne, hea]) fun y h' tk hy ho st' hT hsz hk => ?_
    have ey : y = u := by
      have : its.toArray[i]? = some u := by simpa using hu
      rw [this] at hy; exact (Option.some.inj hy).symm
    subst ey
    refine ⟨_, rfl, wpAny_letOwnedTupleGo_enum (s := { s with heap := h', toks := tk + 1 }) ho fun h'' he' sb => ?_⟩
    have hT2 : h''.get? s.heap.objs.size = some { cls := .type "tuple", data := .seq #[.int i tk, y] } := (sb.2 _ (Nat.ne_of_gt hel)).trans hT
    have new : ObjOk X.prog X.w (upd H s.heap.objs.size (.tup [.int (i : Nat), x])) h'' _ (.tup [.int (i : Nat), x]) :=
      ⟨show 2 ≤ sizeLine by decide, [.int i tk, y], .cons ⟨tk, rfl⟩ (.cons ru .nil), ⟨_, hT2, rfl, _, rfl⟩⟩
    have J : Inv X pins σ (upd H s.heap.objs.size (.tup [.int (i : Nat), x])) { s with heap := h'', toks := tk + 1 } := by
      refine I.turnedNew (ch := [e, it]) (fun b ob hb q => ?_) hf (Nat.le_refl _) new
      obtain ⟨n1, n2⟩ : b ≠ e ∧ b ≠ it := by simpa using hb
      exact (sb.2 b n1).trans (hk b ob n1 n2 q)
    refine ⟨.ref s.heap.objs.size, _, J, rfl, ⟨_, x, rfl, I.hok.fresh (Nat.le_refl _), rfl, fun ys hy => by rw [I.tuple_inj hy hq]; exact hx⟩, ⟨⟨y, ?_⟩, st'.1.at fun o q => (sb.2 it (Ne.symm hne)).trans q, hne, hai, hea⟩, fun b hb => ?_⟩
    · rw [show ((i + 1 : Nat) : Int) = (i : Int) + 1 by omega]; exact he'
    · rw [upd_ne (Nat.ne_of_lt (by rcases List.mem_cons.mp hb with rfl | hb; exact hel; cases List.mem_singleton.mp hb; exact hil))]
      exact (hf b hb).1
  done := by
    rintro X rfl rfl rfl hc i pins s σ H E I hf ⟨⟨old, he⟩, hit, hne, hai, hea⟩ ⟨xs, hq, hx⟩
    obtain ⟨its, rv, p, -⟩ := I.tuple hq
    obtain ⟨f0, f1, f2, f3, f4, f5⟩ := hf it (List.mem_cons_of_mem _ List.mem_cons_self)
    have hn : i = its.toArray.size := by have := rv.length; simp; omega
    subst hn
    exact wpAny_pyNext_enum_endD (Draws.tuple (show X.A.in1.handled = none from I.ok.hd hc) it a hai its.toArray) he ⟨hit, p⟩ fun h' eb => ⟨rfl, I.turned (t' := s.toks) (fun b o hb q => eb b o hb q) f0 f1 f3 f4 f5⟩
  self := by
    rintro A i s Q E ⟨⟨_, he⟩, -⟩ h
    exact wpAny_pyIter_enum he h
def enD (ds : List D) : List D := ds.zipIdx.map fun p => .tup [.int (p.2 : Nat), p.1]
/-- enumerate(e), e a list or a tuple, whichever it is -/
def wiEnum (wa : WL) : WL := fun ρ χ Φ => wa ρ χ fun as ρ1 => match as with
  | [.lst ds] => Φ (enD ds) ρ1
  | [.tup ds] => Φ (enD ds) ρ1
  | _ => False
theorem enD_at {ds : List D} {i : Nat} (h : i < ds.length) : (enD ds)[i]? = some (.tup [.int (i : Nat), ds[i]]) := by
  unfold enD
  rw [List.getElem?_map, List.getElem?_zipIdx, List.getElem?_eq_getElem h]
  simp
theorem enD_len {ds : List D} : (enD ds).length = ds.length := by unfold enD; simp
theorem new_pair {K : Fg} {S1 F H : Hp} {ρ : Rho} {σ : L2.St} {T : Addr} {x : V} {d : D} {i : Nat} (e : ER K τ S1 F H ρ σ) (hT : H T = none) (r : Is K S1 x d) :
    ∃ S2, Same S1 S2 ∧ Is K S2 (.ref T) (.tup [.int (i : Nat), d]) ∧ ER K τ S2 F (upd H T (.tup [.int (i : Nat), x])) ρ σ :=
  ⟨_, e.sn hT, .tup upd_same (.cons (.int _) (.cons (r.mono (e.sn hT)) .nil)), e.new hT⟩
theorem dwk_enL {K : Fg} {S : Hp} {a : Addr} {vs : List V} {ds : List D} (h : S a = some (.lst vs)) (hi : IsAll K S vs ds) : DWk K τ S (Ite K a) (enD ds) := by
  have hl := hi.length
  refine ⟨fun i H h1 s => ?_, fun H s => ⟨vs, .inl (.inl (s _ _ h)), by rw [enD_len]; omega⟩, fun i H x H' h1 s y => ?_⟩
  · rw [enD_len] at h1
    exact ⟨vs, vs[i]'(by omega), .inl (.inl (s _ _ h)), by simp⟩
  · rw [enD_len] at h1
    obtain ⟨T, v, rfl, hT, rfl, hv⟩ := y
    obtain ⟨v', q1, q2⟩ := hi.get (i := i) (d := ds[i]) (by simp [h1])
    cases q1.symm.trans (hv vs (.inl (.inl (s _ _ h))))
    exact ⟨_, enD_at h1, fun S1 F ρ σ s1 e => new_pair e hT (q2.mono s1)⟩
theorem dwk_enT {K : Fg} {S : Hp} {a : Addr} {vs : List V} {ds : List D} (h : S a = some (.tup vs)) (hi : IsAll K S vs ds) : DWk K τ S (Iet K a) (enD ds) := by
  have hl := hi.length
  refine ⟨fun i H h1 s => ?_, fun H s => ⟨vs, .inl (.inl (s _ _ h)), by rw [enD_len]; omega⟩, fun i H x H' h1 s y => ?_⟩
  · rw [enD_len] at h1
    exact ⟨vs, vs[i]'(by omega), .inl (.inl (s _ _ h)), by simp⟩
  · rw [enD_len] at h1
    obtain ⟨T, v, rfl, hT, rfl, hv⟩ := y
    obtain ⟨v', q1, q2⟩ := hi.get (i := i) (d := ds[i]) (by simp [h1])
    cases q1.symm.trans (hv vs (.inl (.inl (s _ _ h))))
    exact ⟨_, enD_at h1, fun S1 F ρ σ s1 e => new_pair e hT (q2.mono s1)⟩
theorem d_enum {X : Cx} {W : WX} {wa : WL} {e : Expr} {p pos tpos : Pos} {elts : List Expr} {kk : Nat} (hg : Gl X "enumerate") (hm : X.mg "enumerate" = none) (ha : PA X [e] (lL X.K τ W wa)) (hs : starEach [e] X.env = [(false, eval e X.env)] := by rfl) :
    PI X (.Tuple elts kk tpos) (.Call (.Name "enumerate" p) [e] [] pos) (lI X.K τ W (wiEnum wa)) := by
  constructor; rintro pins s σ H R I ⟨ρ, S, F, χ, Φ, e0, hw, hx, hp⟩
  have h' : lL X.K τ W wa σ H (fun vs H1 => ∃ a, vs = [.ref a] ∧ ((∃ xs, SqL X.K H1 a xs ∧ R (Ite X.K a) H1) ∨ ∃ xs, SqT X.K H1 a xs ∧ R (Iet X.K a) H1)) := by
    refine ⟨ρ, S, F, χ, _, e0, hw, hx, fun vs as ρ' S' H' q s' iv e' => ?_⟩
    split at q
    · cases iv with
      | cons r rr => cases rr; cases r with
        | lst h1 h2 => exact ⟨_, rfl, .inl ⟨_, .inl (.inl (e'.ex _ _ h1)), hp _ _ ρ' S' H' q s' e' (dwk_enL h1 h2)⟩⟩
    · cases iv with
      | cons r rr => cases rr; cases r with
        | tup h1 h2 => exact ⟨_, rfl, .inr ⟨_, .inl (.inl (e'.ex _ _ h1)), hp _ _ ρ' S' H' q s' e' (dwk_enT h1 h2)⟩⟩
    · exact q.elim
  refine Call_ (ld_blt I hg hm boot_enumerate (PyProof.Rows.callWith_type1 (thn (ha.run pos pins s σ H _ I h') fun us s1 ⟨vs, H1, I1, r1, a, ex, q1⟩ => ?_) hs rfl))
  subst ex
  rcases r1 with _ | ⟨r, rr⟩
  cases rr; cases r
  have fresh : ∀ b ∈ [s1.heap.objs.size + 1, s1.heap.objs.size], FpOk X pins H1 b := fun b hb => by
    have old : s1.heap.objs.size ≤ b := by
      obtain rfl | hb := List.mem_cons.mp hb
      · exact Nat.le_succ _
      · cases List.mem_singleton.mp hb; exact Nat.le_refl _
    exact I1.fpOk old (I1.hok.fresh old)
  rcases q1 with ⟨xs, hq, q⟩ | ⟨xs, hq, q⟩
  · obtain ⟨its, -, p', -⟩ := I1.list hq
    exact call_enum (PySem.begins_list a its.toArray) p'.isList fun h' he hit hk => wpAny_pyIter_enum he ⟨_, _, _, _, H1, rfl, I1.kept (t' := s1.toks) hk, turn_enum a _ s1.heap.objs.size, ⟨⟨.none, he⟩, ⟨_, hit, rfl, rfl⟩, Nat.succ_ne_self _⟩, fresh, q⟩
  · obtain ⟨its, -, p', -⟩ := I1.tuple hq
    have hlt : a < s1.heap.objs.size := by obtain ⟨_, z, _⟩ := p'; exact Heap.lt_size z
    exact call_enum (PySem.begins_tuple a its.toArray) p' fun h' he hit hk => wpAny_pyIter_enum he ⟨_, _, _, _, H1, rfl, I1.kept (t' := s1.toks) hk, turn_enumT a _ s1.heap.objs.size,
      ⟨⟨.none, he⟩, ⟨_, hit, rfl, rfl⟩, Nat.succ_ne_self _, Nat.ne_of_lt hlt, Nat.ne_of_gt (Nat.lt_succ_of_lt hlt)⟩, fresh, q⟩
end DL
set_option Elab.async false
set_option autoImplicit false
set_option linter.all false
set_option maxRecDepth 100000
set_option maxHeartbeats 3900000
namespace DL
open L2 PyProof.Rows PySem PySem.Spec
variable {τ : Tb}
/-! ### an instance that is being made: its fields -/
theorem putF_new {f : Str} {y : V} : ∀ {vs : List (Str × V)}, f ∉ vs.map (·.1) → putF f y vs = vs ++ [(f, y)]
  | [], _ => rfl
  | (g, z) :: r, h => by
    have hg : ¬ g = f := fun q => h (by rw [← q]; exact List.mem_cons_self)
    have hr : f ∉ r.map (·.1) := fun q => h (List.mem_cons_of_mem _ q)
    show (if g = f then _ else _) = _
    rw [if_neg hg, putF_new hr]
    rfl
/-- self.f = e, self the slot i, not yet there -/
def wFset (C : Addr) (f : Str) (i : Nat) (wa : WE) : WS := fun ρ Δ => (∃ l o, ρ[i]? = some (Sl.own l o)) ∧ wa ρ Δ.xc fun d ρ1 => match ρ1[i]? with
  | some (.own l (.i c ns ds)) => c = C ∧ f ∉ ns ∧ ns.length < 900 ∧ Δ.nx (ρ1.set i (.own l (.i c (ns ++ [f]) (ds ++ [d]))))
  | _ => False
/-- self.f -/
def wFldO (C : Addr) (f : Str) (i : Nat) : WE := fun ρ χ Φ => match ρ[i]? with
  | some (.own l (.i c ns ds)) => c = C ∧ ∃ d, lookD ns ds f = some d ∧ Φ d ρ
  | _ => False
section
variable {K : Fg} {W : WX} {C : Addr} {f : Str} {i : Nat} {wa : WE}
theorem l_fset (hc : Cls K C) (hn : NoAttr K C f) : ∀ D σ H, lS K τ W (wFset C f i wa) D σ H → sFld K (tVar i) (lE K τ W wa) f D σ H := by
  rintro D σ H ⟨ρ, S, F, Δ, e, ⟨⟨l0, o0, hl0⟩, hw⟩, hx, h1, -⟩
  obtain ⟨hσ, -⟩ := e.own i l0 o0 hl0
  refine ⟨ρ, S, F, _, _, e, hw, hx, fun y d ρ' S' H' q s' iv e' => ⟨.ref l0, hσ, ?_⟩⟩
  split at q
  · rename_i l c ns ds hl
    obtain ⟨rfl, hf, hz, q⟩ := q
    obtain ⟨b1, b2, b3, ob, b4, b5⟩ := e'.own i l _ hl
    cases b1.symm.trans hσ
    cases b5 with
    | i hns hi =>
      rename_i dx vs
      subst hns
      have hz' : vs.length < 1000 := by rw [List.length_map] at hz; omega
      refine ⟨_, _, dx, vs, rfl, b4, hc, hn, hz', h1 _ S' σ _ q s' (e'.wr hl ?_)⟩
      rw [putF_new hf]
      exact .i (by simp) (by rw [List.map_append]; exact hi.append (.cons iv .nil))
  · exact q.elim
theorem l_fldO (hc : Cls K C) (hn : NoAttr K C f) : ∀ σ H Q, lE K τ W (wFldO C f i) σ H Q → tFld K (tVar i) f σ H Q := by
  rintro σ H Q ⟨ρ, S, F, χ, Φ, e, hw, hx, hp⟩
  unfold wFldO at hw
  split at hw
  · rename_i l c ns ds hl
    obtain ⟨rfl, d, hd, q⟩ := hw
    obtain ⟨b1, b2, b3, ob, b4, b5⟩ := e.own i l _ hl
    cases b5 with
    | i hns hi =>
      subst hns
      obtain ⟨v, h1, h2⟩ := look_fs hi hd
      exact ⟨.ref _, b1, _, _, _, _, v, rfl, b4, hc, hn, h1, hp v d ρ S H q (Same.refl S) h2 e⟩
  · exact hw.elim
end

/-! ### C(..): the made object is data from then on -/
theorem ER.addS {K : Fg} {S F H : Hp} {ρ : Rho} {σ : L2.St} {p : Addr} {o : HO} (e : ER K τ S F H ρ σ) (h1 : H p = some o) (h2 : S p = none) (h3 : F p = none) (h4 : ∀ (j : Nat) (o2 : OD), ρ[j]? ≠ some (Sl.own p o2)) (h5 : ∀ ps, o ≠ .tbl ps) : ER K τ (upd S p o) F H ρ σ ∧ Same S (upd S p o) := by
  have sS : Same S (upd S p o) := fun b u q => by rw [upd_ne (ne_of_none q h2)]; exact q
  refine ⟨⟨e.len, fun b u q => ?_, fun a u q => ?_, fun j d q => ?_, fun j m od q => ?_, e.dis, e.tb.addS h1 h2 h5⟩, sS⟩
  · by_cases hb : b = p
    · subst hb; rw [upd_same] at q; cases q; exact h1
    · rw [upd_ne hb] at q; exact e.ex b u q
  · obtain ⟨a1, a2⟩ := e.fr a u q
    rw [upd_ne (ne_of_none q h3)]; exact ⟨a1, a2⟩
  · obtain ⟨v, a1, a2⟩ := e.val j d q
    exact ⟨v, a1, a2.mono sS⟩
  · obtain ⟨a1, a2, a3, ob, a4, a5⟩ := e.own j m od q
    have ne : m ≠ p := fun z => by subst z; exact h4 j od q
    exact ⟨a1, by rw [upd_ne ne]; exact a2, a3, ob, a4, a5.mono sS⟩
def wMake (C : Addr) (n m : Nat) (sp : Spc) (gD : List D → List D → List D) (wa wk : WL) : WE := fun ρ χ Φ => wa ρ χ fun ds ρ1 => wk ρ1 χ fun zs ρ2 => ds.length = n ∧ zs.length = m ∧
  sp (some (.i C [] [])) (gD ds zs) (fun d o' => d = .non ∧ ∃ ns es, o' = some (.i C ns es) ∧ Φ (.obj C ns es) ρ2) fun C f d => χ C f d ρ2
section
variable {K : Fg} {W : WX} {C : Addr} {sp : Spc} {n m N : Nat} {gV gW : List V → List V → List V} {gD : List D → List D → List D} {wa wk : WL}
theorem l_make (hg : GRel n m N gW gD) (hgv : ∀ v vs zs, gV (v :: vs) zs = v :: gW vs zs) : ∀ σ H Q, lE K τ W (wMake C n m sp gD wa wk) σ H Q → tMakeG W C n m (lSp K τ.t (N + 1) sp) gV (lL K τ W wa) (lL K τ W wk) σ H Q := by
  rintro σ H Q ⟨ρ, S, F, χ, Φ, e, hw, hx, hp⟩
  refine ⟨ρ, S, F, χ, _, e, hw, hx, fun vs ds ρ1 S1 H1 h1 s1 i1 e1 => ?_⟩
  refine ⟨ρ1, S1, F, χ, _, e1, h1, hx.mono s1, fun us es ρ2 S2 H2 h2 s2 i2 e2 => ?_⟩
  obtain ⟨l1, l2, h3⟩ := h2
  have l1' : vs.length = n := by rw [i1.length]; exact l1
  have l2' : us.length = m := by rw [i2.length]; exact l2
  obtain ⟨ig, lg⟩ := hg K S2 vs ds us es (i1.mono s2) i2 l1' l2'
  refine ⟨l1', l2', fun x dx hx0 hdx hne => ?_⟩
  have sH : Same S2 (upd (upd H2 dx (.own x)) x (.ins C dx [])) := fun b u q => by
    have hb := e2.ex b u q
    rw [upd_ne (ne_of_none hb hx0), upd_ne (ne_of_none hb hdx)]; exact hb
  have fc : ∀ a o, a ∉ τ.t.map (·.1) → S2 a = none → H2 a = some o → others τ.t S2 (upd (upd H2 dx (.own x)) x (.ins C dx [])) (fun a => a = x) a = some o := fun a o n a1 a2 =>
    others_of (p := fun a => a = x) n (ne_of_none a2 hx0) a1 (by rw [upd_ne (ne_of_none a2 hx0), upd_ne (ne_of_none a2 hdx)]; exact a2)
  rw [hgv]
  refine ⟨S2, others τ.t S2 (upd (upd H2 dx (.own x)) x (.ins C dx [])) (fun a => a = x), some (x, .i C [] []), gD ds es, _, _, by rw [List.length_cons, lg],
    er_argsO ig sH (TbOk.oth ⟨(e2.tb.tab.ext fun b u e => by rw [upd_ne (ne_of_none e hx0), upd_ne (ne_of_none e hdx)]; exact e), e2.tb.nS, e2.tb.nF, e2.tb.ks, e2.tb.kf⟩) (fun a o h => by obtain ⟨_, a1, a2⟩ := others_inv h; exact ⟨a2, .inl a1⟩) upd_same (e2.sp hx0) (by unfold others; rw [if_pos (.inl rfl)]) (.i rfl .nil), h3,
    fun d v o2 S' H' q _ s' iv er => ?_, fun C f d v dd S' H' q s' ex tb fr hd iv => ?_⟩
  · obtain ⟨rfl, ns, ys, rfl, q⟩ := q
    cases iv
    obtain ⟨_, c2, _, o3, c4, c5⟩ := er.own 0 x _ rfl
    obtain ⟨e4, s4⟩ := (e2.back s' er.ex er.tb.tab er.tb.nS fc er.fr).addS c4 c2 (e2.fp hx0) (e2.notOwn hx0) c5.notX.1
    refine ⟨rfl, hp (.ref x) _ ρ2 _ H' q (((s1.trans s2).trans s').trans s4) ?_ e4⟩
    cases c5 with
    | i hns hi => exact .obj upd_same hns (hi.mono s4)
  · exact hx C f d v dd ρ2 S' σ H' q ((s1.trans s2).trans s') (e2.back s' ex tb.tab tb.nS fc fr) hd iv
end

/-! ### x != y of two instances of a class that has its own __eq__ alone -/
structure EqC (K : Fg) (C f : Addr) : Prop where
  cls : ∃ nm q N bs hdct sn sub ab col dd k0 k1 k2 k3 k5 ni, K.lookup C = some (excClassObj nm q C N bs [.type "object"] hdct sn sub ab col dd k0 k1 k2 k3 k5 ni) ∧ PySem.W.nsOkIn K N = true ∧ PySem.W.nsIn K N "__eq__" = some (some (.ref f)) ∧ PySem.W.nsIn K N "__ne__" = some none
  fn : true = PySem.W.isFn K (.ref f)
def rNeO (C : Addr) (sp : Sp) : R2 := fun x y H Q => ∃ a b dx dy fs gs, x = .ref a ∧ y = .ref b ∧ H a = some (.ins C dx fs) ∧ H b = some (.ins C dy gs) ∧ sp [x, y] H (fun v H' => ∃ t, v = .bl t ∧ Q (.bl !t) H') fun _ _ _ => False
theorem ns_some_of {K : Fg} {h : Heap} {N : Addr} {mg : Str → Option Value} {n : Str} {v : Value} (X : K.In h) (G : h.Ns N mg) (e : PySem.W.nsIn K N n = some (some v)) : mg n = some v := by
  obtain ⟨_, es, _, ho, hd, -, hf⟩ := G; unfold PySem.W.nsIn at e
  split at e
  · rename_i c d es' n' sl q
    cases ho.symm.trans (X _ _ q)
    cases hd
    rw [← hf]
    unfold nsFind findBy
    rw [← Array.find?_toList]
    split at e
    · rename_i en he
      cases e
      rw [he]; rfl
    · split at e <;> cases e
  · cases e
theorem op_neO {X : Cx} {W : WX} {k : Nat} {C f : Addr} {fd : FuncData} {ps : List Str} {sp : Sp} {g : List Value → List Value → List Value} {gV : List V → List V → List V} (T : EqC X.K C f) (F : FnG X.prog X.w X.K X.mg X.base k f fd ps sp) (c : Cok X W (k + 1)) (hb : KBn X.K fd ps 2 [] g gV)
    (hg : ∀ us, g us [] = us) (hgV : ∀ us, gV us [] = us) : OpR X (compareOp .NotEq) (rNeO C sp) := by
  rintro pins s σ H x y v u Q I rx ry ⟨a, b, dx, dy, fs, gs, rfl, rfl, ha, hb', hsp⟩
  cases rx; cases ry
  obtain ⟨nm, q, N, bs, hdct, sn, sub, ab, col, dd, k0, k1, k2, k3, k5, ni, hC, hN, hE, hNe⟩ := T.cls
  obtain ⟨mA, ⟨O1, -, -⟩, -⟩ := ins_get I.hok ha
  obtain ⟨mB, ⟨O2, -, -⟩, -⟩ := ins_get I.hok hb'
  obtain ⟨hp, gs', dr, tk, os⟩ := s
  have G : Heap.Ns hp N (hp.nsMap N) := Heap.Ns.of_isNs (PySem.W.isNs_of_in I.kIn hN)
  obtain ⟨of, hof, hofc⟩ : ∃ of, hp.get? f = some of ∧ of.cls = .type "function" := by
    have ht : PySem.W.typeIn X.K (.ref f) = some (.type "function") := beq_iff_eq.mp T.fn.symm
    replace ht : (X.K.lookup f).map (·.cls) = some (.type "function") := ht
    cases ho : X.K.lookup f with
    | none => rw [ho] at ht; cases ht
    | some of => rw [ho] at ht; exact ⟨of, I.kIn _ _ ho, Option.some.inj ht⟩
  have own : hp.OwnEqNoNe a C f "object" [.type "object"] := by
    refine ⟨_, of, nm, q, N, bs, hdct, sn, sub, ab, col, dd, k0, k1, k2, k3, k5, ni, hp.nsMap N, _, O1, rfl, I.kIn _ _ hC, G, ns_some_of I.kIn G hE, hof, hofc, PySem.F.cmp_object.mro, PySem.F.cmp_object.eq.lookup, PySem.W.ns_none_of I.kIn G hNe⟩
  refine compareOp_ne_ownEq PySem.F.cmp_object own O2 rfl c.hu ?_
  have e0 : Env0 X.prog X.w X.K X.mg X.base X.A.in1 X.stack ⟨hp, gs', dr, tk, os⟩ H := by
    have z := I.env0
    exact ⟨z.frames, z.mod, z.bs, z.bsz, z.funs, z.frf, z.hok, z.bare⟩
  have r2 : Vals [.ref a, .ref b] [.ref a, .ref b] := .cons rfl (.cons rfl .nil)
  have bt := hb.to ⟨hp, gs', dr, tk, os⟩ [Value.ref a, Value.ref b] [] I.kIn rfl rfl
  rw [hg] at bt
  refine wpAny_call (codeAny_mono (F.run X.A.in1 X.stack ⟨hp, gs', dr, tk, os⟩ H ⟨[.ref a, .ref b], []⟩ _ _ _ _ c.rm.in1 c.gd e0 bt r2 hsp) fun r s' hq => ?_)
  cases r with
  | error er => exact c.tk er s' (XE.of_call I (fun _ _ _ z => z.elim) hq)
  | ok fl =>
    cases fl with
    | ret w =>
      obtain ⟨z, H', I', rz, t, ez, q⟩ := I.after hq
      subst ez
      cases rz
      exact ⟨t, rfl, .bl !t, H', I', rfl, q⟩
    | next => cases hq
    | brk => cases hq
    | cont => cases hq
def wNeO (C : Addr) (sp : Spc) (x y : D) (Φ : D → Prop) : Prop := (∃ ns ds ms es, x = .obj C ns ds ∧ y = .obj C ms es) ∧ sp none [x, y] (fun d _ => ∃ t, d = .bl t ∧ Φ (.bl !t)) fun _ _ _ => False
theorem ok_neO {K : Fg} {C : Addr} {sp : Spc} : OpOk K τ (rNeO C (lSp K τ.t 2 sp)) (wNeO C sp) := by
  rintro S F H ρ σ x y dx dy Φ Q e ix iy ⟨⟨ns, ds, ms, es, rfl, rfl⟩, hs⟩ hp
  have ixy : IsAll K S [x, y] [.obj C ns ds, .obj C ms es] := .cons ix (.cons iy .nil)
  cases ix with
  | obj h1 h2 h3 =>
    cases iy with
    | obj h4 h5 h6 =>
      refine ⟨_, _, _, _, _, _, rfl, rfl, e.ex _ _ h1, e.ex _ _ h4, S, others τ.t S H fun _ => False, none, _, _, _, rfl, er_args ixy e.ex e.tb.oth fun a o h => ?_, hs, fun d v o' S' H' q _ s' iv er => ?_, fun C f d v dd S' H' q => q.elim⟩
      · obtain ⟨_, a1, a2⟩ := others_inv h
        exact ⟨a2, .inl a1⟩
      · obtain ⟨t, rfl, q⟩ := q
        cases iv
        exact ⟨t, rfl, hp _ _ S' H' q s' (.bl _) (e.back s' er.ex er.tb.tab er.tb.nS (fun a o n a1 a2 => others_of n (fun z => z) a1 a2) er.fr)⟩
end DL
set_option Elab.async false
set_option autoImplicit false
set_option linter.all false
set_option maxRecDepth 100000
set_option maxHeartbeats 3900000
namespace DL
open L2 PyProof.Rows PySem PySem.Spec
variable {τ : Tb}
/-! ### {k: v for ..}, the keys all unlike -/
theorem putK_new {k : Key} {v : V} {kvs : List (Key × V)} (h : k ∉ kvs.map (·.1)) : putK kvs k v = kvs ++ [(k, v)] := by
  refine if_neg fun q => ?_
  obtain ⟨p, hp, e⟩ := List.any_eq_true.1 q
  exact h (List.mem_map.2 ⟨p, hp, of_decide_eq_true e⟩)
def wDcL (g : WG) (wt : WT) (wk wv : WE) (vs : List Nat) : List D → List Key → List D → Rho → (List Key → List D → Rho → Prop) → Prop
  | [], ks, acc, ρ, Φ => Φ ks acc ρ
  | d :: ds, ks, acc, ρ, Φ => g d ρ fun ρ1 => wt ρ1 χ0 fun b ρ2 => if b = true then wk ρ2 χ0 fun y ρ3 => wv ρ3 χ0 fun z ρ4 => ∃ k, keyD y = some k ∧ k ∉ ks ∧ ks.length < sizeLine ∧ wDcL g wt wk wv vs ds (ks ++ [k]) (acc ++ [z]) (wipeR ρ4 vs) Φ
      else wDcL g wt wk wv vs ds ks acc (wipeR ρ2 vs) Φ
def wDc (wi : WL) (g : WG) (wt : WT) (wk wv : WE) (vs : List Nat) : WE := fun ρ χ Φ => wi ρ χ fun ds ρ1 => wDcL g wt wk wv vs ds [] [] (wipeR ρ1 vs) fun ks ys ρ2 => Φ (.dic ks ys) (backR ρ1 ρ2 vs)
theorem l_dc {K : Fg} {W : WX} {wi : WL} {g : WG} {wt : WT} {wk wv : WE} {vs : List Nat} : ∀ σ H Q, lE K τ W (wDc wi g wt wk wv vs) σ H Q → tDc (lI K τ W wi) (lGc K τ vs g) (lT K τ W0 wt) (lE K τ W0 wk) (lE K τ W0 wv) vs σ H Q := by
  rintro σ H Q ⟨ρ, S, F, χ, Φ, e, hw, hx, hp⟩
  refine ⟨ρ, S, F, χ, _, e, hw, hx, fun J ds ρ1 S1 H1 q1 s1 e1 wk0 => fun L hL => ?_⟩
  have fL := e1.fp hL
  have gL := e1.tb.free fL
  refine ⟨fun i m H' => m = ds.length - i ∧ i ≤ ds.length ∧ ∃ ρ' S' kvs ks acc, Same S1 S' ∧ ER K τ S' (upd F L (.dK kvs)) H' ρ' (wipe σ vs) ∧ kvs.map (·.1) = ks ∧ IsAll K S' (kvs.map (·.2)) acc ∧ wDcL g wt wk wv vs (ds.drop i) ks acc ρ' (fun zs ys ρ2 => Φ (.dic zs ys) (backR ρ1 ρ2 vs)),
    ⟨_, rfl, Nat.zero_le _, wipeR ρ1 vs, S1, [], [], [], Same.refl S1, (e1.wipe vs).addF hL, rfl, .nil, q1⟩, ?_⟩
  rintro i m H' ⟨rfl, hi, ρ', S', kvs, ks, acc, s', e', hk, iu, q⟩
  subst hk
  by_cases hlt : i < ds.length
  · refine .inr ⟨wk0.go i H' hlt (s'.trans e'.ex), fun H2 => ∃ ρ2 S2 kvs2 acc2, Same S1 S2 ∧ ER K τ S2 (upd F L (.dK kvs2)) H2 ρ2 (wipe σ vs) ∧ IsAll K S2 (kvs2.map (·.2)) acc2 ∧ wDcL g wt wk wv vs (ds.drop (i + 1)) (kvs2.map (·.1)) acc2 ρ2 (fun zs ys ρ3 => Φ (.dic zs ys) (backR ρ1 ρ3 vs)),
      fun H2 ⟨ρ2, S2, kvs2, acc2, z1, z2, z3, z4⟩ => ⟨ds.length - (i + 1), by omega, rfl, hlt, ρ2, S2, kvs2, _, acc2, z1, z2, rfl, z3, z4⟩, fun x H2 y => ?_⟩
    obtain ⟨d, hd, y2⟩ := wk0.yld i H' x H2 hlt (s'.trans e'.ex) y
    obtain ⟨S2, s2, i2, e2⟩ := y2 S' _ ρ' _ s' e'
    have ed : ds.drop i = d :: ds.drop (i + 1) := by
      rw [(List.drop_eq_getElem_cons hlt)]
      rw [List.getElem?_eq_getElem hlt] at hd
      rw [Option.some.inj hd]
    rw [ed] at q
    refine ⟨ρ', S2, _, d, _, e2, i2, q, fun ρ3 S3 σ3 H3 q3 s3 e3 w3 => ⟨w3.trans wipe_wipe, ?_⟩⟩
    have w3' : wipe σ3 vs = wipe σ vs := w3.trans wipe_wipe
    refine ⟨ρ3, S3, _, χ0, _, e3, q3, XOk.none, fun b ρ4 S4 H4 q4 s4 e4 => ?_⟩
    cases b with
    | false =>
      rw [if_neg Bool.false_ne_true] at q4 ⊢
      have e5 := e4.wipe vs
      rw [w3'] at e5
      exact ⟨_, S4, kvs, acc, ((s'.trans s2).trans s3).trans s4, e5, iu.mono ((s2.trans s3).trans s4), q4⟩
    | true =>
      rw [if_pos rfl] at q4 ⊢
      refine ⟨ρ4, S4, _, χ0, _, e4, q4, XOk.none, fun v dv ρ5 S5 H5 q5 s5 i5 e5 => ?_⟩
      refine ⟨ρ5, S5, _, χ0, _, e5, q5, XOk.none, fun u du ρ6 S6 H6 q6 s6 i6 e6 => ?_⟩
      obtain ⟨k, hk, hn, hl, q6⟩ := q6
      obtain ⟨h6, _⟩ := e6.fr L _ upd_same
      have t6 := (((s2.trans s3).trans s4).trans s5).trans s6
      refine ⟨kvs, k, keyD_is i5 hk, h6, by rw [List.length_map] at hl; exact hl, ?_⟩
      rw [putK_new hn]
      have e7 := (e6.wipe vs).chF (o' := .dK (kvs ++ [(k, u)])) gL (fun c q z => by unfold LamX.CodeO at z; cases z)
      rw [w3'] at e7
      exact ⟨_, S6, kvs ++ [(k, u)], acc ++ [du], s'.trans t6, e7, by rw [List.map_append]; exact (iu.mono t6).append (.cons i6 .nil), by rw [List.map_append]; exact q6⟩
  · have ei : i = ds.length := by omega
    subst ei
    rw [List.drop_length] at q
    refine .inl ⟨wk0.stop H' (s'.trans e'.ex), ?_⟩
    obtain ⟨hL2, -⟩ := e'.fr L _ upd_same
    obtain ⟨e8, s8⟩ := e'.doneF fL gL
    exact hp _ _ _ _ H' q ((s1.trans s').trans s8) (.dic upd_same rfl (iu.mono s8)) (e1.restore (s'.trans s8) e8)
end DL
set_option Elab.async false
set_option autoImplicit false
set_option linter.all false
set_option maxRecDepth 100000
set_option maxHeartbeats 3900000
namespace DL
open L2 PyProof.Rows PySem PySem.Spec
variable {τ : Tb}
open PySem.Builtin PySem.Builtin.Str
/-! ### x.replace(y, z, n), y and z written, within a list whose first item has written a text -/
def repN (x y z : PySem.Str) (n : Int) : PySem.Str :=
  if ((occurrences x y 0 x.length (limitOf x n)).isEmpty || (y.length == 0 && z.length == 0)) = true then x else glued z (partsBetween x (occurrences x y 0 x.length (limitOf x n)) y.length)
theorem gives_repN (x y z : PySem.Str) (n : Int) (t u v w : Tok) (hn : (decide (n < -(2 ^ 63 : Int)) || decide (n ≥ 2 ^ 63)) = false) (h0 : (u == 0 || v == 0) = false) (huv : (u == v) = false) (hyz : (y == z) = false)
    (hl : tooLong (x.length + (occurrences x y 0 x.length (limitOf x n)).length * z.length) = false) :
    Gives («str.replace» ⟨[.str x t, .str y u, .str z v, .int n w], []⟩) (if ((occurrences x y 0 x.length (limitOf x n)).isEmpty || (y.length == 0 && z.length == 0)) = true then .val (.str x t) else .str (glued z (partsBetween x (occurrences x y 0 x.length (limitOf x n)) y.length))) := by
  show Gives (do let limit ← countLimit "str.replace" (some (.int n w)) (x.length + 1); _) _
  rw [countLimit_int "str.replace" n w (x.length + 1) hn]
  show Gives (if ((occurrences x y 0 x.length (limitOf x n)).isEmpty || (y.length == 0 && z.length == 0)) = true then (do rule "str.replace.nothing"; ret (.str x t)) else
          (do let one ← isSame (.str y u) (.str z v); if one = true then (do rule "str.replace.old-is-new"; ret (.str x t)) else
              if tooLong (x.length + (occurrences x y 0 x.length (limitOf x n)).length * z.length) = true then unsupported "str.replace:memory" else
              retStr (glued z (partsBetween x (occurrences x y 0 x.length (limitOf x n)) y.length)))) _
  split
  · exact .rule (.of_eq rfl)
  · rw [hl, isSame_str_other y z u v h0 huv hyz]; exact .of_eq rfl
theorem gluedN_len (x y z : PySem.Str) (n : Int) : (glued z (partsBetween x (occurrences x y 0 x.length (limitOf x n)) y.length)).length ≤ x.length + (occurrences x y 0 x.length (limitOf x n)).length * z.length := by
  have h : (glued y (partsBetween x (occurrences x y 0 x.length (limitOf x n)) y.length)).length = x.length := congrArg PySem.Str.length (StrLaws.glued_between_self x y (limitOf x n))
  rw [PySem.size_glued, PySem.length_partsBetween] at h ⊢
  rw [Nat.add_sub_cancel] at h ⊢
  omega
theorem repN_len (x y z : PySem.Str) (n : Int) : (repN x y z n).length ≤ x.length + (occurrences x y 0 x.length (limitOf x n)).length * z.length := by
  unfold repN
  split
  · exact Nat.le_add_right _ _
  · exact gluedN_len x y z n
theorem mem_glFold (sep : PySem.Str) (c : Nat) : ∀ (ps : List PySem.Str) (acc : Array Nat), c ∈ ps.foldl (fun acc p => acc ++ sep.cps ++ p.cps) acc ↔ c ∈ acc ∨ (ps ≠ [] ∧ c ∈ sep.cps) ∨ ∃ p ∈ ps, c ∈ p.cps
  | [], acc => by simp
  | p :: ps, acc => by
    rw [List.foldl_cons, mem_glFold sep c ps]
    simp only [Array.mem_append, List.mem_cons]
    constructor
    · rintro (((h | h) | h) | ⟨_, h⟩ | ⟨q, h1, h2⟩)
      · exact .inl h
      · exact .inr (.inl ⟨by simp, h⟩)
      · exact .inr (.inr ⟨p, .inl rfl, h⟩)
      · exact .inr (.inl ⟨by simp, h⟩)
      · exact .inr (.inr ⟨q, .inr h1, h2⟩)
    · rintro (h | ⟨_, h⟩ | ⟨q, rfl | h1, h2⟩)
      · exact .inl (.inl (.inl h))
      · exact .inl (.inl (.inr h))
      · exact .inl (.inr h2)
      · exact .inr (.inr ⟨q, h1, h2⟩)
theorem repN_mem {x y z : PySem.Str} {n : Int} {c : Nat} (h : c ∈ (repN x y z n).cps) : c ∈ x.cps ∨ c ∈ z.cps := by
  unfold repN at h
  split at h
  · exact .inl h
  · have hx := StrLaws.glued_between_self x y (limitOf x n)
    cases hp : partsBetween x (occurrences x y 0 x.length (limitOf x n)) y.length with
    | nil =>
      rw [hp] at h
      cases (show c ∈ (#[] : Array Nat) from h)
      all_goals simp_all
    | cons p ps =>
      rw [hp] at h hx
      have h' : c ∈ ps.foldl (fun acc p => acc ++ z.cps ++ p.cps) p.cps := h
      have hx' : x.cps = ps.foldl (fun acc p => acc ++ y.cps ++ p.cps) p.cps := (congrArg PySem.Str.cps hx).symm
      rw [hx']
      rcases (mem_glFold z c ps p.cps).mp h' with h | ⟨_, h⟩ | h
      · exact .inl ((mem_glFold y c ps p.cps).mpr (.inl h))
      · exact .inr h
      · exact .inl ((mem_glFold y c ps p.cps).mpr (.inr (.inr h)))
/-- an expression behind which a token is out -/
def PE1 (X : Cx) (e : Expr) (t : TE) : Prop := ∀ (pins : List (Addr × Obj)) (s : Shared) (σ : L2.St) (H : Hp) (Q : VK), Inv X pins σ H s → t σ H Q → wpAny (model X.prog X.w) X.A (eval e X.env) (fun v s1 => 1 ≤ s1.toks ∧ EP X pins σ Q v s1) X.xe s
section
variable {X : Cx} {a b e o : Expr} {es : List Expr} {ta tb te to : TE} {tl : TA} {op : Operator} {r : R2} {pos cpos apos c1 c2 c3 : Pos} {c y z : PySem.Str} {j j1 j2 j3 : Nat} {n : Int}
theorem petOf (h : PE X e te) : PET X e te := fun _ _ _ _ _ _ I q => h.run _ _ _ _ _ I q
theorem pe1_bin (ho : OpR X (binaryOp op) r) (ha : PE X a ta) : PE1 X (.BinOp a op (.Constant (.str c) j cpos) pos) (tOp r ta (tC (.str c))) := by
  intro pins s σ H Q I h
  refine wpAny_BinOp (thn (ha.run pins s σ H _ I h) fun v s1 ⟨x, H1, I1, r1, q1⟩ => Calls.Constant_str ?_)
  refine wpAny_mono (wpAny_toks_of (n := 1) (Nat.succ_le_succ (Nat.zero_le _)) (ho pins _ σ H1 x (.str c) v _ Q (I1.tok (s1.toks + 1)) r1 ⟨_, rfl⟩ q1)) (fun _ _ q => q) fun _ _ q => q.2
theorem pa_cons1 (ha : PE1 X e te) (hr : PAT X es tl) (hs : starEach (e :: es) X.env = (false, eval e X.env) :: starEach es X.env := by rfl) : PA X (e :: es) (tCons te tl) := by
  constructor; intro pos pins s σ H Q I h
  rw [hs]
  exact Calls.spliced_cons (thn (ha pins s σ H _ I h) fun v s1 ⟨h1, x, H1, I1, r1, q1⟩ => thn (hr pos pins s1 σ H1 _ h1 I1 q1) fun us s2 ⟨xs, H2, I2, r2, q2⟩ => ⟨x :: xs, H2, I2, .cons r1 r2, q2⟩)
theorem pet_op (ho : OpR X (binaryOp op) r) (ha : PET X a ta) (hb : PE X b tb) : PET X (.BinOp a op b pos) (tOp r ta tb) := fun pins s σ H Q h0 I h =>
  wpAny_BinOp (thn (ha pins s σ H _ h0 I h) fun v s1 ⟨x, H1, I1, r1, q1⟩ => thn (hb.run pins s1 σ H1 _ I1 q1) fun u s2 ⟨w, H2, I2, r2, q2⟩ => ho pins s2 σ H2 x w v u Q I2 r1 r2 q2)
def tRepN (y z : PySem.Str) (n : Int) (to : TE) : TE := fun σ H Q => to σ H fun x H1 => ∃ s, x = .str s ∧ s.length + (occurrences s y 0 s.length (limitOf s n)).length * z.length ≤ 16777216 ∧ Q (.str (repN s y z n)) H1
theorem pet_repN (ho : PE X o to) (hn : (decide (n < -(2 ^ 63 : Int)) || decide (n ≥ 2 ^ 63)) = false) (hyz : (y == z) = false) (hbase : attributeBase o "replace" X.env (eval o X.env) = eval o X.env := by rfl)
    (hfew : ((backTo cpos (starEach [.Constant (.str y) j1 c1, .Constant (.str z) j2 c2, .Constant (.int n) j3 c3] X.env)).all (fun x => !x.1) && (backToKw cpos (keywordEach [] X.env)).all (fun x => x.1.isSome)
      && decide ([.Constant (.str y) j1 c1, .Constant (.str z) j2 c2, Expr.Constant (.int n) j3 c3].length + ([] : List Keyword).length + (if ([] : List Keyword).isEmpty then 0 else 1) < 30)) = true := by rfl)
    (hline : (apos.endLine == cpos.line) = true := by rfl) :
    PET X (.Call (.Attribute o "replace" apos) [.Constant (.str y) j1 c1, .Constant (.str z) j2 c2, .Constant (.int n) j3 c3] [] cpos) (tRepN y z n to) := by
  intro pins s σ H Q h0 I h
  refine wpAny_Call_method_late hbase hfew hline rfl (wpAny_mono (wpAny_toks_of h0 (ho.run pins s σ H _ I h)) (fun v s1 ⟨h1, x, H1, I1, r1, a, ex, hz, q⟩ => ?_) fun _ _ q => q.2)
  subst ex
  obtain ⟨t, rfl⟩ := (show ∃ t, v = Value.str a t from r1)
  refine ⟨"str", _, F.plainAttrs_str, F.slot_str_replace, F.type_str_replace, typeIs_str _ _ _, (fun _ e => nomatch e), Calls.callWith_builtin rfl (Calls.evalArgs_plain ?_)⟩
  show wpAny _ _ (spliced [(false, eval (.Constant (.str y) j1 c1) X.env), (false, eval (.Constant (.str z) j2 c2) X.env), (false, eval (.Constant (.int n) j3 c3) X.env)]) _ _ _
  refine Calls.spliced_cons (Calls.Constant_str (Calls.spliced_cons (Calls.Constant_str (Calls.spliced_cons (wpAny_Constant_int (Calls.spliced_nil ?_))))))
  refine call_gives F.slot_str_replace (typeIs_str _ _ _) F.entry_str_replace (F.args_str_replace_4 _ _ _ _) (gives_repN a y z n t s1.toks (s1.toks + 1) _ hn (by have hu : s1.toks ≠ 0 := Nat.ne_of_gt h1; simp [hu]) (by simp) hyz (by unfold tooLong; refine decide_eq_false ?_; show ¬ (_ > sizeLine); rw [sizeLine_eq]; omega)) ?_
  unfold repN at q
  split
  · rename_i e
    rw [if_pos e] at q
    exact ⟨.str a, H1, I1.tok _, ⟨t, rfl⟩, q⟩
  · rename_i e
    rw [if_neg e] at q
    refine ⟨?_, .str (glued z (partsBetween a (occurrences a y 0 a.length (limitOf a n)) y.length)), H1, I1.tok _, ⟨_, rfl⟩, q⟩
    have hl := gluedN_len a y z n
    rw [sizeLine_eq]
    omega
end
def wRepN (y z : PySem.Str) (n : Int) (wa : WE) : WE := fun ρ χ Φ => wa ρ χ fun x ρ1 => match x with
  | .str s => s.length + (occurrences s y 0 s.length (limitOf s n)).length * z.length ≤ 16777216 ∧ Φ (.str (repN s y z n)) ρ1
  | _ => False
theorem l_repN {K : Fg} {W : WX} {y z : PySem.Str} {n : Int} {wa : WE} : ∀ σ H Q, lE K τ W (wRepN y z n wa) σ H Q → tRepN y z n (lE K τ W wa) σ H Q := by
  rintro σ H Q ⟨ρ, S, F, χ, Φ, e, hw, hx, hp⟩
  refine ⟨ρ, S, F, χ, _, e, hw, hx, fun v d ρ' S' H' q s' iv e' => ?_⟩
  cases iv with
  | str s => exact ⟨s, rfl, q.1, hp _ _ ρ' S' H' q.2 s' (.str _) e'⟩
  | _ => exact q.elim
end DL
set_option Elab.async false
set_option autoImplicit false
set_option linter.all false
set_option maxRecDepth 100000
set_option maxHeartbeats 3900000
namespace DL
open L2 PyProof.Rows PySem PySem.Spec
variable {τ : Tb}
/-! ### the law is called from above all: no text is being made there -/
/-- what is told of the heap: the script, unless the program's own part tells it already -/
theorem told {P : Program} {w : World} {K : Fg} {s : Shared} {a : Addr} {vs : List Value} {ns : List Int} (KX : K.In s.heap) (ha : s.heap.get? a = some { cls := .type "list", data := .seq vs.toArray }) (hi : IntsAre vs ns) (hl : ns.length ≤ sizeLine) :
    ∃ H : Hp, Only H ∧ SqL K H a (ns.map V.int) ∧ HOk P w H s.heap ∧ ∀ b u, H b = some u → b = a ∧ K.lookup a = none := by
  have rv := vals_ints hi
  cases hk : K.lookup a with
  | some o =>
    cases ha.symm.trans (KX a o hk)
    exact ⟨fun _ => none, fun _ => .inl rfl, .inr ⟨_, vs.toArray, _, hk, rfl, rfl, rfl, by rw [List.size_toArray, hi.length]; exact hl, by simpa using rv⟩, (fun _ _ z => by cases z), fun _ _ z => by cases z⟩
  | none =>
    have one : ∀ {b : Addr} {u : HO}, (if b = a then some (HO.frz { cls := .type "list", data := .seq vs.toArray } (.lst (ns.map V.int))) else none) = some u → b = a ∧ u = .frz { cls := .type "list", data := .seq vs.toArray } (.lst (ns.map V.int)) := fun {b u} z => by
      by_cases hb : b = a
      · rw [if_pos hb] at z; exact ⟨hb, (Option.some.inj z).symm⟩
      · rw [if_neg hb] at z; cases z
    refine ⟨fun b => if b = a then some (.frz { cls := .type "list", data := .seq vs.toArray } (.lst (ns.map V.int))) else none, fun b => ?_, .inl (.inr ⟨_, if_pos rfl⟩), fun b u z => ?_, fun b u z => ⟨(one z).1, rfl⟩⟩
    · exact (Classical.em (b = a)).elim (fun hb => .inr ⟨_, _, if_pos hb⟩) fun hb => .inl (if_neg hb)
    · obtain ⟨rfl, rfl⟩ := one z
      exact ⟨ha, (by rw [List.length_map]; exact hl), vs, _, rv, ha⟩
/-- the tables come in beside the script -/
def withT (cs : List (Addr × Addr)) (H : Hp) : Hp := fun b => if b ∈ cs.map (·.2) then some (.tbl #[]) else H b
theorem withT_in {cs : List (Addr × Addr)} {H : Hp} {p : Addr × Addr} (h : p ∈ cs) : withT cs H p.2 = some (.tbl #[]) := if_pos (List.mem_map.mpr ⟨p, h, rfl⟩)
theorem withT_out {cs : List (Addr × Addr)} {H : Hp} {b : Addr} (h : b ∉ cs.map (·.2)) : withT cs H b = H b := if_neg h
theorem law_g {P : Program} {w : World} {K : Fg} {mg mb : Str → Option Value} {k : Nat} {fa a : Addr} {cs : List (Addr × Addr)} {fd : FuncData} {x : Str} {sp : Sp} {s : Shared} {vs : List Value} {ns : List Int}
    (KX : K.In s.heap) (hns : s.heap.Ns mainGlobals mg) (hb : s.heap.Ns builtinsNs mb) (hbb : ∀ x : Str, x ≠ "__name__" → mb x = bootBuiltins x) (hlim : s.heap.NoLimit) (hg : s.gens = #[])
    (hT : ∀ p ∈ cs, s.heap.get? p.2 = some (PySem.W.tabObj #[])) (nT : ∀ p ∈ cs, K.lookup p.2 = none) (hC : ∀ p ∈ cs, PySem.W.codeHdIn K p.1 p.2 = true)
    (hm : ∃ (bm : Addr) (ob : Obj), mg "__builtins__" = some (.ref bm) ∧ bm ≠ builtinsNs ∧ s.heap.get? bm = some ob ∧ ob.cls = .type "module" ∧ ob.dict = some builtinsNs ∧ ob.data = .plain)
    (ha : s.heap.get? a = some { cls := .type "list", data := .seq vs.toArray }) (hi : IntsAre vs ns) (hl : ns.length ≤ sizeLine) (hr : Room k callerA)
    (F : ∀ base : Heap, K.In base → base.Ns mainGlobals mg → (∀ p ∈ cs, LamX.TabB base mg p.1 p.2) → FnG P w K mg base k fa fd [x] sp) (hbind : ∀ (s : Shared) (u : Value), BindsTo s fd ⟨[u], []⟩ [(x, u)])
    (hsp : ∀ H : Hp, (∀ p ∈ cs, H p.2 = some (.tbl #[]) ∧ p.2 ≠ a) → SqL K H a (ns.map V.int) → sp [.ref a] H (fun v _ => v = .bl true) fun _ _ _ => False) :
    codeAny (model P w) callerA (.call (.ref fa) ⟨[.ref a], []⟩) (fun r s' => r = .ok (.ret (.bool true)) ∧ OldK s.heap s'.heap ∧ s'.os = s.os ∧ AllBare s'.gens) s := by
  obtain ⟨H0, hO, hS0, hok0, hA0⟩ := told (P := P) (w := w) KX ha hi hl
  have isT : ∀ b, b ∈ cs.map (·.2) → s.heap.get? b = some (PySem.W.tabObj #[]) ∧ K.lookup b = none := fun b z => by
    obtain ⟨p, hp, rfl⟩ := List.mem_map.mp z
    exact ⟨hT p hp, nT p hp⟩
  have aT : a ∉ cs.map (·.2) := fun z => by
    have q := (isT a z).1
    rw [ha] at q
    exact absurd (congrArg Obj.data (Option.some.inj q)) (by intro z'; cases z')
  -- the tracked part
  have tr : ∀ {b : Addr} {u : HO}, withT cs H0 b = some u → (b ∈ cs.map (·.2) ∧ u = .tbl #[]) ∨ (b = a ∧ K.lookup a = none ∧ H0 b = some u) := fun {b u} z => by
    by_cases hb : b ∈ cs.map (·.2)
    · rw [show withT cs H0 b = some (.tbl #[]) from if_pos hb] at z
      exact .inl ⟨hb, (Option.some.inj z).symm⟩
    · rw [withT_out hb] at z
      obtain ⟨rfl, h2⟩ := hA0 b u z
      exact .inr ⟨rfl, h2, z⟩
  have free : ∀ {b : Addr}, b ∉ cs.map (·.2) → (b = a → False) ∨ K.lookup b ≠ none → withT cs H0 b = none := fun {b} nb z => by
    cases q : withT cs H0 b with
    | none => rfl
    | some u =>
      rcases tr q with ⟨q1, -⟩ | ⟨rfl, q2, -⟩
      · exact absurd q1 nb
      · exact z.elim (fun z => (z rfl).elim) fun z => absurd q2 z
  have nd : ∀ {b : Addr} {o : Obj}, s.heap.get? b = some o → (∀ us n, o.data ≠ .seq us n) → o.data ≠ .fields #[] → withT cs H0 b = none := fun {b o} e h1 h2 => by
    refine free (fun z => ?_) (.inl fun z => ?_)
    · rw [(isT b z).1] at e
      exact h2 (by rw [← Option.some.inj e])
    · rw [z, ha] at e
      exact h1 _ _ (by rw [← Option.some.inj e])
  have hid : ∀ {b : Addr} {m : Str → Option Value}, s.heap.Ns b m → (hidT s.heap (withT cs H0)).Ns b m := fun {b m} ⟨o, es, ep, e, d, r⟩ => by
    refine ⟨o, es, ep, hidT_get e (nd e (fun _ _ z => ?_) fun z => ?_), d, r⟩ <;> (rw [d] at z; cases z)
  have hK : K.In (hidT s.heap (withT cs H0)) := fun b o e => hidT_get (KX b o e) (free (fun z => by rw [(isT b z).2] at e; cases e) (.inr (by rw [e]; simp)))
  have hok : HOk P w (withT cs H0) s.heap := fun b u z => by
    rcases tr z with ⟨q1, rfl⟩ | ⟨rfl, q2, q3⟩
    · exact (isT b q1).1
    · obtain z2 | ⟨ob, xs, z2⟩ := hO b
      · rw [z2] at q3; cases q3
      · rw [q3] at z2; cases z2
        exact hok0 b _ q3
  have hS : SqL K (withT cs H0) a (ns.map V.int) := by
    rcases hS0 with (z | ⟨o, z⟩) | z
    · exact .inl (.inl (by rw [withT_out aT]; exact z))
    · exact .inl (.inr ⟨o, by rw [withT_out aT]; exact z⟩)
    · exact .inr z
  have TB : ∀ p ∈ cs, LamX.TabB (hidT s.heap (withT cs H0)) mg p.1 p.2 := fun p hp => by
    refine ⟨PySem.W.codeHd_of_K hK (hC p hp), ?_, fun z => ?_⟩
    · obtain ⟨bm, ob, b1, b2, b3, b4, b5, b6⟩ := hm
      refine ⟨bm, ob, b1, b2, fun q => ?_, fun q => ?_, hidT_get b3 (nd b3 (fun _ _ z => ?_) fun z => ?_), b4, b5, b6⟩
      · obtain ⟨o, es, ep, e, d, -⟩ := hns
        rw [q, e] at b3; cases b3; rw [d] at b6; cases b6
      · rw [q, hT p hp] at b3; cases b3; cases b6
      · rw [b6] at z; cases z
      · rw [b6] at z; cases z
    · obtain ⟨o, es, ep, e, d, -⟩ := hns
      rw [z, hT p hp] at e; cases e; cases d
  obtain ⟨mc, l1, l2⟩ := hlim
  have e0 : Env0 P w K mg (hidT s.heap (withT cs H0)) callerA [] s (withT cs H0) :=
    ⟨rfl, ⟨hK, hid hns, ⟨mb, hid hb, hbb⟩, ⟨mc, hid l1, l2⟩⟩, fun _ _ e => of_hidT e, Nat.le_of_eq (hidT_size _ _), trivial, (fun b hb => (List.not_mem_nil (a := b) hb).elim), hok, .of_eq hg⟩
  refine codeAny_mono ((F _ hK (hid hns) TB).run callerA [] s (withT cs H0) ⟨[.ref a], []⟩ [.ref a] [.ref a] _ _ hr rfl e0 (hbind s (.ref a)) (.cons rfl .nil) (hsp _ (fun p hp => ⟨withT_in hp, fun z => aT (z ▸ List.mem_map.mpr ⟨p, hp, rfl⟩)⟩) hS)) fun r s' h => ?_
  match r, h with
  | .error e, h => obtain ⟨_, _, _, _, _, _, _, _, _, _, _, _, z⟩ := h; exact z.elim
  | .ok .next, h => exact h.elim
  | .ok .brk, h => exact h.elim
  | .ok .cont, h => exact h.elim
  | .ok (.ret u), h =>
    obtain ⟨v, H', os, bare, un, hok', r', q⟩ := h; cases (show v = .bl true from q)
    cases (show u = Value.bool true from r')
    have key : ∀ b o, b ∉ cs.map (·.2) → s.heap.get? b = some o → s'.heap.get? b = some o := fun b o nb e => by
      obtain z | ⟨ob, xs, z⟩ := hO b
      · exact un.keep b o e (by rw [withT_out nb]; exact z) (List.not_mem_nil) (by simp)
      · obtain ⟨e1, -⟩ := hok0 b _ z
        obtain ⟨e2, -⟩ := hok' b _ (un.frzs b ob _ (by rw [withT_out nb]; exact z))
        rw [← Option.some.inj (e.symm.trans e1)] at e2
        exact e2
    have grown : ∀ p ∈ cs, ∃ more : Array Value, s'.heap.get? p.2 = some { cls := .none, data := .fields more } := fun p hp => by
      obtain ⟨more, z⟩ := un.tbls p.2 #[] (withT_in hp)
      exact ⟨_, hok' p.2 _ z⟩
    refine ⟨rfl, ⟨fun b o e => ?_, fun b o e => ?_⟩, os, bare⟩ <;> by_cases hb : b ∈ cs.map (·.2)
    · obtain ⟨p, hp, rfl⟩ := List.mem_map.mp hb
      obtain ⟨more, hm⟩ := grown p hp
      rw [hT p hp] at e
      cases e
      exact .inr (.inl ⟨((PySem.W.codeHd_of_K KX (hC p hp)).tab (hT p hp)).isCodeTable, rfl, #[], more, rfl, by rw [Array.empty_append]; exact hm⟩)
    · exact .inl (key b o hb e)
    · obtain ⟨p, hp, rfl⟩ := List.mem_map.mp hb
      obtain ⟨more, hm⟩ := grown p hp
      exact ⟨_, hm⟩
    · exact ⟨o, key b o hb e⟩
/-- what a law's def means for data: its script, then True -/
abbrev spLaw (P : List Int → Prop) : Spc := fun h ds Ψ _ => h = none ∧ ∃ ns, ds = [.scr ns] ∧ P ns ∧ Ψ (.bl true) none
theorem walk_g {l : PySem.W.OpenLaw} {n k : Nat} {q : Program} {loose : List Str} {XP : (Str → Option Value) → Heap → Prop} {YP : World → Heap → Prop} {d : DefRec} {K : Params → Fg} {x : Str} {cs : List (Addr × Addr)} {t : List (Addr × Str)}
    (hn : l.most = some n) (hn2 : n ≤ sizeLine) (hdf : d.params.defaults = []) (hY : ∀ (w : World) (h : Heap), YP w h → (K w.params).In h ∧ ∀ p ∈ cs, h.get? p.2 = some (PySem.W.tabObj #[])) (hr : Room k callerA)
    (nT : ∀ w : World, ∀ p ∈ cs, (K w.params).lookup p.2 = none) (hC : ∀ w : World, ∀ p ∈ cs, PySem.W.codeHdIn (K w.params) p.1 p.2 = true) (ht : ∀ p ∈ t, ∃ c, (c, p.1) ∈ cs)
    (F : ∀ (w : World) (mg : Str → Option Value) (fa : Addr) (h : Heap), (K w.params).In h → h.Ns mainGlobals mg → mg d.name = some (.ref fa) → ∃ fd : FuncData,
      (∀ (s : Shared) (u : Value), BindsTo s fd ⟨[u], []⟩ [(x, u)]) ∧
        ∀ base : Heap, (K w.params).In base → base.Ns mainGlobals mg → (∀ p ∈ cs, LamX.TabB base mg p.1 p.2) → FnG l.prog w (K w.params) mg base k fa fd [x] (lSp (K w.params) t 1 (spLaw fun ns => ns.length ≤ n))) :
    PySem.W.WalkO q loose XP YP l.row.toRowW d [] fun g us => PySem.call g us := by
  refine Att.attach_call hn hdf fun w s₀ s mg mb fa o pm cd doc a vs ns G Y ho hd hcd hmg hobj hints hlen hg => ?_
  obtain ⟨Y1, Y2⟩ := hY w _ Y
  obtain ⟨fd, hb, hF⟩ := F w mg fa _ Y1 G.T.g hmg
  refine law_g Y1 G.T.g G.T.b G.T.builtins G.T.nolimit hg Y2 (nT w) (hC w) G.T.bmain hobj hints (Nat.le_trans hlen hn2) hr hF hb fun H hH hS => ?_
  -- all but the tables never changes
  have hP : ∀ p ∈ t, ∃ q ∈ cs, q.2 = p.1 := fun p hp => by obtain ⟨c, hc⟩ := ht p hp; exact ⟨_, hc, rfl⟩
  let S : Hp := fun b => if b ∈ cs.map (·.2) then none else H b
  have sS : Same S H := fun b u z => by
    by_cases hb : b ∈ cs.map (·.2)
    · rw [show S b = none from if_pos hb] at z; cases z
    · rw [show S b = H b from if_neg hb] at z; exact z
  have aS : S a = H a := if_neg fun z => by obtain ⟨p, hp, e⟩ := List.mem_map.mp z; exact (hH p hp).2 e
  have hS' : SqL (K w.params) S a (ns.map V.int) := by
    rcases hS with (z | ⟨o, z⟩) | z
    · exact .inl (.inl (aS.trans z))
    · exact .inl (.inr ⟨o, aS.trans z⟩)
    · exact .inr z
  have tb : TbOk (tb0 t) S (fun _ => none) H := by
    refine ⟨fun p hp => ?_, fun p hp => ?_, fun _ _ => rfl, (fun _ _ z => nomatch z), fun _ _ z => nomatch z⟩
    · obtain ⟨q, hq, e⟩ := hP p hp
      exact .nil (by rw [← e]; exact (hH q hq).1)
    · obtain ⟨q, hq, e⟩ := hP p hp
      exact if_pos (List.mem_map.mpr ⟨q, hq, e⟩)
  refine ⟨S, fun _ => none, none, [.scr ns], fun d _ => d = .bl true, fun _ _ _ => False, rfl, er_args (.cons (.scr hS') .nil) sS tb (fun _ _ z => nomatch z), ⟨rfl, ns, rfl, hlen, rfl⟩, fun d v o' S' H' q _ _ iv _ => ?_, fun _ _ _ _ _ _ _ z => z.elim⟩
  subst q; cases iv; rfl
end DL
set_option Elab.async false
set_option autoImplicit false
set_option linter.all false
set_option maxRecDepth 100000
set_option maxHeartbeats 3900000
namespace DL
open L2 PyProof.Rows PySem PySem.Spec
variable {τ : Tb}
/-! ### the rules, each with what it means for data -/
abbrev PEd (X : Cx) (τ : Tb) (W : WX) (e : Expr) (w : WE) : Prop := PE X e (lE X.K τ W w)
abbrev PTd (X : Cx) (τ : Tb) (W : WX) (e : Expr) (w : WT) : Prop := PT X e (lT X.K τ W w)
abbrev PAd (X : Cx) (τ : Tb) (W : WX) (es : List Expr) (w : WL) : Prop := PA X es (lL X.K τ W w)
abbrev PSd (X : Cx) (τ : Tb) (W : WX) (s : Stmt) (w : WS) : Prop := PS X s (lS X.K τ W w)
abbrev PSsd (X : Cx) (τ : Tb) (W : WX) (s : List Stmt) (w : WS) : Prop := PSs X s (lS X.K τ W w)
abbrev PId (X : Cx) (τ : Tb) (W : WX) (tg e : Expr) (w : WL) : Prop := PI X tg e (lI X.K τ W w)
abbrev PGd (X : Cx) (τ : Tb) (e : Expr) (g : WG) : Prop := PG X e (lG X.K τ g)
abbrev PEO (X : Cx) (τ : Tb) (W : WX) (e : Expr) (w : WEO) : Prop := PE X e (lEO X.K τ W w)
section
variable {X : Cx} {W : WX} {k : Nat} {x : Str} {a b c d e : Expr} {es rest : List Expr} {p pos pos' cpos apos tpos : Pos} {wa wb wc wk wv : WE} {wt wu : WT} {wl : WL} {w u : WS} {j j' : Nat} {wo : WEO}
theorem e_var {i : Nat} (hN : X.N[i]? = some x := by rfl) (hv : Vis X.env.scope x := by first | exact .inl rfl | exact .inr (.inl rfl) | exact .inr (.inr rfl)) (hd : (x == ("__debug__" : Str)) = false := by decide) (hc : (x == ("__classdict__" : Str)) = false := by decide) :
    PEd X τ W (.Name x pos) (wVar i) := PE.imp (pe_var hN hv hd hc) l_var
theorem e_int {i : Int} : PEd X τ W (.Constant (.int i) j pos) (wC (.int i)) := PE.imp pe_int (l_c fun _ => .int i)
theorem e_str {s : Str} : PEd X τ W (.Constant (.str s) j pos) (wC (.str s)) := PE.imp pe_str (l_c fun _ => .str s)
theorem e_bl {b : Bool} : PEd X τ W (.Constant (.bool b) j pos) (wC (.bl b)) := PE.imp pe_bl (l_c fun _ => .bl b)
theorem e_non : PEd X τ W (.Constant .none j pos) (wC .non) := PE.imp pe_non (l_c fun _ => .non)
theorem e_globI {i : Int} {t : Tok} (hm : X.mg x = some (.int i t)) (hg : Gl X x := by rfl) (hd : (x == ("__debug__" : Str)) = false := by decide) : PEd X τ W (.Name x pos) (wC (.int i)) := PE.imp (pe_glob (v := .int i) hg hm ⟨t, rfl⟩ hd) (l_c fun _ => .int i)
theorem e_cls {C : Addr} (hm : X.mg x = some (.ref C)) (hg : Gl X x := by rfl) (hd : (x == ("__debug__" : Str)) = false := by decide) : PEd X τ W (.Name x pos) (wC (.raw (.ref C))) := PE.imp (pe_glob (v := .ref C) hg hm rfl hd) (l_c fun _ => .raw _)
theorem e_ty {n : String} (hm : X.mg x = none) (hv : bootBuiltins x = some (.type n)) (hg : Gl X x := by rfl) (hn : x ≠ "__name__" := by decide) (hd : (x == ("__debug__" : Str)) = false := by decide) : PEd X τ W (.Name x pos) (wC (.raw (.ty n))) :=
  PE.imp (t := tC (.ty n)) ⟨fun pins s σ H Q I h => ld_blt I hg hm hv ⟨.ty n, H, I, rfl, h⟩ hn hd⟩ (l_c fun _ => .raw _)
theorem a_nil : PAd X τ W [] wNil := PA.imp pa_nil l_nil
theorem a_cons (h : PEd X τ W e wa) (r : PAd X τ W es wl) (hs : starEach (e :: es) X.env = (false, eval e X.env) :: starEach es X.env := by rfl) : PAd X τ W (e :: es) (wCons wa wl) := PA.imp (pa_cons h r hs) l_cons
theorem e_tup {kk : Nat} (h : PAd X τ W es wl) : PEd X τ W (.Tuple es kk pos) (wTup wl) := PE.imp (pe_tup h) l_tup
theorem e_lst (h : PAd X τ W es wl) : PEd X τ W (.List es pos) (wLst wl) := PE.imp (pe_lst h) l_lst
/-! operators -/
theorem e_add (ha : PEd X τ W a wa) (hb : PEd X τ W b wb) : PEd X τ W (.BinOp a .Add b pos) (wOp wAdd wa wb) := PE.imp (pe_op or_add ha hb) (l_op ok_add)
theorem e_sub (ha : PEd X τ W a wa) (hb : PEd X τ W b wb) : PEd X τ W (.BinOp a .Sub b pos) (wOp wSub wa wb) := PE.imp (pe_op op_sub ha hb) (l_op ok_sub)
theorem e_mul (ha : PEd X τ W a wa) (hb : PEd X τ W b wb) : PEd X τ W (.BinOp a .Mult b pos) (wOp wMul wa wb) := PE.imp (pe_op or_mul ha hb) (l_op ok_mul)
theorem e_mod (ha : PEd X τ W a wa) (hb : PEd X τ W b wb) : PEd X τ W (.BinOp a .Mod b pos) (wOp wMod wa wb) := PE.imp (pe_op op_mod ha hb) (l_op ok_mod)
theorem e_div (ha : PEd X τ W a wa) (hb : PEd X τ W b wb) : PEd X τ W (.BinOp a .FloorDiv b pos) (wOp wDiv wa wb) := PE.imp (pe_op op_fdiv ha hb) (l_op ok_div)
theorem e_pow (ha : PEd X τ W a wa) (hb : PEd X τ W b wb) : PEd X τ W (.BinOp a .Pow b pos) (wOp wPow wa wb) := PE.imp (pe_op op_pow ha hb) (l_op ok_pow)
theorem e_ix (ha : PEd X τ W a wa) (hb : PEd X τ W b wb) (hs : PlainIx b := by intro _ _; rfl) : PEd X τ W (.Subscript a b pos) (wOp wIx wa wb) := PE.imp (pe_ix ix_seq ha hb hs) (l_op ok_ix)
abbrev wLt := wCmp fun i j => decide (i < j)
abbrev wLe := wCmp fun i j => decide (i ≤ j)
abbrev wGt := wCmp fun i j => decide (j < i)
abbrev wGe := wCmp fun i j => decide (j ≤ i)
theorem e_lt (ha : PEd X τ W a wa) (hb : PEd X τ W b wb) : PEd X τ W (.Compare a [.Lt] [b] pos) (wOp wLt wa wb) := PE.imp (pe_cmpR op_lt ha hb (nomark _)) (l_op ok_B0)
theorem e_le (ha : PEd X τ W a wa) (hb : PEd X τ W b wb) : PEd X τ W (.Compare a [.LtE] [b] pos) (wOp wLe wa wb) := PE.imp (pe_cmpR op_le ha hb (nomark _)) (l_op ok_B0)
theorem e_gt (ha : PEd X τ W a wa) (hb : PEd X τ W b wb) : PEd X τ W (.Compare a [.Gt] [b] pos) (wOp wGt wa wb) := PE.imp (pe_cmpR op_gt ha hb (nomark _)) (l_op ok_B0)
theorem e_ge (ha : PEd X τ W a wa) (hb : PEd X τ W b wb) : PEd X τ W (.Compare a [.GtE] [b] pos) (wOp wGe wa wb) := PE.imp (pe_cmpR op_ge ha hb (nomark _)) (l_op ok_B0)
theorem Cok.u64 (o : Cok X W (k + 1)) : X.A.units + 64 < cLine := by have := o.rm.un; omega
theorem Cok.u1 (o : Cok X W k) : X.A.units + 1 < cLine := o.hu
theorem Cok.u64' (o : Cok X W k) : X.A.units + 64 < cLine := by have := o.rm.un; omega
theorem e_eq (o : Cok X W k) (ha : PEd X τ W a wa) (hb : PEd X τ W b wb) : PEd X τ W (.Compare a [.Eq] [b] pos) (wOp (wEq false) wa wb) := PE.imp (pe_cmpR (op_eqD o.u64') ha hb (nomark _)) (l_op ok_eq)
theorem e_ne (o : Cok X W k) (ha : PEd X τ W a wa) (hb : PEd X τ W b wb) : PEd X τ W (.Compare a [.NotEq] [b] pos) (wOp (wEq true) wa wb) := PE.imp (pe_cmpR (op_neD o.u64') ha hb (nomark _)) (l_op ok_ne)
theorem e_isN (ha : PEd X τ W a wa) (hb : PEd X τ W b wb) : PEd X τ W (.Compare a [.Is] [b] pos) (wOp (wIsN false) wa wb) := PE.imp (pe_cmpR op_isN ha hb (nomark _)) (l_op ok_isN)
theorem e_notN (ha : PEd X τ W a wa) (hb : PEd X τ W b wb) : PEd X τ W (.Compare a [.IsNot] [b] pos) (wOp (wIsN true) wa wb) := PE.imp (pe_cmpR op_notN ha hb (nomark _)) (l_op ok_notN)
theorem e_leLt (ha : PEd X τ W a wa) (hb : PEd X τ W b wb) (hc : PEd X τ W c wc) (hm : lastMarks [.LtE, .Lt] [b, c] = false := by with_unfolding_all rfl) : PEd X τ W (.Compare a [.LtE, .Lt] [b, c] pos) (wChain wLe wLt wa wb wc) := PE.imp (pe_chain op_le op_lt ha hb hc hm) (l_chain ok_B0 ok_B0)
theorem e_leLe (ha : PEd X τ W a wa) (hb : PEd X τ W b wb) (hc : PEd X τ W c wc) (hm : lastMarks [.LtE, .LtE] [b, c] = false := by with_unfolding_all rfl) : PEd X τ W (.Compare a [.LtE, .LtE] [b, c] pos) (wChain wLe wLe wa wb wc) := PE.imp (pe_chain op_le op_le ha hb hc hm) (l_chain ok_B0 ok_B0)
theorem e_and1 (h : PEd X τ W a wa) : PEd X τ W (.BoolOp .And [a] pos) wa := pe_one h
theorem e_or1 (h : PEd X τ W a wa) : PEd X τ W (.BoolOp .Or [a] pos) wa := pe_one h
theorem e_and (ha : PEd X τ W a wa) (hb : PEd X τ W (.BoolOp .And (b :: rest) pos) wb) : PEd X τ W (.BoolOp .And (a :: b :: rest) pos) (wAndV wa wb) := PE.imp (pe_and ha hb) l_andV
theorem e_or (ha : PEd X τ W a wa) (hb : PEd X τ W (.BoolOp .Or (b :: rest) pos) wb) : PEd X τ W (.BoolOp .Or (a :: b :: rest) pos) (wOrV wa wb) := PE.imp (pe_or ha hb) l_orV
theorem e_not (ha : PEd X τ W a wa) : PEd X τ W (.UnaryOp .Not a pos) (wNotV wa) := PE.imp (pe_not ha) l_notV
theorem e_if (ht : PTd X τ W c wt) (ha : PEd X τ W a wa) (hb : PEd X τ W b wb) : PEd X τ W (.IfExp c a b pos) (wIf wt wa wb) := PE.imp (pe_ifExp ht ha hb) l_if
/-! tests -/
theorem t_of {t : TE} (h : PT X e (tTest t)) (m : ∀ σ H Q, lE X.K τ W wa σ H Q → t σ H Q) : PTd X τ W e (wB wa) := PT.imp h fun σ H Q z => m σ H _ (l_test σ H Q z)
theorem t_val (h : PEd X τ W e wa) (he : ∀ whole, isTrue e X.env whole = (do let v ← whole; standAt e.pos; holding [v] (truthy v)) := by intro _; rfl) : PTd X τ W e (wB wa) := PT.imp (pt_val h he) l_B
theorem t_lt (ha : PEd X τ W a wa) (hb : PEd X τ W b wb) : PTd X τ W (.Compare a [.Lt] [b] pos) (wB (wOp wLt wa wb)) := t_of (pt_cmpR op_lt ha hb (nomark _)) (l_op ok_B0)
theorem t_le (ha : PEd X τ W a wa) (hb : PEd X τ W b wb) : PTd X τ W (.Compare a [.LtE] [b] pos) (wB (wOp wLe wa wb)) := t_of (pt_cmpR op_le ha hb (nomark _)) (l_op ok_B0)
theorem t_gt (ha : PEd X τ W a wa) (hb : PEd X τ W b wb) : PTd X τ W (.Compare a [.Gt] [b] pos) (wB (wOp wGt wa wb)) := t_of (pt_cmpR op_gt ha hb (nomark _)) (l_op ok_B0)
theorem t_ge (ha : PEd X τ W a wa) (hb : PEd X τ W b wb) : PTd X τ W (.Compare a [.GtE] [b] pos) (wB (wOp wGe wa wb)) := t_of (pt_cmpR op_ge ha hb (nomark _)) (l_op ok_B0)
theorem t_eq (o : Cok X W k) (ha : PEd X τ W a wa) (hb : PEd X τ W b wb) : PTd X τ W (.Compare a [.Eq] [b] pos) (wB (wOp (wEq false) wa wb)) := t_of (pt_cmpR (op_eqD o.u64') ha hb (nomark _)) (l_op ok_eq)
theorem t_ne (o : Cok X W k) (ha : PEd X τ W a wa) (hb : PEd X τ W b wb) : PTd X τ W (.Compare a [.NotEq] [b] pos) (wB (wOp (wEq true) wa wb)) := t_of (pt_cmpR (op_neD o.u64') ha hb (nomark _)) (l_op ok_ne)
theorem t_isN (ha : PEd X τ W a wa) (hb : PEd X τ W b wb) : PTd X τ W (.Compare a [.Is] [b] pos) (wB (wOp (wIsN false) wa wb)) := t_of (pt_cmpR op_isN ha hb (nomark _)) (l_op ok_isN)
theorem t_notN (ha : PEd X τ W a wa) (hb : PEd X τ W b wb) : PTd X τ W (.Compare a [.IsNot] [b] pos) (wB (wOp (wIsN true) wa wb)) := t_of (pt_cmpR op_notN ha hb (nomark _)) (l_op ok_notN)
theorem t_leLe (ha : PEd X τ W a wa) (hb : PEd X τ W b wb) (hc : PEd X τ W c wc) (hm : lastMarks [.LtE, .LtE] [b, c] = false := by with_unfolding_all rfl) : PTd X τ W (.Compare a [.LtE, .LtE] [b, c] pos) (wB (wChain wLe wLe wa wb wc)) := t_of (pt_chain op_le op_le ha hb hc hm) (l_chain ok_B0 ok_B0)
theorem t_not (h : PTd X τ W a wt) : PTd X τ W (.UnaryOp .Not a pos) (wNot wt) := PT.imp (pt_not h) l_not
abbrev PWd (X : Cx) (τ : Tb) (W : WX) (e : Expr) (w : WT) : Prop := PW X e (lT X.K τ W w)
theorem q_and1 (h : PTd X τ W a wt) : PWd X τ W (.BoolOp .And [a] pos) wt := pw_and1 h
theorem q_or1 (h : PTd X τ W a wt) : PWd X τ W (.BoolOp .Or [a] pos) wt := pw_or1 h
theorem q_and (h : PTd X τ W a wt) (r : PWd X τ W (.BoolOp .And (b :: rest) pos) wu) : PWd X τ W (.BoolOp .And (a :: b :: rest) pos) (wAnd wt wu) := PW.imp (pw_and h r) l_and
theorem q_or (h : PTd X τ W a wt) (r : PWd X τ W (.BoolOp .Or (b :: rest) pos) wu) : PWd X τ W (.BoolOp .Or (a :: b :: rest) pos) (wOr wt wu) := PW.imp (pw_or h r) l_or
theorem t_pw (h : PWd X τ W a wt) : PTd X τ W a wt := PW.pt h
theorem t_din (o : Cok X W k) (ha : PEd X τ W a wa) (hb : PEd X τ W b wb) (h1 : behindInMarks .In b = false := by first | exact nobehind _ (by decide) (by decide) | rfl) : PTd X τ W (.Compare a [.In] [b] pos) (wB (wDIn false wa wb)) := PT.imp (pt_cmp (pc_din o.u1 (PE.imp ha fun _ _ _ z => z) hb) h1) fun σ H Q z => l_din σ H _ (l_B σ H Q z)
theorem t_dnin (o : Cok X W k) (ha : PEd X τ W a wa) (hb : PEd X τ W b wb) (h1 : behindInMarks .NotIn b = false := by first | exact nobehind _ (by decide) (by decide) | rfl) : PTd X τ W (.Compare a [.NotIn] [b] pos) (wB (wDIn true wa wb)) := PT.imp (pt_cmp (pc_dnotin o.u1 ha hb) h1) fun σ H Q z => l_dnin σ H _ (l_B σ H Q z)
/-! built-ins -/
theorem e_len (hm : X.mg "len" = none) (ha : PAd X τ W (e :: es) wl) (hg : Gl X "len" := by rfl) (he : starEach (e :: es) X.env = (false, eval e X.env) :: starEach es X.env := by rfl) (hpl : (backTo pos (starEach es X.env)).any (·.1) = false := by rfl) : PEd X τ W (.Call (.Name "len" p) (e :: es) [] pos) (wCB wLen wl) := PE.imp (pe_callB cr_lenD hg hm PySem.boot_len ha (by decide) (by decide) he hpl) (l_cb ok_len)
theorem e_lenO {i : Nat} (hm : X.mg "len" = none) (hN : X.N[i]? = some x := by rfl) (hv : Vis X.env.scope x := by first | exact .inl rfl | exact .inr (.inl rfl) | exact .inr (.inr rfl)) (hg : Gl X "len" := by rfl) (hd : (x == ("__debug__" : Str)) = false := by decide) (hc : (x == ("__classdict__" : Str)) = false := by decide)
    (he : starEach [.Name x pos'] X.env = [(false, eval (.Name x pos') X.env)] := by rfl) : PEd X τ W (.Call (.Name "len" p) [.Name x pos'] [] pos) (wLenO i) := PE.imp (pe_callB cr_lenD hg hm PySem.boot_len (pa_cons (pe_var hN hv hd hc) pa_nil he) (by decide) (by decide) he rfl) l_lenO
theorem e_abs (hm : X.mg "abs" = none) (ha : PAd X τ W (e :: es) wl) (hg : Gl X "abs" := by rfl) (he : starEach (e :: es) X.env = (false, eval e X.env) :: starEach es X.env := by rfl) (hpl : (backTo pos (starEach es X.env)).any (·.1) = false := by rfl) : PEd X τ W (.Call (.Name "abs" p) (e :: es) [] pos) (wCB wAbs wl) := PE.imp (pe_callB call_abs hg hm PyProof.Rows.Boot.abs ha (by decide) (by decide) he hpl) (l_cb ok_abs)
end
end DL
set_option Elab.async false
set_option autoImplicit false
set_option linter.all false
set_option maxRecDepth 100000
set_option maxHeartbeats 3900000
namespace DL
open L2 PyProof.Rows PySem PySem.Spec
variable {τ : Tb}
section
variable {X : Cx} {W : WX} {k : Nat} {x y : Str} {a b c d e f o : Expr} {es rest : List Expr} {p pos pos' cpos apos tpos px py pt pt2 : Pos} {wa wb wc wk wv : WE} {wt wu : WT} {wl wi : WL} {w u : WS} {j j' kt k2 : Nat} {wo : WEO} {wr : WCl} {r : List V → Hp → VK → Prop} {id T : String}
/-! built-ins by name: functions, types -/
theorem e_blt (cr : CallR X (.builtin id) r) (ok : CallOk X.K τ r wr) (hm : X.mg x = none) (hv : bootBuiltins x = some (.builtin id)) (ha : PAd X τ W (e :: es) wl) (hg : Gl X x := by rfl) (hn : x ≠ "__name__" := by decide) (hd : (x == ("__debug__" : Str)) = false := by decide)
    (he : starEach (e :: es) X.env = (false, eval e X.env) :: starEach es X.env := by rfl) (hpl : (backTo pos (starEach es X.env)).any (·.1) = false := by rfl) : PEd X τ W (.Call (.Name x p) (e :: es) [] pos) (wCB wr wl) := PE.imp (pe_callB cr hg hm hv ha hn hd he hpl) (l_cb ok)
theorem e_bty (cr : CallR X (.type T) r) (ok : CallOk X.K τ r wr) (hm : X.mg x = none) (hv : bootBuiltins x = some (.type T)) (ha : PAd X τ W (e :: es) wl) (hg : Gl X x := by rfl) (hn : x ≠ "__name__" := by decide) (hd : (x == ("__debug__" : Str)) = false := by decide)
    (he : starEach (e :: es) X.env = (false, eval e X.env) :: starEach es X.env := by rfl) (hpl : (backTo pos (starEach es X.env)).any (·.1) = false := by rfl) : PEd X τ W (.Call (.Name x p) (e :: es) [] pos) (wCB wr wl) := PE.imp (pe_callTy cr hg hm hv ha hn hd he hpl) (l_cb ok)
theorem e_tupRg (hc : X.calm = true) (hm : X.mg "tuple" = none) (hm2 : X.mg "range" = none) (ha : PEd X τ W a wa) (hg : Gl X "tuple" := by rfl) (hg2 : Gl X "range" := by rfl) (na : starEach [a] X.env = (false, eval a X.env) :: starEach [] X.env := by rfl)
    (nb : starEach [.Call (.Name "range" p) [a] [] pos'] X.env = (false, eval (.Call (.Name "range" p) [a] [] pos') X.env) :: starEach [] X.env := by rfl) : PEd X τ W (.Call (.Name "tuple" px) [.Call (.Name "range" p) [a] [] pos'] [] pos) (wRgT (wCons wa wNil)) :=
  PE.imp (pe_tupRg hc hg hm (prg_1 hg2 hm2 ha na) nb) l_rgT
/-! methods of texts, lists -/
theorem e_join (ha : PEd X τ W o wa) (hb : PEd X τ W e wb) (hs : starEach [e] X.env = [(false, eval e X.env)] := by rfl) (hbase : attributeBase o "join" X.env (eval o X.env) = eval o X.env := by rfl) (hline : (apos.endLine == pos.line) = true := by rfl) :
    PEd X τ W (.Call (.Attribute o "join" apos) [e] [] pos) (wM1 wJoin wa wb) := PE.imp (pe_join ha hb hs hbase hline) (l_m1 ok_join)
theorem e_split (ha : PEd X τ W o wa) (hb : PEd X τ W e wb) (hs : starEach [e] X.env = [(false, eval e X.env)] := by rfl) (hbase : attributeBase o "split" X.env (eval o X.env) = eval o X.env := by rfl) (hline : (apos.endLine == pos.line) = true := by rfl) :
    PEd X τ W (.Call (.Attribute o "split" apos) [e] [] pos) (wM1 wSplit wa wb) := PE.imp (pe_split ha hb hs hbase hline) (l_m1 ok_split)
/-! dicts, slices, fields, f-strings -/
theorem e_dget (q : Cok X W k) (ha : PEd X τ W o wa) (hb : PEd X τ W e wb) (hs : NoSl e := by intro _ _; rfl) : PEd X τ W (.Subscript o e pos) (wDGet wa wb) := PE.imp (pe_dget q.u1 ha hb hs) l_dget
theorem e_dget2 (q : Cok X W k) (ha : PEd X τ W o wa) (hb : PEd X τ W e wb) (hc : PEd X τ W f wc) (m : M2 X o "get" apos e f cpos) : PEd X τ W (.Call (.Attribute o "get" apos) [e, f] [] cpos) (wDGet2 wa wb wc) := PE.imp (pe_dget2 q.u1 ha hb hc m) l_dget2
abbrev POd (X : Cx) (τ : Tb) (W : WX) (e : Option Expr) (w : WO) : Prop := PO X e (lO X.K τ W w)
variable {lo hi : Option Expr} {wlo whi : WO} {p2 : Pos}
theorem s_none : POd X τ W none woNone := ⟨fun pins s σ H Q I h => po_none.run pins s σ H Q I (o_none σ H Q h)⟩
theorem s_some (ha : PEd X τ W e wa) : POd X τ W (some e) (woSome wa) := ⟨fun pins s σ H Q I h => (po_some ha).run pins s σ H Q I (o_some σ H Q h)⟩
theorem e_slice (ha : PEd X τ W e wa) (hl : POd X τ W lo wlo) (hu : POd X τ W hi whi) : PEd X τ W (.Subscript e (.Slice lo hi none p2) pos) (wSl wa wlo whi) := PE.imp (pe_slice (SlR.or sl_list sl_tupA) ha hl hu) l_sl
theorem e_fld {C : Addr} (hc : Cls X.K C) (hn : NoAttr X.K C x) (ha : PEd X τ W e wa) (hb : attributeBase e x X.env (eval e X.env) = eval e X.env := by rfl) : PEd X τ W (.Attribute e x pos) (wFld C x wa) := PE.imp (pe_fld ha hb) (l_fld hc hn)
theorem e_fldO {C : Addr} {i : Nat} (hc : Cls X.K C) (hn : NoAttr X.K C x) (hN : X.N[i]? = some y := by rfl) (hv : Vis X.env.scope y := by first | exact .inl rfl | exact .inr (.inl rfl) | exact .inr (.inr rfl)) (hd : (y == ("__debug__" : Str)) = false := by decide) (hcd : (y == ("__classdict__" : Str)) = false := by decide)
    (hb : attributeBase (.Name y p) x X.env (eval (.Name y p) X.env) = eval (.Name y p) X.env := by rfl) : PEd X τ W (.Attribute (.Name y p) x pos) (wFldO C x i) := PE.imp (pe_fld (pe_var hN hv hd hcd) hb) (l_fldO hc hn)
theorem e_fmt (ha : PEd X τ W e wa) : PEd X τ W (.FormattedValue e (-1) none pos) (wFmt wa) := PE.imp (pe_fmt ha) l_fmt
inductive PJd (X : Cx) (τ : Tb) (W : WX) : List Expr → List WE → Prop
  | nil : PJd X τ W [] []
  | cons {e : Expr} {w : WE} {es : List Expr} {ws : List WE} (h : PEd X τ W e w) (r : PJd X τ W es ws) : PJd X τ W (e :: es) (w :: ws)
theorem PJd.pj : ∀ {es : List Expr} {ws : List WE}, PJd X τ W es ws → PJ X es (ws.map (lE X.K τ W))
  | _, _, .nil => .nil
  | _, _, .cons h r => .cons h r.pj
theorem e_fs {ws : List WE} (h : PJd X τ W (a :: b :: es) ws) : PEd X τ W (.JoinedStr (a :: b :: es) pos) (wFs ws) := PE.imp (pe_joined h.pj) l_fs
/-! own lists -/
theorem e_ixO {i : Nat} (hb : PEd X τ W b wb) (hN : X.N[i]? = some x := by rfl) (hv : Vis X.env.scope x := by first | exact .inl rfl | exact .inr (.inl rfl) | exact .inr (.inr rfl)) (hs : PlainIx b := by intro _ _; rfl) (hd : (x == ("__debug__" : Str)) = false := by decide) (hc : (x == ("__classdict__" : Str)) = false := by decide) :
    PEd X τ W (.Subscript (.Name x p) b pos) (wIxO i wb) := PE.imp (pe_ix ix_seq (pe_var hN hv hd hc) hb hs) l_ixO
theorem o_lst (h : PAd X τ W es wl) : PEO X τ W (.List es pos) (woLst wl) := PE.imp (pe_lst h) lo_lst
theorem o_lstOf (hm : X.mg "list" = none) (ha : PAd X τ W [e] wl) (hg : Gl X "list" := by rfl) (he : starEach [e] X.env = (false, eval e X.env) :: starEach [] X.env := by rfl) : PEO X τ W (.Call (.Name "list" p) [e] [] pos) (woLstOf wl) := PE.imp (pe_callTy call_list_of hg hm PyProof.Rows.Boot.list ha (by decide) (by decide) he rfl) lo_lstOf
/-! statements -/
theorem s_nil : PSsd X τ W [] wNext := PSs.imp pss_nil l_next
variable {st : Stmt} {sts body tl fl : List Stmt} {i : Nat}
theorem s_cons (h : PSd X τ W st w) (r : PSsd X τ W sts u) : PSsd X τ W (st :: sts) (wSeq w u) := PSs.imp (pss_cons h r) l_seq
theorem s_one (h : PSd X τ W st w) : PSsd X τ W [st] w := pss_one h
theorem s_pass : PSd X τ W (.Pass pos) wNext := PS.imp ps_pass l_next
theorem s_brk : PSd X τ W (.Break pos) wBreak := PS.imp ps_break l_brk
theorem s_cnt : PSd X τ W (.Continue pos) wCont := PS.imp ps_continue l_cnt
theorem s_ret (h : PEd X τ W e wa) : PSd X τ W (.Return (some e) pos) (wRet wa) := PS.imp (ps_ret h) l_ret
theorem s_retN : PSd X τ W (.Return none pos) wRetN := PS.imp ps_retN l_retN
theorem s_retO (h : PEO X τ W e wo) : PSd X τ W (.Return (some e) pos) (wRetO wo) := PS.imp (ps_ret h) l_retO
theorem s_drop (h : PEd X τ W e wa) (hs : swapsWith e none pos.line X.env = pure false := by rfl) : PSd X τ W (.Expr e pos) (wDrop wa) := PS.imp (ps_expr h hs) l_drop
theorem s_set (hN : X.N.Nodup) (i : Nat) (h : PEd X τ W e wa) (hi : X.N[i]? = some x := by rfl) (hx : Loc X.env.scope x := by first | exact .inl rfl | exact .inr rfl) (hs : swapsWith e (some (.Name x pos')) pos.line X.env = pure false := by rfl)
    (hf : X.fn x = true ∨ X.env.scope.names.lookup x = some .local := by first | exact .inl rfl | exact .inr rfl) : PSd X τ W (.Assign [.Name x pos'] e pos) (wAsg i wa) := PS.imp (ps_set hN hi hx h hs hf) l_asg
theorem s_setO (hN : X.N.Nodup) (i : Nat) (h : PEO X τ W e wo) (hi : X.N[i]? = some x := by rfl) (hx : Loc X.env.scope x := by first | exact .inl rfl | exact .inr rfl) (hs : swapsWith e (some (.Name x pos')) pos.line X.env = pure false := by rfl)
    (hf : X.fn x = true ∨ X.env.scope.names.lookup x = some .local := by first | exact .inl rfl | exact .inr rfl) : PSd X τ W (.Assign [.Name x pos'] e pos) (wAsgO i wo) := PS.imp (ps_set hN hi hx h hs hf) l_asgO
theorem s_par (hN : X.N.Nodup) (hc : X.calm = true) (i m : Nat) (h : PAd X τ W [a, b] wl) (hw : swappedStores [.Tuple [.Name x px, .Name y py] kt pt] (.Tuple [a, b] k2 pt2) X.env = pure (some [x, y])) (hij : i ≠ m := by decide) (hi : X.N[i]? = some x := by rfl) (hj : X.N[m]? = some y := by rfl)
    (hx : X.env.scope.names.lookup x = some .local := by rfl) (hy : X.env.scope.names.lookup y = some .local := by rfl) (hs : swapsWithSole [.Tuple [.Name x px, .Name y py] kt pt] (.Tuple [a, b] k2 pt2) pos.line X.env = pure false := by rfl) :
    PSd X τ W (.Assign [.Tuple [.Name x px, .Name y py] kt pt] (.Tuple [a, b] k2 pt2) pos) (wPar i m wl) := PS.imp (ps_par hc hN hi hj hij hx hy h hw hs) l_par
theorem s_parO (hN : X.N.Nodup) (hc : X.calm = true) (i m : Nat) (h : PEd X τ W a wa) (ho : PEO X τ W b wo) (hw : swappedStores [.Tuple [.Name x px, .Name y py] kt pt] (.Tuple [a, b] k2 pt2) X.env = pure (some [x, y])) (hij : i ≠ m := by decide) (hi : X.N[i]? = some x := by rfl) (hj : X.N[m]? = some y := by rfl)
    (hx : X.env.scope.names.lookup x = some .local := by rfl) (hy : X.env.scope.names.lookup y = some .local := by rfl) (hs : swapsWithSole [.Tuple [.Name x px, .Name y py] kt pt] (.Tuple [a, b] k2 pt2) pos.line X.env = pure false := by rfl)
    (h1 : starEach [a, b] X.env = (false, eval a X.env) :: starEach [b] X.env := by rfl) (h2 : starEach [b] X.env = (false, eval b X.env) :: starEach [] X.env := by rfl) :
    PSd X τ W (.Assign [.Tuple [.Name x px, .Name y py] kt pt] (.Tuple [a, b] k2 pt2) pos) (wParO i m wa wo) := PS.imp (ps_par hc hN hi hj hij hx hy (pa_cons h (pa_cons ho pa_nil h2) h1) hw hs) l_parO
theorem s_if (ht : PTd X τ W c wt) (ha : PSsd X τ W tl w) (hb : PSsd X τ W fl u) : PSd X τ W (.If c tl fl pos) (wIfS wt w u) := PS.imp (ps_if ht ha hb) l_ifS
theorem s_setO1 {wj : WE} (i : Nat) (hk : PEd X τ W b wj) (h : PEd X τ W e wa) (hN : X.N[i]? = some x := by rfl) (hv : Vis X.env.scope x := by first | exact .inl rfl | exact .inr (.inl rfl) | exact .inr (.inr rfl)) (hd : (x == ("__debug__" : Str)) = false := by decide) (hc : (x == ("__classdict__" : Str)) = false := by decide)
    (ha : ∀ v, assign (.Subscript (.Name x p) b tpos) X.env v = (do
      let ov ← holding [v] (eval (.Name x p) X.env)
      let iv ← holding [v, ov] (eval b X.env)
      standAt tpos
      holding [v, ov, iv] (setItem ov iv v); release [v, ov, iv] []) := by intro _; rfl)
    (hs : swapsWithSole [.Subscript (.Name x p) b tpos] e pos.line X.env = pure false := by rfl) (hw : swappedStores [.Subscript (.Name x p) b tpos] e X.env = pure none := by rfl)
    (h1 : (assignEach [.Subscript (.Name x p) b tpos] X.env).map (·.2) = [assign (.Subscript (.Name x p) b tpos) X.env] := by rfl) : PSd X τ W (.Assign [.Subscript (.Name x p) b tpos] e pos) (wSetO i wj wa) :=
  PS.imp (ps_asg h (pg_sub (pe_var hN hv hd hc) hk set_list ha) hs hw h1) l_setO
theorem s_app (i : Nat) (h : PEd X τ W e wa) (hN : X.N[i]? = some x := by rfl) (hv : Vis X.env.scope x := by first | exact .inl rfl | exact .inr (.inl rfl) | exact .inr (.inr rfl)) (hd : (x == ("__debug__" : Str)) = false := by decide) (hc : (x == ("__classdict__" : Str)) = false := by decide)
    (hbase : attributeBase (.Name x p) "append" X.env (eval (.Name x p) X.env) = eval (.Name x p) X.env := by rfl)
    (hfew : ((backTo cpos (starEach [e] X.env)).all (fun x => !x.1) && (backToKw cpos (keywordEach [] X.env)).all (fun x => x.1.isSome) && decide ([e].length + ([] : List Keyword).length + (if ([] : List Keyword).isEmpty then 0 else 1) < 30)) = true := by rfl)
    (hline : (apos.endLine == cpos.line) = true := by rfl) (hs : starEach [e] X.env = (false, eval e X.env) :: starEach [] X.env := by rfl) (hw : swapsWith (.Call (.Attribute (.Name x p) "append" apos) [e] [] cpos) none pos.line X.env = pure false := by rfl) :
    PSd X τ W (.Expr (.Call (.Attribute (.Name x p) "append" apos) [e] [] cpos) pos) (wApp i wa) :=
  PS.imp (ps_expr (pe_bm PySem.F.plainAttrs_list PySem.F.slot_list_append PySem.F.type_list_append mt_append (pe_var hN hv hd hc) (pa_cons h pa_nil hs) hbase hfew hline hs rfl) hw) l_app
theorem s_fset {C : Addr} (i : Nat) (hc : Cls X.K C) (hn : NoAttr X.K C y) (h : PEd X τ W e wa) (hN : X.N[i]? = some x := by rfl) (hv : Vis X.env.scope x := by first | exact .inl rfl | exact .inr (.inl rfl) | exact .inr (.inr rfl)) (hd : (x == ("__debug__" : Str)) = false := by decide) (hcd : (x == ("__classdict__" : Str)) = false := by decide)
    (hs : swapsWith e (some (.Attribute (.Name x p) y pos')) pos.line X.env = pure false := by rfl) : PSd X τ W (.Assign [.Attribute (.Name x p) y pos'] e pos) (wFset C y i wa) := PS.imp (ps_fld (pe_var hN hv hd hcd) h hs) (l_fset hc hn)
/-! targets, walks, loops -/
theorem g_nm (hN : X.N.Nodup) (i : Nat) (hi : X.N[i]? = some x := by rfl) (hx : Loc X.env.scope x := by first | exact .inl rfl | exact .inr rfl) (hf : X.fn x = true ∨ X.env.scope.names.lookup x = some .local := by first | exact .inl rfl | exact .inr rfl) : PGd X τ (.Name x pos) (wgName i) := PG.imp (pg_name hN hi hx hf) g_name
theorem g_two (hN : X.N.Nodup) (hc : X.calm = true) (i m : Nat) (hi : X.N[i]? = some x := by rfl) (hj : X.N[m]? = some y := by rfl) (hx : Loc X.env.scope x := by first | exact .inl rfl | exact .inr rfl) (hy : Loc X.env.scope y := by first | exact .inl rfl | exact .inr rfl)
    (hf : X.fn x = true ∨ X.env.scope.names.lookup x = some .local := by first | exact .inl rfl | exact .inr rfl) (hf2 : X.fn y = true ∨ X.env.scope.names.lookup y = some .local := by first | exact .inl rfl | exact .inr rfl)
    (hn : (assignEach [.Name x px, .Name y py] X.env).length = 2 := by rfl) (hst : (assignEach [.Name x px, .Name y py] X.env).findIdx? (·.1) = none := by rfl) : PGd X τ (.Tuple [.Name x px, .Name y py] kt pt) (wgTup 2 (wgCons (wgName i) (wgCons (wgName m) wgNil))) :=
  PG.imp (pg_tup hc (PGs.imp (pgs_cons (PG.imp (pg_name hN hi hx hf) g_name) (PGs.imp (pgs_cons (PG.imp (pg_name hN hj hy hf2) g_name) (PGs.imp pgs_nil g_nil)) g_cons)) g_cons) hn hst) g_tup
theorem i_seq {tg : Expr} (h : PEd X τ W e wa) : PId X τ W tg e (wiSeq wa) := d_seq h
theorem i_rng1 {tg : Expr} (hm : X.mg "range" = none) (ha : PAd X τ W [a] wl) (hg : Gl X "range" := by rfl) (hs : starEach [a] X.env = [(false, eval a X.env)] := by rfl) : PId X τ W tg (.Call (.Name "range" p) [a] [] pos) (wiRg1 wl) := PI.imp (pi_range1 hg hm ha hs) i_rg1
theorem s_for {tg : Expr} {g : WG} (hp : PassesOwn (model X.prog X.w) X.A X.env X.xe) (hc : X.calm = true) (hi : PId X τ W tg e wi) (hg : PGd X τ tg g) (hb : PSsd X τ W body w) (hs : ∀ x, foldedSetIterable e X.env x = pure x := by intro _; rfl) : PSd X τ W (.For tg e body [] pos) (wFor wi g w) := PS.imp (ps_for hp hc hi hg hb hs) l_for
end
end DL
set_option Elab.async false
set_option autoImplicit false
set_option linter.all false
set_option maxRecDepth 100000
set_option maxHeartbeats 3900000
namespace DL
open L2 PyProof.Rows PySem PySem.Spec
variable {τ : Tb}
/-! ### comprehensions -/
abbrev Blk (X : Cx) (P : Cx → Prop) (scope : Scope) : Prop := ∀ (s : Shared) (H : Hp) (C : Addr) (cl : List (Str × Addr)) (fp : List Addr), P (X.blk s H scope (compEnvC scope cl C X.env) fp)
theorem PTs.imp {X : Cx} {ifs : List Expr} {t t' : TT} (h : PTs X ifs t) (m : ∀ σ H Q, t' σ H Q → t σ H Q) : PTs X ifs t' := ⟨fun pins s σ H Q I q => h.run pins s σ H Q I (m σ H Q q)⟩
theorem PK.imp {X : Cx} {ks : List Keyword} {t t' : TA} (h : PK X ks t) (m : ∀ σ H Q, t' σ H Q → t σ H Q) : PK X ks t' := ⟨fun pos pins s σ H Q I q => h.run pos pins s σ H Q I (m σ H Q q)⟩
theorem f_nil {X : Cx} {W : WX} : PTs X [] (lT X.K τ W wTrue) := PTs.imp pts_nil l_yes
theorem f_one {X : Cx} {W : WX} {c : Expr} {wt : WT} (h : PTd X τ W c wt) : PTs X [c] (lT X.K τ W wt) := pts_one h
section
variable {X : Cx} {W : WX} {k n m N : Nat} {x : Str} {e tg iter elt kx : Expr} {es : List Expr} {ifs : List Expr} {scope : Scope} {own : List (Str × Nat)} {p pos p2 : Pos} {wa we wk : WE} {wi wl : WL} {g : WG} {wt : WT} {f C : Addr} {fd : FuncData} {ps ks : List Str} {sp : Spc}
theorem e_lc (hc : X.calm = true) (hN : X.N.Nodup) (hi : PId X τ W tg iter wi) (ok : BlkOk X.N X.env.scope scope own) (hg : Blk X (fun Y => PG Y tg (lGc X.K τ (own.map (·.2)) g)) scope) (ht : Blk X (fun Y => PTs Y ifs (lT X.K τ W0 wt)) scope) (he : Blk X (fun Y => PE Y elt (lE X.K τ W0 we)) scope)
    (hs : ∀ x, foldedSetIterable iter X.env x = pure x := by intro _; rfl) : PEd X τ W (.ListComp elt [⟨tg, iter, ifs, 0⟩] scope pos) (wLc wi g wt we (own.map (·.2))) := PE.imp (pe_lc hc hN hi ok hg ht he hs) l_lc
theorem o_lc (hc : X.calm = true) (hN : X.N.Nodup) (hi : PId X τ W tg iter wi) (ok : BlkOk X.N X.env.scope scope own) (hg : Blk X (fun Y => PG Y tg (lGc X.K τ (own.map (·.2)) g)) scope) (ht : Blk X (fun Y => PTs Y ifs (lT X.K τ W0 wt)) scope) (he : Blk X (fun Y => PE Y elt (lE X.K τ W0 we)) scope)
    (hs : ∀ x, foldedSetIterable iter X.env x = pure x := by intro _; rfl) : PEO X τ W (.ListComp elt [⟨tg, iter, ifs, 0⟩] scope pos) (woLc wi g wt we (own.map (·.2))) := PE.imp (pe_lc hc hN hi ok hg ht he hs) lo_lc
theorem e_dc (hc : X.calm = true) (hN : X.N.Nodup) (hi : PId X τ W tg iter wi) (ok : BlkOk X.N X.env.scope scope own) (hg : Blk X (fun Y => PG Y tg (lGc X.K τ (own.map (·.2)) g)) scope) (ht : Blk X (fun Y => PTs Y ifs (lT X.K τ W0 wt)) scope) (hk : Blk X (fun Y => PE Y kx (lE X.K τ W0 wk)) scope) (he : Blk X (fun Y => PE Y elt (lE X.K τ W0 we)) scope)
    (hs : ∀ x, foldedSetIterable iter X.env x = pure x := by intro _; rfl) : PEd X τ W (.DictComp kx elt [⟨tg, iter, ifs, 0⟩] scope pos) (wDc wi g wt wk we (own.map (·.2))) := PE.imp (pe_dc hc hN hi ok hg ht hk he hs) l_dc
theorem g_c {K : Fg} {vs : List Nat} {Y : Cx} (i : Nat) (hN : Y.N.Nodup) (hv : i ∈ vs := by decide) (hi : Y.N[i]? = some x := by rfl) (hx : Loc Y.env.scope x := by first | exact .inl rfl | exact .inr rfl) (hf : Y.fn x = true ∨ Y.env.scope.names.lookup x = some .local := by first | exact .inl rfl | exact .inr rfl) : PG Y (.Name x pos) (lGc K τ vs (wgName i)) :=
  PG.imp (pg_name hN hi hx hf) (gc_name hv)

/-! ### calls of defs -/
theorem lL_mono {K : Fg} {w : WL} {σ : L2.St} {H : Hp} {Q Q' : List V → Hp → Prop} (h : lL K τ W w σ H Q) (m : ∀ vs H', Q vs H' → Q' vs H') : lL K τ W w σ H Q' := by
  obtain ⟨ρ, S, F, χ, Φ, e, hw, hx, hp⟩ := h
  exact ⟨ρ, S, F, χ, Φ, e, hw, hx, fun vs ds ρ' S' H' a b c d => m vs H' (hp vs ds ρ' S' H' a b c d)⟩
structure Dn (K : Fg) (mg : Str → Option Value) (x : Str) (f : Addr) (fd : FuncData) (ps : List Str) (n : Nat) : Prop where
  m : mg x = some (.ref f)
  kp : PySem.W.keepIn K (Value.ref f) = true
  kb : KBn K fd ps n [] (fun us _ => us) (fun us _ => us)
theorem kb_of {K : Fg} {fd : FuncData} {ps : List Str} {n : Nat} (h : Binds K fd ps []) (hn : ps.length = n) : KBn K fd ps n [] (fun us _ => us) (fun us _ => us) :=
  ⟨fun s us ws hK h1 h2 => by
    have z := h s us hK (by rw [List.append_nil, h1, hn])
    rw [List.append_nil] at z
    exact z, fun r _ => r⟩
theorem grel_pos : GRel n 0 n (fun vs _ => vs) (fun ds _ => ds) := fun K S vs ds us es i1 i2 h1 h2 => ⟨i1, h1⟩
theorem e_call {tt : List (Addr × Str)} (o : Cok X W k) {j : Nat} (F : FnG X.prog X.w X.K X.mg X.base j f fd ps (lSp X.K tt n sp)) (U : Dn X.K X.mg x f fd ps n) (ha : PAd X τ W (e :: es) wl) (hj : j ≤ k := by decide) (hg : Gl X x := by rfl) (hd : (x == ("__debug__" : Str)) = false := by decide)
    (he : starEach (e :: es) X.env = (false, eval e X.env) :: starEach es X.env := by rfl) (hpl : (backTo pos (starEach es X.env)).any (·.1) = false := by rfl) (ht : τ.t = tt := by rfl) : PEd X τ W (.Call (.Name x p) (e :: es) [] pos) (wCallA n 0 sp (fun ds _ => ds) wl wNil) := by
  subst ht
  exact PE.imp (pe_g (F.mono hj) o hg U.m U.kp U.kb ha hpl hd he) fun σ H Q z => lL_mono (l_callA grel_pos σ H Q z) fun vs H' q => l_nil σ H' _ q
theorem e_callB {tt : List (Addr × Str)} (o : Cok X W k) {i j : Nat} (F : FnG X.prog X.w X.K X.mg X.base j f fd ps (lSp X.K tt (n + 1) sp)) (U : Dn X.K X.mg x f fd ps (n + 1)) {y : Str} {py : Pos} (ha : PAd X τ W es wl) (hj : j ≤ k := by decide) (hN : X.N[i]? = some y := by rfl) (hv : Vis X.env.scope y := by first | exact .inl rfl | exact .inr (.inl rfl) | exact .inr (.inr rfl))
    (hg : Gl X x := by rfl) (hd : (x == ("__debug__" : Str)) = false := by decide) (hd2 : (y == ("__debug__" : Str)) = false := by decide) (hc2 : (y == ("__classdict__" : Str)) = false := by decide)
    (he : starEach (.Name y py :: es) X.env = (false, eval (.Name y py) X.env) :: starEach es X.env := by rfl) (hpl : (backTo pos (starEach es X.env)).any (·.1) = false := by rfl) (ht : τ.t = tt := by rfl) : PEd X τ W (.Call (.Name x p) (.Name y py :: es) [] pos) (wCallB i n sp wl) := by
  subst ht
  exact PE.imp (pe_g (F.mono hj) o hg U.m U.kp U.kb (pa_cons (pe_var hN hv hd2 hc2) ha he) hpl hd he) (l_callB fun _ => rfl)
theorem o_call {tt : List (Addr × Str)} (o : Cok X W k) {j : Nat} {so : SpcO} (F : FnG X.prog X.w X.K X.mg X.base j f fd ps (lSpO X.K tt n so)) (U : Dn X.K X.mg x f fd ps n) (ha : PAd X τ W (e :: es) wl) (hj : j ≤ k := by decide) (hg : Gl X x := by rfl) (hd : (x == ("__debug__" : Str)) = false := by decide)
    (he : starEach (e :: es) X.env = (false, eval e X.env) :: starEach es X.env := by rfl) (hpl : (backTo pos (starEach es X.env)).any (·.1) = false := by rfl) (ht : τ.t = tt := by rfl) : PEO X τ W (.Call (.Name x p) (e :: es) [] pos) (woCall n so wl) := by
  subst ht
  exact PE.imp (pe_g (F.mono hj) o hg U.m U.kp U.kb ha hpl hd he) (lo_call fun _ => rfl)
theorem e_callT {tt : List (Addr × Str)} (o : Cok X W k) {j : Nat} {wo : WEO} (F : FnG X.prog X.w X.K X.mg X.base j f fd ps (lSp X.K tt (n + 1) sp)) (U : Dn X.K X.mg x f fd ps (n + 1)) (h : PEO X τ W e wo) (ha : PAd X τ W es wl) (hj : j ≤ k := by decide) (hg : Gl X x := by rfl) (hd : (x == ("__debug__" : Str)) = false := by decide)
    (he : starEach (e :: es) X.env = (false, eval e X.env) :: starEach es X.env := by rfl) (hpl : (backTo pos (starEach es X.env)).any (·.1) = false := by rfl) (ht : τ.t = tt := by rfl) : PEd X τ W (.Call (.Name x p) (e :: es) [] pos) (wCallT n sp wo wl) := by
  subst ht
  exact PE.imp (pe_g (F.mono hj) o hg U.m U.kp U.kb (pa_cons h ha he) hpl hd he) (l_callT fun _ => rfl)
/-- keywords alone -/
abbrev PKd (X : Cx) (τ : Tb) (W : WX) (ks : List Keyword) (w : WL) : Prop := PK X ks (lL X.K τ W w)
theorem k_nil : PKd X τ W [] wNil := PK.imp pk_nil l_nil
theorem k_cons {nm : Option Str} {kp : Pos} {kws : List Keyword} (h : PEd X τ W e wa) (r : PKd X τ W kws wl) : PKd X τ W (⟨nm, e, kp⟩ :: kws) (wCons wa wl) := PK.imp (pk_cons h r) l_cons
theorem e_callK {tt : List (Addr × Str)} (o : Cok X W k) {j : Nat} {kws : List Keyword} {gl : List Value → List Value → List Value} {gV : List V → List V → List V} {gD : List D → List D → List D} (F : FnG X.prog X.w X.K X.mg X.base j f fd ps (lSp X.K tt n sp)) (hm : X.mg x = some (.ref f)) (kp : PySem.W.keepIn X.K (.ref f) = true)
    (hb : KBn X.K fd ps 0 ks gl gV) (hr : GRel 0 ks.length n gV gD) (ha : PKd X τ W kws wl) (hj : j ≤ k := by decide) (hg : Gl X x := by rfl) (hall : (backToKw pos (keywordEach kws X.env)).all (·.1.isSome) = true := by rfl) (hks : (backToKw pos (keywordEach kws X.env)).filterMap (·.1) = ks := by rfl)
    (hd : (x == ("__debug__" : Str)) = false := by decide) (hpl : ((backTo pos (starEach [] X.env)).any (·.1) || (backToKw pos (keywordEach kws X.env)).any (·.1.isNone)) = false := by rfl) (ht : τ.t = tt := by rfl) : PEd X τ W (.Call (.Name x p) [] kws pos) (wCallA 0 ks.length sp gD wNil wl) := by
  subst ht
  exact PE.imp (pe_gk0 (F.mono hj) o hg hm kp hb ha hall hks (hpl := hpl) (hdb := hd)) fun σ H Q z => l_nil σ H _ (l_callA hr σ H Q z)
/-- C(..) -/
theorem grel_mk : ∀ (v : V) (vs zs : List V), (fun (us : List V) (_ : List V) => us) (v :: vs) zs = v :: (fun (us : List V) (_ : List V) => us) vs zs := fun _ _ _ => rfl
theorem e_make {tt : List (Addr × Str)} (o : Cok X W (k + 1)) {j : Nat} (M : Mk X.K C f) (F : FnG X.prog X.w X.K X.mg X.base j f fd ps (lSp X.K tt (n + 1) sp)) (hm : X.mg x = some (.ref C)) (kb : KBn X.K fd ps (n + 1) [] (fun us _ => us) (fun us _ => us)) (ha : PAd X τ W (e :: es) wl) (hj : j ≤ k := by decide) (hg : Gl X x := by rfl) (hd : (x == ("__debug__" : Str)) = false := by decide)
    (he : starEach (e :: es) X.env = (false, eval e X.env) :: starEach es X.env := by rfl) (hpl : (backTo pos (starEach es X.env)).any (·.1) = false := by rfl) (ht : τ.t = tt := by rfl) : PEd X τ W (.Call (.Name x p) (e :: es) [] pos) (wMake C n 0 sp (fun ds _ => ds) wl wNil) := by
  subst ht
  exact PE.imp (pe_mk M (F.mono hj) o hg hm kb ha (hpl := hpl) (hdb := hd) (he := he)) fun σ H Q z => lL_mono (l_make (gV := fun us _ => us) grel_pos grel_mk σ H Q z) fun vs H' q => l_nil σ H' _ q
/-- x != y by an own == -/
theorem e_neO {tt : List (Addr × Str)} (o : Cok X W (k + 1)) {j : Nat} {a b : Expr} {wb : WE} (T : EqC X.K C f) (F : FnG X.prog X.w X.K X.mg X.base j f fd ps (lSp X.K tt 2 sp)) (kb : KBn X.K fd ps 2 [] (fun us _ => us) (fun us _ => us)) (ha : PEd X τ W a wa) (hb : PEd X τ W b wb) (hj : j ≤ k := by decide) (ht : τ.t = tt := by rfl) :
    PTd X τ W (.Compare a [.NotEq] [b] pos) (wB (wOp (fun x y Φ => wEq true x y Φ ∨ wNeO C sp x y Φ) wa wb)) := by
  subst ht
  exact t_of (pt_cmpR ((op_neD o.u64').or (op_neO T (F.mono hj) o kb (fun _ => rfl) fun _ => rfl)) ha hb (nomark _)) (l_op (ok_ne.or ok_neO))

/-! ### raise, try -/
variable {C0 fI : Addr} {fn s : Str} {w : WS}
theorem s_raise (hc : X.calm = true) (o : Cok X W (k + 1)) (hC : ErrC X.K C fI fn) (F1 : FnOk X.prog X.w X.K X.mg X.base (L2.CX X.prog X.w) k fI fd [s, fn] (spIni X.K fn)) (hb : Binds X.K fd [s, fn] []) (hx : Passes (L2.CX X.prog X.w) X (fun _ _ _ => False))
    (hm : X.mg x = some (.ref C)) (ha : PAd X τ W [e] wl) (hg : Gl X x := by rfl) (hd : (x == ("__debug__" : Str)) = false := by decide) (he : starEach [e] X.env = [(false, eval e X.env)] := by rfl) :
    PSd X τ W (.Raise (some (.Call (.Name x p) [e] [] pos)) none p2) (wRaise C fn wl) := ps_rs hc o hC F1 hb hx hg hm ha hd he
def wNever : WS := fun _ _ => False
theorem s_never {sts : List Stmt} : PSsd X τ W sts wNever := PSs.imp pss_never fun _ _ _ ⟨_, _, _, _, _, h, _⟩ => h
theorem s_try {n : Str} {c : Value} {i : Nat} {body suite : List Stmt} {b₀ : Stmt} {np pos' : Pos} {wb : WS} {ws : Addr → Value → Option Addr → WS} (hN : X.N.Nodup) (o : Cok X W k) (hc : Names X x c)
    (hb : ∀ (W' : WX) (pn : List (Addr × Obj)) (xe : Value → Shared → Prop), Cok (X.tr pn xe) W' k → PassesOwn (model X.prog X.w) X.A X.env xe → PSs (X.tr pn xe) body (lS X.K τ W' wb))
    (hsu : ∀ (a : Addr) (oe : Obj) (cls : Value) (d : Option Addr) (pn : List (Addr × Obj)), Zc cls d oe → (∃ vs, oe.data = .fields vs) → PSs (X.suite a ((a, oe) :: pn)) (b₀ :: suite) (lS X.K τ W (ws a cls d)))
    (hi : X.N[i]? = some n := by rfl) (hln : X.env.kindOf n = some .local := by rfl) (hs : X.stack = X.env :: X.outer := by rfl) (hf : X.env.frame = some X.env.locals := by rfl) :
    PSd X τ W (.Try body [.ExceptHandler (some (.Name x np)) (some n) (b₀ :: suite) pos'] [] [] pos) (wTry X.K c i wb ws) :=
  PS.imp (ps_try_as (tb := fun W' => lS X.K τ W' wb) hs hf hN hi hln hc o.tk (fun W' pn xe tk hp => hb W' pn xe (o.tr pn xe tk) hp) hsu) l_try
theorem e_xf {a : Addr} {oe : Obj} {cls : Value} {dO : Option Addr} {pn : List (Addr × Obj)} {nf : Str} (T : XfC X.K C) (hno : PySem.W.findIn X.K (.ref C) nf = some none) (hz : Zc cls dO oe) (hf : ∃ vs, oe.data = .fields vs) (he : PEd (X.suite a ((a, oe) :: pn)) τ W e wa)
    (hb : attributeBase e nf X.env (eval e X.env) = eval e X.env := by rfl) : PEd (X.suite a ((a, oe) :: pn)) τ W (.Attribute e nf pos) (wXf a cls dO C nf wa) := PE.imp (pe_xf (X := X) T hno hz hf he hb) l_xf
end
end DL
set_option Elab.async false
set_option autoImplicit false
set_option linter.all false
set_option maxRecDepth 100000
set_option maxHeartbeats 3900000
namespace DL
open L2 PyProof.Rows PySem PySem.Spec
variable {τ : Tb}
/-- a, b = x, y whose names lie in cells: the pair is made, then parted; y an object of one's own -/
theorem l_parG {K : Fg} {W : WX} {i m : Nat} {wa : WE} {wo : WEO} : ∀ D σ H, lS K τ W (wParO i m wa wo) D σ H → tAsg (tTup (tCons (lE K τ W wa) (tCons (lEO K τ W wo) tNil))) (gTup K 2 (gCons (gName i) (gCons (gName m) gNil))) D σ H := by
  rintro D σ H ⟨ρ, S, F, Δ, e, hw, hx, h1, h2, h3, h4, h5⟩
  refine ⟨ρ, S, F, _, _, e, hw, hx, fun v d ρ1 S1 H1 q1 s1 i1 e1 => ?_⟩
  refine ⟨ρ1, S1, F, _, _, e1, q1, hx.mono s1, fun l od o ρ2 S2 H2 q2 s2 a1 a2 a3 a4 a5 e2 => ?_⟩
  refine ⟨show 2 ≤ sizeLine by decide, fun p hp => ⟨p, _, rfl, .inl (.inl upd_same), rfl, v, _, rfl, _, _, rfl, rfl, ?_⟩⟩
  have nl : l ≠ p := ne_of_none a1 hp
  exact h1 _ S2 _ _ q2 (s1.trans s2) (((e2.addH hp).set (i1.mono s2)).setOwn (by rw [upd_ne nl]; exact a1) a3 a4 a2 (notOwn_set a5))
theorem s_parG {X : Cx} {W : WX} {a b : Expr} {x y : Str} {wa : WE} {wo : WEO} {px py pt pt2 pos : Pos} {kt k2 : Nat} (hN : X.N.Nodup) (hc : X.calm = true) (i m : Nat) (h : PEd X τ W a wa) (ho : PEO X τ W b wo) (hi : X.N[i]? = some x := by rfl) (hj : X.N[m]? = some y := by rfl)
    (hx : Loc X.env.scope x := by first | exact .inl rfl | exact .inr rfl) (hy : Loc X.env.scope y := by first | exact .inl rfl | exact .inr rfl) (hf : X.fn x = true ∨ X.env.scope.names.lookup x = some .local := by first | exact .inl rfl | exact .inr rfl)
    (hf2 : X.fn y = true ∨ X.env.scope.names.lookup y = some .local := by first | exact .inl rfl | exact .inr rfl) (hn : (assignEach [.Name x px, .Name y py] X.env).length = 2 := by rfl) (hst : (assignEach [.Name x px, .Name y py] X.env).findIdx? (·.1) = none := by rfl)
    (hs : swapsWithSole [.Tuple [.Name x px, .Name y py] kt pt] (.Tuple [a, b] k2 pt2) pos.line X.env = pure false := by rfl) (hw : swappedStores [.Tuple [.Name x px, .Name y py] kt pt] (.Tuple [a, b] k2 pt2) X.env = pure none := by rfl)
    (h1 : (assignEach [.Tuple [.Name x px, .Name y py] kt pt] X.env).map (·.2) = [assign (.Tuple [.Name x px, .Name y py] kt pt) X.env] := by rfl)
    (e1 : starEach [a, b] X.env = (false, eval a X.env) :: starEach [b] X.env := by rfl) (e2 : starEach [b] X.env = (false, eval b X.env) :: starEach [] X.env := by rfl) :
    PSd X τ W (.Assign [.Tuple [.Name x px, .Name y py] kt pt] (.Tuple [a, b] k2 pt2) pos) (wParO i m wa wo) :=
  PS.imp (ps_asg (pe_tup (pa_cons h (pa_cons ho pa_nil e2) e1)) (pg_tup hc (pgs_cons (pg_name hN hi hx hf) (pgs_cons (pg_name hN hj hy hf2) pgs_nil)) hn hst) hs hw h1) l_parG
theorem s_asg {X : Cx} {W : WX} {tg e : Expr} {wa : WE} {g : WG} {pos : Pos} (h : PEd X τ W e wa) (hg : PGd X τ tg g) (hs : swapsWithSole [tg] e pos.line X.env = pure false := by rfl) (hw : swappedStores [tg] e X.env = pure none := by rfl)
    (h1 : (assignEach [tg] X.env).map (·.2) = [assign tg X.env] := by rfl) : PSd X τ W (.Assign [tg] e pos) (wAsgG g wa) := PS.imp (ps_asg h hg hs hw h1) l_asgG
/-- name = [..] on one line -/
theorem s_setLc {X : Cx} {W : WX} {y : Str} {tg iter elt : Expr} {ifs : List Expr} {scope : Scope} {own : List (Str × Nat)} {pos spos py : Pos} {wi : WL} {g : WG} {wt : WT} {we : WE} (i : Nat) (hc : X.calm = true) (hN : X.N.Nodup) (hi : PId X τ W tg iter wi) (ok : BlkOk X.N X.env.scope scope own)
    (hg : Blk X (fun Y => PG Y tg (lGc X.K τ (own.map (·.2)) g)) scope) (ht : Blk X (fun Y => PTs Y ifs (lT X.K τ W0 wt)) scope) (he : Blk X (fun Y => PE Y elt (lE X.K τ W0 we)) scope) (hy : X.N[i]? = some y := by rfl) (hyl : X.env.scope.names.lookup y = some .local := by rfl)
    (hsw : swapsWith (.ListComp elt [⟨tg, iter, ifs, 0⟩] scope pos) (some (.Name y py)) spos.line X.env = pure true := by rfl) (hs : ∀ x, foldedSetIterable iter X.env x = pure x := by intro _; rfl) :
    PSd X τ W (.Assign [.Name y py] (.ListComp elt [⟨tg, iter, ifs, 0⟩] scope pos) spos) (wAsg i (wLc wi g wt we (own.map (·.2)))) :=
  PS.imp (PS.imp (ps_setLc hc hN hy hyl hsw hi ok hg ht he hs) fun D σ H z => l_lc σ H _ z) l_asg
/-- == where an error is handled -/
theorem e_eqU {X : Cx} {W : WX} {a b : Expr} {wa wb : WE} {pos : Pos} (hu : X.A.units + 64 < cLine) (ha : PEd X τ W a wa) (hb : PEd X τ W b wb) : PEd X τ W (.Compare a [.Eq] [b] pos) (wOp (wEq false) wa wb) := PE.imp (pe_cmpR (op_eqD hu) ha hb (nomark _)) (l_op ok_eq)
theorem e_neU {X : Cx} {W : WX} {a b : Expr} {wa wb : WE} {pos : Pos} (hu : X.A.units + 64 < cLine) (ha : PEd X τ W a wa) (hb : PEd X τ W b wb) : PEd X τ W (.Compare a [.NotEq] [b] pos) (wOp (wEq true) wa wb) := PE.imp (pe_cmpR (op_neD hu) ha hb (nomark _)) (l_op ok_ne)
/-- a block's own names, told by one computation -/
def blkB (N : List Str) (sc scope : Scope) (own : List (Str × Nat)) : Bool :=
  (decide (scope.kind = .function) && scope.names.all fun y => decide (scope.names.lookup y.1 = some y.2)) && ((own.all fun p => decide (N[p.2]? = some p.1)) &&
    ((scope.names.all fun y => decide (y.2 = .free → sc.names.lookup y.1 = some .cell ∨ sc.names.lookup y.1 = some .free)) && scope.names.all fun y => decide (y.2 = .local ∨ y.2 = .cell → y.1 ∈ own.map (·.1) ∨ y.1 ∉ N)))
theorem blk_ok {N : List Str} {sc scope : Scope} {own : List (Str × Nat)} (h : blkB N sc scope own = true) : BlkOk N sc scope own := by
  unfold blkB at h
  simp only [List.all_eq_true, Bool.and_eq_true, decide_eq_true_eq] at h
  obtain ⟨⟨h1, h2⟩, h3, h4, h5⟩ := h
  exact ⟨h1, h2, h3, h4, h5⟩
def wNeg : D → (D → Prop) → Prop := fun x Φ => match x with
  | .int i => Φ (.int (-i))
  | _ => False
theorem ok_neg {K : Fg} : UnOk K τ (rU fun i => .int (-i)) wNeg := by
  intro S F H ρ σ x dx Φ Q e ix hw hp
  cases ix with
  | int i => exact ⟨i, rfl, hp _ _ S H hw (Same.refl S) (.int _) e⟩
  | _ => exact hw.elim
theorem lE_mono {K : Fg} {W : WX} {w : WE} {σ : L2.St} {H : Hp} {Q Q' : VK} (h : lE K τ W w σ H Q) (m : ∀ v H', Q v H' → Q' v H') : lE K τ W w σ H Q' := by
  obtain ⟨ρ, S, F, χ, Φ, e, hw, hx, hp⟩ := h
  exact ⟨ρ, S, F, χ, Φ, e, hw, hx, fun v d ρ' S' H' a b c d' => m v H' (hp v d ρ' S' H' a b c d')⟩
section
variable {X : Cx} {W : WX} {a e o : Expr} {es : List Expr} {wa wb wr : WE} {wl : WL} {pos cpos apos c1 c2 c3 : Pos} {c y z : Str} {j j1 j2 j3 : Nat} {n : Int}
theorem e_neg (ha : PEd X τ W a wa) : PEd X τ W (.UnaryOp .USub a pos) (wUn wNeg wa) := PE.imp (pe_un un_neg ha) (l_un ok_neg)
abbrev PETd (X : Cx) (τ : Tb) (W : WX) (e : Expr) (w : WE) : Prop := PET X e (lE X.K τ W w)
abbrev PATd (X : Cx) (τ : Tb) (W : WX) (es : List Expr) (w : WL) : Prop := PAT X es (lL X.K τ W w)
theorem at_nil : PATd X τ W [] wNil := fun pos pins s σ H Q h0 I h => pat_nil pos pins s σ H Q h0 I (l_nil σ H Q h)
theorem at_cons (ha : PETd X τ W e wa) (hr : PATd X τ W es wl) (hs : starEach (e :: es) X.env = (false, eval e X.env) :: starEach es X.env := by rfl) : PATd X τ W (e :: es) (wCons wa wl) := fun pos pins s σ H Q h0 I h => pat_cons ha hr hs pos pins s σ H Q h0 I (l_cons σ H Q h)
theorem a_first (ha : PEd X τ W a wa) (hr : PATd X τ W es wl) (hs : starEach (.BinOp a .Add (.Constant (.str c) j cpos) pos :: es) X.env = (false, eval (.BinOp a .Add (.Constant (.str c) j cpos) pos) X.env) :: starEach es X.env := by rfl) :
    PAd X τ W (.BinOp a .Add (.Constant (.str c) j cpos) pos :: es) (wCons (wOp wAdd wa (wC (.str c))) wl) := by
  have h1 : PE1 X (.BinOp a .Add (.Constant (.str c) j cpos) pos) (lE X.K τ W (wOp wAdd wa (wC (.str c)))) := fun pins s σ H Q I h => by
    have h2 := l_op (K := X.K) (W := W) ok_add σ H Q h
    exact pe1_bin (c := c) or_add (ta := lE X.K τ W wa) ha pins s σ H Q I (lE_mono h2 fun v H' q => l_c (W := W) (fun _ => .str c) σ H' _ q)
  exact PA.imp (pa_cons1 h1 hr hs) l_cons
theorem t_rep (ho : PEd X τ W o wa) (he : PEd X τ W e wb) (hn : (decide (n < -(2 ^ 63 : Int)) || decide (n ≥ 2 ^ 63)) = false := by decide) (hyz : (y == z) = false := by decide) (hbase : attributeBase o "replace" X.env (eval o X.env) = eval o X.env := by rfl)
    (hfew : ((backTo cpos (starEach [.Constant (.str y) j1 c1, .Constant (.str z) j2 c2, .Constant (.int n) j3 c3] X.env)).all (fun x => !x.1) && (backToKw cpos (keywordEach [] X.env)).all (fun x => x.1.isSome)
      && decide ([.Constant (.str y) j1 c1, .Constant (.str z) j2 c2, Expr.Constant (.int n) j3 c3].length + ([] : List Keyword).length + (if ([] : List Keyword).isEmpty then 0 else 1) < 30)) = true := by rfl)
    (hline : (apos.endLine == cpos.line) = true := by rfl) :
    PETd X τ W (.BinOp (.Call (.Attribute o "replace" apos) [.Constant (.str y) j1 c1, .Constant (.str z) j2 c2, .Constant (.int n) j3 c3] [] cpos) .Add e pos) (wOp wAdd (wRepN y z n wa) wb) := fun pins s σ H Q h0 I h =>
  pet_op or_add (ta := lE X.K τ W (wRepN y z n wa)) (fun pins s σ H Q h0 I h => pet_repN ho hn hyz hbase hfew hline pins s σ H Q h0 I (l_repN σ H Q h)) he pins s σ H Q h0 I (l_op ok_add σ H Q h)
theorem passes_none : Passes (L2.CX X.prog X.w) X (fun _ _ _ => False) := fun _ _ _ _ _ _ _ ⟨_, _, _, _, _, _, _, _, _, _, _, _, z⟩ => z.elim
end
end DL
set_option Elab.async false
set_option autoImplicit false
set_option linter.all false
set_option maxRecDepth 100000
set_option maxHeartbeats 3900000
namespace L2
open PySem PySem.Spec PyProof.Rows
/-! ### several clauses `except x as n`: the library's rule for one such clause and its rule for several without a name, in one -/
abbrev Cl1 := Value × Nat × (Addr → Value → Option Addr → TS)
def endsAt (D : Ends) (i : Nat) : Ends := { nx := fun σ' H' => D.nx (σ'.set i none) H', rt := D.rt, bk := fun σ' H' => D.bk (σ'.set i none) H', ct := fun σ' H' => D.ct (σ'.set i none) H' }
def wManyA (K : PySem.W.Frag) (Wout : WX) (D : Ends) : List Cl1 → WX
  | [] => Wout
  | (c, i, ts) :: r => fun cls d σ H => ∃ b, PySem.W.exmOne K cls c = some b ∧ (b = true → ∀ a, H a = none → ts a cls d (endsAt D i) (σ.set i (some (.ref a))) H) ∧ (b = false → wManyA K Wout D r cls d σ H)
inductive HdsA (X : Cx) : List ExceptHandler → List Cl1 → Prop
  | nil : HdsA X [] []
  | cons {x n : Str} {c : Value} {i : Nat} {ts : Addr → Value → Option Addr → TS} {b₀ : Stmt} {suite : List Stmt} {np pos' : Pos} {hds : List ExceptHandler} {l : List Cl1} (hc : Names X x c) (hi : X.N[i]? = some n) (hln : X.env.kindOf n = some .local)
      (hsu : ∀ (a : Addr) (oe : Obj) (cls : Value) (d : Option Addr) (pn : List (Addr × Obj)), Zc cls d oe → (∃ vs, oe.data = .fields vs) → PSs (X.suite a ((a, oe) :: pn)) (b₀ :: suite) (ts a cls d)) (r : HdsA X hds l) :
      HdsA X (.ExceptHandler (some (.Name x np)) (some n) (b₀ :: suite) pos' :: hds) ((c, i, ts) :: l)
section
variable {X : Cx} {body : List Stmt} {h₀ : ExceptHandler} {hds : List ExceptHandler} {l : List Cl1} {pos : Pos} {tb : WX → TS} {Wo : WX}
theorem ps_try_manyA (hs : X.stack = X.env :: X.outer) (hf : X.env.frame = some X.env.locals) (hN : X.N.Nodup) (tk : Takes X Wo)
    (hb : ∀ (W : WX) (pn : List (Addr × Obj)) (xe : Value → Shared → Prop), Takes (X.tr pn xe) W → PassesOwn (model X.prog X.w) X.A X.env xe → PSs (X.tr pn xe) body (tb W)) (hh : HdsA X (h₀ :: hds) l) :
    PS X (.Try body (h₀ :: hds) [] [] pos) (fun D σ H => tb (wManyA X.K Wo D l) D σ H) := by
  constructor; intro pins s σ H D I h
  have ok := I.ok
  have hfr : X.A.frames = some (X.env :: X.outer) := by rw [ok.frames, hs]
  refine wpAny_Try_except (wpAny_mono ((hb (wManyA X.K Wo D l) (X.pn ++ pins) (fun e s₁ => wpAny (model X.prog X.w) X.A (noteFrame e X.env) (fun _ s₂ => wpAny (model X.prog X.w) X.A (setFlight e none) (fun _ s₃ => wpAny (model X.prog X.w) X.A (handleBy e X.env (h₀ :: hds)) (SP X pins D) X.xe s₃) X.xe s₂) X.xe s₁) (fun u s' xx => ?_) PassesOwn.looking).run [] s σ H D (I.toTry _) h) (fun f s1 hsp => ?_) (fun e s1 he => he))
  · obtain ⟨a, B, sI, pins', σ', H', cls, d, rfl, J', nb, up, sky, na, os, ag, wi⟩ := xx
    have J : Inv X pins σ' H' sI := J'.ofTry ok
    have sky' : Sky B (X.env :: X.outer) a (Zc cls d) X.env.locals s'.heap := by rw [← hs]; exact sky
    show wpAny (model X.prog X.w) X.A (noteFrame (.ref a) X.env) _ _ _
    refine Sky.land Zc.steady hfr hf sky' fun h3 fl3 up3 => ?_
    have J3 : Inv X pins σ' H' { s' with heap := h3 } := J.landed nb fl3.1 (up.trans up3) os ag
    obtain ⟨oe3, vs3, he3, hz3, hd3⟩ := fl3.there
    have nfr : a ∉ frs (X.env :: X.outer) := fun hm => by
      obtain ⟨_, o', e', hnf⟩ := fl3.2.2.1.mem hm
      rw [he3] at e'; cases e'; exact hnf _ hd3
    have nL : a ≠ X.env.locals := fun z => nfr (List.mem_filterMap.mpr ⟨X.env, List.mem_cons_self, by rw [hf, z]⟩)
    have nF : a ∉ X.fs := fun hm => by
      obtain ⟨e, he, q⟩ := List.mem_filterMap.mp hm
      exact nfr (List.mem_filterMap.mpr ⟨e, List.mem_cons_of_mem _ he, q⟩)
    have S3 := J3.suite he3 hd3 na nL nF
    have go : ∀ {hds' : List ExceptHandler} {l' : List Cl1}, HdsA X hds' l' → wManyA X.K Wo D l' cls d σ' H' → wpAny (model X.prog X.w) X.A (handleBy (.ref a) X.env hds') (SP X pins D) X.xe { s' with heap := h3 } := by
      intro hds' l' hk
      induction hk with
      | nil =>
        intro wi
        refine wpAny_handleBy_nil ?_
        obtain ⟨k1, k2, k3, oe, vs, T, oT, ts', he, hz, hd, h1, hr⟩ := id fl3
        unfold PySem.passOn
        refine wpAny_bind (wpAny_field he hd h1 ?_)
        rw [if_neg (show ¬ ((Value.ref T == Value.none) = true) from by simp)]
        have fin : wpAny (model X.prog X.w) X.A (setFlight (.ref a) X.env.frame) (fun _ s4 => wpAny (model X.prog X.w) X.A (throw (.ref a) : Sem Flow) (SP X pins D) X.xe s4) X.xe { s' with heap := h3 } := by
          rw [hf]
          refine HandSPX.setFlight_upZ fl3 fun h4 hh4 up4 => wpAny_throw (tk _ _ ?_)
          exact ⟨a, B, sI, pins, σ', H', cls, d, rfl, J, nb, (up.trans up3).trans up4, .inr (.inr (by rw [hs]; exact hh4)), na, os, ag, wi⟩
        first | exact wpAny_bind (wpAny_pure (wpAny_bind fin)) | exact wpAny_bind fin
      | @cons x n c i ts b₀ suite np pos' hds2 l2 hc hi hln hsu r ih =>
        intro wi
        obtain ⟨b, hb1, hyes, hno⟩ := wi
        refine wpAny_handleBy_cons (codeAny_handlers_test ?_) (by intro q; cases q)
        have LT : PySem.W.Looks (model X.prog X.w) h3 (typeOf (.ref a)) cls := fun A Q E s k q => wpAny_typeOf_ref (k _ _ he3) (by rw [hz3.1]; exact q)
        have LM := PySem.W.exm_one (M := model X.prog X.w) (J3.kIn) LT hb1
        have test : ∀ {Q : Value → Shared → Prop} {E : Value → Shared → Prop}, Q c { s' with heap := h3 } → wpAny (model X.prog X.w) (X.A.mark (some (.ref a))) (eval (.Name x np) X.env) Q E { s' with heap := h3 } := fun {Q E} q => by
          obtain ⟨hg, hdbg, hm | ⟨hm, hv, hnn⟩⟩ := hc
          · exact ld_glob (X := X.suite a ((a, oe3) :: (X.pn ++ pins))) S3 hg hm q hdbg
          · exact ld_blt (X := X.suite a ((a, oe3) :: (X.pn ++ pins))) S3 hg hm hv q hnn hdbg
        refine test (LM.here ?_)
        cases b with
        | true =>
          refine codeAny_handlers_suite_as (HandSPX.lands_againZ fl3 fun h4 fl4 up4 => ?_)
          have J4 : Inv X pins σ' H' { s' with heap := h4 } := J.landed nb fl4.1 ((up.trans up3).trans up4) os ag
          obtain ⟨oe4, vs4, he4, hz4, hd4⟩ := fl4.there
          have S4 := J4.suite he4 hd4 na nL nF
          refine store_ok (X := X.suite a ((a, oe4) :: (X.pn ++ pins))) (v := .ref a) S4 hN hi (.inl hln) rfl (fun s5 S5 => ?_) (.inr hln)
          refine wpAny_mono ((hsu a oe4 cls d (X.pn ++ pins) hz4 ⟨_, hd4⟩).run [] s5 _ H' _ S5 (hyes rfl a na)) (fun f s6 hsp => ?_) (fun _ _ z => False.elim z)
          have fin : ∀ {σ6 : St} {H6 : Hp} {Q : Shared → Prop}, Inv (X.suite a ((a, oe4) :: (X.pn ++ pins))) [] σ6 H6 s6 → (∀ s7, Inv X pins (σ6.set i none) H6 s7 → Q s7) → wpAny (model X.prog X.w) X.A (do bindName X.env n .none; unbindBehindTheSuite X.env n pos') (fun _ s7 => Q s7) X.xe s6 := fun {σ6 H6 Q} S6 hq => gone_ok (S6.unsuite ok) hN hi hln hq
          match f, hsp with
          | .next, ⟨σ6, H6, S6, q6⟩ => exact fin S6 fun s7 J7 => ⟨_, _, J7, q6⟩
          | .brk, ⟨σ6, H6, S6, q6⟩ => exact fin S6 fun s7 J7 => ⟨_, _, J7, q6⟩
          | .cont, ⟨σ6, H6, S6, q6⟩ => exact fin S6 fun s7 J7 => ⟨_, _, J7, q6⟩
          | .ret u, ⟨v6, σ6, H6, S6, r6, q6⟩ => exact fin S6 fun s7 J7 => ⟨_, _, _, J7, r6, q6⟩
        | false =>
          show wpAny _ X.A (handleBy (.ref a) X.env hds2) _ _ _
          exact ih (hno rfl)
    exact go hh wi
  · match f, hsp with
    | .next, ⟨σ', H', J', q⟩ => exact wpAny_execs_nil ⟨σ', H', J'.ofTry ok, q⟩
    | .brk, ⟨σ', H', J', q⟩ => exact ⟨σ', H', J'.ofTry ok, q⟩
    | .cont, ⟨σ', H', J', q⟩ => exact ⟨σ', H', J'.ofTry ok, q⟩
    | .ret u, ⟨v, σ', H', J', r, q⟩ => exact ⟨v, σ', H', J'.ofTry ok, r, q⟩
end
end L2
namespace DL
open L2 PyProof.Rows PySem PySem.Spec
variable {τ : Tb}
/-! what the clauses mean for data -/
abbrev Cl2 := Value × Nat × (Addr → Value → Option Addr → WS)
def deAt (Δ : DE) (i : Nat) : DE := { Δ with nx := fun ρ2 => Δ.nx (ρ2.set i .un), bk := fun ρ2 => Δ.bk (ρ2.set i .un), ct := fun ρ2 => Δ.ct (ρ2.set i .un) }
def xcM (K : Fg) (Δ : DE) : List Cl2 → XC
  | [] => Δ.xc
  | (c, i, ws) :: r => fun C f d ρ1 => ∃ b, exmD K C c = some b ∧ (b = true → ∀ a dd, ws a (.ref C) (some dd) (ρ1.set i (.val (.exn (.ref a) dd f d))) (deAt Δ i)) ∧ (b = false → xcM K Δ r C f d ρ1)
def wTryM (K : Fg) (wb : WS) (cl : List Cl2) : WS := fun ρ Δ => wb ρ { Δ with xc := xcM K Δ cl }
def cl1 (K : Fg) (τ : Tb) (W : WX) : List Cl2 → List Cl1
  | [] => []
  | (c, i, ws) :: r => (c, i, fun a cls d => lS K τ W (ws a cls d)) :: cl1 K τ W r
section
variable {K : Fg} {W : WX} {wb : WS} {cl : List Cl2}
theorem l_tryM : ∀ D σ H, lS K τ W (wTryM K wb cl) D σ H → (fun D σ H => lS K τ (wManyA K W D (cl1 K τ W cl)) wb D σ H) D σ H := by
  rintro D σ H ⟨ρ, S, F, Δ, e, hw, hx, h1, h2, h3, h4, h5⟩
  refine ⟨ρ, S, F, _, e, hw, ?_, h1, h2, h3, h4, h5⟩
  suffices go : ∀ l : List Cl2, XOk K τ F (wManyA K W D (cl1 K τ W l)) S (xcM K Δ l) from go cl
  intro l
  induction l with
  | nil => exact hx
  | cons p l ih =>
    obtain ⟨c, i, ws⟩ := p
    intro C f d v dd ρ' S' σ' H' q s' e' hd hv
    obtain ⟨b, hb, yes, no⟩ := q
    refine ⟨b, hb, fun hy a ha => ?_, fun hn => ih C f d v dd ρ' S' σ' H' (no hn) s' e' hd hv⟩
    refine ⟨_, S', F, _, e'.set (v := .ref a) (i := i) (.exn (v := .ref a) hd hv), yes hy a dd, hx.mono s', fun ρ2 S2 σ2 H2 a b c => h1 _ S2 _ H2 a (s'.trans b) (c.unset i), fun d v ρ2 S2 σ2 H2 a b c f => h2 d v ρ2 S2 σ2 H2 a (s'.trans b) c f,
      fun ρ2 S2 σ2 H2 a b c => h3 _ S2 _ H2 a (s'.trans b) (c.unset i), fun ρ2 S2 σ2 H2 a b c => h4 _ S2 _ H2 a (s'.trans b) (c.unset i), fun l od o ρ2 S2 σ2 H2 a b => h5 l od o ρ2 S2 σ2 H2 a (s'.trans b)⟩
inductive HdsD (X : Cx) (τ : Tb) (W : WX) : List ExceptHandler → List Cl2 → Prop
  | nil : HdsD X τ W [] []
  | cons {x n : Str} {c : Value} {i : Nat} {ws : Addr → Value → Option Addr → WS} {b₀ : Stmt} {suite : List Stmt} {np pos' : Pos} {hds : List ExceptHandler} {l : List Cl2} (hc : Names X x c)
      (hsu : ∀ (a : Addr) (oe : Obj) (cls : Value) (d : Option Addr) (pn : List (Addr × Obj)), Zc cls d oe → (∃ vs, oe.data = .fields vs) → PSs (X.suite a ((a, oe) :: pn)) (b₀ :: suite) (lS X.K τ W (ws a cls d))) (r : HdsD X τ W hds l)
      (hi : X.N[i]? = some n := by rfl) (hln : X.env.kindOf n = some .local := by rfl) :
      HdsD X τ W (.ExceptHandler (some (.Name x np)) (some n) (b₀ :: suite) pos' :: hds) ((c, i, ws) :: l)
theorem HdsD.hds {X : Cx} {W : WX} : ∀ {hds : List ExceptHandler} {l : List Cl2}, HdsD X τ W hds l → HdsA X hds (cl1 X.K τ W l)
  | _, _, .nil => .nil
  | _, _, .cons hc hsu r hi hln => .cons hc hi hln hsu r.hds
theorem s_tryM {X : Cx} {W : WX} {k : Nat} {body : List Stmt} {h₀ : ExceptHandler} {hds : List ExceptHandler} {cl : List Cl2} {pos : Pos} {wb : WS} (hN : X.N.Nodup) (o : Cok X W k)
    (hb : ∀ (W' : WX) (pn : List (Addr × Obj)) (xe : Value → Shared → Prop), Cok (X.tr pn xe) W' k → PassesOwn (model X.prog X.w) X.A X.env xe → PSs (X.tr pn xe) body (lS X.K τ W' wb)) (hh : HdsD X τ W (h₀ :: hds) cl)
    (hs : X.stack = X.env :: X.outer := by rfl) (hf : X.env.frame = some X.env.locals := by rfl) : PS X (.Try body (h₀ :: hds) [] [] pos) (lS X.K τ W (wTryM X.K wb cl)) :=
  PS.imp (ps_try_manyA (tb := fun W' => lS X.K τ W' wb) hs hf hN o.tk (fun W' pn xe tk hp => hb W' pn xe (o.tr pn xe tk) hp) hh.hds) l_tryM
end
end DL
set_option Elab.async false
set_option autoImplicit false
set_option linter.all false
set_option maxRecDepth 100000
set_option maxHeartbeats 3900000
namespace DL
open L2 LamX PyProof.Rows PySem PySem.Spec
variable {τ : Tb}
/-! ### a lambda without parameters, handed to a def -/
section
variable {X : Cx} {pins : List (Addr × Obj)} {σ : L2.St} {H : Hp} {s : Shared}
/-- the library's making of a lambda, with one word more: all but the table stays -/
theorem lam_mk {T : List (Addr × Str)} {c P : Addr} {params : Arguments} {body : Expr} {scope : Scope} {pos : Pos} {E Q : Value → Shared → Prop} (I : Inv X pins σ H s) (TB : TabB X.base X.mg c P) (hc0 : X.env.code = .ref c)
    (hm : (P, X.env.qual ++ "<lambda>") ∈ T) (hu : ∀ p ∈ T, p.1 = P → p.2 = X.env.qual ++ "<lambda>") (hT : Tabs T H) (hd : defaultsOf params X.env = ([], [])) (hf : ∀ y ∈ scope.names, y.2 = .free → ∃ c, X.env.cells.lookup y.1 = some c)
    (h : ∀ (f c' : Addr) (pm ctv : Value) (H1 : Hp) (s' : Shared), Inv X pins σ H1 s' → (∀ b o, b ≠ P → H b = some o → H1 b = some o) → Tabs T H1 →
      s'.heap.get? f = some (PySem.W.kla_obj "<lambda>" (X.env.qual ++ "<lambda>") params body scope (cloFrom X.env.cells scope.names []) pm c' ctv) → H1 f = none → f ∉ frs X.stack → H1 c' = some (CodeO c' (X.env.qual ++ "<lambda>")) → Q (.ref f) s') :
    wpAny (model X.prog X.w) X.A (eval (.Lambda params body scope pos) X.env) Q E s := by
  obtain ⟨ps, hP, ht, ha⟩ := hT _ hm
  have bP : s.heap.BuiltinsAt X.mg P := TB.bm.keeps I.bk
  have hP' : s.heap.get? P = some { cls := .none, data := .fields ps } := I.hok P _ hP
  have nofr : ∀ f, s.heap.objs.size ≤ f → f ∉ frs X.stack := fun f hf z => (List.mem_cons.mp (I.stkSub _ z)).elim (fun e => absurd I.lt (by rw [← e]; exact Nat.not_lt.mpr hf)) fun e => I.nofs hf e
  refine PySem.W.kla_eval hd ?_
  cases hc : codeAmong pos ps.toList with
  | none =>
    refine PySem.W.kla_makeFunction (mg := X.mg) (c := c) (P := P) (ps := ps) (closure_ok hf) I.ok.glob (I.mod.glob.keeps I.bk) hc0 (TB.code.keeps I.bk) hP' ht hc TB.gP bP fun c' ctv h' tk hx hge hlt hrec htb => ?_
    obtain ⟨c2, oc, vs, t, e2, hoc, hd, hv⟩ := hrec
    cases e2
    have hsz : s.heap.objs.size ≤ h'.objs.size := Nat.le_trans hge (Nat.le_of_lt hlt)
    have nC : H c' = none := I.hok.fresh hge
    have I1 := inv_table (t' := tk) (more := #[rawInt pos.line, rawInt pos.col, .ref c']) (h' := h'.push (PySem.W.kla_obj "<lambda>" (X.env.qual ++ "<lambda>") params body scope (cloFrom X.env.cells scope.names []) ((X.mg "__name__").getD .none) c' ctv)) I hP
      (fun b o hb e => Heap.get?_push_of_some _ (hx b o hb e)) (Heap.get?_push_of_some _ htb) hge ⟨oc, vs, t, Heap.get?_push_of_some _ hoc, hd, hv⟩
    have keep : ∀ b o, b ≠ P → H b = some o → upd (upd H P (.tbl (ps ++ #[rawInt pos.line, rawInt pos.col, .ref c']))) c' (CodeO c' (X.env.qual ++ "<lambda>")) b = some o := fun b o n e => by rw [upd_ne (ne_of_none e nC), upd_ne n]; exact e
    have eL : (ps ++ #[rawInt pos.line, rawInt pos.col, .ref c']).toList = ps.toList ++ [rawInt pos.line, rawInt pos.col, .ref c'] := by simp
    have cP : ∀ {c0 q}, H c0 = some (CodeO c0 q) → c0 ≠ P := fun {c0 q} e z => by rw [z, hP] at e; exact codeO_ne _ (Option.some.inj e).symm
    refine h h'.objs.size c' ((X.mg "__name__").getD .none) ctv _ _ I1 keep (fun p hp => ?_) (Heap.get?_push_size _ rfl) ?_ (nofr _ hsz) upd_same
    · by_cases hb : p.1 = P
      · rw [hu p hp hb, hb]
        refine ⟨_, by rw [upd_ne (ne_of_none hP nC), upd_same], by rw [eL]; exact PySem.TriplesOk_snoc _ _ _ _ ht, fun p' cv hcv => ?_⟩
        rw [eL] at hcv
        rcases among_app _ ht hcv with z | z
        · obtain ⟨c0, e1, e2⟩ := ha p' cv z; exact ⟨c0, e1, keep _ _ (cP e2) e2⟩
        · exact ⟨c', z, upd_same⟩
      · obtain ⟨ps', a1, a2, a3⟩ := hT p hp
        refine ⟨ps', by rw [upd_ne (ne_of_none a1 nC), upd_ne hb]; exact a1, a2, fun p' cv hcv => ?_⟩
        obtain ⟨c0, e1, e2⟩ := a3 p' cv hcv; exact ⟨c0, e1, keep _ _ (cP e2) e2⟩
    · rw [upd_ne (Nat.ne_of_gt hlt), upd_ne (Nat.ne_of_gt (Nat.lt_of_lt_of_le (Heap.lt_size hP') hsz))]; exact I.hok.fresh hsz
  | some cv =>
    obtain ⟨c', e, hco⟩ := ha pos cv hc
    subst e
    refine PySem.W.kla_makeFunctionHit (mg := X.mg) (c := c) (P := P) (ps := ps) (closure_ok hf) I.ok.glob (I.mod.glob.keeps I.bk) hc0 (TB.code.keeps I.bk) hP' ht hc bP fun ctv h' tk hx hsz => ?_
    have I1 : Inv X pins σ H { s with heap := h'.push (PySem.W.kla_obj "<lambda>" (X.env.qual ++ "<lambda>") params body scope (cloFrom X.env.cells scope.names []) ((X.mg "__name__").getD .none) c' ctv), toks := tk } := I.kept fun b o e => Heap.get?_push_of_some _ (hx b o e)
    exact h h'.objs.size c' ((X.mg "__name__").getD .none) ctv H _ I1 (fun _ _ _ e => e) hT (Heap.get?_push_size _ rfl) (I.hok.fresh hsz) (nofr _ hsz) hco
/-- where a lambda's body runs -/
theorem lam_cok {A : Around} {outer : List Env} {E : XK} {scope : Scope} {f c' : Addr} {k : Nat} (hg : A.guards = some []) (hr : Room k (A.deeper (lamEnv X scope s.heap.objs.size f c'))) : Cok (lamCx X A outer s H E scope f c') (wishOf E) k := ⟨takes_of rfl rfl rfl rfl, hg, hr⟩
/-- x(), in the def that got the lambda -/
theorem lam_act {Eg : XK} {Ng : List Str} {qg : Str} {sg : Scope} {g f c' : Addr} {cdg pm ctv : Value} {params : Arguments} {body : Expr} {scope : Scope} {k : Nat} {a : Str} {pn : List (Addr × Obj)} {xe : Value → Shared → Prop} {W : WX} {tb : XK → TE} {p1 p2 : Pos}
    (I : Inv X pins σ H s) (L : LamS X.env.scope scope) (hf : s.heap.get? f = some (PySem.W.kla_obj "<lambda>" (X.env.qual ++ "<lambda>") params body scope (cloFrom X.env.cells scope.names []) pm c' ctv)) (hfn : H f = none) (hfr : f ∉ frs X.stack)
    (hbind : bindArgs (PySem.W.kla_fn "<lambda>" (X.env.qual ++ "<lambda>") params body scope (cloFrom X.env.cells scope.names []) pm (.ref c') ctv) ⟨[], []⟩ = pure []) (gd : X.A.guards = some [])
    (tk : Takes ((cxOf (L2.CX X.prog X.w) X.prog X.w X.K X.mg X.base Ng qg sg g cdg X.A X.stack s H Eg).tr pn xe) W) (hr : Room (k + 1) (X.A.deeper (envOfC qg sg s.heap.objs.size g cdg)))
    (hbody : ∀ (A : Around) (outer : List Env) (s : Shared) (H : Hp) (E : XK), A.guards = some [] → Room k (A.deeper (lamEnv X scope s.heap.objs.size f c')) → PE (lamCx X A outer s H E scope f c') body (tb E))
    (hN : Ng[0]? = some a) (hv : Vis sg a) (hd : (a == ("__debug__" : Str)) = false := by decide) (hcd : (a == ("__classdict__" : Str)) = false := by decide) :
    PE ((cxOf (L2.CX X.prog X.w) X.prog X.w X.K X.mg X.base Ng qg sg g cdg X.A X.stack s H Eg).tr pn xe) (.Call (.Name a p1) [] [] p2)
      (fun σZ HZ Q => σZ[0]? = some (some (.ref f)) ∧ HZ c' = some (CodeO c' (X.env.qual ++ "<lambda>")) ∧ tb (fun cls d H' => W cls d σZ H') σ HZ Q) := by
  constructor; intro pZ sZ σZ HZ Q IZ h
  obtain ⟨hs, hc, ht⟩ := h
  refine wpAny_Call_Name_kw (thn ((pe_var (pos := p1) (i := 0) hN hv hd hcd).run pZ sZ σZ HZ (fun v H1 => v = .ref f ∧ H1 = HZ) IZ ⟨.ref f, hs, rfl, rfl⟩) fun u s1 ⟨v, H1, I1, r1, ev, eH⟩ => ?_)
  subst ev; rw [eH] at I1
  obtain rfl : u = Value.ref f := r1
  have of1 : s1.heap.get? f = some (PySem.W.kla_obj "<lambda>" (X.env.qual ++ "<lambda>") params body scope (cloFrom X.env.cells scope.names []) pm c' ctv) := I1.base.keep f _ hf hfn hfr (fun z => nomatch (show f ∈ ([] : List Addr) from z))
  refine PySem.W.callWith_F0 ⟨_, _, _, _, of1⟩ ?_
  have un : Un (frs X.stack) [] H HZ s.heap s1.heap := I1.base
  obtain ⟨⟨oc, vs, t, hoc, hdc, hvc⟩, _, _⟩ := I1.hok c' _ hc
  have rc : codeAny (model X.prog X.w) (X.A.deeper (envOfC qg sg s.heap.objs.size g cdg)) (.call (.ref f) ⟨[], []⟩) (CR (L2.CX X.prog X.w) (envOfC qg sg s.heap.objs.size g cdg :: X.stack) X.prog X.w HZ s1 Q fun cls d H' => W cls d σZ H') s1 := by
    refine PySem.W.kla_callFunE hr.depth of1 rfl L.co L.gen rfl ⟨c', oc, vs, t, rfl, hoc, hdc, hvc⟩ ?_
    rw [hbind]
    refine wpAny_pure (wpAny_newFunctionEnv (fun y hy => (L.own y hy).2) (fun y hy => absurd hy (by simp)) (fun h₁ hns hsb => ⟨I1.nolimit.fresh _ hsb, ?_⟩) L.kind)
    show codeAny _ _ (.expr body (lamEnv X scope s1.heap.objs.size f c')) _ _
    have kp : ∀ b o, s1.heap.get? b = some o → h₁.get? b = some o := fun b o e => hsb.extBut b o (Nat.ne_of_lt (Heap.lt_size e)) (Heap.get?_push_of_some _ e)
    have J : Inv (lamCx X (X.A.deeper (envOfC qg sg s.heap.objs.size g cdg)) (envOfC qg sg s.heap.objs.size g cdg :: X.stack) s1 HZ (fun cls d H' => W cls d σZ H') scope f c') [] σ HZ { s1 with heap := h₁, toks := s1.toks + ([] : List (Str × Value)).length } :=
      lam_start2 I L I1.env0 hr.hd un hns kp
    refine PySem.W.kla_codeExpr (wpAny_mono ((hbody (X.A.deeper (envOfC qg sg s.heap.objs.size g cdg)) (envOfC qg sg s.heap.objs.size g cdg :: X.stack) s1 HZ _ gd (hr.deeper _)).run [] _ _ HZ Q J ht) (fun v s' hq => ?_) fun e s' hq => hq)
    obtain ⟨w', H', J', rv, q⟩ := hq
    exact ⟨w', H', J'.os, J'.bare, J'.base, J'.hok, rv, q⟩
  refine wpAny_call (codeAny_mono rc fun r s' hq => ?_)
  match r, hq with
  | .error e, hq => exact tk e s' (XE.of_call I1 (fun cls d H' h => h) hq)
  | .ok (.ret u), hq => exact I1.after hq
  | .ok .next, hq => exact hq.elim
  | .ok .brk, hq => exact hq.elim
  | .ok .cont, hq => exact hq.elim
end
end DL
set_option Elab.async false
set_option autoImplicit false
set_option linter.all false
set_option maxRecDepth 100000
set_option maxHeartbeats 3900000
namespace DL
open L2 LamX PyProof.Rows PySem PySem.Spec
variable {τ : Tb}
/-- what is one's own is not looked at -/
def hideR (ρ : Rho) : Rho := ρ.map fun s => match s with
  | .own _ _ => .un
  | s => s
theorem hideR_val {ρ : Rho} {i : Nat} {d : D} (h : (hideR ρ)[i]? = some (Sl.val d)) : ρ[i]? = some (Sl.val d) := by
  unfold hideR at h
  rw [List.getElem?_map] at h
  cases e : ρ[i]? with
  | none => rw [e] at h; cases h
  | some s => rw [e] at h; cases s <;> first | exact h | cases h
theorem hideR_own {ρ : Rho} {i : Nat} {l : Addr} {od : OD} : (hideR ρ)[i]? ≠ some (Sl.own l od) := fun h => by
  unfold hideR at h
  rw [List.getElem?_map] at h
  cases e : ρ[i]? with
  | none => rw [e] at h; cases h
  | some s => rw [e] at h; cases s <;> cases h
section
variable {K : Fg} {S F H : Hp} {ρ : Rho} {σ : L2.St}
/-- a later heap in which all that never changes is there still -/
theorem ER.hide {S' H' : Hp} {τ' : Tb} {F' : Hp} (e : ER K τ S F H ρ σ) (s : Same S S') (ex : Same S' H') (t : TbOk τ' S' F' H') : ER K (tb0 τ'.t) S' (others τ'.t S' H' fun _ => False) H' (hideR ρ) σ := by
  refine ⟨by unfold hideR; rw [List.length_map]; exact e.len, ex, fun a o h => ?_, fun i d h => ?_, fun i l od h => absurd h hideR_own, fun i j l o o' h _ => absurd h hideR_own, t.oth⟩
  · obtain ⟨_, a1, a2⟩ := others_inv h; exact ⟨a2, .inl a1⟩
  · obtain ⟨v, h1, h2⟩ := e.val i d (hideR_val h); exact ⟨v, h1, h2.mono s⟩
/-- a table has grown -/
theorem ER.tabs {H1 : Hp} {P : Addr} {q : Str} (e : ER K τ S F H ρ σ) (hm : (P, q) ∈ τ.t) (k : ∀ b o, b ≠ P → H b = some o → H1 b = some o) (T1 : Tabs τ.t H1) : ER K τ S F H1 ρ σ := by
  refine ⟨e.len, fun b u h => k b u (fun z => ?_) (e.ex b u h), fun b u h => ?_, e.val, fun i l od h => ?_, e.dis, ⟨T1, e.tb.nS, e.tb.nF, e.tb.ks, e.tb.kf⟩⟩
  · rw [z, e.tb.nS _ hm] at h; cases h
  · obtain ⟨a1, a2⟩ := e.fr b u h
    exact ⟨k b u (fun z => by rw [z, e.tb.nF _ hm] at h; cases h) a1, a2⟩
  · have nl := e.nTb h
    obtain ⟨a1, a2, a3, o, a4, a5⟩ := e.own i l od h
    exact ⟨a1, a2, a3, o, k l o (fun z => nl (z ▸ List.mem_map.mpr ⟨_, hm, rfl⟩)) a4, a5⟩
end
def wAsk (f : Addr) (tl : (D → Prop) → (Addr → Str → D → Prop) → Prop) : WE := fun ρ χ Φ => ρ[0]? = some (.val (.raw (.ref f))) ∧ tl (fun d => Φ d ρ) fun C fl d => χ C fl d ρ
def wLam (xb : WE → WS) (n : Nat) (wb : WE) : WE := fun ρ χ Φ => ∀ f : Addr, xb (wAsk f fun Ψ Ξ => wb (hideR ρ) (fun C fl d _ => Ξ C fl d) fun d _ => Ψ d) (.val (.raw (.ref f)) :: List.replicate n .un)
  { nx := fun _ => Φ .non ρ, rt := fun d _ => Φ d ρ, bk := fun _ => False, ct := fun _ => False, xc := fun C fl d _ => χ C fl d ρ }
noncomputable abbrev tbL (τ : Tb) (S H : Hp) : Tb := ⟨τ.t, S, others τ.t S H fun _ => False⟩
theorem l_ask {K : Fg} {S F H1 : Hp} {ρ : Rho} {σ : L2.St} {f c' : Addr} {q : Str} {wb : WE} {W' : WX} (e1 : ER K τ S F H1 ρ σ) (hco : H1 c' = some (CodeO c' q)) (σZ : L2.St) (HZ : Hp) (Q : VK)
    (h : lE K (tbL τ S H1) W' (wAsk f fun Ψ Ξ => wb (hideR ρ) (fun C fl d _ => Ξ C fl d) fun d _ => Ψ d) σZ HZ Q) :
    σZ[0]? = some (some (.ref f)) ∧ HZ c' = some (CodeO c' q) ∧ lE K (tb0 τ.t) (wishOf fun cls d H' => W' cls d σZ H') wb σ HZ Q := by
  obtain ⟨ρz, Sz, Fz, χz, Φz, ez, ⟨h0, hw⟩, hxz, hpz⟩ := h
  have sS : Same S Sz := fun a o h => ez.tb.ks a o h
  refine ⟨?_, ?_, hideR ρ, Sz, others τ.t Sz HZ (fun _ => False), _, _, e1.hide (τ' := tbL τ S H1) sS ez.ex ez.tb, hw, fun C fl d v dd ρ' S' σ' H' hq s' er hd iv => ?_, fun v d ρ' S' H' hq s' iv er => ?_⟩
  · obtain ⟨v, a1, a2⟩ := ez.val 0 _ h0
    cases a2; exact a1
  · cases hS : S c' with
    | some u =>
      have z := e1.ex c' u hS
      rw [hco] at z
      rw [← Option.some.inj z] at hS
      exact ez.ex _ _ (sS _ _ hS)
    | none =>
      have nt : c' ∉ τ.t.map (·.1) := fun z => by
        obtain ⟨p, hp, rfl⟩ := List.mem_map.mp z
        obtain ⟨ps, h6⟩ := e1.tb.at hp
        rw [hco] at h6; exact codeO_ne ps (Option.some.inj h6)
      exact (ez.fr _ _ (ez.tb.kf c' _ (others_of (p := fun _ => False) nt (fun z => z) hS hco))).1
  · exact hxz C fl d v dd ρz S' σZ H' hq s' (ez.back s' er.ex er.tb.tab er.tb.nS (fun a o n a1 a2 => others_of n (fun z => z) a1 a2) er.fr) hd iv
  · exact hpz v d ρz S' H' hq s' iv (ez.back s' er.ex er.tb.tab er.tb.nS (fun a o n a1 a2 => others_of n (fun z => z) a1 a2) er.fr)
theorem e_lam {tt : List (Addr × Str)} {X : Cx} {W : WX} {x a : Str} {g c P : Addr} {gfd : FuncData} {pg : Arguments} {bg : List Stmt} {sg : Scope} {Ng : List Str} {k n : Nat} {xb : WE → WS} {wb : WE} {params : Arguments} {body : Expr} {scope : Scope} {p lpos pos : Pos}
    (o : Cok X W (k + 2)) (FD : FunD X.K x x pg bg sg [] [] g gfd) (Sg : FnScope Ng [a] sg) (U : Dn X.K X.mg x g gfd [a] 1) (TB : TabB X.base X.mg c P) (hc0 : X.env.code = .ref c) (hm : (P, X.env.qual ++ "<lambda>") ∈ tt) (hu : ∀ p ∈ tt, p.1 = P → p.2 = X.env.qual ++ "<lambda>")
    (L : LamS X.env.scope scope)
    (hcal : ∀ (cdv : Value) (s : Shared) (H : Hp) (E : XK) (τ' : Tb) (wa : WE), τ'.t = tt → Cok (cxOf (L2.CX X.prog X.w) X.prog X.w X.K X.mg X.base Ng x sg g cdv X.A X.stack s H E) (wishOf E) (k + 1) →
      (∀ (W' : WX) (pn : List (Addr × Obj)) (xe : Value → Shared → Prop) (p1 p2 : Pos), Takes ((cxOf (L2.CX X.prog X.w) X.prog X.w X.K X.mg X.base Ng x sg g cdv X.A X.stack s H E).tr pn xe) W' →
        PE ((cxOf (L2.CX X.prog X.w) X.prog X.w X.K X.mg X.base Ng x sg g cdv X.A X.stack s H E).tr pn xe) (.Call (.Name a p1) [] [] p2) (lE X.K τ' W' wa)) →
      PSs (cxOf (L2.CX X.prog X.w) X.prog X.w X.K X.mg X.base Ng x sg g cdv X.A X.stack s H E) bg (lS X.K τ' (wishOf E) (xb wa)))
    (hbody : ∀ (A : Around) (outer : List Env) (s : Shared) (H : Hp) (E : XK) (f c' : Addr), Cok (lamCx X A outer s H E scope f c') (wishOf E) k → PE (lamCx X A outer s H E scope f c') body (lE X.K (tb0 tt) (wishOf E) wb))
    (hNg : Ng[0]? = some a := by rfl) (hn : Ng.length = n + 1 := by rfl) (hva : Vis sg a := by first | exact .inl rfl | exact .inr (.inl rfl) | exact .inr (.inr rfl)) (hg : Gl X x := by rfl) (hd : defaultsOf params X.env = ([], []) := by rfl)
    (hbind : ∀ (q : Str) (cl : List (Str × Addr)) (pm cv ctv : Value), bindArgs (PySem.W.kla_fn "<lambda>" q params body scope cl pm cv ctv) ⟨[], []⟩ = pure [] := by intros; rfl)
    (hdb : (x == ("__debug__" : Str)) = false := by decide) (hd2 : (a == ("__debug__" : Str)) = false := by decide) (hcd2 : (a == ("__classdict__" : Str)) = false := by decide) (ht : τ.t = tt := by rfl) :
    PEd X τ W (.Call (.Name x p) [.Lambda params body scope lpos] [] pos) (wLam xb n wb) := by
  subst ht
  constructor; rintro pins s σ H Q I ⟨ρ, S, F, χ, Φ, e, hw, hx, hp⟩
  obtain ⟨_, _, dV, kV, doc, pm, an, cdv, ct, _, rfl, lk, hcd, _, _⟩ := FD.ex
  refine wpAny_Call_Name_kw (ld_glob I hg U.m ?_ hdb)
  refine PySem.W.callWith_K (h₀ := X.base) I.ok.mod.kin U.kp ?_ (by rfl) (by rfl)
  show wpAny _ _ (spliced ((false, eval (.Lambda params body scope lpos) X.env) :: backTo pos (starEach [] X.env))) _ _ s
  refine Calls.spliced_cons (lam_mk I TB hc0 hm hu e.tb.tab hd (L.has I.ok) fun f c' pm' ctv H1 s' I1 kp T1 hf hfn hfr hco => ?_)
  refine Calls.spliced_nil ⟨I1.kIn, ?_⟩
  have e1 : ER X.K τ S F H1 ρ σ := e.tabs hm kp T1
  have bt := U.kb.to s' [Value.ref f] [] I1.kIn rfl rfl
  have rc : codeAny (model X.prog X.w) X.A (.call (.ref g) ⟨[.ref f], []⟩) (CR (L2.CX X.prog X.w) X.stack X.prog X.w H1 s' Q fun cls d H' => W cls d σ H') s' := by
    refine run_ofS (N := Ng) (ps := [a]) (us := [.ref f]) (vs := [.ref f]) lk hcd Sg o.rm I1.env0 bt (.cons rfl .nil) rfl fun hr' => ?_
    refine ⟨_, hcal cdv s' H1 (fun cls d H' => W cls d σ H') (tbL τ S H1) (wAsk f fun Ψ Ξ => wb (hideR ρ) (fun C fl d _ => Ξ C fl d) fun d _ => Ψ d) rfl ⟨takes_of rfl rfl rfl rfl, o.gd, hr'⟩ (fun W' pn xe p1 p2 tk => ?_), ?_⟩
    · exact PE.imp (lam_act (tb := fun E => lE X.K (tb0 τ.t) (wishOf E) wb) I1 L hf hfn hfr (hbind _ _ _ _ _) o.gd tk hr' (fun A outer s H E hg hr => hbody A outer s H E f c' (lam_cok hg hr)) hNg hva hd2 hcd2) fun σZ HZ Q' h' => l_ask e1 hco σZ HZ Q' h'
    · have tbc : TbOk (tbL τ S H1) S (others τ.t S H1 fun _ => False) H1 := ⟨e1.tb.tab, e1.tb.nS, (fun _ h => others_tb h), (fun _ _ z => z), fun _ _ z => z⟩
      have er := er_more (er_args (K := X.K) (τ := tbL τ S H1) (vs := [V.ref f]) (ds := [.raw (.ref f)]) (.cons (.raw _) .nil) e1.ex tbc fun a o h => by obtain ⟨_, a1, a2⟩ := others_inv h; exact ⟨a2, .inl a1⟩) n
      have es : L2.start Ng [V.ref f] = [V.ref f].map some ++ List.replicate n none := by unfold L2.start; rw [hn]; rfl
      rw [es]
      have bk : ∀ {ρ' : Rho} {S' H' : Hp} {σ' : L2.St}, Same S S' → ER X.K (tbL τ S H1) S' (others τ.t S H1 fun _ => False) H' ρ' σ' → ER X.K τ S' F H' ρ σ := fun {ρ' S' H' σ'} s' e' => e1.back s' e'.ex e'.tb.tab e'.tb.nS (fun a o n a1 a2 => others_of n (fun z => z) a1 a2) e'.fr
      refine ⟨_, S, _, _, er, hw f, fun C fl d v dd ρ' S' σ' H' q s' e' hd iv => hx C fl d v dd ρ S' σ H' q s' (bk s' e') hd iv, fun ρ' S' σ' H' q s' e' => hp .non .non ρ S' H' q s' .non (bk s' e'), fun d v ρ' S' σ' H' q s' iv e' => hp v d ρ S' H' q s' iv (bk s' e'), fun _ _ _ _ q => q.elim, fun _ _ _ _ q => q.elim, fun _ _ _ _ _ _ _ q => q.elim⟩
  refine wpAny_call (codeAny_mono rc fun r s2 hq => ?_)
  match r, hq with
  | .error er, hq => exact o.tk er s2 (XE.of_call I1 (fun cls d H' h => h) hq)
  | .ok (.ret u), hq => exact I1.after hq
  | .ok .next, hq => exact hq.elim
  | .ok .brk, hq => exact hq.elim
  | .ok .cont, hq => exact hq.elim
end DL
set_option Elab.async false
set_option autoImplicit false
set_option linter.all false
set_option maxRecDepth 100000
set_option maxHeartbeats 3900000
namespace DL
open L2 PyProof.Rows PySem PySem.Spec
variable {τ : Tb}
/-! ### while, name op= e -/
def wWhile (wt : WT) (wb : WS) : WS := fun ρ Δ => ∃ I : Nat → Rho → Prop, (∃ m, I m ρ) ∧ ∀ m ρ, I m ρ → wt ρ Δ.xc fun b ρ1 => if b = true then wb ρ1 { Δ with nx := fun ρ' => ∃ m', m' < m ∧ I m' ρ', ct := fun ρ' => ∃ m', m' < m ∧ I m' ρ', bk := Δ.nx } else Δ.nx ρ1
theorem l_while {K : Fg} {W : WX} {wt : WT} {wb : WS} : ∀ D σ H, lS K τ W (wWhile wt wb) D σ H → tWhile (lT K τ W wt) (lS K τ W wb) D σ H := by
  rintro D σ H ⟨ρ, S, F, Δ, e, ⟨I, ⟨m0, i0⟩, tn⟩, hx, h1, h2, h3, h4, h5⟩
  refine ⟨fun m σ' H' => ∃ ρ' S', Same S S' ∧ ER K τ S' F H' ρ' σ' ∧ I m ρ', ⟨m0, ρ, S, Same.refl S, e, i0⟩, ?_⟩
  rintro m σ' H' ⟨ρ', S', s', e', im⟩
  refine ⟨ρ', S', F, _, _, e', tn m ρ' im, hx.mono s', fun b ρ1 S1 H1 q s1 e1 => ?_⟩
  have t1 : Same S S1 := s'.trans s1
  cases b with
  | false => exact h1 ρ1 S1 _ H1 q t1 e1
  | true =>
    refine ⟨fun σ2 H2 => ∃ ρ2 S2, Same S S2 ∧ ER K τ S2 F H2 ρ2 σ2 ∧ ∃ m', m' < m ∧ I m' ρ2, fun σ2 H2 ⟨ρ2, S2, s2, e2, m', hm, i2⟩ => ⟨m', hm, ρ2, S2, s2, e2, i2⟩, ?_⟩
    exact ⟨ρ1, S1, F, _, e1, q, hx.mono t1, fun ρ4 S4 σ4 H4 a b c => ⟨ρ4, S4, t1.trans b, c, a⟩, fun d v ρ4 S4 σ4 H4 a b c f => h2 d v ρ4 S4 σ4 H4 a (t1.trans b) c f,
      fun ρ4 S4 σ4 H4 a b c => h1 ρ4 S4 σ4 H4 a (t1.trans b) c, fun ρ4 S4 σ4 H4 a b c => ⟨ρ4, S4, t1.trans b, c, a⟩, fun l od o ρ4 S4 σ4 H4 a b => h5 l od o ρ4 S4 σ4 H4 a (t1.trans b)⟩
def wAug (f : Int → Int → Int) (i : Nat) (wa : WE) : WS := fun ρ Δ => ∃ a, ρ[i]? = some (Sl.val (.int a)) ∧ wa ρ Δ.xc fun y ρ1 => match y with
  | .int b => Δ.nx (ρ1.set i (.val (.int (f a b))))
  | _ => False
theorem l_aug {K : Fg} {W : WX} {f : Int → Int → Int} {i : Nat} {wa : WE} : ∀ D σ H, lS K τ W (wAug f i wa) D σ H → tAug i (lE K τ W wa) (ipI f) D σ H := by
  rintro D σ H ⟨ρ, S, F, Δ, e, ⟨a, ha, hw⟩, hx, h1, -⟩
  obtain ⟨v, hv, iv⟩ := e.val i _ ha
  cases iv
  refine ⟨_, hv, ρ, S, F, _, _, e, hw, hx, fun y d ρ1 S1 H1 q s1 i1 e1 => ?_⟩
  cases d with
  | int b => cases i1; exact ⟨a, b, rfl, rfl, h1 _ S1 _ H1 q s1 (e1.set (.int _))⟩
  | _ => exact False.elim q
/-! ### reversed(x), x a list or a tuple -/
def wiRev (wa : WE) : WL := fun ρ χ Φ => wa ρ χ fun d ρ1 => match d with
  | .lst ds => Φ ds.reverse ρ1
  | .tup ds => Φ ds.reverse ρ1
  | _ => False
theorem rev_at {α : Type} {xs : List α} {i : Nat} (h : i < xs.length) : xs.reverse[i]? = xs[xs.length - 1 - i]? := List.getElem?_reverse h
theorem dwk_rvL {K : Fg} {S : Hp} {a : Addr} {vs : List V} {ds : List D} (h : S a = some (.lst vs)) (hi : IsAll K S vs ds) : DWk K τ S (Itv K a vs.length) ds.reverse := by
  have hl := hi.length
  have hq : ∀ {H}, Same S H → SqL K H a vs := fun s => .inl (.inl (s _ _ h))
  refine ⟨fun i H h1 s => ?_, fun H s => by rw [List.length_reverse, ← hl]; exact Nat.le_refl _, fun i H x H' h1 s y => ?_⟩
  · rw [List.length_reverse] at h1
    have hlt : vs.length - 1 - i < vs.length := by omega
    exact ⟨by omega, vs, vs[vs.length - 1 - i], hq s, by simp [hlt]⟩
  · rw [List.length_reverse] at h1
    obtain ⟨rfl, y⟩ := y
    have hx := y vs (hq s)
    have hlt : vs.length - 1 - i < ds.length := by omega
    obtain ⟨v, q1, q2⟩ := hi.get (i := vs.length - 1 - i) (d := ds[vs.length - 1 - i]) (by simp [hlt])
    rw [q1] at hx; cases hx
    exact ⟨_, by rw [rev_at h1, ← hl]; simp [hlt], fun S1 F ρ σ s1 e => ⟨S1, Same.refl S1, q2.mono s1, e⟩⟩
theorem dwk_rvT {K : Fg} {S : Hp} {a : Addr} {vs : List V} {ds : List D} (h : S a = some (.tup vs)) (hi : IsAll K S vs ds) : DWk K τ S (RT.ItvT K a vs.length) ds.reverse := by
  have hl := hi.length
  have hq : ∀ {H}, Same S H → SqT K H a vs := fun s => .inl (.inl (s _ _ h))
  refine ⟨fun i H h1 s => ?_, fun H s => by rw [List.length_reverse, ← hl]; exact Nat.le_refl _, fun i H x H' h1 s y => ?_⟩
  · rw [List.length_reverse] at h1
    have hlt : vs.length - 1 - i < vs.length := by omega
    exact ⟨by omega, vs, vs[vs.length - 1 - i], hq s, by simp [hlt]⟩
  · rw [List.length_reverse] at h1
    obtain ⟨rfl, y⟩ := y
    have hx := y vs (hq s)
    have hlt : vs.length - 1 - i < ds.length := by omega
    obtain ⟨v, q1, q2⟩ := hi.get (i := vs.length - 1 - i) (d := ds[vs.length - 1 - i]) (by simp [hlt])
    rw [q1] at hx; cases hx
    exact ⟨_, by rw [rev_at h1, ← hl]; simp [hlt], fun S1 F ρ σ s1 e => ⟨S1, Same.refl S1, q2.mono s1, e⟩⟩
theorem i_rev {K : Fg} {W : WX} {wa : WE} : ∀ σ H R, lI K τ W (wiRev wa) σ H R → RT.iRevA K (lE K τ W wa) σ H R := by
  rintro σ H R ⟨ρ, S, F, χ, Φ, e, hw, hx, hp⟩
  refine ⟨ρ, S, F, χ, _, e, hw, hx, fun v d ρ1 S1 H1 h1 s1 i1 e1 => ?_⟩
  cases i1 with
  | lst a b => exact ⟨_, _, rfl, .inl ⟨.inl (.inl (e1.ex _ _ a)), hp _ _ ρ1 S1 H1 h1 s1 e1 (dwk_rvL a b)⟩⟩
  | tup a b => exact ⟨_, _, rfl, .inr ⟨.inl (.inl (e1.ex _ _ a)), hp _ _ ρ1 S1 H1 h1 s1 e1 (dwk_rvT a b)⟩⟩
  | _ => exact False.elim h1
/-! ### x[::-1], x a list -/
def revK (wb : WE) (χ : XC) (Φ : D → Rho → Prop) (x : D) (ρ1 : Rho) : Prop := wb ρ1 χ fun y ρ2 => match x, y with
  | .lst ds, .int (-1) => Φ (.lst ds.reverse) ρ2
  | _, _ => False
def wRevSl (wa wb : WE) : WE := fun ρ χ Φ => wa ρ χ fun x ρ1 => revK wb χ Φ x ρ1
section
variable {X : Cx} {W : WX} {k : Nat} {x y : Str} {a b c d e f o : Expr} {es rest : List Expr} {p pos pos' p2 : Pos} {wa wb : WE} {wt : WT} {wl wi : WL} {w u : WS} {body : List Stmt} {i : Nat}
theorem e_revSl (ha : PEd X τ W e wa) (hb : PEd X τ W b wb) : PEd X τ W (.Subscript e (.Slice none none (some b) p2) pos) (wRevSl wa wb) := by
  constructor; rintro pins s σ H Q I ⟨ρ, S, F, χ, Φ, e0, hw, hx, hp⟩
  have h' : lE X.K τ W wa σ H (fun v H1 => ∃ ρ1 S1 dv, ER X.K τ S1 F H1 ρ1 σ ∧ Same S S1 ∧ Is X.K S1 v dv ∧ revK wb χ Φ dv ρ1) := ⟨ρ, S, F, χ, _, e0, hw, hx, fun v dv ρ1 S1 H1 q1 s1 i1 e1 => ⟨ρ1, S1, dv, e1, s1, i1, q1⟩⟩
  refine Subscript_ (thn (ha.run pins s σ H _ I h') fun v s1 ⟨vx, H1, I1, r1, ρ1, S1, dv, e1, t1, i1, q1⟩ => ?_)
  refine wpAny_Slice ?_
  rw [evalPart_none, evalPart_some]
  refine wpAny_pure (wpAny_pure ?_)
  refine thn (hb.run pins s1 σ H1 (fun y H2 => y = .int (-1) ∧ ∃ p ws, vx = .ref p ∧ SqL X.K H2 p ws ∧ ∀ q, H2 q = none → Q (.ref q) (upd H2 q (.lst ws.reverse))) I1 ⟨ρ1, S1, F, χ, _, e1, q1, hx.mono t1, fun y dy ρ2 S2 H2 q2 s2 i2 e2 => ?_⟩) fun vk s2 ⟨y, H2, I2, r2, ey, p, ws, ex, hq, q2⟩ => ?_
  · split at q2
    · rename_i ds
      cases i2
      cases i1 with
      | lst h1 h2 => exact ⟨rfl, _, _, rfl, .inl (.inl (e2.ex _ _ (s2 _ _ h1))), fun q hq => hp _ _ ρ2 _ _ q2 ((t1.trans s2).trans (e2.sn hq)) (.lst upd_same (((h2.mono s2).reverse).mono (e2.sn hq))) (e2.new hq)⟩
    · exact q2.elim
  · subst ey; subst ex
    cases r1
    obtain ⟨t, rfl⟩ := r2
    have I4 : Inv X pins σ H2 { s2 with heap := s2.heap.push { cls := .type "slice", data := .fields #[.none, .none, .int (-1) t] } } := I2.kept (t' := s2.toks) fun b ob q => Heap.get?_push_of_some _ q
    obtain ⟨its, r, ht, hz⟩ := I4.list hq
    have hl := r.length
    have fin : wpAny (model X.prog X.w) X.A (getItem (.ref p) (.ref s2.heap.objs.size)) (EP X pins σ Q) X.xe { s2 with heap := s2.heap.push { cls := .type "slice", data := .fields #[.none, .none, .int (-1) t] } } := by
      refine wpAny_getItem_list_slice (lo := none) (hi := none) (st := some (-1)) ht.isList (Heap.IsSliceOf.new ..) .none .none (.int _ _) (by decide) ?_ (by rw [List.size_toArray]; omega)
      rw [PySem.W.krv_pick]
      refine ⟨.ref _, _, I4.laid (t' := s2.toks) (o := .lst ws.reverse) (fun b ob q => Heap.get?_push_of_some _ q) (Nat.le_refl _) ?_, rfl, q2 _ (I4.hok.fresh (Nat.le_refl _))⟩
      exact ⟨by rw [List.length_reverse]; exact hz, _, 0, r.reverse, Heap.get?_push_size _ rfl⟩
    exact tail_any (ops := [.ref p, .ref s2.heap.objs.size]) ht.isList.typeIs slot_list_getitem.lookup fin (by with_unfolding_all rfl)
theorem s_while {c : Expr} (hp : PassesOwn (model X.prog X.w) X.A X.env X.xe) (hc : PTd X τ W c wt) (hb : PSsd X τ W body w) : PSd X τ W (.While c body [] pos) (wWhile wt w) := PS.imp (ps_while hp hc hb) l_while
theorem s_augS (hN : X.N.Nodup) (i : Nat) (he : PEd X τ W e wa) (hi : X.N[i]? = some x := by rfl) (hx : Loc X.env.scope x := by first | exact .inl rfl | exact .inr rfl) (hf : X.fn x = true ∨ X.env.scope.names.lookup x = some .local := by first | exact .inl rfl | exact .inr rfl) :
    PSd X τ W (.AugAssign (.Name x pos') .Sub e pos) (wAug (fun i j => i - j) i wa) := PS.imp (ps_aug hN hi hx he ip_sub hf) l_aug
theorem s_augA (hN : X.N.Nodup) (i : Nat) (he : PEd X τ W e wa) (hi : X.N[i]? = some x := by rfl) (hx : Loc X.env.scope x := by first | exact .inl rfl | exact .inr rfl) (hf : X.fn x = true ∨ X.env.scope.names.lookup x = some .local := by first | exact .inl rfl | exact .inr rfl) :
    PSd X τ W (.AugAssign (.Name x pos') .Add e pos) (wAug (fun i j => i + j) i wa) := PS.imp (ps_aug hN hi hx he ip_add hf) l_aug
theorem i_rvd {tg : Expr} (hm : X.mg "reversed" = none) (ha : PEd X τ W e wa) (hg : Gl X "reversed" := by rfl) (hs : starEach [e] X.env = (false, eval e X.env) :: starEach [] X.env := by rfl) : PId X τ W tg (.Call (.Name "reversed" p) [e] [] pos) (wiRev wa) := PI.imp (RT.pi_revA hg hm ha hs) i_rev
theorem i_rng2 {tg : Expr} (hm : X.mg "range" = none) (ha : PAd X τ W [a, b] wl) (hg : Gl X "range" := by rfl) (hs : starEach [a, b] X.env = [(false, eval a X.env), (false, eval b X.env)] := by rfl) (hs2 : starEach [b] X.env = [(false, eval b X.env)] := by rfl) : PId X τ W tg (.Call (.Name "range" p) [a, b] [] pos) (wiRg2 wl) := PI.imp (pi_range2 hg hm ha hs hs2) i_rg2
/-- a comprehension's target a, b -/
theorem g_c2 {vs : List Nat} (hN : X.N.Nodup) (hc : X.calm = true) (i m : Nat) {px py pt : Pos} {kt : Nat} (hv : i ∈ vs := by decide) (hv2 : m ∈ vs := by decide) (hi : X.N[i]? = some x := by rfl) (hj : X.N[m]? = some y := by rfl) (hx : Loc X.env.scope x := by first | exact .inl rfl | exact .inr rfl) (hy : Loc X.env.scope y := by first | exact .inl rfl | exact .inr rfl)
    (hf : X.fn x = true ∨ X.env.scope.names.lookup x = some .local := by first | exact .inl rfl | exact .inr rfl) (hf2 : X.fn y = true ∨ X.env.scope.names.lookup y = some .local := by first | exact .inl rfl | exact .inr rfl)
    (hn : (assignEach [.Name x px, .Name y py] X.env).length = 2 := by rfl) (hst : (assignEach [.Name x px, .Name y py] X.env).findIdx? (·.1) = none := by rfl) : PG X (.Tuple [.Name x px, .Name y py] kt pt) (lGc X.K τ vs (wgTup 2 (wgCons (wgName i) (wgCons (wgName m) wgNil)))) :=
  PG.imp (pg_tup hc (PGs.imp (pgs_cons (PG.imp (pg_name hN hi hx hf) (gc_name hv)) (PGs.imp (pgs_cons (PG.imp (pg_name hN hj hy hf2) (gc_name hv2)) (PGs.imp pgs_nil gc_nil)) gc_cons)) gc_cons) hn hst) gc_tup
end
/-- a target a, b for a tuple or a list -/
def wgSeq (n : Nat) (gs : WGs) : WG := fun d ρ Φ => match d with
  | .tup ds => ds.length = n ∧ gs ds ρ Φ
  | .lst ds => ds.length = n ∧ gs ds ρ Φ
  | _ => False
theorem g_c2S {X : Cx} {x y : Str} {vs : List Nat} (hN : X.N.Nodup) (hc : X.calm = true) (i m : Nat) {px py pt : Pos} {kt : Nat} (hv : i ∈ vs := by decide) (hv2 : m ∈ vs := by decide) (hi : X.N[i]? = some x := by rfl) (hj : X.N[m]? = some y := by rfl) (hx : Loc X.env.scope x := by first | exact .inl rfl | exact .inr rfl) (hy : Loc X.env.scope y := by first | exact .inl rfl | exact .inr rfl)
    (hf : X.fn x = true ∨ X.env.scope.names.lookup x = some .local := by first | exact .inl rfl | exact .inr rfl) (hf2 : X.fn y = true ∨ X.env.scope.names.lookup y = some .local := by first | exact .inl rfl | exact .inr rfl)
    (hn : (assignEach [.Name x px, .Name y py] X.env).length = 2 := by rfl) (hst : (assignEach [.Name x px, .Name y py] X.env).findIdx? (·.1) = none := by rfl) : PG X (.Tuple [.Name x px, .Name y py] kt pt) (lGc X.K τ vs (wgSeq 2 (wgCons (wgName i) (wgCons (wgName m) wgNil)))) := by
  constructor; rintro pins s σ H v u Q I r ⟨ρ, S, F, d, Φ, e, hd, hg, hp⟩
  have gs : PGs X [.Name x px, .Name y py] (lGcs X.K τ vs (wgCons (wgName i) (wgCons (wgName m) wgNil))) := PGs.imp (pgs_cons (PG.imp (pg_name hN hi hx hf) (gc_name hv)) (PGs.imp (pgs_cons (PG.imp (pg_name hN hj hy hf2) (gc_name hv2)) (PGs.imp pgs_nil gc_nil)) gc_cons)) gc_cons
  cases hd with
  | tup h1 h2 => exact (pg_tup hc gs hn hst).run pins s σ H _ u Q I r ⟨_, _, rfl, .inl (.inl (e.ex _ _ h1)), h2.length.trans hg.1, ρ, S, F, _, Φ, e, h2, hg.2, hp⟩
  | lst h1 h2 => exact (pg_lst hc gs hn hst).run pins s σ H _ u Q I r ⟨_, _, rfl, .inl (.inl (e.ex _ _ h1)), h2.length.trans hg.1, ρ, S, F, _, Φ, e, h2, hg.2, hp⟩
  | _ => exact False.elim hg
/-! ### max, min of a list of whole numbers; min(.., default=) -/
def intsOf : List D → Option (List Int)
  | [] => some []
  | .int i :: ds => (intsOf ds).map (i :: ·)
  | _ :: _ => none
theorem ints_is {K : Fg} {S : Hp} : ∀ {vs : List V} {ds : List D} {ns : List Int}, IsAll K S vs ds → intsOf ds = some ns → vs = ns.map V.int
  | _, [], ns, .nil, h => by cases h; rfl
  | _, d :: ds, ns, .cons r t, h => by
    cases d with
    | int i =>
      cases r
      have h' : (intsOf ds).map (i :: ·) = some ns := h
      cases e : intsOf ds with
      | none => rw [e] at h'; cases h'
      | some ms => rw [e] at h'; cases h'; rw [ints_is t e]; rfl
    | _ => cases h
def wMaxL : WCl := fun ds Φ => match ds with
  | [.lst xs] => ∃ ns, intsOf xs = some ns ∧ 0 < ns.length ∧ ∀ m, m ∈ ns → (∀ y, y ∈ ns → y ≤ m) → Φ (.int m)
  | _ => False
def wMinL : WCl := fun ds Φ => match ds with
  | [.lst xs] => ∃ ns, intsOf xs = some ns ∧ 0 < ns.length ∧ ∀ m, m ∈ ns → (∀ y, y ∈ ns → m ≤ y) → Φ (.int m)
  | _ => False
theorem ok_maxL {K : Fg} : CallOk K τ (rMax K) wMaxL := by
  intro S F H ρ σ vs ds Φ Q e hi hw hp
  unfold wMaxL at hw
  split at hw
  · obtain ⟨ns, h1, h2, h3⟩ := hw
    cases hi with
    | cons r hi =>
      cases hi; cases r with
      | lst a b =>
        cases ints_is b h1
        exact ⟨_, ns, rfl, .inl (.inl (e.ex _ _ a)), h2, fun m p q => hp _ _ S H (h3 m p q) (Same.refl S) (.int _) e⟩
  · exact hw.elim
theorem ok_minL {K : Fg} : CallOk K τ (rMin K) wMinL := by
  intro S F H ρ σ vs ds Φ Q e hi hw hp
  unfold wMinL at hw
  split at hw
  · obtain ⟨ns, h1, h2, h3⟩ := hw
    cases hi with
    | cons r hi =>
      cases hi; cases r with
      | lst a b =>
        cases ints_is b h1
        exact ⟨_, ns, rfl, .inl (.inl (e.ex _ _ a)), h2, fun m p q => hp _ _ S H (h3 m p q) (Same.refl S) (.int _) e⟩
  · exact hw.elim
def rMinDf (K : Fg) : List V → List V → Hp → VK → Prop := fun vs zs H Q => ∃ (a : Addr) (ns : List Int) (d : Int), vs = [V.ref a] ∧ zs = [V.int d] ∧ SqL K H a (ns.map V.int) ∧ (ns = [] → Q (.int d) H) ∧ ∀ m, m ∈ ns → (∀ y, y ∈ ns → m ≤ y) → Q (.int m) H
theorem minOf_ok : ∀ (xs : List Int) (x : Int), PySem.W.minOf x xs ∈ x :: xs ∧ ∀ y ∈ x :: xs, PySem.W.minOf x xs ≤ y
  | [], x => ⟨by simp [PySem.W.minOf], by simp [PySem.W.minOf]⟩
  | z :: xs, x => by
    have e : PySem.W.minOf x (z :: xs) = PySem.W.minOf (if z < x then z else x) xs := by
      unfold PySem.W.minOf
      rw [List.foldl_cons]
      congr 1
      show (if decide (z < x) = true then z else x) = _
      by_cases h : z < x <;> simp [h]
    obtain ⟨h1, h2⟩ := minOf_ok xs (if z < x then z else x)
    rw [e]
    refine ⟨?_, fun y hy => ?_⟩
    · rcases List.mem_cons.mp h1 with h | h
      · rw [h]; by_cases h : z < x <;> simp [h]
      · simp [h]
    · have h3 := h2 _ List.mem_cons_self
      rcases List.mem_cons.mp hy with rfl | hy
      · by_cases h : z < y
        · rw [if_pos h] at h3 ⊢; omega
        · rw [if_neg h] at h3 ⊢; exact h3
      · rcases List.mem_cons.mp hy with rfl | hy
        · by_cases h : y < x
          · rw [if_pos h] at h3 ⊢; exact h3
          · rw [if_neg h] at h3 ⊢; omega
        · exact h2 y (List.mem_cons_of_mem _ hy)
theorem hold_ints {h : Heap} : ∀ {vs : List Value} {ns : List Int}, IntsAre vs ns → PySem.W.HoldAll h vs ns := fun {vs ns} hi => PySem.W.HoldAll.of_ints hi
theorem cr_minDf {X : Cx} {W : WX} {k : Nat} (hc : X.calm = true) (o : Cok X W k) : CallRK X (.builtin "min") [Str.ofString "default"] (rMinDf X.K) := by
  intro pins s σ H xs zs us ws Q I r rz h
  obtain ⟨a, ns, d, rfl, rfl, hs, h0, h1⟩ := h
  obtain ⟨its, rv, hl, hz⟩ := I.list hs
  rw [Vals.ref1 r]
  cases rz with
  | cons r2 rr =>
    cases rr
    obtain ⟨t, rfl⟩ := r2
    refine PySem.W.min_list_datum_default (α := Int) (xs := ns) (I.ok.hd hc) hl.isList (hold_ints rv.ints) (by have := o.u64'; show X.A.units + 1 + 0 < cLine; omega) (fun e h' tk hk => ⟨.int d, H, I.kept hk, ⟨t, rfl⟩, h0 e⟩) fun y ys i v h' tk e hi hv hk => ?_
    subst e
    obtain ⟨h3, h4⟩ := minOf_ok ys y
    obtain ⟨as, hr⟩ := hv
    have hr : Reads h' v (.int (PySem.W.minOf y ys)) as := hr
    refine ⟨.int (PySem.W.minOf y ys), H, I.kept hk, ?_, h1 _ h3 h4⟩
    cases hr
    exact ⟨_, rfl⟩
/-- min(x, default=d) -/
def wMinDf (wl wk : WL) : WE := fun ρ χ Φ => wl ρ χ fun ds ρ1 => wk ρ1 χ fun zs ρ2 => match ds, zs with
  | [.lst xs], [.int d] => ∃ ns, intsOf xs = some ns ∧ (ns = [] → Φ (.int d) ρ2) ∧ ∀ m, m ∈ ns → (∀ y, y ∈ ns → m ≤ y) → Φ (.int m) ρ2
  | _, _ => False
theorem l_minDf {K : Fg} {W : WX} {wl wk : WL} : ∀ σ H Q, lE K τ W (wMinDf wl wk) σ H Q → tCKw (rMinDf K) (lL K τ W wl) (lL K τ W wk) σ H Q := by
  rintro σ H Q ⟨ρ, S, F, χ, Φ, e, hw, hx, hp⟩
  refine ⟨ρ, S, F, χ, _, e, hw, hx, fun vs ds ρ1 S1 H1 h1 s1 i1 e1 => ?_⟩
  refine ⟨ρ1, S1, F, χ, _, e1, h1, hx.mono s1, fun us zs ρ2 S2 H2 h2 s2 i2 e2 => ?_⟩
  split at h2
  · obtain ⟨ns, a1, a2, a3⟩ := h2
    cases i2 with
    | cons r2 rr =>
      cases rr; cases r2
      cases i1 with
      | cons r rr =>
        cases rr; cases r with
        | lst b1 b2 =>
          cases ints_is b2 a1
          exact ⟨_, ns, _, rfl, rfl, .inl (.inl (e2.ex _ _ (s2 _ _ b1))), fun z => hp _ _ ρ2 S2 H2 (a2 z) (s1.trans s2) (.int _) e2, fun m p q => hp _ _ ρ2 S2 H2 (a3 m p q) (s1.trans s2) (.int _) e2⟩
  · exact h2.elim
/-- a call of what a slot holds: one of some defs -/
def wCallV (i n : Nat) (sps : List (Addr × Spc)) (wl : WL) : WE := fun ρ χ Φ => ∃ f sp, (f, sp) ∈ sps ∧ ρ[i]? = some (Sl.val (.raw (.ref f))) ∧ wl ρ χ fun ds ρ1 => ds.length = n ∧ sp none ds (fun d _ => Φ d ρ1) fun C fl d => χ C fl d ρ1
structure OneOf (P : Program) (w : World) (K : Fg) (mg : Str → Option Value) (base : Heap) (t : List (Addr × Str)) (k n : Nat) (f : Addr) (sp : Spc) : Prop where
  ex : ∃ (fd : FuncData) (ps : List Str), FnG P w K mg base k f fd ps (lSp K t n sp) ∧ PySem.W.keepIn K (Value.ref f) = true ∧ KBn K fd ps n [] (fun us _ => us) (fun us _ => us)
section
variable {X : Cx} {W : WX} {k i n : Nat} {x : Str} {e : Expr} {es : List Expr} {kws : List Keyword} {p pos : Pos} {wl wk : WL} {sps : List (Addr × Spc)}
theorem e_minDf (hc : X.calm = true) (o : Cok X W k) (hm : X.mg "min" = none) (ha : PAd X τ W (e :: es) wl) (hk : PKd X τ W kws wk) (hg : Gl X "min" := by rfl) (he : backTo pos (starEach (e :: es) X.env) = (false, eval e X.env) :: backTo pos (starEach es X.env) := by rfl) (hpl : (backTo pos (starEach (e :: es) X.env)).any (·.1) = false := by rfl)
    (hall : (backToKw pos (keywordEach kws X.env)).all (·.1.isSome) = true := by rfl) (hnone : (backToKw pos (keywordEach kws X.env)).any (·.1.isNone) = false := by rfl) (hks : (backToKw pos (keywordEach kws X.env)).filterMap (·.1) = [Str.ofString "default"] := by rfl) :
    PEd X τ W (.Call (.Name "min" p) (e :: es) kws pos) (wMinDf wl wk) := PE.imp (pe_callBK (cr_minDf hc o) hg hm PyProof.Rows.Boot.min ha hk (by decide) (by decide) he hpl hall hnone hks) l_minDf
theorem e_callV {tt : List (Addr × Str)} (o : Cok X W k) (A : ∀ q ∈ sps, OneOf X.prog X.w X.K X.mg X.base tt k n q.1 q.2) (ha : PAd X τ W (e :: es) wl) (hN : X.N[i]? = some x := by rfl) (hv : Vis X.env.scope x := by first | exact .inl rfl | exact .inr (.inl rfl) | exact .inr (.inr rfl)) (hd : (x == ("__debug__" : Str)) = false := by decide) (hcd : (x == ("__classdict__" : Str)) = false := by decide)
    (he : starEach (e :: es) X.env = (false, eval e X.env) :: starEach es X.env := by rfl) (hpl : (backTo pos (starEach es X.env)).any (·.1) = false := by rfl) (ht : τ.t = tt := by rfl) : PEd X τ W (.Call (.Name x p) (e :: es) [] pos) (wCallV i n sps wl) := by
  subst ht
  constructor; rintro pins s σ H Q I ⟨ρ, S, F, χ, Φ, e0, ⟨f, sp, hm, h0, hw⟩, hx, hp⟩
  obtain ⟨fd, ps, Fn, kp, kb⟩ := (A _ hm).ex
  obtain ⟨v0, hσ, i0⟩ := e0.val i _ h0
  cases i0
  refine wpAny_Call_Name_kw (thn ((pe_var (pos := p) hN hv hd hcd).run pins s σ H (fun v H1 => v = .ref f ∧ H1 = H) I ⟨.ref f, hσ, rfl, rfl⟩) fun u s1 ⟨v, H1, I1, r1, ev, eH⟩ => ?_)
  subst ev; subst eH
  cases r1
  have h' : lE X.K τ W (wCallA n 0 sp (fun ds _ => ds) wl wNil) σ H1 Q := ⟨ρ, S, F, χ, Φ, e0, (by
    show wl ρ χ fun ds ρ1 => ds.length = n ∧ (0 = 0 ∧ sp none ds (fun d _ => Φ d ρ1) fun C f d => χ C f d ρ1)
    simpa using hw), hx, hp⟩
  have h2 := lL_mono (l_callA (K := X.K) (W := W) grel_pos σ H1 Q h') fun vs H' q => l_nil σ H' _ q
  refine PySem.W.callWith_K (h₀ := X.base) I1.ok.mod.kin kp (thn (ha.run pos pins s1 σ H1 _ I1 h2) fun us s2 ⟨vs, H2, I2, r, l1, l2, q⟩ => ⟨I2.kIn, ?_⟩) he hpl
  have z := run_g (us := us) (ws := []) (zs := []) Fn o kb I2 r .nil l1 l2 q
  exact z
end
end DL
namespace DL
open L2 PyProof.Rows PySem PySem.Spec
variable {τ : Tb}
/-- repr where an error may be handled -/
theorem cr_reprU {X Y : Cx} {W : WX} {k : Nat} (c : Cok X W k) (hg : Y.A.guards = X.A.guards := by rfl) (hu : Y.A.units = X.A.units := by rfl) : CallR Y (.builtin "repr") (rRepr Y.K) := by
  rintro pins s σ H xs us Q I r ⟨v, p, rfl, dp, hs, hn, hd, hz, q⟩
  obtain ⟨u, rfl, ru⟩ := vals1 r; obtain ⟨as, rd⟩ := Dp.reads I p v u dp ru
  have un := c.rm.un
  have gd : Y.A.guards = some [] := hg.trans c.gd
  cases dp with
  | non => cases ru; exact PySem.P.repr_of_none ⟨.str _, H, I.tok _, ⟨_, rfl⟩, by simpa only [PyData.shown] using q⟩
  | bl b => cases ru; exact PySem.P.repr_of_bool ⟨.str _, H, I.tok _, ⟨_, rfl⟩, by simpa only [PyData.shown] using q⟩
  | int i =>
    obtain ⟨t, rfl⟩ := ru
    exact PySem.P.repr_of_int (by simpa [PyData.showable] using hs) ⟨.str _, H, I.tok _, ⟨_, rfl⟩, by simpa only [PyData.shown] using q⟩
  | str x =>
    obtain ⟨t, rfl⟩ := ru
    exact PySem.P.repr_of_str ⟨.str _, H, I.tok _, ⟨_, rfl⟩, by simpa only [PyData.shown] using q⟩ (by simpa only [PyData.shown] using hz)
  | lst a b =>
    cases ru
    exact repr_of_reads' (h₀ := s.heap) rd hs (fun e => by rw [hn] at e; cases e) gd (by rw [hu]; omega) (fun _ _ e => e) (fun h' u tk hk => ⟨.str _, H, I.kept hk, ⟨_, rfl⟩, q⟩) hz
  | tup a b =>
    cases ru
    exact repr_of_reads' (h₀ := s.heap) rd hs (fun e => by rw [hn] at e; cases e) gd (by rw [hu]; omega) (fun _ _ e => e) (fun h' u tk hk => ⟨.str _, H, I.kept hk, ⟨_, rfl⟩, q⟩) hz
end DL
set_option Elab.async false
set_option autoImplicit false
set_option linter.all false
set_option maxRecDepth 100000
set_option maxHeartbeats 3900000
namespace DL
open L2 PyProof.Rows PySem PySem.Spec
variable {τ : Tb}
section
variable {X : Cx} {W : WX} {k : Nat} {a b : Expr} {p px pos pos' : Pos} {wa wb : WE}
/-- list(range(n)) -/
theorem e_lstRg (hc : X.calm = true) (hm : X.mg "list" = none) (hm2 : X.mg "range" = none) (ha : PEd X τ W a wa) (hg : Gl X "list" := by rfl) (hg2 : Gl X "range" := by rfl) (na : starEach [a] X.env = (false, eval a X.env) :: starEach [] X.env := by rfl)
    (nb : starEach [.Call (.Name "range" p) [a] [] pos'] X.env = (false, eval (.Call (.Name "range" p) [a] [] pos') X.env) :: starEach [] X.env := by rfl) : PEd X τ W (.Call (.Name "list" px) [.Call (.Name "range" p) [a] [] pos'] [] pos) (wRgL (wCons wa wNil)) :=
  PE.imp (pe_listRg hc hg hm (prg_1 hg2 hm2 ha na) nb) l_rgL
/-- i in x, i not in x: x a list or tuple of ints -/
def wInI (neg : Bool) : D → D → (D → Prop) → Prop := fun x y Φ => match x, y with
  | .int i, .lst ds => ∃ ns, intsOf ds = some ns ∧ Φ (.bl (if neg then !decide (i ∈ ns) else decide (i ∈ ns)))
  | .int i, .tup ds => ∃ ns, intsOf ds = some ns ∧ Φ (.bl (if neg then !decide (i ∈ ns) else decide (i ∈ ns)))
  | _, _ => False
theorem inV_ints (i : Int) : ∀ ns : List Int, inV (.int i) (ns.map V.int) = decide (i ∈ ns)
  | [] => rfl
  | n :: ns => by
    have ih := inV_ints i ns
    unfold inV at ih ⊢
    rw [List.map_cons, List.any_cons, ih]
    have e : eqV (.int n) (.int i) = decide (i = n) := by
      by_cases h : i = n
      · subst h; simp [eqV]
      · simp [eqV, h, Ne.symm h]
    rw [e, ← Bool.decide_or]
    exact decide_eq_decide.mpr List.mem_cons.symm
theorem flat_ints (ns : List Int) : (ns.map V.int).all flatV = true := by
  rw [List.all_eq_true]
  intro x hx
  obtain ⟨n, -, rfl⟩ := List.mem_map.mp hx
  rfl
theorem ok_inI {K : Fg} {neg : Bool} : OpOk K τ (rIn K neg) (wInI neg) := by
  intro S F H ρ σ x y dx dy Φ Q e ix iy hw hp
  unfold wInI at hw
  split at hw
  · obtain ⟨ns, h1, h2⟩ := hw
    cases ix
    cases iy with
    | lst a b =>
      cases ints_is b h1
      exact ⟨_, _, rfl, .inl (.inl (.inl (e.ex _ _ a))), rfl, flat_ints ns, by rw [inV_ints]; exact hp _ _ S H h2 (Same.refl S) (.bl _) e⟩
  · obtain ⟨ns, h1, h2⟩ := hw
    cases ix
    cases iy with
    | tup a b =>
      cases ints_is b h1
      exact ⟨_, _, rfl, (.inr (.inl (.inl (e.ex _ _ a)))), rfl, flat_ints ns, by rw [inV_ints]; exact hp _ _ S H h2 (Same.refl S) (.bl _) e⟩
  · exact hw.elim
theorem e_in (ha : PEd X τ W a wa) (hb : PEd X τ W b wb) (h1 : behindInMarks .In b = false := by rfl) : PEd X τ W (.Compare a [.In] [b] pos) (wOp (wInI false) wa wb) := PE.imp (pe_cmpR op_in_seq ha hb h1) (l_op ok_inI)
theorem e_nin (ha : PEd X τ W a wa) (hb : PEd X τ W b wb) (h1 : behindInMarks .NotIn b = false := by rfl) : PEd X τ W (.Compare a [.NotIn] [b] pos) (wOp (wInI true) wa wb) := PE.imp (pe_cmpR op_notIn_seq ha hb h1) (l_op ok_inI)
theorem t_in (ha : PEd X τ W a wa) (hb : PEd X τ W b wb) (h1 : behindInMarks .In b = false := by rfl) : PTd X τ W (.Compare a [.In] [b] pos) (wB (wOp (wInI false) wa wb)) := t_of (pt_cmpR op_in_seq ha hb h1) (l_op ok_inI)
theorem t_nin (ha : PEd X τ W a wa) (hb : PEd X τ W b wb) (h1 : behindInMarks .NotIn b = false := by rfl) : PTd X τ W (.Compare a [.NotIn] [b] pos) (wB (wOp (wInI true) wa wb)) := t_of (pt_cmpR op_notIn_seq ha hb h1) (l_op ok_inI)
/-! bits of ints -/
def wBAnd : D → D → (D → Prop) → Prop := fun x y Φ => match x, y with
  | .int a, .int b => Φ (.int (Builtin.bitAnd a b))
  | _, _ => False
def wBOr : D → D → (D → Prop) → Prop := fun x y Φ => match x, y with
  | .int a, .int b => Φ (.int (Builtin.bitOr a b))
  | _, _ => False
def wBXor : D → D → (D → Prop) → Prop := fun x y Φ => match x, y with
  | .int a, .int b => Φ (.int (Builtin.bitXor a b))
  | _, _ => False
def wShl : D → D → (D → Prop) → Prop := fun x y Φ => match x, y with
  | .int a, .int b => CShl a b ∧ Φ (.int (a * 2 ^ b.toNat))
  | _, _ => False
theorem ok_band {K : Fg} : OpOk K τ (rI0 fun i j => .int (Builtin.bitAnd i j)) wBAnd := ok_I0 fun x y Φ h => by
  unfold wBAnd at h
  split at h
  · exact ⟨_, _, rfl, rfl, h⟩
  · exact h.elim
theorem ok_bor {K : Fg} : OpOk K τ (rI0 fun i j => .int (Builtin.bitOr i j)) wBOr := ok_I0 fun x y Φ h => by
  unfold wBOr at h
  split at h
  · exact ⟨_, _, rfl, rfl, h⟩
  · exact h.elim
theorem ok_bxor {K : Fg} : OpOk K τ (rI0 fun i j => .int (Builtin.bitXor i j)) wBXor := ok_I0 fun x y Φ h => by
  unfold wBXor at h
  split at h
  · exact ⟨_, _, rfl, rfl, h⟩
  · exact h.elim
theorem ok_shl {K : Fg} : OpOk K τ (rI CShl fun i j => .int (i * 2 ^ j.toNat)) wShl := ok_I fun x y Φ h => by
  unfold wShl at h
  split at h
  · exact ⟨_, _, rfl, rfl, h.1, h.2⟩
  · exact h.elim
theorem e_band (ha : PEd X τ W a wa) (hb : PEd X τ W b wb) : PEd X τ W (.BinOp a .BitAnd b pos) (wOp wBAnd wa wb) := PE.imp (pe_op op_and ha hb) (l_op ok_band)
theorem e_bor (ha : PEd X τ W a wa) (hb : PEd X τ W b wb) : PEd X τ W (.BinOp a .BitOr b pos) (wOp wBOr wa wb) := PE.imp (pe_op op_or ha hb) (l_op ok_bor)
theorem e_bxor (ha : PEd X τ W a wa) (hb : PEd X τ W b wb) : PEd X τ W (.BinOp a .BitXor b pos) (wOp wBXor wa wb) := PE.imp (pe_op op_xor ha hb) (l_op ok_bxor)
theorem e_shl (ha : PEd X τ W a wa) (hb : PEd X τ W b wb) : PEd X τ W (.BinOp a .LShift b pos) (wOp wShl wa wb) := PE.imp (pe_op op_shlW ha hb) (l_op ok_shl)
/-- x.bit_length() -/
def wBits (wa : WE) : WE := fun ρ χ Φ => wa ρ χ fun x ρ1 => match x with
  | .int i => Φ (.int (Builtin.Int.intBits i : Nat)) ρ1
  | _ => False
theorem l_bits {K : Fg} {W : WX} {wa : WE} : ∀ σ H Q, lE K τ W (wBits wa) σ H Q → tBits (lE K τ W wa) σ H Q := by
  rintro σ H Q ⟨ρ, S, F, χ, Φ, e, hw, hx, hp⟩
  refine ⟨ρ, S, F, χ, _, e, hw, hx, fun x dx ρ1 S1 H1 h1 s1 i1 e1 => ?_⟩
  cases i1 with
  | int i => exact ⟨i, rfl, hp _ _ ρ1 S1 H1 h1 s1 (.int _) e1⟩
  | _ => exact False.elim h1
theorem e_bits {apos : Pos} (ha : PEd X τ W a wa) (hbase : attributeBase a "bit_length" X.env (eval a X.env) = eval a X.env := by rfl) (hline : (apos.endLine == pos.line) = true := by rfl) : PEd X τ W (.Call (.Attribute a "bit_length" apos) [] [] pos) (wBits wa) := PE.imp (pe_bits ha hbase hline) l_bits
theorem ip_bor : PIp X .BitOr (ipI Builtin.bitOr) := fun pins s σ H x y v u Q I r1 r2 h => iop_or pins s σ H x y v u Q I r1 r2 h
theorem ip_band : PIp X .BitAnd (ipI Builtin.bitAnd) := fun pins s σ H x y v u Q I r1 r2 h => iop_and pins s σ H x y v u Q I r1 r2 h
theorem ip_bxor : PIp X .BitXor (ipI Builtin.bitXor) := fun pins s σ H x y v u Q I r1 r2 h => iop_xor pins s σ H x y v u Q I r1 r2 h
variable {x : Str} {e : Expr}
theorem s_augBOr (hN : X.N.Nodup) (i : Nat) (he : PEd X τ W e wa) (hi : X.N[i]? = some x := by rfl) (hx : Loc X.env.scope x := by first | exact .inl rfl | exact .inr rfl) (hf : X.fn x = true ∨ X.env.scope.names.lookup x = some .local := by first | exact .inl rfl | exact .inr rfl) :
    PSd X τ W (.AugAssign (.Name x pos') .BitOr e pos) (wAug Builtin.bitOr i wa) := PS.imp (ps_aug hN hi hx he ip_bor hf) l_aug
theorem s_augBAnd (hN : X.N.Nodup) (i : Nat) (he : PEd X τ W e wa) (hi : X.N[i]? = some x := by rfl) (hx : Loc X.env.scope x := by first | exact .inl rfl | exact .inr rfl) (hf : X.fn x = true ∨ X.env.scope.names.lookup x = some .local := by first | exact .inl rfl | exact .inr rfl) :
    PSd X τ W (.AugAssign (.Name x pos') .BitAnd e pos) (wAug Builtin.bitAnd i wa) := PS.imp (ps_aug hN hi hx he ip_band hf) l_aug
variable {y z : Str} {c : Expr} {py pz pt pt2 : Pos} {kt k2 : Nat} {wl : WL}
/-- a target of three names -/
theorem g_three (hN : X.N.Nodup) (hc : X.calm = true) (i m l : Nat) (hi : X.N[i]? = some x := by rfl) (hj : X.N[m]? = some y := by rfl) (hl : X.N[l]? = some z := by rfl) (hx : Loc X.env.scope x := by first | exact .inl rfl | exact .inr rfl) (hy : Loc X.env.scope y := by first | exact .inl rfl | exact .inr rfl) (hz : Loc X.env.scope z := by first | exact .inl rfl | exact .inr rfl)
    (hf : X.fn x = true ∨ X.env.scope.names.lookup x = some .local := by first | exact .inl rfl | exact .inr rfl) (hf2 : X.fn y = true ∨ X.env.scope.names.lookup y = some .local := by first | exact .inl rfl | exact .inr rfl) (hf3 : X.fn z = true ∨ X.env.scope.names.lookup z = some .local := by first | exact .inl rfl | exact .inr rfl)
    (hn : (assignEach [.Name x px, .Name y py, .Name z pz] X.env).length = 3 := by rfl) (hst : (assignEach [.Name x px, .Name y py, .Name z pz] X.env).findIdx? (·.1) = none := by rfl) : PGd X τ (.Tuple [.Name x px, .Name y py, .Name z pz] kt pt) (wgTup 3 (wgCons (wgName i) (wgCons (wgName m) (wgCons (wgName l) wgNil)))) :=
  PG.imp (pg_tup hc (PGs.imp (pgs_cons (PG.imp (pg_name hN hi hx hf) g_name) (PGs.imp (pgs_cons (PG.imp (pg_name hN hj hy hf2) g_name) (PGs.imp (pgs_cons (PG.imp (pg_name hN hl hz hf3) g_name) (PGs.imp pgs_nil g_nil)) g_cons)) g_cons)) g_cons) hn hst) g_tup
theorem s_par3 (hN : X.N.Nodup) (hc : X.calm = true) (i m l : Nat) (h : PAd X τ W [a, b, c] wl) (hw : swappedStores [.Tuple [.Name x px, .Name y py, .Name z pz] kt pt] (.Tuple [a, b, c] k2 pt2) X.env = pure (some [x, y, z])) (hi : X.N[i]? = some x := by rfl) (hj : X.N[m]? = some y := by rfl) (hl : X.N[l]? = some z := by rfl)
    (hij : i ≠ m := by decide) (hil : i ≠ l := by decide) (hjl : m ≠ l := by decide) (hx : X.env.scope.names.lookup x = some .local := by rfl) (hy : X.env.scope.names.lookup y = some .local := by rfl) (hz : X.env.scope.names.lookup z = some .local := by rfl)
    (hs : swapsWithSole [.Tuple [.Name x px, .Name y py, .Name z pz] kt pt] (.Tuple [a, b, c] k2 pt2) pos.line X.env = pure false := by rfl) :
    PSd X τ W (.Assign [.Tuple [.Name x px, .Name y py, .Name z pz] kt pt] (.Tuple [a, b, c] k2 pt2) pos) (wPar3 i m l wl) := PS.imp (ps_par3 hc hN hi hj hl hij hil hjl hx hy hz h hw hs) l_par3
/-! calls of defs with keyword-only parameters, whose default is None -/
structure Df (K : Fg) (mg : Str → Option Value) (x : Str) (f : Addr) : Prop where
  m : mg x = some (.ref f)
  kp : PySem.W.keepIn K (Value.ref f) = true
variable {f : Addr} {fd : FuncData} {ps : List Str} {n N : Nat} {sp : Spc} {es : List Expr} {wk : WL}
theorem e_callG {tt : List (Addr × Str)} (o : Cok X W k) {j : Nat} {gl : List Value → List Value → List Value} {gV : List V → List V → List V} {gD : List D → List D → List D} (F : FnG X.prog X.w X.K X.mg X.base j f fd ps (lSp X.K tt N sp)) (hm : X.mg x = some (.ref f)) (kp : PySem.W.keepIn X.K (.ref f) = true)
    (hb : KBn X.K fd ps n [] gl gV) (hr : GRel n 0 N gV gD) (ha : PAd X τ W (e :: es) wl) (hj : j ≤ k := by decide) (hg : Gl X x := by rfl) (hd : (x == ("__debug__" : Str)) = false := by decide)
    (he : starEach (e :: es) X.env = (false, eval e X.env) :: starEach es X.env := by rfl) (hpl : (backTo pos (starEach es X.env)).any (·.1) = false := by rfl) (ht : τ.t = tt := by rfl) : PEd X τ W (.Call (.Name x p) (e :: es) [] pos) (wCallA n 0 sp gD wl wNil) := by
  subst ht
  exact PE.imp (pe_g (F.mono hj) o hg hm kp hb ha hpl hd he) fun σ H Q z => lL_mono (l_callA hr σ H Q z) fun vs H' q => l_nil σ H' _ q
theorem e_callPK {tt : List (Addr × Str)} (o : Cok X W k) {j : Nat} {kws : List Keyword} {ks : List Str} {gl : List Value → List Value → List Value} {gV : List V → List V → List V} {gD : List D → List D → List D} (F : FnG X.prog X.w X.K X.mg X.base j f fd ps (lSp X.K tt N sp)) (hm : X.mg x = some (.ref f)) (kp : PySem.W.keepIn X.K (.ref f) = true)
    (hb : KBn X.K fd ps n ks gl gV) (hr : GRel n ks.length N gV gD) (ha : PAd X τ W (e :: es) wl) (hkw : PKd X τ W kws wk) (hj : j ≤ k := by decide) (hg : Gl X x := by rfl) (hall : (backToKw pos (keywordEach kws X.env)).all (·.1.isSome) = true := by rfl) (hks : (backToKw pos (keywordEach kws X.env)).filterMap (·.1) = ks := by rfl)
    (he : starEach (e :: es) X.env = (false, eval e X.env) :: starEach es X.env := by rfl) (hd : (x == ("__debug__" : Str)) = false := by decide) (hpl : ((backTo pos (starEach (e :: es) X.env)).any (·.1) || (backToKw pos (keywordEach kws X.env)).any (·.1.isNone)) = false := by rfl) (ht : τ.t = tt := by rfl) :
    PEd X τ W (.Call (.Name x p) (e :: es) kws pos) (wCallA n ks.length sp gD wl wk) := by
  subst ht
  exact PE.imp (pe_gk (F.mono hj) o hg hm kp hb ha hkw hall hks he hd hpl) (l_callA hr)
theorem grel_non (n : Nat) : GRel n 0 (n + 1) (fun vs _ => vs ++ [V.non]) (fun ds _ => ds ++ [D.non]) := fun K S vs ds us es i1 i2 h1 h2 => ⟨i1.append (.cons .non .nil), by simp [h1]⟩
theorem grel_app (n m : Nat) : GRel n m (n + m) (fun vs us => vs ++ us) (fun ds es => ds ++ es) := fun K S vs ds us es i1 i2 h1 h2 => ⟨i1.append i2, by simp [h1, h2]⟩
theorem kb_non {K : Fg} {x qual q : Str} {params : Arguments} {body : List Stmt} {scope : Scope} (F : FunD K x qual params body scope [] [(q, .non)] f fd) (n : Nat) (hn : n + 1 = ps.length)
    (h : ∀ (D : Addr) (doc pm : Value) (an : Option Addr) (cdv ct : Value) (us ks : List Value), us.length = n → ks.length = 1 → KwChain D ([q].zip ks) (bindArgs (PySem.W.fnOf x qual params body scope .none (.ref D) doc pm an cdv ct) ⟨us, []⟩) (ps.zip (us ++ ks))) :
    KBn K fd ps n [] (fun us _ => us ++ [.none]) (fun vs _ => vs ++ [.non]) := by
  obtain ⟨ds, r, b⟩ := F.binds0 n (by simp) hn h
  have e : ds = [.none] := by
    cases r with
    | cons a r => cases r; exact congrArg (· :: []) a
  subst e
  exact ⟨fun s us ws hK h1 h2 => b s us hK (by rw [List.length_append, h1]; exact hn), fun r _ => r.append (.cons rfl .nil)⟩
end
end DL
set_option Elab.async false
set_option autoImplicit false
set_option linter.all false
set_option maxRecDepth 100000
set_option maxHeartbeats 3900000
namespace DL
open L2 PyProof.Rows PySem PySem.Spec
/-! ### sorted of what is collected: ints, any number -/
section
variable {P : Program} {w : World} {A : Around} {E : Value → Shared → Prop} {s : Shared}
theorem srt_any {l : Addr} {Cl : List Value → Shared → Prop} {Q : Value → Shared → Prop}
    (C : ∀ R : List Value → Shared → Prop, (∀ vs s1, Cl vs s1 → R vs s1) → wpAny (model P w) A.in1 (collect (.ref l)) R E s)
    (hI : ∀ vs s1, Cl vs s1 → IntsAre vs (vs.map SrtO.iv) ∧ vs.length ≤ sizeLine)
    (h : ∀ (vs : List Value) (s1 : Shared) (out : List Value) (c : Nat) (hp : Heap), Cl vs s1 → IntsAre out (out.map SrtO.iv) → (out.map SrtO.iv).Perm (vs.map SrtO.iv) → (out.map SrtO.iv).Pairwise (· ≤ ·) → (∀ b o, s1.heap.get? b = some o → hp.get? b = some o) →
      hp.get? s1.heap.objs.size = some (seqObj "list" out.toArray c) → Q (.ref s1.heap.objs.size) { s1 with heap := hp }) :
    wpAny (model P w) A (call (.builtin "sorted") [.ref l]) Q E s := by
  refine Calls.call_function_entry kind_sorted plain_sorted
    entry_sorted (args_sorted1 _) ?_
  unfold Builtin.«sorted»
  refine wpAny_bind (m := checkCount "sorted" 1 1 _)
    (wpAny_pure ?_)
  refine wpAny_bind (C _ fun vs s1 cl => ?_)
  obtain ⟨hi, hz⟩ := hI vs s1 cl
  refine wpAny_bind (wpAny_newList ?_ hz)
  have hoL : (s1.heap.push (seqObj "list" vs.toArray 0)).get? s1.heap.objs.size = some (seqObj "list" vs.toArray 0) :=
    Heap.get?_push_size _ rfl
  refine wpAny_bind (wpAny_holding (wpAny_call_entry slot_list_sort ⟨_, hoL, rfl⟩ entry_list_sort
    (SrtO.list_sort_ord SrtO.swo_int hoL hz (fun h2 => SrtO.ints_sortable hi h2) fun out g1 g2 => ⟨_, rfl, ?_⟩) (args_list_sort _)))
  obtain ⟨k1, k2, k3⟩ := SrtO.ints_out hi g1 g2
  obtain ⟨c, hc⟩ := sortedHeap_at (vs := vs) (out := out.toArray) hoL
  refine wpAny_pure ⟨_, rfl, h vs s1 out c _ cl k1 k2 k3 (fun b u e => ?_) hc⟩
  have hb := Heap.lt_size e
  rw [sortedHeap_old (Nat.ne_of_lt hb) (by rw [size_push']; exact Nat.lt_succ_of_lt hb)]
  exact Heap.get?_push_of_some _ e
end
def sortI (ns : List Int) : List Int := ns.mergeSort (fun a b => decide (a ≤ b))
theorem sortI_of {ns ys : List Int} (p : ys.Perm ns) (q : ys.Pairwise (· ≤ ·)) : ys = sortI ns := by
  have t : (sortI ns).Pairwise (· ≤ ·) := by
    have := List.pairwise_mergeSort (le := fun a b : Int => decide (a ≤ b)) (by intro a b c h1 h2; simp at *; omega) (by intro a b; simp; omega) ns
    exact this.imp (by intro a b h; simpa using h)
  exact (p.trans (List.mergeSort_perm ns _).symm).eq_of_pairwise (le := (· ≤ ·)) (fun a b _ _ h1 h2 => Int.le_antisymm h1 h2) q t
section
variable {X : Cx}
/-- sorted(d), keys ints, any number -/
def rSortDI : List V → Hp → VK → Prop := fun xs H Q => ∃ (a : Addr) (kvs : List (Key × V)) (ks : List Int), xs = [.ref a] ∧ Rd H a (.dK kvs) ∧ kvs.map (·.1) = ks.map Sum.inl ∧ ∀ p, H p = none → Q (.ref p) (upd H p (.lst ((sortI ks).map V.int)))
theorem cr_sortDI (hcalm : X.calm = true) : CallR X (.builtin "sorted") rSortDI := by
  intro pins s σ H xs us Q I r q
  obtain ⟨a, kvs, ks, rfl, hd, hks, q⟩ := q
  obtain ⟨u, rfl, rx⟩ := r.one
  cases rx
  obtain ⟨z, lo, vs, rel, dd⟩ := dk_rd I.hok hd
  obtain ⟨ep, hat⟩ := dd.dictAt
  have hkeys : vs.map (·.1) = ks.map Sum.inl := rel.keys.symm.trans hks
  have hl : vs.length = ks.length := by
    have e := congrArg List.length hkeys
    simpa using e
  have hkz : kvs.length = ks.length := by
    have e := congrArg List.length hks
    simpa using e
  have h16 : vs.length ≤ sizeLine := by omega
  refine srt_any (Cl := fun vs' s1 => ∃ h' tk, s1 = { s with heap := h', toks := tk } ∧ (∀ b o, s.heap.get? b = some o → h'.get? b = some o) ∧ IntsAre vs' ks) (fun R hR => ?_) (fun vs' s1 hc => ?_) fun vs' s1 out c hp hc k1 k2 k3 kp hg => ?_
  · refine PySem.W.kdu_collect (A := X.A.in1) (PySem.W.kdl_dict (knd := mixKind X.prog X.w) (kvs := vs) (ep := ep) lo) (I.ok.hd hcalm) hat h16 fun h' tk acc hk hacc => hR _ _ ⟨h', tk, rfl, hk, ?_⟩
    refine ints_each (by rw [Array.length_toList, hacc.1, hl]) fun j v e => ?_
    obtain ⟨k, x, e1, e2⟩ := hacc.2 j v (by rw [← Array.getElem?_toList]; exact e)
    have e3 : (vs.map (·.1))[j]? = some k := by rw [List.getElem?_map, e1]; rfl
    rw [hkeys, List.getElem?_map] at e3
    cases e4 : ks[j]? with
    | none => rw [e4] at e3; cases e3
    | some y =>
      rw [e4] at e3
      cases Option.some.inj e3
      rcases keyIs_shape (show keyIs (Sum.inl y) v = true from e2) with ⟨i, t, ek, ev⟩ | ⟨z, t, ek, ev⟩
      · cases ek; exact ⟨y, t, rfl, ev⟩
      · cases ek
  · obtain ⟨h', tk, -, -, hi⟩ := hc
    rw [SrtO.iv_ints hi]
    exact ⟨hi, by rw [hi.length, ← hkz]; exact z⟩
  · obtain ⟨h', tk, rfl, hk, hi⟩ := hc
    rw [SrtO.iv_ints hi] at k2
    have I1 : Inv X pins σ H { s with heap := h', toks := tk } := I.kept hk
    have e := sortI_of k2 k3
    refine ⟨.ref h'.objs.size, upd H h'.objs.size (.lst ((sortI ks).map V.int)), I1.laid (t' := tk) kp (Nat.le_refl _) (show ObjOk X.prog X.w _ _ _ (.lst _) from ⟨?_, out, c, ?_, hg⟩), rfl, q _ (I1.hok.fresh (Nat.le_refl _))⟩
    · rw [List.length_map, ← e, k2.length_eq, ← hkz]; exact z
    · rw [← e]; exact vals_of_ints k1
/-- set(t), t a tuple of ints -/
def rSetT (K : PySem.W.Frag) (w : World) : List V → Hp → VK → Prop := fun xs H Q => ∃ (p : Addr) (ns : List Int), xs = [.ref p] ∧ SqT K H p (ns.map V.int) ∧ ns.length ≤ 1000 ∧ ∀ a c, H a = none → c ≤ ns.length → Q (.ref a) (upd H a (SetO w a (fun j => decide (j ∈ ns)) c))
theorem cr_setT (hc : X.calm = true) : CallR X (.type "set") (rSetT X.K X.w) := by
  intro pins s σ H xs us Q I r q
  obtain ⟨p0, ns, rfl, hq, hl, q⟩ := q
  obtain ⟨u, rfl, rx⟩ := r.one
  cases rx
  obtain ⟨its, rv, pt, hz⟩ := I.tuple hq
  have hi : IntsAre its.toArray.toList ns := ints_of_vals rv
  refine call_set_tupI ns (I.ok.hd hc) (show s.heap.IsTuple p0 its.toArray from pt) hi (by unfold scanBound; omega) fun h' tk c R1 hcn k => ?_
  exact ⟨.ref s.heap.objs.size, _, I.laid k (Nat.le_refl _) (setO_new R1), rfl, q _ c (I.hok.fresh (Nat.le_refl _)) hcn⟩
/-- sorted(s), s a set of ints -/
def rSortSI (w : World) : List V → Hp → VK → Prop := fun vs H Q => ∃ (a : Addr) (ns : List Int) (n : Nat), vs = [V.ref a] ∧ H a = some (SetO w a (fun j => decide (j ∈ ns)) n) ∧ n ≤ sizeLine ∧
  ∀ (ys : List Int) (p : Addr), ys.Pairwise (· < ·) → (∀ k : Int, k ∈ ys ↔ k ∈ ns) → H p = none → Q (.ref p) (upd H p (.lst (ys.map V.int)))
theorem cr_sortSI (hc : X.calm = true) : CallR X (.builtin "sorted") (rSortSI X.w) := by
  intro pins s σ H vs us Q I r h
  obtain ⟨a, ns, n, rfl, ha, h64, q⟩ := h
  obtain ⟨u, rfl, rx⟩ := r.one
  cases rx
  obtain ⟨o, es, ep, t, ho, hex, hd, g, nd, hm, hb, hf, hn, hr, hl⟩ := setO_get I ha
  have hint : ∀ vs', vs'.Perm (es.toList.map (·.2)) → IntsAre vs' (vs'.map SrtO.iv) := fun vs' pm => SrtO.ints_iv fun v hv => by
    obtain ⟨e, he, q⟩ := List.mem_map.mp (pm.mem_iff.mp hv)
    obtain ⟨k, tk, h1, _⟩ := g e he
    exact ⟨k, tk, by rw [← q]; exact h1⟩
  refine srt_any (Cl := fun vs' s1 => (∀ b o, s.heap.get? b = some o → s1.heap.get? b = some o) ∧ s.heap.objs.size ≤ s1.heap.objs.size ∧ s1.gens = s.gens ∧ s1.os = s.os ∧ vs'.Perm (es.toList.map (·.2))) (fun R hR => ?_) (fun vs' s1 hc' => ?_) fun vs' s1 out c hp hc' k1 k2 k3 kp hg => ?_
  · exact collect_set (A := X.A.in1) (I.ok.hd hc) ⟨o, ho, hex.1, hd⟩ hf hb hr hl fun s1 vs' k1 hz g1 o1 pm => hR _ _ ⟨k1, hz, g1, o1, pm⟩
  · obtain ⟨-, -, -, -, pm⟩ := hc'
    refine ⟨hint _ pm, ?_⟩
    rw [pm.length_eq, List.length_map, Array.length_toList, hn]; exact h64
  · obtain ⟨kk, hz, hgen, hos, pm⟩ := hc'
    have hk : es.toList.map (SrtO.iv ∘ (·.2)) = es.toList.map keyOf := List.map_congr_left fun e he => by
      obtain ⟨k, tk, h1, _⟩ := g e he
      show SrtO.iv e.2 = keyOf e
      rw [key_vInt e, h1]
      rfl
    have pn : (out.map SrtO.iv).Perm (es.toList.map keyOf) := by
      have z := k2.trans (pm.map SrtO.iv)
      rw [List.map_map, hk] at z
      exact z
    have hlt : (out.map SrtO.iv).Pairwise (· < ·) := lt_of_le_nodup _ k3 (pn.nodup_iff.mpr nd)
    have hfr : H s1.heap.objs.size = none := I.hok.fresh hz
    have hlen : ((out.map SrtO.iv).map V.int).length ≤ sizeLine := by rw [List.length_map, pn.length_eq, List.length_map, Array.length_toList, hn]; exact h64
    have J : Inv X pins σ (upd H s1.heap.objs.size (.lst ((out.map SrtO.iv).map V.int))) { s1 with heap := hp } := by
      refine I.call' (ch := []) hos (Un.laid (fun b u e => kp b u (kk b u e)) hz hfr) (I.hok.laid (fun b u e => kp b u (kk b u e)) hz ⟨hlen, out, c, vals_of_ints k1, hg⟩) (by show AllBare s1.gens; rw [hgen]; exact I.bare) (fun _ z => nomatch z)
    exact ⟨.ref _, _, J, rfl, q _ _ hlt (fun k => by rw [pn.mem_iff, ← hm k, decide_eq_true_eq]) hfr⟩
end
end DL
set_option Elab.async false
set_option autoImplicit false
set_option linter.all false
set_option maxRecDepth 100000
set_option maxHeartbeats 3900000
namespace DL
open L2 PyProof.Rows PySem PySem.Spec
variable {τ : Tb}
/-! ### one's own dicts: {}, d[k] = v, sorted(d), list(d) -/
def keyDD : Key → D
  | .inl i => .int i
  | .inr s => .str s
theorem is_kV {K : Fg} {S : Hp} (k : Key) : Is K S (kV k) (keyDD k) := by
  cases k
  · exact .int _
  · exact .str _
theorem isAll_kV {K : Fg} {S : Hp} : ∀ k : List Key, IsAll K S (k.map kV) (k.map keyDD)
  | [] => .nil
  | k :: ks => .cons (is_kV k) (isAll_kV ks)
theorem keyDD_is {K : Fg} {S : Hp} {v : V} {k : Key} (h : Is K S v (keyDD k)) : v = kV k := by
  cases k <;> (cases h; rfl)
theorem keyDD_all {K : Fg} {S : Hp} : ∀ {k : List Key} {vs : List V}, IsAll K S vs (k.map keyDD) → vs = k.map kV
  | [], _, .nil => rfl
  | k :: ks, _, .cons a b => by rw [keyDD_is a, keyDD_all b]; rfl
section
variable {κ : Type} [DecidableEq κ]
def repD : List κ → List D → κ → D → List D
  | x :: ks, e :: ds, k, d => (if x = k then d else e) :: repD ks ds k d
  | _, _, _, _ => []
def putDk (ks : List κ) (k : κ) : List κ := if k ∈ ks then ks else ks ++ [k]
def putDv (ks : List κ) (ds : List D) (k : κ) (d : D) : List D := if k ∈ ks then repD ks ds k d else ds ++ [d]
theorem any_mem {kvs : List (κ × V)} {k : κ} : (kvs.any fun kv => decide (kv.1 = k)) = true ↔ k ∈ kvs.map (·.1) := by
  rw [List.any_eq_true, List.mem_map]
  exact ⟨fun ⟨p, a, b⟩ => ⟨p, a, of_decide_eq_true b⟩, fun ⟨p, a, b⟩ => ⟨p, a, decide_eq_true b⟩⟩
theorem putK_keys {kvs : List (κ × V)} {k : κ} {v : V} : (putK kvs k v).map (·.1) = putDk (kvs.map (·.1)) k := by
  unfold putK putDk
  by_cases h : k ∈ kvs.map (·.1)
  · rw [if_pos (any_mem.mpr h), if_pos h, List.map_map]
    refine List.map_congr_left fun p _ => ?_
    show (if p.1 = k then (p.1, v) else p).1 = p.1
    split <;> rfl
  · rw [if_neg (fun z => h (any_mem.mp z)), if_neg h, List.map_append]
    rfl
theorem repD_all {K : Fg} {S : Hp} {k : κ} {v : V} {d : D} (hv : Is K S v d) : ∀ {kvs : List (κ × V)} {ds : List D}, IsAll K S (kvs.map (·.2)) ds → IsAll K S ((kvs.map fun kv => if kv.1 = k then (kv.1, v) else kv).map (·.2)) (repD (kvs.map (·.1)) ds k d)
  | [], _, .nil => .nil
  | (x, u) :: r, _, .cons (d := e) a b => by
    show IsAll K S ((if x = k then (x, v) else (x, u)).2 :: _) ((if x = k then d else e) :: _)
    refine .cons ?_ (repD_all hv b)
    by_cases h : x = k
    · rw [if_pos h, if_pos h]; exact hv
    · rw [if_neg h, if_neg h]; exact a
theorem putK_vals {K : Fg} {S : Hp} {k : κ} {v : V} {d : D} (hv : Is K S v d) {kvs : List (κ × V)} {ds : List D} (h : IsAll K S (kvs.map (·.2)) ds) : IsAll K S ((putK kvs k v).map (·.2)) (putDv (kvs.map (·.1)) ds k d) := by
  unfold putK putDv
  by_cases hk : k ∈ kvs.map (·.1)
  · rw [if_pos (any_mem.mpr hk), if_pos hk]; exact repD_all hv h
  · rw [if_neg (fun z => hk (any_mem.mp z)), if_neg hk, List.map_append]
    exact h.append (.cons hv .nil)
end
def woDicT : WEO := fun ρ _ Φ => ∀ l, Φ l (.t [] []) ρ
/-- d[k] = e, d the slot i -/
def wPutK (i : Nat) (wk wa : WE) : WS := fun ρ Δ => wa ρ Δ.xc fun d ρ1 => (∃ l ks ds, ρ1[i]? = some (Sl.own l (.k ks ds))) ∧ wk ρ1 Δ.xc fun y ρ2 => match ρ2[i]? with
  | some (.own l (.k ks ds)) => ∃ k, y = keyDD k ∧ ks.length < sizeLine ∧ Δ.nx (ρ2.set i (.own l (.k (putDk ks k) (putDv ks ds k d))))
  | _ => False
def wPutT (i : Nat) (wk wa : WE) : WS := fun ρ Δ => wa ρ Δ.xc fun d ρ1 => (∃ l ks ds, ρ1[i]? = some (Sl.own l (.t ks ds))) ∧ wk ρ1 Δ.xc fun y ρ2 => match ρ2[i]? with
  | some (.own l (.t ks ds)) => ∃ k : List Key, y = .tup (k.map keyDD) ∧ ks.length < sizeLine ∧ Δ.nx (ρ2.set i (.own l (.t (putDk ks k) (putDv ks ds k d))))
  | _ => False
/-- sorted(d), its keys ints -/
def wSortDO (i : Nat) : WE := fun ρ _ Φ => match ρ[i]? with
  | some (.own _ (.k ks _)) => ∃ ns, ks = ns.map Sum.inl ∧ Φ (.lst ((sortI ns).map D.int)) ρ
  | _ => False
/-- list(d), its keys tuples -/
def wKeysT (i : Nat) : WE := fun ρ _ Φ => match ρ[i]? with
  | some (.own _ (.t ks _)) => ks.length ≤ sizeLine ∧ Φ (.lst (ks.map fun k => D.tup (k.map keyDD))) ρ
  | _ => False
section
variable {K : Fg} {W : WX} {wk wa : WE} {i : Nat}
theorem lo_dicT : ∀ σ H Q, lEO K τ W woDicT σ H Q → tDNewT σ H Q := by
  rintro σ H Q ⟨ρ, S, F, χ, Φ, e, hw, hx, hp⟩
  intro p hp1
  exact hp p _ _ ρ S _ (hw p) (Same.refl S) upd_same (.t rfl .nil) (e.sp hp1) (e.fp hp1) (e.notOwn hp1) (e.addH hp1)
theorem l_putK : ∀ D σ H, lS K τ W (wPutK i wk wa) D σ H → tAsg (lE K τ W wa) (gSub (tVar i) (lE K τ W wk) rSetD) D σ H := by
  rintro D σ H ⟨ρ, S, F, Δ, e, hw, hx, h1, h2, h3, h4, h5⟩
  refine ⟨ρ, S, F, _, _, e, hw, hx, fun x dx ρ1 S1 H1 q1 s1 i1 e1 => ?_⟩
  obtain ⟨⟨l, xs, ds, hl⟩, q1⟩ := q1
  obtain ⟨hσ, _⟩ := e1.own i l _ hl
  refine ⟨.ref l, hσ, ρ1, S1, F, _, _, e1, q1, hx.mono s1, fun y dy ρ2 S2 H2 q2 s2 i2 e2 => ?_⟩
  split at q2
  · rename_i l' ks' ds' hl'
    obtain ⟨b1, b2, b3, ob, b4, b5⟩ := e2.own i l' _ hl'
    rw [hσ] at b1
    cases b1
    obtain ⟨k, rfl, hlen, q3⟩ := q2
    rw [keyDD_is i2]
    cases b5 with
    | k hn b6 =>
      subst hn
      rw [List.length_map] at hlen
      refine ⟨l, _, rfl, DPut.k b4 hlen, h1 _ S2 _ _ q3 (s1.trans s2) (e2.wr hl' (.k putK_keys (putK_vals (i1.mono s2) b6)))⟩
  · exact q2.elim
theorem l_putT : ∀ D σ H, lS K τ W (wPutT i wk wa) D σ H → tAsg (lE K τ W wa) (gSub (tVar i) (lE K τ W wk) rSetD) D σ H := by
  rintro D σ H ⟨ρ, S, F, Δ, e, hw, hx, h1, h2, h3, h4, h5⟩
  refine ⟨ρ, S, F, _, _, e, hw, hx, fun x dx ρ1 S1 H1 q1 s1 i1 e1 => ?_⟩
  obtain ⟨⟨l, xs, ds, hl⟩, q1⟩ := q1
  obtain ⟨hσ, _⟩ := e1.own i l _ hl
  refine ⟨.ref l, hσ, ρ1, S1, F, _, _, e1, q1, hx.mono s1, fun y dy ρ2 S2 H2 q2 s2 i2 e2 => ?_⟩
  split at q2
  · rename_i l' ks' ds' hl'
    obtain ⟨b1, b2, b3, ob, b4, b5⟩ := e2.own i l' _ hl'
    rw [hσ] at b1
    cases b1
    obtain ⟨k, rfl, hlen, q3⟩ := q2
    cases i2 with
    | tup a b =>
      cases keyDD_all b
      cases b5 with
      | t hn b6 =>
        subst hn
        rw [List.length_map] at hlen
        refine ⟨l, _, rfl, DPut.t b4 (e2.ex _ _ a) hlen, h1 _ S2 _ _ q3 (s1.trans s2) (e2.wr hl' (.t putK_keys (putK_vals (i1.mono s2) b6)))⟩
  · exact q2.elim
theorem isAll_ints {K : Fg} {S : Hp} : ∀ ns : List Int, IsAll K S (ns.map V.int) (ns.map D.int)
  | [] => .nil
  | n :: ns => .cons (.int n) (isAll_ints ns)
theorem l_sortDO : ∀ σ H Q, lE K τ W (wSortDO i) σ H Q → tCB rSortDI (tCons (tVar i) tNil) σ H Q := by
  rintro σ H Q ⟨ρ, S, F, χ, Φ, e, hw, hx, hp⟩
  unfold wSortDO at hw
  split at hw
  · rename_i l ks ds hl
    obtain ⟨ns, rfl, q⟩ := hw
    obtain ⟨b1, b2, b3, ob, b4, b5⟩ := e.own i l _ hl
    cases b5 with
    | k hn b6 => exact ⟨.ref l, b1, l, _, ns, rfl, .inl b4, hn, fun p hp1 => hp _ _ ρ _ _ q (e.sn hp1) (.lst upd_same (isAll_ints _)) (e.new hp1)⟩
  · exact hw.elim
/-- the tuples of a list of addresses never change -/
theorem ER.addTups {S F H : Hp} {ρ : Rho} {σ : L2.St} : ∀ {kvs : List (List Key × V)} {bs : List Addr} {S : Hp}, ER K τ S F H ρ σ → IsKeys H kvs bs → ∃ S', Same S S' ∧ ER K τ S' F H ρ σ ∧ IsAll K S' (bs.map V.ref) (kvs.map fun p => D.tup (p.1.map keyDD)) := by
  intro kvs bs S e h
  unfold IsKeys at h
  induction h generalizing S with
  | nil => exact ⟨S, Same.refl S, e, .nil⟩
  | cons hb _ ih =>
    rename_i p b kvs bs _
    obtain ⟨S1, s1, e1, i1⟩ := ih e
    cases hS : S1 b with
    | some u =>
      have z := e1.ex _ _ hS
      rw [hb] at z; cases z
      exact ⟨S1, s1, e1, .cons (.tup hS (isAll_kV _)) i1⟩
    | none =>
      have sS : Same S1 (upd S1 b (.tup (p.1.map kV))) := fun a u q => by rw [upd_ne (ne_of_none q hS)]; exact q
      refine ⟨_, s1.trans sS, ⟨e1.len, fun a u q => ?_, fun a u q => ?_, fun j d q => ?_, fun j m od q => ?_, e1.dis, e1.tb.addS hb hS (fun ps z => by cases z)⟩, .cons (.tup upd_same (isAll_kV _)) (i1.mono sS)⟩
      · by_cases ha : a = b
        · subst ha; rw [upd_same] at q; cases q; exact hb
        · rw [upd_ne ha] at q; exact e1.ex a u q
      · obtain ⟨a1, a2⟩ := e1.fr a u q
        by_cases ha : a = b
        · subst ha; rw [hb] at a1; cases a1; exact ⟨hb, .inr ⟨_, rfl⟩⟩
        · rw [upd_ne ha]; exact ⟨a1, a2⟩
      · obtain ⟨v, a1, a2⟩ := e1.val j d q
        exact ⟨v, a1, a2.mono sS⟩
      · obtain ⟨a1, a2, a3, ob, a4, a5⟩ := e1.own j m od q
        have ne : m ≠ b := fun z => by subst z; rw [hb] at a4; cases a4; exact a5.nt ⟨_, rfl⟩
        exact ⟨a1, by rw [upd_ne ne]; exact a2, a3, ob, a4, a5.mono sS⟩
theorem l_keysT : ∀ σ H Q, lE K τ W (wKeysT i) σ H Q → tCB (fun xs H Q => ∃ d kvs, xs = [V.ref d] ∧ Rd H d (.dT kvs) ∧ ∀ p bs, H p = none → IsKeys H kvs bs → Q (.ref p) (upd H p (.lst (bs.map V.ref)))) (tCons (tVar i) tNil) σ H Q := by
  rintro σ H Q ⟨ρ, S, F, χ, Φ, e, hw, hx, hp⟩
  unfold wKeysT at hw
  split at hw
  · rename_i l ks ds hl
    obtain ⟨hlen, q⟩ := hw
    obtain ⟨b1, b2, b3, ob, b4, b5⟩ := e.own i l _ hl
    cases b5 with
    | t hn b6 =>
      subst hn
      refine ⟨.ref l, b1, l, _, rfl, .inl b4, fun p bs hp1 hk => ?_⟩
      obtain ⟨S', s', e', ia⟩ := e.addTups (S := S) hk
      refine hp _ _ ρ _ _ q (s'.trans (e'.sn hp1)) (.lst upd_same ?_) (e'.new hp1)
      have := ia.mono (e'.sn (o := .lst (bs.map V.ref)) hp1)
      rw [List.map_map]
      exact this
  · exact hw.elim
end
end DL
set_option Elab.async false
set_option autoImplicit false
set_option linter.all false
set_option maxRecDepth 100000
set_option maxHeartbeats 3900000
namespace DL
open L2 PyProof.Rows PySem PySem.Spec
variable {τ : Tb}
/-- an own list(range(n)) -/
def woRg (wa : WE) : WEO := fun ρ χ Φ => wa ρ χ fun d ρ1 => match d with
  | .int n => RgOk 0 n ∧ ∀ l, Φ l (.l (rgD 0 n.toNat)) ρ1
  | _ => False
theorem lo_rg {K : Fg} {W : WX} {wa : WE} : ∀ σ H Q, lEO K τ W (woRg wa) σ H Q → tLstRg (tRg1 (lE K τ W wa)) σ H Q := by
  rintro σ H Q ⟨ρ, S, F, χ, Φ, e, hw, hx, hp⟩
  refine ⟨ρ, S, F, χ, _, e, hw, hx, fun x dx ρ1 S1 H1 h1 s1 i1 e1 => ?_⟩
  cases i1 with
  | int n =>
    refine ⟨n, rfl, h1.1, fun p hp1 => hp p _ _ ρ1 S1 _ (h1.2 p) s1 upd_same (.l ?_) (e1.sp hp1) (e1.fp hp1) (e1.notOwn hp1) (e1.addH hp1)⟩
    have z := isAll_rg (K := K) (S := S1) 0 n
    rw [Int.sub_zero] at z
    exact z
  | _ => exact False.elim h1
/-- x[k] as a target, x one's own list -/
def wgSub (i : Nat) (wk : WE) : WG := fun d ρ Φ => (∃ l xs, ρ[i]? = some (Sl.own l (.l xs))) ∧ wk ρ χ0 fun k ρ2 => match k, ρ2[i]? with
  | .int z, some (.own l (.l xs)) => ∃ j, ixN xs.length z = some j ∧ Φ (ρ2.set i (.own l (.l (xs.set j d))))
  | _, _ => False
theorem g_sub {K : Fg} {W : WX} {i : Nat} {wk : WE} : ∀ x σ H Q, lG K τ (wgSub i wk) x σ H Q → gSub (tVar i) (lE K τ W wk) rSetL x σ H Q := by
  rintro x σ H Q ⟨ρ, S, F, d, Φ, e, hi, ⟨⟨l, xs, hl⟩, q1⟩, hp⟩
  obtain ⟨hσ, _⟩ := e.own i l _ hl
  refine ⟨.ref l, hσ, ρ, S, F, χ0, _, e, q1, XOk.none, fun y dy ρ2 S2 H2 q2 s2 i2 e2 => ?_⟩
  split at q2
  · rename_i z l' ys hl'
    obtain ⟨b1, b2, b3, ob, b4, b5⟩ := e2.own i l' _ hl'
    rw [hσ] at b1
    cases b1
    cases i2
    cases b5 with
    | l b6 =>
      obtain ⟨j, q3, q4⟩ := q2
      exact ⟨l, _, z, j, rfl, rfl, b4, by rw [b6.length]; exact q3, hp _ S2 _ _ q4 s2 (e2.wr hl' (.l (IsAll.set (hi.mono s2) j b6)))⟩
  · exact q2.elim
/-- i in x, i not in x: x one's own list of ints -/
def wInO (neg : Bool) (wa : WE) (i : Nat) : WE := fun ρ χ Φ => wa ρ χ fun d ρ1 => match d, ρ1[i]? with
  | .int z, some (.own _ (.l ds)) => ∃ ns, intsOf ds = some ns ∧ Φ (.bl (if neg then !decide (z ∈ ns) else decide (z ∈ ns))) ρ1
  | _, _ => False
def tOpO (r : R2) (t : TE) (i : Nat) : TE := tOp r t (tVar i)
theorem l_inO {K : Fg} {W : WX} {wa : WE} {i : Nat} {neg : Bool} : ∀ σ H Q, lE K τ W (wInO neg wa i) σ H Q → tOp (rIn K neg) (lE K τ W wa) (tVar i) σ H Q := by
  rintro σ H Q ⟨ρ, S, F, χ, Φ, e, hw, hx, hp⟩
  refine ⟨ρ, S, F, χ, _, e, hw, hx, fun x dx ρ1 S1 H1 h1 s1 i1 e1 => ?_⟩
  split at h1
  · rename_i z l ds hl
    obtain ⟨b1, b2, b3, ob, b4, b5⟩ := e1.own i l _ hl
    obtain ⟨ns, h2, h3⟩ := h1
    cases i1
    cases b5 with
    | l b6 =>
      cases ints_is b6 h2
      exact ⟨.ref l, b1, _, _, rfl, .inl (.inl (.inl b4)), rfl, flat_ints ns, by rw [inV_ints]; exact hp _ _ ρ1 S1 H1 h3 s1 (.bl _) e1⟩
  · exact h1.elim
/-- the ascending ints of a list, each once -/
def dedI : List Int → List Int
  | [] => []
  | n :: ns => if n ∈ ns then dedI ns else n :: dedI ns
theorem mem_dedI {k : Int} : ∀ {ns : List Int}, k ∈ dedI ns ↔ k ∈ ns
  | [] => Iff.rfl
  | n :: ns => by
    unfold dedI
    split
    · rename_i h
      rw [mem_dedI, List.mem_cons]
      exact ⟨.inr, fun z => z.elim (fun e => e ▸ h) id⟩
    · rw [List.mem_cons, List.mem_cons, mem_dedI]
theorem nodup_dedI : ∀ {ns : List Int}, (dedI ns).Nodup
  | [] => List.Pairwise.nil
  | n :: ns => by
    unfold dedI
    split
    · exact nodup_dedI
    · rename_i h
      exact List.nodup_cons.mpr ⟨fun z => h (mem_dedI.mp z), nodup_dedI⟩
def setI (ns : List Int) : List Int := sortI (dedI ns)
theorem setI_of {ns ys : List Int} (p : ys.Pairwise (· < ·)) (q : ∀ k, k ∈ ys ↔ k ∈ ns) : ys = setI ns := by
  have nd : ys.Nodup := p.imp (fun h => Int.ne_of_lt h)
  refine sortI_of ?_ (p.imp Int.le_of_lt)
  exact (List.perm_ext_iff_of_nodup nd nodup_dedI).mpr fun k => (q k).trans mem_dedI.symm
/-- sorted(set(x)), x a tuple of ints -/
def wSortSet (wa : WE) : WE := fun ρ χ Φ => wa ρ χ fun d ρ1 => match d with
  | .tup ds => ∃ ns, intsOf ds = some ns ∧ ns.length ≤ 1000 ∧ Φ (.lst ((setI ns).map D.int)) ρ1
  | _ => False
theorem l_sortSet {K : Fg} {W : WX} {w : World} {wa : WE} : ∀ σ H Q, lE K τ W (wSortSet wa) σ H Q → tCB (rSortSI w) (tCons (tCB (rSetT K w) (tCons (lE K τ W wa) tNil)) tNil) σ H Q := by
  rintro σ H Q ⟨ρ, S, F, χ, Φ, e, hw, hx, hp⟩
  refine ⟨ρ, S, F, χ, _, e, hw, hx, fun x dx ρ1 S1 H1 h1 s1 i1 e1 => ?_⟩
  cases i1 with
  | tup a b =>
    obtain ⟨ns, h2, h3, h4⟩ := h1
    cases ints_is b h2
    refine ⟨_, ns, rfl, .inl (.inl (e1.ex _ _ a)), h3, fun p c hp1 hc => ⟨p, ns, c, rfl, upd_same, by rw [sizeLine_eq]; omega, fun ys p2 y1 y2 hp2 => ?_⟩⟩
    have e2 := e1.addH (o := SetO w p (fun j => decide (j ∈ ns)) c) hp1
    cases setI_of y1 y2
    exact hp _ _ ρ1 _ _ h4 (s1.trans (e2.sn hp2)) (.lst upd_same (isAll_ints _)) (e2.new hp2)
  | _ => exact False.elim h1
section
variable {X : Cx} {W : WX} {k kt k2 : Nat} {x y : Str} {a b c e f : Expr} {p px py pt pt2 pos pos' tpos tpos2 : Pos} {wa wb wj wj2 : WE}
theorem o_rg (hc : X.calm = true) (hm : X.mg "list" = none) (hm2 : X.mg "range" = none) (ha : PEd X τ W a wa) (hg : Gl X "list" := by rfl) (hg2 : Gl X "range" := by rfl) (na : starEach [a] X.env = (false, eval a X.env) :: starEach [] X.env := by rfl)
    (nb : starEach [.Call (.Name "range" p) [a] [] pos'] X.env = (false, eval (.Call (.Name "range" p) [a] [] pos') X.env) :: starEach [] X.env := by rfl) : PEO X τ W (.Call (.Name "list" px) [.Call (.Name "range" p) [a] [] pos'] [] pos) (woRg wa) :=
  PE.imp (pe_listRg hc hg hm (prg_1 hg2 hm2 ha na) nb) lo_rg
theorem o_dicK : PEO X τ W (.Dict [] [] pos) woDic := PE.imp pe_dnewK lo_dic
theorem o_dicT : PEO X τ W (.Dict [] [] pos) woDicT := PE.imp pe_dnewT lo_dicT
theorem s_putK (q : Cok X W k) (i : Nat) (hk : PEd X τ W b wj) (h : PEd X τ W e wa) (hN : X.N[i]? = some x := by rfl) (hv : Vis X.env.scope x := by first | exact .inl rfl | exact .inr (.inl rfl) | exact .inr (.inr rfl)) (hd : (x == ("__debug__" : Str)) = false := by decide) (hc : (x == ("__classdict__" : Str)) = false := by decide)
    (ha : ∀ v, assign (.Subscript (.Name x p) b tpos) X.env v = (do
      let ov ← holding [v] (eval (.Name x p) X.env)
      let iv ← holding [v, ov] (eval b X.env)
      standAt tpos
      holding [v, ov, iv] (setItem ov iv v); release [v, ov, iv] []) := by intro _; rfl)
    (hs : swapsWithSole [.Subscript (.Name x p) b tpos] e pos.line X.env = pure false := by rfl) (hw : swappedStores [.Subscript (.Name x p) b tpos] e X.env = pure none := by rfl)
    (h1 : (assignEach [.Subscript (.Name x p) b tpos] X.env).map (·.2) = [assign (.Subscript (.Name x p) b tpos) X.env] := by rfl) : PSd X τ W (.Assign [.Subscript (.Name x p) b tpos] e pos) (wPutK i wj wa) :=
  PS.imp (ps_asg h (pg_sub (pe_var hN hv hd hc) hk (set_dict q.hu) ha) hs hw h1) l_putK
theorem s_putT (q : Cok X W k) (i : Nat) (hk : PEd X τ W b wj) (h : PEd X τ W e wa) (hN : X.N[i]? = some x := by rfl) (hv : Vis X.env.scope x := by first | exact .inl rfl | exact .inr (.inl rfl) | exact .inr (.inr rfl)) (hd : (x == ("__debug__" : Str)) = false := by decide) (hc : (x == ("__classdict__" : Str)) = false := by decide)
    (ha : ∀ v, assign (.Subscript (.Name x p) b tpos) X.env v = (do
      let ov ← holding [v] (eval (.Name x p) X.env)
      let iv ← holding [v, ov] (eval b X.env)
      standAt tpos
      holding [v, ov, iv] (setItem ov iv v); release [v, ov, iv] []) := by intro _; rfl)
    (hs : swapsWithSole [.Subscript (.Name x p) b tpos] e pos.line X.env = pure false := by rfl) (hw : swappedStores [.Subscript (.Name x p) b tpos] e X.env = pure none := by rfl)
    (h1 : (assignEach [.Subscript (.Name x p) b tpos] X.env).map (·.2) = [assign (.Subscript (.Name x p) b tpos) X.env] := by rfl) : PSd X τ W (.Assign [.Subscript (.Name x p) b tpos] e pos) (wPutT i wj wa) :=
  PS.imp (ps_asg h (pg_sub (pe_var hN hv hd hc) hk (set_dict q.hu) ha) hs hw h1) l_putT
theorem e_sortDO {i : Nat} (hc : X.calm = true) (hm : X.mg "sorted" = none) (hN : X.N[i]? = some y := by rfl) (hv : Vis X.env.scope y := by first | exact .inl rfl | exact .inr (.inl rfl) | exact .inr (.inr rfl)) (hg : Gl X "sorted" := by rfl) (hd : (y == ("__debug__" : Str)) = false := by decide) (hcd : (y == ("__classdict__" : Str)) = false := by decide)
    (he : starEach [.Name y p] X.env = (false, eval (.Name y p) X.env) :: starEach [] X.env := by rfl) : PEd X τ W (.Call (.Name "sorted" px) [.Name y p] [] pos) (wSortDO i) :=
  PE.imp (pe_callB (cr_sortDI hc) hg hm (by decide +kernel) (pa_cons (pe_var hN hv hd hcd) pa_nil he) (by decide) (by decide) he rfl) l_sortDO
theorem e_keysT {i : Nat} (hc : X.calm = true) (hm : X.mg "list" = none) (hN : X.N[i]? = some y := by rfl) (hv : Vis X.env.scope y := by first | exact .inl rfl | exact .inr (.inl rfl) | exact .inr (.inr rfl)) (hg : Gl X "list" := by rfl) (hd : (y == ("__debug__" : Str)) = false := by decide) (hcd : (y == ("__classdict__" : Str)) = false := by decide)
    (he : starEach [.Name y p] X.env = (false, eval (.Name y p) X.env) :: starEach [] X.env := by rfl) : PEd X τ W (.Call (.Name "list" px) [.Name y p] [] pos) (wKeysT i) :=
  PE.imp (pe_callTy (call_list_dT hc) hg hm PyProof.Rows.Boot.list (pa_cons (pe_var hN hv hd hcd) pa_nil he) (by decide) (by decide) he rfl) l_keysT
theorem e_sortSet (hc : X.calm = true) (hm : X.mg "sorted" = none) (hm2 : X.mg "set" = none) (ha : PEd X τ W a wa) (hg : Gl X "sorted" := by rfl) (hg2 : Gl X "set" := by rfl) (he2 : starEach [a] X.env = (false, eval a X.env) :: starEach [] X.env := by rfl)
    (he : starEach [.Call (.Name "set" p) [a] [] pos'] X.env = (false, eval (.Call (.Name "set" p) [a] [] pos') X.env) :: starEach [] X.env := by rfl) : PEd X τ W (.Call (.Name "sorted" px) [.Call (.Name "set" p) [a] [] pos'] [] pos) (wSortSet wa) :=
  PE.imp (pe_callB (cr_sortSI hc) hg hm (by decide +kernel) (pa_cons (pe_callTy (cr_setT hc) hg2 hm2 (by decide +kernel) (pa_cons ha pa_nil he2) (by decide) (by decide) he2 rfl) pa_nil he) (by decide) (by decide) he rfl) l_sortSet
theorem e_inO {i : Nat} (ha : PEd X τ W a wa) (hN : X.N[i]? = some y := by rfl) (hv : Vis X.env.scope y := by first | exact .inl rfl | exact .inr (.inl rfl) | exact .inr (.inr rfl)) (hd : (y == ("__debug__" : Str)) = false := by decide) (hcd : (y == ("__classdict__" : Str)) = false := by decide)
    (h1 : behindInMarks .In (.Name y p) = false := by rfl) : PEd X τ W (.Compare a [.In] [.Name y p] pos) (wInO false wa i) := PE.imp (pe_cmpR op_in_seq ha (pe_var hN hv hd hcd) h1) l_inO
theorem e_ninO {i : Nat} (ha : PEd X τ W a wa) (hN : X.N[i]? = some y := by rfl) (hv : Vis X.env.scope y := by first | exact .inl rfl | exact .inr (.inl rfl) | exact .inr (.inr rfl)) (hd : (y == ("__debug__" : Str)) = false := by decide) (hcd : (y == ("__classdict__" : Str)) = false := by decide)
    (h1 : behindInMarks .NotIn (.Name y p) = false := by rfl) : PEd X τ W (.Compare a [.NotIn] [.Name y p] pos) (wInO true wa i) := PE.imp (pe_cmpR op_notIn_seq ha (pe_var hN hv hd hcd) h1) l_inO
theorem t_inO {i : Nat} (ha : PEd X τ W a wa) (hN : X.N[i]? = some y := by rfl) (hv : Vis X.env.scope y := by first | exact .inl rfl | exact .inr (.inl rfl) | exact .inr (.inr rfl)) (hd : (y == ("__debug__" : Str)) = false := by decide) (hcd : (y == ("__classdict__" : Str)) = false := by decide)
    (h1 : behindInMarks .In (.Name y p) = false := by rfl) : PTd X τ W (.Compare a [.In] [.Name y p] pos) (wB (wInO false wa i)) := t_of (pt_cmpR op_in_seq ha (pe_var hN hv hd hcd) h1) l_inO
theorem t_ninO {i : Nat} (ha : PEd X τ W a wa) (hN : X.N[i]? = some y := by rfl) (hv : Vis X.env.scope y := by first | exact .inl rfl | exact .inr (.inl rfl) | exact .inr (.inr rfl)) (hd : (y == ("__debug__" : Str)) = false := by decide) (hcd : (y == ("__classdict__" : Str)) = false := by decide)
    (h1 : behindInMarks .NotIn (.Name y p) = false := by rfl) : PTd X τ W (.Compare a [.NotIn] [.Name y p] pos) (wB (wInO true wa i)) := t_of (pt_cmpR op_notIn_seq ha (pe_var hN hv hd hcd) h1) l_inO
/-- x[i], y[j] as a target -/
theorem g_twoS {q q2 : Pos} (hc : X.calm = true) (i m : Nat) (ha : PEd X τ W a wj) (hb : PEd X τ W b wj2) (hi : X.N[i]? = some x := by rfl) (hj : X.N[m]? = some y := by rfl) (hv : Vis X.env.scope x := by first | exact .inl rfl | exact .inr (.inl rfl) | exact .inr (.inr rfl)) (hv2 : Vis X.env.scope y := by first | exact .inl rfl | exact .inr (.inl rfl) | exact .inr (.inr rfl))
    (hd : (x == ("__debug__" : Str)) = false := by decide) (hcd : (x == ("__classdict__" : Str)) = false := by decide) (hd2 : (y == ("__debug__" : Str)) = false := by decide) (hcd2 : (y == ("__classdict__" : Str)) = false := by decide)
    (h1 : ∀ v, assign (.Subscript (.Name x q) a tpos) X.env v = (do
      let ov ← holding [v] (eval (.Name x q) X.env)
      let iv ← holding [v, ov] (eval a X.env)
      standAt tpos
      holding [v, ov, iv] (setItem ov iv v); release [v, ov, iv] []) := by intro _; rfl)
    (h2 : ∀ v, assign (.Subscript (.Name y q2) b tpos2) X.env v = (do
      let ov ← holding [v] (eval (.Name y q2) X.env)
      let iv ← holding [v, ov] (eval b X.env)
      standAt tpos2
      holding [v, ov, iv] (setItem ov iv v); release [v, ov, iv] []) := by intro _; rfl)
    (hn : (assignEach [.Subscript (.Name x q) a tpos, .Subscript (.Name y q2) b tpos2] X.env).length = 2 := by rfl) (hst : (assignEach [.Subscript (.Name x q) a tpos, .Subscript (.Name y q2) b tpos2] X.env).findIdx? (·.1) = none := by rfl) :
    PGd X τ (.Tuple [.Subscript (.Name x q) a tpos, .Subscript (.Name y q2) b tpos2] kt pt) (wgTup 2 (wgCons (wgSub i wj) (wgCons (wgSub m wj2) wgNil))) :=
  PG.imp (pg_tup hc (PGs.imp (pgs_cons (PG.imp (pg_sub (pe_var hi hv hd hcd) ha set_list h1) g_sub) (PGs.imp (pgs_cons (PG.imp (pg_sub (pe_var hj hv2 hd2 hcd2) hb set_list h2) g_sub) (PGs.imp pgs_nil g_nil)) g_cons)) g_cons) hn hst) g_tup
end
/-- name = [..] on one line, the list one's own -/
theorem s_setLcO {X : Cx} {W : WX} {y : Str} {tg iter elt : Expr} {ifs : List Expr} {scope : Scope} {own : List (Str × Nat)} {pos spos py : Pos} {wi : WL} {g : WG} {wt : WT} {we : WE} (i : Nat) (hc : X.calm = true) (hN : X.N.Nodup) (hi : PId X τ W tg iter wi) (ok : BlkOk X.N X.env.scope scope own)
    (hg : Blk X (fun Y => PG Y tg (lGc X.K τ (own.map (·.2)) g)) scope) (ht : Blk X (fun Y => PTs Y ifs (lT X.K τ W0 wt)) scope) (he : Blk X (fun Y => PE Y elt (lE X.K τ W0 we)) scope) (hy : X.N[i]? = some y := by rfl) (hyl : X.env.scope.names.lookup y = some .local := by rfl)
    (hsw : swapsWith (.ListComp elt [⟨tg, iter, ifs, 0⟩] scope pos) (some (.Name y py)) spos.line X.env = pure true := by rfl) (hs : ∀ x, foldedSetIterable iter X.env x = pure x := by intro _; rfl) :
    PSd X τ W (.Assign [.Name y py] (.ListComp elt [⟨tg, iter, ifs, 0⟩] scope pos) spos) (wAsgO i (woLc wi g wt we (own.map (·.2)))) :=
  PS.imp (PS.imp (ps_setLc hc hN hy hyl hsw hi ok hg ht he hs) fun D σ H z => lo_lc σ H _ z) l_asgO
end DL
set_option Elab.async false
set_option autoImplicit false
set_option linter.all false
set_option maxRecDepth 100000
set_option maxHeartbeats 3900000
namespace DL
open L2 PyProof.Rows PySem PySem.Spec
variable {τ : Tb}
/-! ### range with a step -/
def rgC (lo c : Int) (n : Nat) : List D := (List.range n).map fun i => D.int (lo + (i : Nat) * c)
theorem dwk_rgC {K : Fg} {S : Hp} {lo c : Int} {n : Nat} : DWk K τ S (Itc lo c n) (rgC lo c n) := by
  have hl : (rgC lo c n).length = n := by simp [rgC]
  refine ⟨fun i H h1 s => ?_, fun H s => ?_, fun i H x H' h1 s y => ?_⟩
  · rw [hl] at h1; exact h1
  · rw [hl]; exact Nat.le_refl n
  · obtain ⟨rfl, rfl⟩ := y
    rw [hl] at h1
    exact ⟨.int (lo + (i : Nat) * c), by simp [rgC, h1], fun S1 F ρ σ s1 e => ⟨S1, Same.refl S1, .int _, e⟩⟩
def wiRg3 (wa : WL) : WL := fun ρ χ Φ => wa ρ χ fun ds ρ1 => match ds with
  | [.int i, .int j, .int c] => ∃ n, RgC i j c n ∧ Φ (rgC i c n) ρ1
  | _ => False
theorem i_rg3 {K : Fg} {W : WX} {wa : WL} : ∀ σ H R, lI K τ W (wiRg3 wa) σ H R → iRng3 (lL K τ W wa) σ H R := by
  rintro σ H R ⟨ρ, S, F, χ, Φ, e, hw, hx, hp⟩
  refine ⟨ρ, S, F, χ, _, e, hw, hx, fun vs ds ρ1 S1 H1 h1 s1 i1 e1 => ?_⟩
  split at h1
  · obtain ⟨n, h2, h3⟩ := h1
    cases i1 with
    | cons a b =>
      cases a
      cases b with
      | cons a b =>
        cases a
        cases b with
        | cons a b =>
          cases a
          cases b
          exact ⟨_, _, _, n, rfl, h2, hp _ _ ρ1 S1 H1 h3 s1 e1 dwk_rgC⟩
  · exact h1.elim
/-! ### ~x -/
def wInv : D → (D → Prop) → Prop := fun x Φ => match x with
  | .int i => Φ (.int (Builtin.bitNot i))
  | _ => False
theorem ok_inv {K : Fg} : UnOk K τ (rU fun i => .int (Builtin.bitNot i)) wInv := by
  intro S F H ρ σ x dx Φ Q e ix hw hp
  cases ix with
  | int i => exact ⟨i, rfl, hp _ _ S H hw (Same.refl S) (.int _) e⟩
  | _ => exact hw.elim
/-! ### x is True, x is not True -/
def wIsB (neg : Bool) : D → D → (D → Prop) → Prop := fun x y Φ => match x, y with
  | .bl a, .bl b => Φ (.bl (if neg = true then !decide (a = b) else decide (a = b)))
  | _, _ => False
theorem ok_isB {K : Fg} : OpOk K τ (fun x y H Q => ∃ a b, x = .bl a ∧ y = .bl b ∧ Q (.bl (!decide (a = b))) H) (wIsB true) := by
  intro S F H ρ σ x y dx dy Φ Q e ix iy hw hp
  unfold wIsB at hw
  split at hw
  · cases ix; cases iy
    exact ⟨_, _, rfl, rfl, hp _ _ S H hw (Same.refl S) (.bl _) e⟩
  · exact hw.elim
/-! ### an own [..] * n -/
def woMul (wa wb : WE) : WEO := fun ρ χ Φ => wa ρ χ fun x ρ1 => wb ρ1 χ fun y ρ2 => match x, y with
  | .lst ds, .int k => -(2 ^ 63) ≤ k ∧ k < 2 ^ 63 ∧ ds.length * k.toNat ≤ sizeLine ∧ ∀ l, Φ l (.l (List.replicate k.toNat ds).flatten) ρ2
  | _, _ => False
theorem lo_mul {K : Fg} {W : WX} {wa wb : WE} : ∀ σ H Q, lEO K τ W (woMul wa wb) σ H Q → tOp rMulD (lE K τ W wa) (lE K τ W wb) σ H Q := by
  rintro σ H Q ⟨ρ, S, F, χ, Φ, e, hw, hx, hp⟩
  refine ⟨ρ, S, F, χ, _, e, hw, hx, fun x dx ρ1 S1 H1 h1 s1 i1 e1 => ?_⟩
  refine ⟨ρ1, S1, F, χ, _, e1, h1, hx.mono s1, fun y dy ρ2 S2 H2 h2 s2 i2 e2 => ?_⟩
  split at h2
  · obtain ⟨k1, k2, k3, k4⟩ := h2
    cases i2
    cases i1.mono s2 with
    | lst a b => exact .inr ⟨_, _, _, rfl, rfl, e2.ex _ _ a, k1, k2, by rw [b.length]; exact k3, fun p hp1 => hp p _ _ ρ2 S2 _ (k4 p) (s1.trans s2) upd_same (.l (isAll_rep b _)) (e2.sp hp1) (e2.fp hp1) (e2.notOwn hp1) (e2.addH hp1)⟩
  · exact h2.elim
/-! ### x[i] op= e, x one's own list of ints -/
def rIxG (K : PySem.W.Frag) : V → V → Hp → VK → Prop := fun x y H Q => ∃ p xs i v, x = .ref p ∧ y = .int i ∧ 0 ≤ i ∧ SqL K H p xs ∧ atI xs i = some v ∧ Q v H
theorem get_list {X : Cx} : PGet X (rIxG X.K) := by
  rintro pins s σ H x y v u Q I rx ry ⟨p, xs, i, z, rfl, rfl, h0, hq, he, q⟩
  cases rx
  obtain ⟨t, rfl⟩ := ry
  obtain ⟨its, r, pl, hz⟩ := I.list hq
  obtain ⟨j, h1, h2, h3, h4, h5⟩ := atI_get he
  obtain ⟨w, ew, rw'⟩ := r.get h2
  have hn := line63
  have hj : i.toNat = j := by
    rw [seqIndex_of h0 h5] at h1
    exact Option.some.inj h1
  exact wpAny_getItem_list pl.isList h0 (by omega) (by rw [hj]; simpa using ew) ⟨z, H, I, rw', q⟩
def wAugO (f : Int → Int → Int) (i : Nat) (wk wa : WE) : WS := fun ρ Δ => (∃ l xs, ρ[i]? = some (Sl.own l (.l xs))) ∧ wk ρ Δ.xc fun k ρ1 => ∃ z a, k = .int z ∧ 0 ≤ z ∧ (match ρ1[i]? with
  | some (.own _ (.l xs)) => atI xs z = some (.int a)
  | _ => False) ∧ wa ρ1 Δ.xc fun y ρ2 => match y, ρ2[i]? with
  | .int b, some (.own l (.l xs)) => ∃ j, ixN xs.length z = some j ∧ Δ.nx (ρ2.set i (.own l (.l (xs.set j (.int (f a b))))))
  | _, _ => False
theorem l_augO {K : Fg} {W : WX} {f : Int → Int → Int} {i : Nat} {wk wa : WE} : ∀ D σ H, lS K τ W (wAugO f i wk wa) D σ H → tAugS (tVar i) (lE K τ W wk) (lE K τ W wa) (rIxG K) (ipI f) rSetL D σ H := by
  rintro D σ H ⟨ρ, S, F, Δ, e, ⟨⟨l, xs, hl⟩, hw⟩, hx, h1, h2, h3, h4, h5⟩
  obtain ⟨hσ, _⟩ := e.own i l _ hl
  refine ⟨.ref l, hσ, ρ, S, F, _, _, e, hw, hx, fun k dk ρ1 S1 H1 q1 s1 i1 e1 => ?_⟩
  obtain ⟨z, a, rfl, hz0, ha, q1⟩ := q1
  cases i1
  split at ha
  · rename_i l' ys hl'
    obtain ⟨b1, b2, b3, ob, b4, b5⟩ := e1.own i l' _ hl'
    rw [hσ] at b1
    cases b1
    cases b5 with
    | l b6 =>
      obtain ⟨v, g1, g2⟩ := atI_all b6 ha
      cases g2
      refine ⟨l, _, _, _, rfl, rfl, hz0, .inl (.inl b4), g1, ρ1, S1, F, _, _, e1, q1, hx.mono s1, fun y dy ρ2 S2 H2 q2 s2 i2 e2 => ?_⟩
      split at q2
      · rename_i b l2 zs hl2
        obtain ⟨c1, c2, c3, oc, c4, c5⟩ := e2.own i l2 _ hl2
        rw [hσ] at c1
        cases c1
        cases i2
        cases c5 with
        | l c6 =>
          obtain ⟨j, q3, q4⟩ := q2
          exact ⟨a, b, rfl, rfl, l, _, z, j, rfl, rfl, c4, by rw [c6.length]; exact q3, h1 _ S2 _ _ q4 (s1.trans s2) (e2.wr hl2 (.l (IsAll.set (.int _) j c6)))⟩
      · exact q2.elim
  · exact ha.elim
end DL
set_option Elab.async false
set_option autoImplicit false
set_option linter.all false
set_option maxRecDepth 100000
set_option maxHeartbeats 3900000
namespace DL
open L2 PyProof.Rows PySem PySem.Spec
variable {τ : Tb}
/-! ### x[-2::-1], x a list -/
theorem pick_rev2 (items : Array Value) : slicePick items (some (-2)) none (some (-1)) = (items.toList.reverse.drop 1).toArray := by
  have hb : sliceBounds (some (-2)) none (some (-1)) items.size = (if items.size < 2 then -1 else (items.size : Int) - 2, -1, -1) := by
    unfold sliceBounds
    simp
    omega
  unfold slicePick
  rw [hb]
  show ((sliceRange (if items.size < 2 then -1 else (items.size : Int) - 2) (-1) (-1)).filterMap (items[·]?)).toArray = _
  congr 1
  have key : ∀ n : Nat, sliceRange (if n < 2 then -1 else (n : Int) - 2) (-1) (-1) = ((List.range n).map fun k => n - 1 - k).drop 1 := by
    intro n
    by_cases h : n < 2
    · rw [if_pos h]
      have : n = 0 ∨ n = 1 := by omega
      rcases this with rfl | rfl <;> decide
    · rw [if_neg h]
      have e : (n : Int) - 2 = ((n - 1 : Nat) : Int) - 1 := by omega
      rw [e, PySem.W.krv_sliceRange]
      obtain ⟨m, rfl⟩ : ∃ m, n = m + 1 := ⟨n - 1, by omega⟩
      rw [List.range_succ_eq_map, List.map_cons, List.drop_succ_cons, List.drop_zero, List.map_map]
      refine List.map_congr_left fun k hk => ?_
      show m + 1 - 1 - 1 - k = m + 1 - 1 - (k + 1)
      omega
  rw [key, PySem.W.krv_range]
  have : ((List.range items.size).reverse.drop 1).filterMap (fun x => items[x]?) = ((List.range items.size).reverse.filterMap (fun x => items[x]?)).drop 1 := by
    cases hr : (List.range items.size).reverse with
    | nil => rfl
    | cons a r =>
      have ha : a < items.size := by
        have : a ∈ (List.range items.size).reverse := by rw [hr]; exact List.mem_cons_self
        exact List.mem_range.mp (List.mem_reverse.mp this)
      rw [List.drop_succ_cons, List.drop_zero, List.filterMap_cons_some (Array.getElem?_eq_getElem ha), List.drop_succ_cons, List.drop_zero]
  rw [this, List.filterMap_reverse, PySem.W.krv_all]
def rev3K (wb : WE) (χ : XC) (Φ : D → Rho → Prop) (x z : D) (ρ2 : Rho) : Prop := wb ρ2 χ fun y ρ3 => match x, z, y with
  | .lst ds, .int (-2), .int (-1) => Φ (.lst (ds.reverse.drop 1)) ρ3
  | _, _, _ => False
def rev2K (wl wb : WE) (χ : XC) (Φ : D → Rho → Prop) (x : D) (ρ1 : Rho) : Prop := wl ρ1 χ fun z ρ2 => rev3K wb χ Φ x z ρ2
def wRevSl2 (wa wl wb : WE) : WE := fun ρ χ Φ => wa ρ χ fun x ρ1 => rev2K wl wb χ Φ x ρ1
section
variable {X : Cx} {W : WX} {k : Nat} {x y : Str} {a b c d e f o : Expr} {es rest : List Expr} {p pos pos' p2 tpos : Pos} {wa wb wc wk : WE} {wt : WT} {wl wi : WL} {w u : WS} {body : List Stmt} {i : Nat}
theorem e_revSl2 (ha : PEd X τ W e wa) (hl : PEd X τ W a wb) (hb : PEd X τ W b wc) : PEd X τ W (.Subscript e (.Slice (some a) none (some b) p2) pos) (wRevSl2 wa wb wc) := by
  constructor; rintro pins s σ H Q I ⟨ρ, S, F, χ, Φ, e0, hw, hx, hp⟩
  have h' : lE X.K τ W wa σ H (fun v H1 => ∃ ρ1 S1 dv, ER X.K τ S1 F H1 ρ1 σ ∧ Same S S1 ∧ Is X.K S1 v dv ∧ rev2K wb wc χ Φ dv ρ1) := ⟨ρ, S, F, χ, _, e0, hw, hx, fun v dv ρ1 S1 H1 q1 s1 i1 e1 => ⟨ρ1, S1, dv, e1, s1, i1, q1⟩⟩
  refine Subscript_ (thn (ha.run pins s σ H _ I h') fun v s1 ⟨vx, H1, I1, r1, ρ1, S1, dv, e1, t1, i1, q1⟩ => ?_)
  refine wpAny_Slice ?_
  rw [evalPart_none, evalPart_some, evalPart_some]
  refine thn (hl.run pins s1 σ H1 (fun z H2 => ∃ ρ2 S2 dz, ER X.K τ S2 F H2 ρ2 σ ∧ Same S1 S2 ∧ Is X.K S2 z dz ∧ rev3K wc χ Φ dv dz ρ2) I1 ⟨ρ1, S1, F, χ, _, e1, q1, hx.mono t1, fun z dz ρ2 S2 H2 q2 s2 i2 e2 => ⟨ρ2, S2, dz, e2, s2, i2, q2⟩⟩) fun zk s2 ⟨z, H2, I2, rz, ρ2, S2, dz, e2, t2, i2, q2⟩ => ?_
  refine wpAny_pure ?_
  refine thn (hb.run pins s2 σ H2 (fun y H3 => z = .int (-2) ∧ y = .int (-1) ∧ ∃ p ws, vx = .ref p ∧ SqL X.K H3 p ws ∧ ∀ q, H3 q = none → Q (.ref q) (upd H3 q (.lst (ws.reverse.drop 1)))) I2 ⟨ρ2, S2, F, χ, _, e2, q2, hx.mono (t1.trans t2), fun y dy ρ3 S3 H3 q3 s3 i3 e3 => ?_⟩) fun vk s3 ⟨y, H3, I3, r3, ez, ey, p, ws, ex, hq, q3⟩ => ?_
  · split at q3
    · rename_i ds
      cases i3
      cases i2
      cases i1 with
      | lst h1 h2 => exact ⟨rfl, rfl, _, _, rfl, .inl (.inl (e3.ex _ _ (s3 _ _ (t2 _ _ h1)))), fun q hq => hp _ _ ρ3 _ _ q3 (((t1.trans t2).trans s3).trans (e3.sn hq)) (.lst upd_same (((((h2.mono t2).mono s3).reverse).drop 1).mono (e3.sn hq))) (e3.new hq)⟩
    · exact q3.elim
  · subst ey; subst ex; subst ez
    cases r1
    obtain ⟨t, rfl⟩ := r3
    obtain ⟨tz, rfl⟩ := rz
    have I4 : Inv X pins σ H3 { s3 with heap := s3.heap.push { cls := .type "slice", data := .fields #[.int (-2) tz, .none, .int (-1) t] } } := I3.kept (t' := s3.toks) fun b ob q => Heap.get?_push_of_some _ q
    obtain ⟨its, r, ht, hz⟩ := I4.list hq
    have hl := r.length
    have fin : wpAny (model X.prog X.w) X.A (getItem (.ref p) (.ref s3.heap.objs.size)) (EP X pins σ Q) X.xe { s3 with heap := s3.heap.push { cls := .type "slice", data := .fields #[.int (-2) tz, .none, .int (-1) t] } } := by
      refine wpAny_getItem_list_slice (lo := some (-2)) (hi := none) (st := some (-1)) ht.isList (Heap.IsSliceOf.new ..) (.int _ _) .none (.int _ _) (by decide) ?_ (by rw [List.size_toArray]; omega)
      rw [pick_rev2]
      refine ⟨.ref _, _, I4.laid (t' := s3.toks) (o := .lst (ws.reverse.drop 1)) (fun b ob q => Heap.get?_push_of_some _ q) (Nat.le_refl _) ?_, rfl, q3 _ (I4.hok.fresh (Nat.le_refl _))⟩
      exact ⟨by rw [List.length_drop, List.length_reverse]; omega, _, 0, (r.reverse).drop 1, Heap.get?_push_size _ rfl⟩
    exact tail_any (ops := [.ref p, .ref s3.heap.objs.size]) ht.isList.typeIs slot_list_getitem.lookup fin (by with_unfolding_all rfl)
theorem e_inv (ha : PEd X τ W a wa) : PEd X τ W (.UnaryOp .Invert a pos) (wUn wInv wa) := PE.imp (pe_un un_inv ha) (l_un ok_inv)
theorem t_isntB (ha : PEd X τ W a wa) (hb : PEd X τ W b wb) : PTd X τ W (.Compare a [.IsNot] [b] pos) (wB (wOp (wIsB true) wa wb)) := t_of (pt_cmpR op_isnot_bl ha hb (nomark _)) (l_op ok_isB)
theorem i_rng3 {tg : Expr} (hm : X.mg "range" = none) (ha : PAd X τ W [a, b, c] wl) (hg : Gl X "range" := by rfl) (hs : starEach [a, b, c] X.env = (false, eval a X.env) :: starEach [b, c] X.env := by rfl) (hpl : (backTo pos (starEach [b, c] X.env)).any (·.1) = false := by rfl) : PId X τ W tg (.Call (.Name "range" p) [a, b, c] [] pos) (wiRg3 wl) := PI.imp (pi_range3 hg hm ha hs hpl) i_rg3
theorem o_mul (ha : PEd X τ W a wa) (hb : PEd X τ W b wb) : PEO X τ W (.BinOp a .Mult b pos) (woMul wa wb) := PE.imp (pe_op or_mul ha hb) lo_mul
theorem s_augOOr (i : Nat) (hk : PEd X τ W b wk) (h : PEd X τ W e wa) (hN : X.N[i]? = some x := by rfl) (hv : Vis X.env.scope x := by first | exact .inl rfl | exact .inr (.inl rfl) | exact .inr (.inr rfl)) (hd : (x == ("__debug__" : Str)) = false := by decide) (hc : (x == ("__classdict__" : Str)) = false := by decide)
    (ha : ∀ ov iv new, augStore b ov iv new = (do holding [new, ov, iv] (setItem ov iv new); release [new, ov, iv] []; pure .next) := by intros; rfl) :
    PSd X τ W (.AugAssign (.Subscript (.Name x p) b tpos) .BitOr e pos) (wAugO Builtin.bitOr i wk wa) := PS.imp (ps_augS (pe_var hN hv hd hc) hk get_list h ip_bor set_list ha) l_augO
/-! targets of several names -/
theorem gs_nil : PGs X [] (lGs X.K τ wgNil) := PGs.imp pgs_nil g_nil
theorem gs_cons {wg : WG} {wgs : WGs} (h : PGd X τ e wg) (r : PGs X es (lGs X.K τ wgs)) (hs : (assignEach (e :: es) X.env).map (·.2) = assign e X.env :: (assignEach es X.env).map (·.2) := by rfl) : PGs X (e :: es) (lGs X.K τ (wgCons wg wgs)) := PGs.imp (pgs_cons h r hs) g_cons
theorem g_tupN {n kt : Nat} {wgs : WGs} (hc : X.calm = true) (h : PGs X es (lGs X.K τ wgs)) (hn : (assignEach es X.env).length = n := by rfl) (hst : (assignEach es X.env).findIdx? (·.1) = none := by rfl) : PGd X τ (.Tuple es kt pos) (wgTup n wgs) := PG.imp (pg_tup hc h hn hst) g_tup
end
end DL
set_option Elab.async false
set_option autoImplicit false
set_option linter.all false
set_option maxRecDepth 100000
set_option maxHeartbeats 3900000
namespace DL
open L2 PyProof.Rows PySem PySem.Spec
variable {τ : Tb}
/-! ### min of pairs of ints, default None -/
def leP (p q : Int × Int) : Prop := p.1 < q.1 ∨ (p.1 = q.1 ∧ p.2 ≤ q.2)
theorem minP_ok : ∀ (xs : List (Int × Int)) (x : Int × Int), PySem.W.minOf x xs ∈ x :: xs ∧ ∀ y ∈ x :: xs, leP (PySem.W.minOf x xs) y
  | [], x => ⟨by simp [PySem.W.minOf], fun y hy => by rw [List.mem_singleton.mp hy]; exact .inr ⟨rfl, Int.le_refl _⟩⟩
  | z :: xs, x => by
    have lt_i : ∀ a b : Int, PySem.W.DatumOrd.lt a b = decide (a < b) := fun _ _ => rfl
    have lt_p : ∀ a b : Int × Int, PySem.W.DatumOrd.lt a b = if a.1 = b.1 then decide (a.2 < b.2) else decide (a.1 < b.1) := fun _ _ => rfl
    generalize hm : (if PySem.W.DatumOrd.lt z x = true then z else x) = m
    have e : PySem.W.minOf x (z :: xs) = PySem.W.minOf m xs := by
      rw [← hm]; rfl
    have h3 : leP m x ∧ leP m z ∧ (m = x ∨ m = z) := by
      rw [lt_p] at hm
      unfold leP
      by_cases h : (if z.1 = x.1 then decide (z.2 < x.2) else decide (z.1 < x.1)) = true
      · rw [if_pos h] at hm
        subst hm
        split at h <;> (have h := of_decide_eq_true h; refine ⟨by omega, by omega, .inr rfl⟩)
      · rw [if_neg h] at hm
        subst hm
        split at h <;> (have h : ¬ _ := fun z => h (decide_eq_true z); refine ⟨by omega, by omega, .inl rfl⟩)
    obtain ⟨h1, h2⟩ := minP_ok xs m
    rw [e]
    have tr : ∀ a b c : Int × Int, leP a b → leP b c → leP a c := fun a b c x y => by unfold leP at *; omega
    refine ⟨?_, fun y hy => ?_⟩
    · rcases List.mem_cons.mp h1 with h | h
      · rw [h]; rcases h3.2.2 with h | h <;> simp [h]
      · simp [h]
    · have h4 := h2 m List.mem_cons_self
      rcases List.mem_cons.mp hy with rfl | hy
      · exact tr _ _ _ h4 h3.1
      · rcases List.mem_cons.mp hy with rfl | hy
        · exact tr _ _ _ h4 h3.2.1
        · exact h2 y (List.mem_cons_of_mem _ hy)
def pairV (K : Fg) (H : Hp) (v : V) (p : Int × Int) : Prop := ∃ t, v = .ref t ∧ SqT K H t [.int p.1, .int p.2]
def rMinPN (K : Fg) : List V → List V → Hp → VK → Prop := fun vs zs H Q => ∃ (a : Addr) (xs : List V) (ps : List (Int × Int)), vs = [V.ref a] ∧ zs = [V.non] ∧ SqL K H a xs ∧ Paired (pairV K H) xs ps ∧ (ps = [] → Q .non H) ∧ ∀ (i : Nat) (x : V) (p : Int × Int), xs[i]? = some x → ps[i]? = some p → (∀ q ∈ ps, leP p q) → Q x H
theorem pair_reads {X : Cx} {pins : List (Addr × Obj)} {σ : L2.St} {H : Hp} {s : Shared} {v : V} {u : Value} {p : Int × Int} (I : L2.Inv X pins σ H s) (h : pairV X.K H v p) (r : RelV v u) : PySem.W.Holds s.heap u p := by
  obtain ⟨t, rfl, hq⟩ := h
  cases r
  obtain ⟨its, rv, hT, hz⟩ := I.tuple hq
  obtain ⟨o, ho, hc, n, hd⟩ := (show s.heap.IsTuple t its.toArray from hT)
  cases rv with
  | cons r1 rv =>
    cases rv with
    | cons r2 rv =>
      cases rv
      obtain ⟨t1, rfl⟩ := r1
      obtain ⟨t2, rfl⟩ := r2
      exact ⟨_, .tuple ho hc hd (.cons (.int _ _) (.cons (.int _ _) .nil))⟩
theorem pair_det {h : Heap} {u : Value} {p q : Int × Int} (a : PySem.W.Holds h u p) (b : PySem.W.Holds h u q) : p = q := by
  obtain ⟨p1, p2⟩ := p
  obtain ⟨q1, q2⟩ := q
  obtain ⟨as, a⟩ := a
  obtain ⟨bs, b⟩ := b
  have a : Reads h u (.tuple [.int p1, .int p2]) as := a
  have b : Reads h u (.tuple [.int q1, .int q2]) bs := b
  cases a with
  | tuple a1 a2 a3 a4 =>
    cases b with
    | tuple b1 b2 b3 b4 =>
      rw [a1] at b1; cases b1
      rw [a3] at b3
      injection b3 with b3
      subst b3
      generalize hl : (_ : Array Value).toList = l at a4 b4
      cases a4 with
      | cons x1 a4 =>
        cases a4 with
        | cons x2 a4 =>
          cases a4
          cases x1; cases x2
          cases b4 with
          | cons y1 b4 =>
            cases b4 with
            | cons y2 b4 =>
              cases y1; cases y2
              rfl
theorem cr_minPN {X : Cx} {W : WX} {k : Nat} (hc : X.calm = true) (o : Cok X W k) : CallRK X (.builtin "min") [Str.ofString "default"] (rMinPN X.K) := by
  intro pins s σ H xs zs us ws Q I r rz h
  obtain ⟨a, ys, ps, rfl, rfl, hs, hp, h0, h1⟩ := h
  obtain ⟨its, rv, hl, hz⟩ := I.list hs
  rw [Vals.ref1 r]
  have hh : ∀ {ys : List V} {ps : List (Int × Int)} {its : List Value}, Paired (pairV X.K H) ys ps → Vals ys its → PySem.W.HoldAll s.heap its ps := by
    intro ys ps its hp
    induction hp generalizing its with
    | nil => intro rv; cases rv; exact PySem.W.HoldAll.nil
    | cons h t ih =>
      intro rv
      cases rv with
      | cons r rv => exact PySem.W.HoldAll.cons (pair_reads I h r) (ih rv)
  cases rz with
  | cons r2 rr =>
    cases rr
    cases r2
    refine PySem.W.min_list_datum_default (α := Int × Int) (xs := ps) (I.ok.hd hc) hl.isList (hh hp rv) (by have := o.u64'; show X.A.units + 1 + 1 < cLine; omega) (fun e h' tk hk => ⟨.non, H, I.kept hk, rfl, h0 e⟩) fun y zs i v h' tk e hi hv hk => ?_
    subst e
    obtain ⟨h3, h4⟩ := minP_ok zs y
    have hi' : its[i]? = some v := by simpa using hi
    have hlt : i < its.length := (List.getElem?_eq_some_iff.mp hi').1
    have hlt2 : i < ys.length := by rw [rv.length]; exact hlt
    have hrel : RelV ys[i] v := by
      obtain ⟨u, hu, ru⟩ := rv.get (List.getElem?_eq_getElem hlt2)
      rw [hi'] at hu; cases hu; exact ru
    have hpl : ∀ {ys : List V} {ps : List (Int × Int)}, Paired (pairV X.K H) ys ps → ∀ {i : Nat} {x : V}, ys[i]? = some x → ∃ p, ps[i]? = some p ∧ pairV X.K H x p := by
      intro ys ps hp
      induction hp with
      | nil => intro i x h; simp at h
      | cons h t ih =>
        intro i x hx
        cases i with
        | zero => rw [List.getElem?_cons_zero] at hx; cases hx; exact ⟨_, by rw [List.getElem?_cons_zero], h⟩
        | succ i => rw [List.getElem?_cons_succ] at hx; obtain ⟨p, h1, h2⟩ := ih hx; exact ⟨p, by rw [List.getElem?_cons_succ]; exact h1, h2⟩
    obtain ⟨p, p1, p2⟩ := hpl hp (List.getElem?_eq_getElem hlt2)
    have I2 : L2.Inv X pins σ H { s with heap := h', toks := tk } := I.kept hk
    have ep : p = PySem.W.minOf y zs := pair_det (pair_reads I2 p2 hrel) hv
    exact ⟨ys[i], H, I2, hrel, h1 i _ p (List.getElem?_eq_getElem hlt2) p1 fun q hq => by rw [ep]; exact h4 q hq⟩
def pairD (p : Int × Int) : D := .tup [.int p.1, .int p.2]
def wMinPN (wl wk : WL) : WE := fun ρ χ Φ => wl ρ χ fun ds ρ1 => wk ρ1 χ fun zs ρ2 => match ds, zs with
  | [.lst xs], [.non] => ∃ ps : List (Int × Int), xs = ps.map pairD ∧ (ps = [] → Φ .non ρ2) ∧ ∀ p ∈ ps, (∀ q ∈ ps, leP p q) → Φ (pairD p) ρ2
  | _, _ => False
theorem l_minPN {K : Fg} {W : WX} {wl wk : WL} : ∀ σ H Q, lE K τ W (wMinPN wl wk) σ H Q → tCKw (rMinPN K) (lL K τ W wl) (lL K τ W wk) σ H Q := by
  rintro σ H Q ⟨ρ, S, F, χ, Φ, e, hw, hx, hp⟩
  refine ⟨ρ, S, F, χ, _, e, hw, hx, fun vs ds ρ1 S1 H1 h1 s1 i1 e1 => ?_⟩
  refine ⟨ρ1, S1, F, χ, _, e1, h1, hx.mono s1, fun us zs ρ2 S2 H2 h2 s2 i2 e2 => ?_⟩
  split at h2
  · obtain ⟨ps, rfl, a2, a3⟩ := h2
    cases i2 with
    | cons r2 rr =>
      cases rr; cases r2
      cases i1 with
      | cons r rr =>
        cases rr; cases r with
        | lst b1 b2 =>
          have b2 := b2.mono s2
          have hpr : ∀ {xs : List V} {ps : List (Int × Int)}, IsAll K S2 xs (ps.map pairD) → Paired (pairV K H2) xs ps := by
            intro xs ps h
            induction ps generalizing xs with
            | nil => cases h; exact .nil
            | cons p ps ih =>
              cases h with
              | cons h t =>
                cases h with
                | tup c1 c2 =>
                  cases c2 with
                  | cons d1 c2 =>
                    cases c2 with
                    | cons d2 c2 =>
                      cases c2; cases d1; cases d2
                      exact .cons ⟨_, rfl, .inl (.inl (e2.ex _ _ c1))⟩ (ih t)
          refine ⟨_, _, ps, rfl, rfl, .inl (.inl (e2.ex _ _ (s2 _ _ b1))), hpr b2, fun z => hp _ _ ρ2 S2 H2 (a2 z) (s1.trans s2) .non e2, fun i x p hx1 hp1 hle => ?_⟩
          obtain ⟨v, v1, v2⟩ := b2.get (i := i) (d := pairD p) (by rw [List.getElem?_map, hp1]; rfl)
          rw [hx1] at v1; cases v1
          exact hp _ _ ρ2 S2 H2 (a3 p (List.mem_of_getElem? hp1) hle) (s1.trans s2) v2 e2
  · exact h2.elim
section
variable {X : Cx} {W : WX} {k n : Nat} {p pos : Pos} {e : Expr} {es : List Expr} {kws : List Keyword} {wl wk : WL}
theorem e_minPN (hc : X.calm = true) (o : Cok X W k) (hm : X.mg "min" = none) (ha : PAd X τ W (e :: es) wl) (hk : PKd X τ W kws wk) (hg : Gl X "min" := by rfl) (he : backTo pos (starEach (e :: es) X.env) = (false, eval e X.env) :: backTo pos (starEach es X.env) := by rfl) (hpl : (backTo pos (starEach (e :: es) X.env)).any (·.1) = false := by rfl)
    (hall : (backToKw pos (keywordEach kws X.env)).all (·.1.isSome) = true := by rfl) (hnone : (backToKw pos (keywordEach kws X.env)).any (·.1.isNone) = false := by rfl) (hks : (backToKw pos (keywordEach kws X.env)).filterMap (·.1) = [Str.ofString "default"] := by rfl) :
    PEd X τ W (.Call (.Name "min" p) (e :: es) kws pos) (wMinPN wl wk) := PE.imp (pe_callBK (cr_minPN hc o) hg hm PyProof.Rows.Boot.min ha hk (by decide) (by decide) he hpl hall hnone hks) l_minPN
end
/-! ### keyword-only parameters whose default is None: some given, the others not -/
theorem kb_kw {K : Fg} {x qual : Str} {params : Arguments} {body : List Stmt} {scope : Scope} {kws : List (Str × V)} {f : Addr} {fd : FuncData} {ps ks ms : List Str} {n : Nat} {g : List Value → List Value → List Value} {gV : List V → List V → List V}
    (F : FunD K x qual params body scope [] kws f fd) (hk : kws ≠ []) (hn : ∀ q ∈ ms, (q, V.non) ∈ kws) (hrel : ∀ {vs : List V} {us : List Value} {zs : List V} {ws : List Value}, Vals vs us → Vals zs ws → Vals (gV vs zs) (g us ws))
    (h : ∀ (D : Addr) (doc pm : Value) (an : Option Addr) (cdv ct : Value) (us ws : List Value), us.length = n → ws.length = ks.length →
      KwChain D (ms.map fun q => (q, Value.none)) (bindArgs (PySem.W.fnOf x qual params body scope .none (.ref D) doc pm an cdv ct) ⟨us, ks.zip ws⟩) (ps.zip (g us ws))) : KBn K fd ps n ks g gV := by
  obtain ⟨oc, od, dV, kV, doc, pm, an, cdv, ct, osl, rfl, lk, hcd, hD, hK⟩ := F.ex
  refine ⟨fun s us ws X h1 h2 => ?_, hrel⟩
  rcases hD with ⟨_, rfl⟩ | ⟨e, _⟩
  · rcases hK with e | ⟨D, rfl, hq⟩
    · exact absurd e hk
    · refine BindsTo.of_looks fun M => KwChain.looks X (fun q hq' => ?_) (h D doc pm an cdv ct us ws h1 h2)
      obtain ⟨m, hm, rfl⟩ := List.mem_map.mp hq'
      obtain ⟨u, e1, e2⟩ := hq _ (hn m hm)
      cases e2
      exact e1
  · exact absurd rfl e
end DL
set_option Elab.async false
set_option autoImplicit false
set_option linter.all false
set_option maxRecDepth 100000
set_option maxHeartbeats 3900000
namespace K25
open DL L2 PyProof.Rows PySem PySem.Spec
def top (i : Nat) : Stmt := PySem.Challenge.pw_agedcopy_k25_whole_ages_told_by_remainde.main.body.getD i (.Pass ⟨0, 0, 0, 0⟩)
structure Cs where
  AgeError : Addr
  BadMachine : Addr
  BadLog : Addr
  Refused : Addr
  NoState : Addr
  Machine : Addr
  fi_BadMachine : Addr
  fd_BadMachine : FuncData
  fi_BadLog : Addr
  fd_BadLog : FuncData
  fi_Refused : Addr
  fd_Refused : FuncData
  fi_NoState : Addr
  fd_NoState : FuncData
  f_is_integer : Addr
  d_is_integer : FuncData
  f_is_below : Addr
  d_is_below : FuncData
  f_is_positive : Addr
  d_is_positive : FuncData
  f_is_sequence : Addr
  d_is_sequence : FuncData
  f_is_sequence_of : Addr
  d_is_sequence_of : FuncData
  f_is_ascending : Addr
  d_is_ascending : FuncData
  f_fault_place : Addr
  d_fault_place : FuncData
  f_pair_steps : Addr
  d_pair_steps : FuncData
  f_first_pairs : Addr
  d_first_pairs : FuncData
  f_last_pairs : Addr
  d_last_pairs : FuncData
  f_lot_of : Addr
  d_lot_of : FuncData
  f_members : Addr
  d_members : FuncData
  f_is_in : Addr
  d_is_in : FuncData
  f_next_lots : Addr
  d_next_lots : FuncData
  f_earlier_lots : Addr
  d_earlier_lots : FuncData
  f_led_lot : Addr
  d_led_lot : FuncData
  f_lots_behind : Addr
  d_lots_behind : FuncData
  f_is_table : Addr
  d_is_table : FuncData
  f_check_tables : Addr
  d_check_tables : FuncData
  f_Machine_init : Addr
  d_Machine_init : FuncData
  f_check_state : Addr
  d_check_state : FuncData
  f_log_fault : Addr
  d_log_fault : FuncData
  f_check_log : Addr
  d_check_log : FuncData
  f_check_starts : Addr
  d_check_starts : FuncData
  f_state_after : Addr
  d_state_after : FuncData
  f_check_told_bound : Addr
  d_check_told_bound : FuncData
  f_check_bound : Addr
  d_check_bound : FuncData
  f_check_modulus : Addr
  d_check_modulus : FuncData
  f_first_times : Addr
  d_first_times : FuncData
  f_first_wrap : Addr
  d_first_wrap : FuncData
  f_walk_of_length : Addr
  d_walk_of_length : FuncData
  f_wrap_paper : Addr
  d_wrap_paper : FuncData
  f_is_enough : Addr
  d_is_enough : FuncData
  f_led_by : Addr
  d_led_by : FuncData
  f_is_parting : Addr
  d_is_parting : FuncData
  f_wrap_holds : Addr
  d_wrap_holds : FuncData
  f_law_box : Addr
  d_law_box : FuncData
  f_law_take : Addr
  d_law_take : FuncData
  f_law_pick : Addr
  d_law_pick : FuncData
  f_law_machine : Addr
  d_law_machine : FuncData
  f_law_behind : Addr
  d_law_behind : FuncData
  f_law_layers : Addr
  d_law_layers : FuncData
  f_law_parts : Addr
  d_law_parts : FuncData
  f_law_clash : Addr
  d_law_clash : FuncData
  f_law_paper_right : Addr
  d_law_paper_right : FuncData
  f_law_refused : Addr
  d_law_refused : FuncData
  f_law : Addr
  d_law : FuncData
  c_law : Addr
  p_law : Addr
  t_MOST_TABLES : Tok
  t_MOST_STATES : Tok
  t_MOST_DEEDS : Tok
  t_MOST_MODULUS : Tok
/-- what the top has left -/
structure Txt (P : Program) (w : World) (K : Fg) (mg : Str → Option Value) (base : Heap) (t : List (Addr × Str)) (C : Cs) : Prop where
  b_abs : mg "abs" = none
  b_bool : mg "bool" = none
  b_enumerate : mg "enumerate" = none
  b_int : mg "int" = none
  b_isinstance : mg "isinstance" = none
  b_len : mg "len" = none
  b_list : mg "list" = none
  b_min : mg "min" = none
  b_range : mg "range" = none
  b_repr : mg "repr" = none
  b_tuple : mg "tuple" = none
  MOST_TABLES : mg "MOST_TABLES" = some (.int 8 C.t_MOST_TABLES)
  MOST_STATES : mg "MOST_STATES" = some (.int 12 C.t_MOST_STATES)
  MOST_DEEDS : mg "MOST_DEEDS" = some (.int 10000 C.t_MOST_DEEDS)
  MOST_MODULUS : mg "MOST_MODULUS" = some (.int 200 C.t_MOST_MODULUS)
  AgeError : mg "AgeError" = some (.ref C.AgeError)
  BadMachine : mg "BadMachine" = some (.ref C.BadMachine)
  BadLog : mg "BadLog" = some (.ref C.BadLog)
  Refused : mg "Refused" = some (.ref C.Refused)
  NoState : mg "NoState" = some (.ref C.NoState)
  Machine : mg "Machine" = some (.ref C.Machine)
  cl_Machine : Cls K C.Machine
  ic_Machine : InsC K C.Machine
  mk_Machine : Mk K C.Machine C.f_Machine_init
  na_Machine_tables : NoAttr K C.Machine "tables"
  na_Machine_deeds : NoAttr K C.Machine "deeds"
  na_Machine_states : NoAttr K C.Machine "states"
  er_BadMachine : ErrC K C.BadMachine C.fi_BadMachine "at"
  in_BadMachine : ∀ k, FnOk P w K mg base (L2.CX P w) (k + 1) C.fi_BadMachine C.fd_BadMachine ["self", "at"] (spIni K "at")
  bi_BadMachine : Binds K C.fd_BadMachine ["self", "at"] []
  xf_BadMachine : XfC K C.BadMachine
  no_BadMachine : PySem.W.findIn K (.ref C.BadMachine) "at" = some none
  ec_BadMachine : ExcC K C.BadMachine
  er_BadLog : ErrC K C.BadLog C.fi_BadLog "at"
  in_BadLog : ∀ k, FnOk P w K mg base (L2.CX P w) (k + 1) C.fi_BadLog C.fd_BadLog ["self", "at"] (spIni K "at")
  bi_BadLog : Binds K C.fd_BadLog ["self", "at"] []
  xf_BadLog : XfC K C.BadLog
  no_BadLog : PySem.W.findIn K (.ref C.BadLog) "at" = some none
  ec_BadLog : ExcC K C.BadLog
  er_Refused : ErrC K C.Refused C.fi_Refused "at"
  in_Refused : ∀ k, FnOk P w K mg base (L2.CX P w) (k + 1) C.fi_Refused C.fd_Refused ["self", "at"] (spIni K "at")
  bi_Refused : Binds K C.fd_Refused ["self", "at"] []
  xf_Refused : XfC K C.Refused
  no_Refused : PySem.W.findIn K (.ref C.Refused) "at" = some none
  ec_Refused : ExcC K C.Refused
  er_NoState : ErrC K C.NoState C.fi_NoState "state"
  in_NoState : ∀ k, FnOk P w K mg base (L2.CX P w) (k + 1) C.fi_NoState C.fd_NoState ["self", "state"] (spIni K "state")
  bi_NoState : Binds K C.fd_NoState ["self", "state"] []
  xf_NoState : XfC K C.NoState
  no_NoState : PySem.W.findIn K (.ref C.NoState) "state" = some none
  ec_NoState : ExcC K C.NoState
  co_law : codeOf8 K C.f_law = some (.ref C.c_law)
  tb_law : LamX.TabB base mg C.c_law C.p_law
  tm_law : (C.p_law, ("law" : Str) ++ ".<locals>." ++ "<lambda>") ∈ t
  tu_law : ∀ p ∈ t, p.1 = C.p_law → p.2 = ("law" : Str) ++ ".<locals>." ++ "<lambda>"
def kf_2_01 : {α : Type} → α → List α → List α → List α := fun nn us ws => match us, ws with
  | [x0, x1], [y0, y1] => [x0, x1, y0, y1]
  | us, _ => us
theorem gf_2_01 : GRel 2 2 4 (kf_2_01 V.non) (kf_2_01 D.non) := fun K S vs ds us es i1 i2 h1 h2 => by
  match vs, ds, us, es, i1, i2, h1, h2 with
  | [_, _], [_, _], [_, _], [_, _], .cons r0 (.cons r1 (.nil)), .cons q0 (.cons q1 (.nil)), _, _ => exact ⟨.cons r0 (.cons r1 (.cons q0 (.cons q1 (.nil)))), rfl⟩
def kf_2_0n : {α : Type} → α → List α → List α → List α := fun nn us ws => match us, ws with
  | [x0, x1], [y0] => [x0, x1, y0, nn]
  | us, _ => us
theorem gf_2_0n : GRel 2 1 4 (kf_2_0n V.non) (kf_2_0n D.non) := fun K S vs ds us es i1 i2 h1 h2 => by
  match vs, ds, us, es, i1, i2, h1, h2 with
  | [_, _], [_, _], [_], [_], .cons r0 (.cons r1 (.nil)), .cons q0 (.nil), _, _ => exact ⟨.cons r0 (.cons r1 (.cons q0 (.cons .non (.nil)))), rfl⟩
def kf_2_n0 : {α : Type} → α → List α → List α → List α := fun nn us ws => match us, ws with
  | [x0, x1], [y0] => [x0, x1, nn, y0]
  | us, _ => us
theorem gf_2_n0 : GRel 2 1 4 (kf_2_n0 V.non) (kf_2_n0 D.non) := fun K S vs ds us es i1 i2 h1 h2 => by
  match vs, ds, us, es, i1, i2, h1, h2 with
  | [_, _], [_, _], [_], [_], .cons r0 (.cons r1 (.nil)), .cons q0 (.nil), _, _ => exact ⟨.cons r0 (.cons r1 (.cons .non (.cons q0 (.nil)))), rfl⟩
def kf_2_nn : {α : Type} → α → List α → List α → List α := fun nn us ws => match us, ws with
  | [x0, x1], [] => [x0, x1, nn, nn]
  | us, _ => us
theorem gf_2_nn : GRel 2 0 4 (kf_2_nn V.non) (kf_2_nn D.non) := fun K S vs ds us es i1 i2 h1 h2 => by
  match vs, ds, us, es, i1, i2, h1, h2 with
  | [_, _], [_, _], [], [], .cons r0 (.cons r1 (.nil)), .nil, _, _ => exact ⟨.cons r0 (.cons r1 (.cons .non (.cons .non (.nil)))), rfl⟩
def kf_3_01 : {α : Type} → α → List α → List α → List α := fun nn us ws => match us, ws with
  | [x0, x1, x2], [y0, y1] => [x0, x1, x2, y0, y1]
  | us, _ => us
theorem gf_3_01 : GRel 3 2 5 (kf_3_01 V.non) (kf_3_01 D.non) := fun K S vs ds us es i1 i2 h1 h2 => by
  match vs, ds, us, es, i1, i2, h1, h2 with
  | [_, _, _], [_, _, _], [_, _], [_, _], .cons r0 (.cons r1 (.cons r2 (.nil))), .cons q0 (.cons q1 (.nil)), _, _ => exact ⟨.cons r0 (.cons r1 (.cons r2 (.cons q0 (.cons q1 (.nil))))), rfl⟩
def kf_3_0n : {α : Type} → α → List α → List α → List α := fun nn us ws => match us, ws with
  | [x0, x1, x2], [y0] => [x0, x1, x2, y0, nn]
  | us, _ => us
theorem gf_3_0n : GRel 3 1 5 (kf_3_0n V.non) (kf_3_0n D.non) := fun K S vs ds us es i1 i2 h1 h2 => by
  match vs, ds, us, es, i1, i2, h1, h2 with
  | [_, _, _], [_, _, _], [_], [_], .cons r0 (.cons r1 (.cons r2 (.nil))), .cons q0 (.nil), _, _ => exact ⟨.cons r0 (.cons r1 (.cons r2 (.cons q0 (.cons .non (.nil))))), rfl⟩
def pm_3210 : {α : Type} → List α → List α → List α := fun _ zs => match zs with
  | [x0, x1, x2, x3] => [x3, x2, x1, x0]
  | zs => zs
theorem gr_3210 : GRel 0 4 4 (@pm_3210 V) (@pm_3210 D) := fun K S vs ds us es i1 i2 h1 h2 => by
  match us, es, i2, h2 with
  | [x0, x1, x2, x3], _, .cons r0 (.cons r1 (.cons r2 (.cons r3 (.nil)))), _ => exact ⟨.cons r3 (.cons r2 (.cons r1 (.cons r0 (.nil)))), rfl⟩
theorem sc_is_integer : FnScope ["value"] ["value"] (defScope (top 7)) := ⟨rfl, rfl, rfl, by decide +kernel, rfl, by decide +kernel, by decide +kernel⟩
theorem sc_is_below : FnScope ["value", "many"] ["value", "many"] (defScope (top 8)) := ⟨rfl, rfl, rfl, by decide +kernel, rfl, by decide +kernel, by decide +kernel⟩
theorem sc_is_positive : FnScope ["value"] ["value"] (defScope (top 9)) := ⟨rfl, rfl, rfl, by decide +kernel, rfl, by decide +kernel, by decide +kernel⟩
theorem sc_is_sequence : FnScope ["value"] ["value"] (defScope (top 10)) := ⟨rfl, rfl, rfl, by decide +kernel, rfl, by decide +kernel, by decide +kernel⟩
theorem sc_is_sequence_of : FnScope ["value", "length"] ["value", "length"] (defScope (top 11)) := ⟨rfl, rfl, rfl, by decide +kernel, rfl, by decide +kernel, by decide +kernel⟩
theorem sc_is_ascending : FnScope ["value", "many", "least", "item"] ["value", "many"] (defScope (top 12)) := ⟨rfl, rfl, rfl, by decide +kernel, rfl, by decide +kernel, by decide +kernel⟩
theorem sc_fault_place : FnScope ["value", "many", "at", "item"] ["value", "many"] (defScope (top 13)) := ⟨rfl, rfl, rfl, by decide +kernel, rfl, by decide +kernel, by decide +kernel⟩
theorem sc_pair_steps : FnScope ["machine", "many", "found", "one", "other", "led", "table", "deed", "pair"] ["machine"] (defScope (top 15)) := ⟨rfl, rfl, rfl, by decide +kernel, rfl, by decide +kernel, by decide +kernel⟩
theorem sc_first_pairs : FnScope ["machine", "state", "other"] ["machine", "state"] (defScope (top 16)) := ⟨rfl, rfl, rfl, by decide +kernel, rfl, by decide +kernel, by decide +kernel⟩
theorem sc_last_pairs : FnScope ["machine", "state", "other"] ["machine", "state"] (defScope (top 17)) := ⟨rfl, rfl, rfl, by decide +kernel, rfl, by decide +kernel, by decide +kernel⟩
theorem sc_lot_of : FnScope ["pairs", "lot", "pair"] ["pairs"] (defScope (top 18)) := ⟨rfl, rfl, rfl, by decide +kernel, rfl, by decide +kernel, by decide +kernel⟩
theorem sc_members : FnScope ["lot", "found", "rest"] ["lot"] (defScope (top 19)) := ⟨rfl, rfl, rfl, by decide +kernel, rfl, by decide +kernel, by decide +kernel⟩
theorem sc_is_in : FnScope ["lot", "pair"] ["lot", "pair"] (defScope (top 20)) := ⟨rfl, rfl, rfl, by decide +kernel, rfl, by decide +kernel, by decide +kernel⟩
theorem sc_next_lots : FnScope ["steps", "row", "_", "later"] ["steps"] (defScope (top 21)) := ⟨rfl, rfl, rfl, by decide +kernel, rfl, by decide +kernel, by decide +kernel⟩
theorem sc_earlier_lots : FnScope ["nexts", "found", "pair", "lot", "later"] ["nexts"] (defScope (top 22)) := ⟨rfl, rfl, rfl, by decide +kernel, rfl, by decide +kernel, by decide +kernel⟩
theorem sc_led_lot : FnScope ["nexts", "lot", "found", "pair"] ["nexts", "lot"] (defScope (top 23)) := ⟨rfl, rfl, rfl, by decide +kernel, rfl, by decide +kernel, by decide +kernel⟩
theorem sc_lots_behind : FnScope ["nexts", "many", "half", "found", "lot"] ["nexts", "many"] (defScope (top 24)) := ⟨rfl, rfl, rfl, by decide +kernel, rfl, by decide +kernel, by decide +kernel⟩
theorem sc_is_table : FnScope ["value"] ["value"] (defScope (top 29)) := ⟨rfl, rfl, rfl, by decide +kernel, rfl, by decide +kernel, by decide +kernel⟩
theorem sc_check_tables : FnScope ["value", "at", "table"] ["value"] (defScope (top 30)) := ⟨rfl, rfl, rfl, by decide +kernel, rfl, by decide +kernel, by decide +kernel⟩
theorem sc_Machine_init : FnScope ["self", "tables"] ["self", "tables"] (defScope (inClass (top 31) 0)) := ⟨rfl, rfl, rfl, by decide +kernel, rfl, by decide +kernel, by decide +kernel⟩
theorem sc_check_state : FnScope ["machine", "value"] ["machine", "value"] (defScope (top 32)) := ⟨rfl, rfl, rfl, by decide +kernel, rfl, by decide +kernel, by decide +kernel⟩
theorem sc_log_fault : FnScope ["machine", "value"] ["machine", "value"] (defScope (top 33)) := ⟨rfl, rfl, rfl, by decide +kernel, rfl, by decide +kernel, by decide +kernel⟩
theorem sc_check_log : FnScope ["machine", "value", "at"] ["machine", "value"] (defScope (top 34)) := ⟨rfl, rfl, rfl, by decide +kernel, rfl, by decide +kernel, by decide +kernel⟩
theorem sc_check_starts : FnScope ["machine", "value"] ["machine", "value"] (defScope (top 35)) := ⟨rfl, rfl, rfl, by decide +kernel, rfl, by decide +kernel, by decide +kernel⟩
theorem sc_state_after : FnScope ["machine", "state", "log", "deed"] ["machine", "state", "log"] (defScope (top 36)) := ⟨rfl, rfl, rfl, by decide +kernel, rfl, by decide +kernel, by decide +kernel⟩
theorem sc_check_told_bound : FnScope ["value"] ["value"] (defScope (top 38)) := ⟨rfl, rfl, rfl, by decide +kernel, rfl, by decide +kernel, by decide +kernel⟩
theorem sc_check_bound : FnScope ["value"] ["value"] (defScope (top 39)) := ⟨rfl, rfl, rfl, by decide +kernel, rfl, by decide +kernel, by decide +kernel⟩
theorem sc_check_modulus : FnScope ["value"] ["value"] (defScope (top 42)) := ⟨rfl, rfl, rfl, by decide +kernel, rfl, by decide +kernel, by decide +kernel⟩
theorem sc_first_times : FnScope ["jumps", "firsts", "lasts", "reached", "fresh", "times"] ["jumps", "firsts", "lasts"] (defScope (top 43)) := ⟨rfl, rfl, rfl, by decide +kernel, rfl, by decide +kernel, by decide +kernel⟩
theorem sc_first_wrap : FnScope ["machine", "modulus", "states", "bound", "jumps", "found", "state", "times"] ["machine", "modulus", "states", "bound"] (defScope (top 44)) := ⟨rfl, rfl, rfl, by decide +kernel, rfl, by decide +kernel, by decide +kernel⟩
theorem sc_walk_of_length : FnScope ["machine", "state", "length", "steps", "back", "lots", "_", "first", "pair", "deeds", "lot", "deed", "step"] ["machine", "state", "length"] (defScope (top 45)) := ⟨rfl, rfl, rfl, by decide +kernel, rfl, by decide +kernel, by decide +kernel⟩
theorem sc_wrap_paper : FnScope ["machine", "modulus", "states", "bound", "found", "length", "state", "other", "log"] ["machine", "modulus", "states", "bound"] (defScope (top 46)) := ⟨rfl, rfl, rfl, by decide +kernel, rfl, by decide +kernel, by decide +kernel⟩
theorem sc_is_enough : FnScope ["machine", "modulus", "states", "bound"] ["machine", "modulus", "states", "bound"] (defScope (top 47)) := ⟨rfl, rfl, rfl, by decide +kernel, rfl, by decide +kernel, by decide +kernel⟩
theorem sc_led_by : FnScope ["machine", "state", "logs", "log"] ["machine", "state", "logs"] (defScope (top 48)) := ⟨rfl, rfl, rfl, by decide +kernel, rfl, by decide +kernel, by decide +kernel⟩
theorem sc_is_parting : FnScope ["machine", "states", "value", "other", "logs"] ["machine", "states", "value", "other", "logs"] (defScope (top 49)) := ⟨rfl, rfl, rfl, by decide +kernel, rfl, by decide +kernel, by decide +kernel⟩
theorem sc_wrap_holds : FnScope ["machine", "modulus", "value", "states", "bound", "_", "state", "other", "log"] ["machine", "modulus", "value", "states", "bound"] (defScope (top 50)) := ⟨rfl, rfl, rfl, by decide +kernel, rfl, by decide +kernel, by decide +kernel⟩
theorem sc_law_box : FnScope ["script", "k", "cell", "great"] ["script", "k"] (defScope (top 52)) := ⟨rfl, rfl, rfl, by decide +kernel, rfl, by decide +kernel, by decide +kernel⟩
theorem sc_law_take : FnScope ["box", "many", "digit", "raw"] ["box", "many"] (defScope (top 53)) := ⟨rfl, rfl, rfl, by decide +kernel, rfl, by decide +kernel, by decide +kernel⟩
theorem sc_law_pick : FnScope ["box", "some"] ["box", "some"] (defScope (top 54)) := ⟨rfl, rfl, rfl, by decide +kernel, rfl, by decide +kernel, by decide +kernel⟩
theorem sc_law_machine : FnScope ["box", "states", "deeds", "found", "turn", "way", "table", "one", "other", "state"] ["box", "states", "deeds"] (defScope (top 55)) := ⟨rfl, rfl, rfl, by decide +kernel, rfl, by decide +kernel, by decide +kernel⟩
theorem sc_law_behind : FnScope ["tables", "state", "log", "deed"] ["tables", "state", "log"] (defScope (top 56)) := ⟨rfl, rfl, rfl, by decide +kernel, rfl, by decide +kernel, by decide +kernel⟩
theorem sc_law_layers : FnScope ["tables", "length", "idle", "found", "turn", "later", "done", "table", "state"] ["tables", "length"] (defScope (top 57)) := ⟨rfl, rfl, rfl, by decide +kernel, rfl, by decide +kernel, by decide +kernel⟩
theorem sc_law_parts : FnScope ["done", "state"] ["done", "state"] (defScope (top 58)) := ⟨rfl, rfl, rfl, by decide +kernel, rfl, by decide +kernel, by decide +kernel⟩
theorem sc_law_clash : FnScope ["tables", "log", "lot", "modulus", "bound", "rows", "deed", "one", "other", "state"] ["tables", "log", "lot", "modulus", "bound"] (defScope (top 59)) := ⟨rfl, rfl, rfl, by decide +kernel, rfl, by decide +kernel, by decide +kernel⟩
theorem sc_law_paper_right : FnScope ["tables", "layers", "paper", "lot", "modulus", "bound", "state", "other", "log", "length", "done", "one"] ["tables", "layers", "paper", "lot", "modulus", "bound"] (defScope (top 60)) := ⟨rfl, rfl, rfl, by decide +kernel, rfl, by decide +kernel, by decide +kernel⟩
theorem sc_law_refused : FnScope ["ask", "fault"] ["ask"] (defScope (top 61)) := ⟨rfl, rfl, rfl, by decide +kernel, rfl, by decide +kernel, by decide +kernel⟩
theorem sc_law : FnScope ["script", "k", "box", "states", "tables", "machine", "layers", "lot", "turn", "modulus", "bound", "paper", "told", "again", "log", "everyone", "bad", "state", "deed"] ["script"] (defScope (top 62)) := ⟨rfl, rfl, rfl, by decide +kernel, rfl, by decide +kernel, by decide +kernel⟩
/-! ### what each def means -/
def tyN : D → Option String
  | .non => some "NoneType" | .bl _ => some "bool" | .int _ => some "int" | .str _ => some "str" | .lst _ => some "list" | .tup _ => some "tuple" | _ => none
def isI : D → Bool
  | .int _ => true | _ => false
def seqD : D → Option (List D)
  | .lst ds => some ds | .tup ds => some ds | _ => none
def belowD (x : D) (m : Int) : Bool := match x with
  | .int v => decide (0 ≤ v) && decide (v < m)
  | _ => false
def faultD (m : Int) : List D → Nat → D
  | [], _ => .non
  | x :: xs, i => if belowD x m = true then faultD m xs (i + 1) else .int i
def plain (x : D) : Prop := (tyN x).isSome = true
def sp_is_integer (_ : Cs) : Spc := fun h ds Ψ _ => h = none ∧ ∃ x, ds = [x] ∧ plain x ∧ Ψ (.bl (isI x)) none
def sp_is_below (_ : Cs) : Spc := fun h ds Ψ _ => h = none ∧ ∃ x m, ds = [x, .int m] ∧ plain x ∧ Ψ (.bl (belowD x m)) none
def sp_is_sequence (_ : Cs) : Spc := fun h ds Ψ _ => h = none ∧ ∃ x, ds = [x] ∧ plain x ∧ Ψ (.bl (seqD x).isSome) none
def lenIs (x : D) (n : Int) : Bool := match seqD x with
  | some xs => decide ((xs.length : Int) = n)
  | none => false
def sp_fault_place (_ : Cs) : Spc := fun h ds Ψ _ => h = none ∧ ∃ x xs m, ds = [x, .int m] ∧ seqD x = some xs ∧ (∀ y ∈ xs, plain y) ∧ Ψ (faultD m xs 0) none
def isNo : D → Bool
  | .non => true | _ => false
def isTab (x : D) : Bool := match seqD x with
  | some xs => decide (1 ≤ xs.length) && decide (xs.length ≤ 12) && isNo (faultD xs.length xs 0)
  | none => false
/-- a value all of whose items, if it has items, are plain -/
def plain2 (x : D) : Prop := plain x ∧ ∀ xs, seqD x = some xs → ∀ y ∈ xs, plain y
def plain3 (x : D) : Prop := plain x ∧ ∀ xs, seqD x = some xs → ∀ y ∈ xs, plain2 y
def sp_is_table (_ : Cs) : Spc := fun h ds Ψ _ => h = none ∧ ∃ x, ds = [x] ∧ plain2 x ∧ Ψ (.bl (isTab x)) none
def tupD (x : D) : D := .tup ((seqD x).getD [])
def lenD (x : D) : Nat := ((seqD x).getD []).length
/-- the first table that is none, or is of another length than the first -/
def tabsFault (n : Nat) : List D → Nat → Option Nat
  | [], _ => none
  | x :: xs, i => if (isTab x && decide (lenD x = n)) = true then tabsFault n xs (i + 1) else some i
def chkTabs (x : D) : Except Int (List D) := match seqD x with
  | some (y :: ys) => if (y :: ys).length ≤ 8 then (match tabsFault (lenD y) (y :: ys) 0 with | none => .ok ((y :: ys).map tupD) | some i => .error i) else .error (-1)
  | _ => .error (-1)
def sp_check_tables (C : Cs) : Spc := fun h ds Ψ Ξ => h = none ∧ ∃ x, ds = [x] ∧ plain3 x ∧ match chkTabs x with
  | .ok rs => Ψ (.tup rs) none
  | .error i => Ξ C.BadMachine "at" (.int i)
def machO (C : Cs) (rs : List D) : OD := .i C.Machine ["tables", "deeds", "states"] [.tup rs, .int rs.length, .int (lenD (rs.headD .non))]
def sp_Machine_init (C : Cs) : Spc := fun h ds Ψ Ξ => h = some (.i C.Machine [] []) ∧ ∃ x, ds = [x] ∧ plain3 x ∧ match chkTabs x with
  | .ok rs => Ψ .non (some (machO C rs))
  | .error i => Ξ C.BadMachine "at" (.int i)
/-- tables of numbers -/
abbrev Tbl := List (List Nat)
def numsD (ns : List Nat) : List D := ns.map fun n => .int (n : Nat)
def rowD (r : List Nat) : D := .tup (r.map fun n => .int (n : Nat))
def mach (C : Cs) (t : Tbl) : D := (machO C (t.map rowD)).d
structure Good (t : Tbl) : Prop where
  ne : t ≠ []
  le : t.length ≤ 8
  row : ∀ r ∈ t, 1 ≤ r.length ∧ r.length ≤ 12 ∧ r.length = (t.headD []).length ∧ ∀ n ∈ r, n < r.length
def wd (t : Tbl) : Nat := (t.headD []).length

/-- ascending numbers, from a least one on -/
def ascL (m : Int) : List D → Int → Bool
  | [], _ => true
  | x :: xs, least => match x with
    | .int v => if (belowD x m && decide (least ≤ v)) = true then ascL m xs (v + 1) else false
    | _ => false
def ascD (x : D) (m : Int) : Bool := match seqD x with
  | some xs => ascL m xs 0
  | none => false
def sp_is_ascending (_ : Cs) : Spc := fun h ds Ψ _ => h = none ∧ ∃ x m, ds = [x, .int m] ∧ plain2 x ∧ Ψ (.bl (ascD x m)) none
def startsOk (m : Nat) (x : D) : Bool := ascD x (m : Nat) && decide (lenD x ≠ 0)
def sp_check_starts (C : Cs) : Spc := fun h ds Ψ Ξ => h = none ∧ ∃ t x, ds = [mach C t, x] ∧ Good t ∧ ((x = .non ∧ Ψ (rowD (List.range (wd t))) none) ∨ (isNo x = false ∧ plain2 x ∧ (if startsOk (wd t) x = true then Ψ (tupD x) none else Ξ C.Refused "at" x)))
/-- where the deeds lead a state -/
def cellR (r : List Nat) (s : Nat) : Nat := (r[s]?).getD 0
def stepN (t : Tbl) (s d : Nat) : Nat := ((t[d]?).getD [])[s]?.getD 0
def ledN (t : Tbl) (s : Nat) (ns : List Nat) : Nat := ns.foldl (stepN t) s
def endRow (t : Tbl) (ns : List Nat) : List Nat := (List.range (wd t)).map fun s => ledN t s ns
/-- by deed the pairs that follow a pair -/
def rowP (t : Tbl) (a b : Nat) : List (Nat × Nat) := ((t.map fun r => (cellR r a, cellR r b)).zipIdx.filter fun p => decide (p.1.1 ≠ p.1.2)).map fun p => (p.2, p.1.1 * wd t + p.1.2)
def psL (t : Tbl) : List (List (Nat × Nat)) := (List.range (wd t)).flatMap fun a => (List.range (wd t)).map fun b => rowP t a b
def rowPD (r : List (Nat × Nat)) : D := .lst (r.map fun p => .tup [.int (p.1 : Nat), .int (p.2 : Nat)])
def sp_pair_steps (C : Cs) : Spc := fun h ds Ψ _ => h = none ∧ ∃ t, Good t ∧ ds = [mach C t] ∧ Ψ (.lst ((psL t).map rowPD)) none
def oth (m s : Nat) : List Nat := (List.range m).filter fun o => decide (o ≠ s)
def sp_first_pairs (C : Cs) : Spc := fun h ds Ψ _ => h = none ∧ ∃ t s, Good t ∧ s < wd t ∧ ds = [mach C t, .int (s : Nat)] ∧ Ψ (.lst (numsD ((oth (wd t) s).map fun o => o * wd t + s))) none
def sp_last_pairs (C : Cs) : Spc := fun h ds Ψ _ => h = none ∧ ∃ t s, Good t ∧ s < wd t ∧ ds = [mach C t, .int (s : Nat)] ∧ Ψ (.lst (numsD ((oth (wd t) s).map fun o => s * wd t + o))) none
/-- a lot of pairs, as bits -/
structure LotIs (n : Nat) (P : Nat → Prop) : Prop where
  lt : n < 2 ^ 200
  bit : ∀ q, n.testBit q = true ↔ P q
def sp_lot_of (_ : Cs) : Spc := fun h ds Ψ _ => h = none ∧ ∃ ps : List Nat, ds = [.lst (numsD ps)] ∧ (∀ p ∈ ps, p < 200) ∧ ∀ n : Nat, LotIs n (· ∈ ps) → Ψ (.int (n : Nat)) none
def sp_members (_ : Cs) : Spc := fun h ds Ψ _ => h = none ∧ ∃ n : Nat, ds = [.int (n : Nat)] ∧ n < 2 ^ 200 ∧ ∀ l : List Nat, l.length ≤ 200 → (∀ p, p ∈ l ↔ n.testBit p = true) → l.Pairwise (· < ·) → Ψ (.lst (numsD l)) none
def sp_next_lots (_ : Cs) : Spc := fun h ds Ψ _ => h = none ∧ ∃ rows : List (List (Nat × Nat)), ds = [.lst (rows.map rowPD)] ∧ rows.length ≤ 200 ∧ (∀ r ∈ rows, r.length ≤ 10000 ∧ ∀ p ∈ r, p.2 < 200) ∧ ∀ ns : List Nat, Paired (fun (r : List (Nat × Nat)) n => LotIs n fun q => q ∈ r.map (·.2)) rows ns → Ψ (.lst (numsD ns)) none
def sp_led_lot (_ : Cs) : Spc := fun h ds Ψ _ => h = none ∧ ∃ (ns : List Nat) (lot : Nat), ds = [.lst (numsD ns), .int (lot : Nat)] ∧ ns.length ≤ 200 ∧ (∀ n ∈ ns, n < 2 ^ 200) ∧ lot < 2 ^ 200 ∧ (∀ p, lot.testBit p = true → p < ns.length) ∧ ∀ v : Nat, LotIs v (fun q => ∃ p n, lot.testBit p = true ∧ ns[p]? = some n ∧ n.testBit q = true) → Ψ (.int (v : Nat)) none
def sp_is_sequence_of (_ : Cs) : Spc := fun h ds Ψ _ => h = none ∧ ∃ x n, ds = [x, .int n] ∧ plain x ∧ Ψ (.bl (lenIs x n)) none
def sp_check_state (C : Cs) : Spc := fun h ds Ψ Ξ => h = none ∧ ∃ t x, ds = [mach C t, x] ∧ plain x ∧ (if belowD x (wd t : Nat) = true then Ψ .non none else Ξ C.NoState "state" x)
def logF (n : Nat) (x : D) : D := match seqD x with
  | some xs => if xs.length ≤ 10000 then faultD n xs 0 else .int (-1)
  | none => .int (-1)
def sp_log_fault (C : Cs) : Spc := fun h ds Ψ _ => h = none ∧ ∃ t x, ds = [mach C t, x] ∧ plain2 x ∧ Ψ (logF t.length x) none
def sp_check_log (C : Cs) : Spc := fun h ds Ψ Ξ => h = none ∧ ∃ t x, ds = [mach C t, x] ∧ plain2 x ∧ match logF t.length x with
  | .int i => Ξ C.BadLog "at" (.int i)
  | _ => Ψ (tupD x) none

def posD (x : D) : Bool := match x with
  | .int v => decide (0 < v)
  | _ => false
def sp_is_positive (_ : Cs) : Spc := fun h ds Ψ _ => h = none ∧ ∃ x, ds = [x] ∧ plain x ∧ Ψ (.bl (posD x)) none
def sp_is_in (_ : Cs) : Spc := fun h ds Ψ _ => h = none ∧ ∃ n p : Nat, ds = [.int (n : Nat), .int (p : Nat)] ∧ p < 200 ∧ Ψ (.bl (n.testBit p)) none
/-- by pair a lot of pairs -/
structure LotsOk (ns : List Nat) : Prop where
  len : ns.length ≤ 200
  lt : ∀ n ∈ ns, n < 2 ^ 200
  bit : ∀ n ∈ ns, ∀ q, n.testBit q = true → q < ns.length
def sp_earlier_lots (_ : Cs) : Spc := fun h ds Ψ _ => h = none ∧ ∃ ns : List Nat, ds = [.lst (numsD ns)] ∧ LotsOk ns ∧ ∀ bs : List Nat, bs.length = ns.length → (∀ (q b : Nat), bs[q]? = some b → LotIs b fun p => ∃ n, ns[p]? = some n ∧ n.testBit q = true) → Ψ (.lst (numsD bs)) none
/-- so many steps -/
def StepsN (ns : List Nat) : Nat → Nat → Nat → Prop
  | 0, p, q => p = q
  | k + 1, p, q => ∃ r n, ns[p]? = some n ∧ n.testBit r = true ∧ StepsN ns k r q
def spR_lots_behind (_ : Cs) (d : Nat) : Spc := fun h ds Ψ _ => h = none ∧ ∃ (ns : List Nat) (m : Nat), ds = [.lst (numsD ns), .int (m : Nat)] ∧ LotsOk ns ∧ 1 ≤ m ∧ m < 2 ^ d ∧ ∀ js : List Nat, js.length = ns.length → (∀ (p j : Nat), js[p]? = some j → LotIs j (StepsN ns m p)) → Ψ (.lst (numsD js)) none
def sp_lots_behind (C : Cs) : Spc := spR_lots_behind C 8
def sp_state_after (C : Cs) : Spc := fun h ds Ψ _ => h = none ∧ ∃ (t : Tbl) (s : Nat) (ns : List Nat) (y : D), Good t ∧ s < wd t ∧ ds = [mach C t, .int (s : Nat), y] ∧ seqD y = some (numsD ns) ∧ ns.length ≤ 40000 ∧ (∀ n ∈ ns, n < t.length) ∧ ns.length ≤ 10000 ∧ Ψ (.int (ledN t s ns : Nat)) none
def sp_check_told_bound (C : Cs) : Spc := fun h ds Ψ Ξ => h = none ∧ ∃ x, ds = [x] ∧ plain x ∧ (if posD x = true then Ψ .non none else Ξ C.Refused "at" x)
def bndOk (x : D) : Bool := isNo x || posD x
def sp_check_bound (C : Cs) : Spc := fun h ds Ψ Ξ => h = none ∧ ∃ x, ds = [x] ∧ plain x ∧ (if bndOk x = true then Ψ .non none else Ξ C.Refused "at" x)
def modOk (x : D) : Bool := match x with
  | .int v => decide (0 < v) && decide (v ≤ 200)
  | _ => false
def sp_check_modulus (C : Cs) : Spc := fun h ds Ψ Ξ => h = none ∧ ∃ x, ds = [x] ∧ plain x ∧ (if modOk x = true then Ψ .non none else Ξ C.Refused "at" x)
/-- so many steps lead from one lot to the other -/
def Hit (js : List Nat) (f l k : Nat) : Prop := ∃ p q, f.testBit p = true ∧ l.testBit q = true ∧ StepsN js k p q
def sp_first_times (_ : Cs) : Spc := fun h ds Ψ _ => h = none ∧ ∃ (js : List Nat) (f l : Nat), ds = [.lst (numsD js), .int (f : Nat), .int (l : Nat)] ∧ LotsOk js ∧ f < 2 ^ 200 ∧ (∀ p, f.testBit p = true → p < js.length) ∧ f &&& l = 0 ∧ ((∀ k, 1 ≤ k → ¬ Hit js f l k) → Ψ .non none) ∧ ∀ k, 1 ≤ k → k ≤ 201 → Hit js f l k → (∀ i, 1 ≤ i → i < k → ¬ Hit js f l i) → Ψ (.int (k : Nat)) none
/-- a log of so many deeds leads some state to s, and s elsewhere -/
def Part (t : Tbl) (s L : Nat) : Prop := ∃ o ns, o < wd t ∧ ns.length = L ∧ (∀ n ∈ ns, n < t.length) ∧ ledN t o ns = s ∧ ledN t s ns ≠ s
/-- below a bound, if there is one -/
def Under (b : D) (L : Nat) : Prop := b = .non ∨ ∃ v : Int, b = .int v ∧ (L : Int) < v
structure Wr (t : Tbl) (ss : List Nat) (m : Nat) (b : D) (L s : Nat) : Prop where
  mem : s ∈ ss
  pos : 1 ≤ L
  dvd : m ∣ L
  und : Under b L
  part : Part t s L
def sp_first_wrap (C : Cs) : Spc := fun h ds Ψ _ => h = none ∧ ∃ (t : Tbl) (m : Nat) (ss : List Nat) (b : D), Good t ∧ ds = [mach C t, .int (m : Nat), rowD ss, b] ∧ 1 ≤ m ∧ m ≤ 200 ∧ (∀ s ∈ ss, s < wd t) ∧ ss.length ≤ 12 ∧ bndOk b = true ∧ ((∀ L s, ¬ Wr t ss m b L s) → Ψ .non none) ∧
  ∀ L s, L ≤ 201 * m → Wr t ss m b L s → (∀ L' s', Wr t ss m b L' s' → L ≤ L') → (∀ s', Wr t ss m b L s' → s ≤ s') → Ψ (.tup [.int (L : Nat), .int (s : Nat)]) none
/-- a log that leads o to s, and s elsewhere -/
structure Way (t : Tbl) (s o : Nat) (ns : List Nat) : Prop where
  olt : o < wd t
  lt : ∀ n ∈ ns, n < t.length
  to : ledN t o ns = s
  ne : ledN t s ns ≠ s
/-- of the logs that go on so, each deed is the least one -/
def Greedy (t : Tbl) (s o L : Nat) (ns : List Nat) : Prop := ∀ (i d : Nat), ns[i]? = some d → ∀ (d' : Nat) (rest : List Nat), Way t s o (ns.take i ++ d' :: rest) → (ns.take i ++ d' :: rest).length = L → d ≤ d'
structure WayL (t : Tbl) (s L o : Nat) (ns : List Nat) : Prop where
  way : Way t s o ns
  len : ns.length = L
  ole : ∀ o' ns', Way t s o' ns' → ns'.length = L → o ≤ o'
  gr : Greedy t s o L ns
def sp_walk_of_length (C : Cs) : Spc := fun h ds Ψ _ => h = none ∧ ∃ (t : Tbl) (s L : Nat), Good t ∧ s < wd t ∧ 1 ≤ L ∧ L ≤ 40200 ∧ ds = [mach C t, .int (s : Nat), .int (L : Nat)] ∧ Part t s L ∧ ∀ o ns, WayL t s L o ns → Ψ (.tup [.int (o : Nat), rowD ns]) none
/-- the gates that a question about a number goes through -/
def gateW (C : Cs) (t : Tbl) (x y b : D) (Ξ : Addr → Str → D → Prop) (G : Nat → List Nat → Prop) : Prop := plain x ∧ ((modOk x = false ∧ Ξ C.Refused "at" x) ∨ ∃ m : Nat, x = .int (m : Nat) ∧ 1 ≤ m ∧ m ≤ 200 ∧
  ((y ≠ .non ∧ isNo y = false ∧ plain2 y ∧ startsOk (wd t) y = false ∧ Ξ C.Refused "at" y) ∨ ∃ ss : List Nat, ((y = .non ∧ ss = List.range (wd t)) ∨ (isNo y = false ∧ plain2 y ∧ startsOk (wd t) y = true ∧ seqD y = some (numsD ss))) ∧
    plain b ∧ ((bndOk b = false ∧ Ξ C.Refused "at" b) ∨ (bndOk b = true ∧ G m ss))))
structure Least (t : Tbl) (ss : List Nat) (m : Nat) (b : D) (s o : Nat) (ns : List Nat) : Prop where
  wr : Wr t ss m b ns.length s
  way : Way t s o ns
  le : ∀ L' s', Wr t ss m b L' s' → ns.length ≤ L'
  sle : ∀ s', Wr t ss m b ns.length s' → s ≤ s'
  wl : WayL t s ns.length o ns
def papD (s o : Nat) (ns : List Nat) : D := .tup [.str "wrap", .int (s : Nat), .int (o : Nat), rowD ns]
def sp_wrap_paper (C : Cs) : Spc := fun h ds Ψ Ξ => h = none ∧ ∃ t x y b, Good t ∧ ds = [mach C t, x, y, b] ∧ gateW C t x y b Ξ fun m ss => ((∀ L s, ¬ Wr t ss m b L s) → Ψ .non none) ∧ ∀ s o ns, ns.length ≤ 201 * m → Least t ss m b s o ns → Ψ (papD s o ns) none
open Classical in
noncomputable def enough (t : Tbl) (ss : List Nat) (m : Nat) (b : D) : Bool := decide (∀ L s, ¬ Wr t ss m b L s)
def sp_is_enough (C : Cs) : Spc := fun h ds Ψ Ξ => h = none ∧ ∃ t x y b, Good t ∧ ds = [mach C t, x, y, b] ∧ gateW C t x y b Ξ fun m ss => Ψ (.bl (enough t ss m b)) none
def sp_led_by (C : Cs) : Spc := fun h ds Ψ _ => h = none ∧ ∃ (t : Tbl) (s : Nat) (ns : List Nat) (y : D), Good t ∧ s < wd t ∧ ds = [mach C t, .int (s : Nat), .tup [y]] ∧ seqD y = some (numsD ns) ∧ (∀ n ∈ ns, n < t.length) ∧ ns.length ≤ 10000 ∧ Ψ (.int (ledN t s ns : Nat)) none
def sp_is_parting (C : Cs) : Spc := fun h ds Ψ _ => h = none ∧ ∃ (t : Tbl) (ss : List Nat) (s o : Nat) (ns : List Nat), Good t ∧ s ∈ ss ∧ s < wd t ∧ Way t s o ns ∧ ns.length ≤ 10000 ∧ ds = [mach C t, rowD ss, .int (s : Nat), .int (o : Nat), .tup [rowD ns]] ∧ Ψ (.bl true) none
def sp_wrap_holds (C : Cs) : Spc := fun h ds Ψ Ξ => h = none ∧ ∃ t x v y b, Good t ∧ ds = [mach C t, x, v, y, b] ∧ gateW C t x y b Ξ fun m ss => ∃ s o ns, v = papD s o ns ∧ Wr t ss m b ns.length s ∧ Way t s o ns ∧ ns.length ≤ 10000 ∧ Ψ (.bl true) none
/-! the law's own -/
def GoodB (o : OD) : Prop := ∃ a b : Int, 0 ≤ a ∧ o = .l [.int a, .int b]
def so_law_box (_ : Cs) : SpcO := fun ds Ψ => ∃ ns k, ds = [.scr ns, .int k] ∧ 0 ≤ k ∧ k < 1000 ∧ ns.length < 1000 ∧ ∀ o, GoodB o → Ψ o
def sp_law_take (_ : Cs) : Spc := fun h ds Ψ _ => ∃ o m, h = some o ∧ GoodB o ∧ ds = [.int m] ∧ 0 < m ∧ m < 1000000 ∧ ∀ d o', 0 ≤ d → d < m → GoodB o' → Ψ (.int d) (some o')
def sp_law_pick (_ : Cs) : Spc := fun h ds Ψ _ => ∃ o xs, h = some o ∧ GoodB o ∧ ds = [.lst xs] ∧ xs ≠ [] ∧ xs.length < 1000000 ∧ ∀ d o', d ∈ xs → GoodB o' → Ψ d (some o')
def tbsD (t : Tbl) : D := .lst (t.map rowD)
def sp_law_machine (_ : Cs) : Spc := fun h ds Ψ _ => ∃ o m k, h = some o ∧ GoodB o ∧ 1 ≤ m ∧ m ≤ 4 ∧ 1 ≤ k ∧ k ≤ 3 ∧ ds = [.int (m : Nat), .int (k : Nat)] ∧ ∀ t o', Good t → t.length = k → wd t = m → GoodB o' → Ψ (tbsD t) (some o')
/-- all tables of logs of so many deeds, each once -/
structure Layer (t : Tbl) (k : Nat) (la : Tbl) : Prop where
  len : la.length ≤ 3 ^ k
  mem : ∀ r, r ∈ la ↔ ∃ ns, ns.length = k ∧ (∀ n ∈ ns, n < t.length) ∧ r = endRow t ns
def laysD (ls : List Tbl) : D := .lst (ls.map tbsD)
def sp_law_layers (_ : Cs) : Spc := fun h ds Ψ _ => h = none ∧ ∃ t m, Good t ∧ t.length ≤ 3 ∧ m ≤ 8 ∧ ds = [tbsD t, .int (m : Nat)] ∧ ∀ ls : List Tbl, ls.length = m + 1 → (∀ (k : Nat) (la : Tbl), ls[k]? = some la → Layer t k la) → Ψ (laysD ls) none
def partsB (r : List Nat) (s : Nat) : Bool := decide (cellR r s ≠ s) && decide (s ∈ r)
def sp_law_parts (_ : Cs) : Spc := fun h ds Ψ _ => h = none ∧ ∃ (r : List Nat) (s : Nat), s < r.length ∧ ds = [rowD r, .int (s : Nat)] ∧ Ψ (.bl (partsB r s)) none

def sp_law_behind (_ : Cs) : Spc := fun h ds Ψ _ => h = none ∧ ∃ (t : Tbl) (s : Nat) (ns : List Nat) (y : D), Good t ∧ s < wd t ∧ (∀ n ∈ ns, n < t.length) ∧ ds = [tbsD t, .int (s : Nat), y] ∧ seqD y = some (numsD ns) ∧ Ψ (.int (ledN t s ns : Nat)) none
structure Clash (t : Tbl) (ns ss : List Nat) (m : Nat) (b : D) (i j : Nat) : Prop where
  lt : i < j
  le : j ≤ ns.length
  dvd : m ∣ j - i
  und : Under b (j - i)
  at' : ∃ s ∈ ss, s ∈ endRow t (ns.take i) ∧ s ∈ endRow t (ns.take j) ∧ ledN t s ((ns.take j).drop i) ≠ s
def sp_law_clash (_ : Cs) : Spc := fun h ds Ψ _ => h = none ∧ ∃ (t : Tbl) (ns ss : List Nat) (m : Nat) (b : D), Good t ∧ (∀ n ∈ ns, n < t.length) ∧ ns.length ≤ 10000 ∧ (∀ s ∈ ss, s < wd t) ∧ 1 ≤ m ∧ m ≤ 200 ∧ bndOk b = true ∧ ds = [tbsD t, .lst (numsD ns), .lst (numsD ss), .int (m : Nat), b] ∧
  ((∀ i j, ¬ Clash t ns ss m b i j) → Ψ .non none) ∧ ∀ i j, Clash t ns ss m b i j → Ψ (.tup [.int (i : Nat), .int (j : Nat)]) none
def sp_law_paper_right (_ : Cs) : Spc := fun h ds Ψ _ => h = none ∧ ∃ (t : Tbl) (ls : List Tbl) (ss : List Nat) (m : Nat) (b : D) (s o : Nat) (ns : List Nat), Good t ∧ ls.length = 9 ∧ (∀ (k : Nat) (la : Tbl), ls[k]? = some la → Layer t k la) ∧ (∀ s ∈ ss, s < wd t) ∧ ss.length ≤ 12 ∧ 1 ≤ m ∧ m ≤ 200 ∧ bndOk b = true ∧ Least t ss m b s o ns ∧ ns.length ≤ 40200 ∧
  ds = [tbsD t, laysD ls, papD s o ns, .lst (numsD ss), .int (m : Nat), b] ∧ Ψ (.bl true) none
def sp_law (_ : Cs) : Spc := spLaw fun ns => ns.length ≤ 63
section
variable {P : Program} {w : World} {K : Fg} {mg : Str → Option Value} {base : Heap} {t : List (Addr × Str)} {C : Cs}
abbrev x_is_integer (K : Fg) (C : Cs) : WS := (wRet (wAndV (wCB (wIsI K) (wCons (wVar 0) (wCons (wC (.raw (.ty "int"))) wNil))) (wNotV (wCB (wIsI K) (wCons (wVar 0) (wCons (wC (.raw (.ty "bool"))) wNil))))))
theorem dv_is_integer (T : Txt P w K mg base t C)  (cdv : Value) (A : Around) (outer : List Env) (s : Shared) (H : Hp) (E : XK) (c : Cok (cxOf (L2.CX P w) P w K mg base ["value"] "is_integer" (defScope (top 7)) C.f_is_integer cdv A outer s H E) (wishOf E) 1) :
    PSs (cxOf (L2.CX P w) P w K mg base ["value"] "is_integer" (defScope (top 7)) C.f_is_integer cdv A outer s H E) (defBody (top 7)) (lS K (tb0 t) (wishOf E) (x_is_integer K C)) := by
  exact (s_one (s_ret (e_and (e_blt call_isi ok_isI T.b_isinstance PyProof.Rows.Boot.isinstance (a_cons (e_var (i := 0)) (a_cons (e_ty T.b_int PyProof.Rows.Boot.int) a_nil))) (e_and1 (e_not (e_blt call_isi ok_isI T.b_isinstance PyProof.Rows.Boot.isinstance (a_cons (e_var (i := 0)) (a_cons (e_ty T.b_bool PyProof.Rows.Boot.bool) a_nil))))))))
abbrev x_is_below (K : Fg) (C : Cs) : WS := (wRet (wAndV (wCallA 1 0 (sp_is_integer C) (fun ds _ => ds) (wCons (wVar 0) wNil) wNil) (wChain wLe wLt (wC (.int 0)) (wVar 0) (wVar 1))))
theorem dv_is_below (T : Txt P w K mg base t C) (G_is_integer : FnG P w K mg base 2 C.f_is_integer C.d_is_integer ["value"] (lSp K t 1 (sp_is_integer C))) (U_is_integer : Dn K mg "is_integer" C.f_is_integer C.d_is_integer ["value"] 1) (cdv : Value) (A : Around) (outer : List Env) (s : Shared) (H : Hp) (E : XK) (c : Cok (cxOf (L2.CX P w) P w K mg base ["value", "many"] "is_below" (defScope (top 8)) C.f_is_below cdv A outer s H E) (wishOf E) 2) :
    PSs (cxOf (L2.CX P w) P w K mg base ["value", "many"] "is_below" (defScope (top 8)) C.f_is_below cdv A outer s H E) (defBody (top 8)) (lS K (tb0 t) (wishOf E) (x_is_below K C)) := by
  exact (s_one (s_ret (e_and (e_call c G_is_integer U_is_integer (a_cons (e_var (i := 0)) a_nil)) (e_and1 (e_leLt e_int (e_var (i := 0)) (e_var (i := 1)))))))
abbrev x_is_positive (K : Fg) (C : Cs) : WS := (wRet (wAndV (wCallA 1 0 (sp_is_integer C) (fun ds _ => ds) (wCons (wVar 0) wNil) wNil) (wOp wGt (wVar 0) (wC (.int 0)))))
theorem dv_is_positive (T : Txt P w K mg base t C) (G_is_integer : FnG P w K mg base 2 C.f_is_integer C.d_is_integer ["value"] (lSp K t 1 (sp_is_integer C))) (U_is_integer : Dn K mg "is_integer" C.f_is_integer C.d_is_integer ["value"] 1) (cdv : Value) (A : Around) (outer : List Env) (s : Shared) (H : Hp) (E : XK) (c : Cok (cxOf (L2.CX P w) P w K mg base ["value"] "is_positive" (defScope (top 9)) C.f_is_positive cdv A outer s H E) (wishOf E) 2) :
    PSs (cxOf (L2.CX P w) P w K mg base ["value"] "is_positive" (defScope (top 9)) C.f_is_positive cdv A outer s H E) (defBody (top 9)) (lS K (tb0 t) (wishOf E) (x_is_positive K C)) := by
  exact (s_one (s_ret (e_and (e_call c G_is_integer U_is_integer (a_cons (e_var (i := 0)) a_nil)) (e_and1 (e_gt (e_var (i := 0)) e_int)))))
abbrev x_is_sequence (K : Fg) (C : Cs) : WS := (wRet (wCB (wIsT K) (wCons (wVar 0) (wCons (wTup (wCons (wC (.raw (.ty "list"))) (wCons (wC (.raw (.ty "tuple"))) wNil))) wNil))))
theorem dv_is_sequence (T : Txt P w K mg base t C)  (cdv : Value) (A : Around) (outer : List Env) (s : Shared) (H : Hp) (E : XK) (c : Cok (cxOf (L2.CX P w) P w K mg base ["value"] "is_sequence" (defScope (top 10)) C.f_is_sequence cdv A outer s H E) (wishOf E) 1) :
    PSs (cxOf (L2.CX P w) P w K mg base ["value"] "is_sequence" (defScope (top 10)) C.f_is_sequence cdv A outer s H E) (defBody (top 10)) (lS K (tb0 t) (wishOf E) (x_is_sequence K C)) := by
  exact (s_one (s_ret (e_blt call_isiT ok_isT T.b_isinstance PyProof.Rows.Boot.isinstance (a_cons (e_var (i := 0)) (a_cons (e_tup (a_cons (e_ty T.b_list PyProof.Rows.Boot.list) (a_cons (e_ty T.b_tuple PyProof.Rows.Boot.tuple) a_nil))) a_nil)))))
abbrev x_is_sequence_of (K : Fg) (C : Cs) : WS := (wRet (wAndV (wCallA 1 0 (sp_is_sequence C) (fun ds _ => ds) (wCons (wVar 0) wNil) wNil) (wOp (wEq false) (wCB wLen (wCons (wVar 0) wNil)) (wVar 1))))
theorem dv_is_sequence_of (T : Txt P w K mg base t C) (G_is_sequence : FnG P w K mg base 2 C.f_is_sequence C.d_is_sequence ["value"] (lSp K t 1 (sp_is_sequence C))) (U_is_sequence : Dn K mg "is_sequence" C.f_is_sequence C.d_is_sequence ["value"] 1) (cdv : Value) (A : Around) (outer : List Env) (s : Shared) (H : Hp) (E : XK) (c : Cok (cxOf (L2.CX P w) P w K mg base ["value", "length"] "is_sequence_of" (defScope (top 11)) C.f_is_sequence_of cdv A outer s H E) (wishOf E) 2) :
    PSs (cxOf (L2.CX P w) P w K mg base ["value", "length"] "is_sequence_of" (defScope (top 11)) C.f_is_sequence_of cdv A outer s H E) (defBody (top 11)) (lS K (tb0 t) (wishOf E) (x_is_sequence_of K C)) := by
  exact (s_one (s_ret (e_and (e_call c G_is_sequence U_is_sequence (a_cons (e_var (i := 0)) a_nil)) (e_and1 (e_eq c (e_blt cr_lenD ok_len T.b_len PyProof.Rows.Boot.len (a_cons (e_var (i := 0)) a_nil)) (e_var (i := 1)))))))
abbrev x_is_ascending (K : Fg) (C : Cs) : WS := (wSeq (wIfS (wNot (wB (wCallA 1 0 (sp_is_sequence C) (fun ds _ => ds) (wCons (wVar 0) wNil) wNil))) (wRet (wC (.bl false))) wNext) (wSeq (wAsg 2 (wC (.int 0))) (wSeq (wFor (wiSeq (wVar 0)) (wgName 3) (wSeq (wIfS (wOr (wNot (wB (wCallA 2 0 (sp_is_below C) (fun ds _ => ds) (wCons (wVar 3) (wCons (wVar 1) wNil)) wNil))) (wB (wOp wLt (wVar 3) (wVar 2)))) (wRet (wC (.bl false))) wNext) (wAsg 2 (wOp wAdd (wVar 3) (wC (.int 1)))))) (wRet (wC (.bl true))))))
theorem dv_is_ascending (T : Txt P w K mg base t C) (G_is_below : FnG P w K mg base 3 C.f_is_below C.d_is_below ["value", "many"] (lSp K t 2 (sp_is_below C))) (U_is_below : Dn K mg "is_below" C.f_is_below C.d_is_below ["value", "many"] 2) (G_is_sequence : FnG P w K mg base 2 C.f_is_sequence C.d_is_sequence ["value"] (lSp K t 1 (sp_is_sequence C))) (U_is_sequence : Dn K mg "is_sequence" C.f_is_sequence C.d_is_sequence ["value"] 1) (cdv : Value) (A : Around) (outer : List Env) (s : Shared) (H : Hp) (E : XK) (c : Cok (cxOf (L2.CX P w) P w K mg base ["value", "many", "least", "item"] "is_ascending" (defScope (top 12)) C.f_is_ascending cdv A outer s H E) (wishOf E) 3) :
    PSs (cxOf (L2.CX P w) P w K mg base ["value", "many", "least", "item"] "is_ascending" (defScope (top 12)) C.f_is_ascending cdv A outer s H E) (defBody (top 12)) (lS K (tb0 t) (wishOf E) (x_is_ascending K C)) := by
  exact (s_cons (s_if (t_not (t_val (e_call c G_is_sequence U_is_sequence (a_cons (e_var (i := 0)) a_nil)))) (s_one (s_ret e_bl)) s_nil) (s_cons (s_set sc_is_ascending.nd 2 e_int) (s_cons (s_for (passes_of rfl) rfl (i_seq (e_var (i := 0))) (g_nm sc_is_ascending.nd 3) (s_cons (s_if (t_pw (q_or (t_not (t_val (e_call c G_is_below U_is_below (a_cons (e_var (i := 3)) (a_cons (e_var (i := 1)) a_nil))))) (q_or1 (t_lt (e_var (i := 3)) (e_var (i := 2)))))) (s_one (s_ret e_bl)) s_nil) (s_one (s_set sc_is_ascending.nd 2 (e_add (e_var (i := 3)) e_int))))) (s_one (s_ret e_bl)))))
abbrev x_fault_place (K : Fg) (C : Cs) : WS := (wSeq (wFor (wiEnum (wCons (wVar 0) wNil)) (wgTup 2 (wgCons (wgName 2) (wgCons (wgName 3) wgNil))) (wIfS (wNot (wB (wCallA 2 0 (sp_is_below C) (fun ds _ => ds) (wCons (wVar 3) (wCons (wVar 1) wNil)) wNil))) (wRet (wVar 2)) wNext)) (wRet (wC .non)))
theorem dv_fault_place (T : Txt P w K mg base t C) (G_is_below : FnG P w K mg base 3 C.f_is_below C.d_is_below ["value", "many"] (lSp K t 2 (sp_is_below C))) (U_is_below : Dn K mg "is_below" C.f_is_below C.d_is_below ["value", "many"] 2) (cdv : Value) (A : Around) (outer : List Env) (s : Shared) (H : Hp) (E : XK) (c : Cok (cxOf (L2.CX P w) P w K mg base ["value", "many", "at", "item"] "fault_place" (defScope (top 13)) C.f_fault_place cdv A outer s H E) (wishOf E) 3) :
    PSs (cxOf (L2.CX P w) P w K mg base ["value", "many", "at", "item"] "fault_place" (defScope (top 13)) C.f_fault_place cdv A outer s H E) (defBody (top 13)) (lS K (tb0 t) (wishOf E) (x_fault_place K C)) := by
  exact (s_cons (s_for (passes_of rfl) rfl (d_enum rfl T.b_enumerate (a_cons (e_var (i := 0)) a_nil)) (g_two sc_fault_place.nd rfl 2 3) (s_one (s_if (t_not (t_val (e_call c G_is_below U_is_below (a_cons (e_var (i := 3)) (a_cons (e_var (i := 1)) a_nil))))) (s_one (s_ret (e_var (i := 2)))) s_nil))) (s_one (s_ret e_non)))
abbrev x_pair_steps (K : Fg) (C : Cs) : WS := (wSeq (wAsg 1 (wFld C.Machine "states" (wVar 0))) (wSeq (wAsgO 2 (woLst wNil)) (wSeq (wFor (wiRg1 (wCons (wVar 1) wNil)) (wgName 3) (wFor (wiRg1 (wCons (wVar 1) wNil)) (wgName 4) (wSeq (wAsg 5 (wLc (wiSeq (wFld C.Machine "tables" (wVar 0))) (wgName 6) wTrue (wTup (wCons (wOp wIx (wVar 6) (wVar 3)) (wCons (wOp wIx (wVar 6) (wVar 4)) wNil))) [6])) (wApp 2 (wLc (wiEnum (wCons (wVar 5) wNil)) (wgSeq 2 (wgCons (wgName 7) (wgCons (wgName 8) wgNil))) (wB (wOp (wEq true) (wOp wIx (wVar 8) (wC (.int 0))) (wOp wIx (wVar 8) (wC (.int 1))))) (wTup (wCons (wVar 7) (wCons (wOp wAdd (wOp wMul (wOp wIx (wVar 8) (wC (.int 0))) (wVar 1)) (wOp wIx (wVar 8) (wC (.int 1)))) wNil))) [7, 8]))))) (wRet (wVar 2)))))
theorem dv_pair_steps (T : Txt P w K mg base t C)  (cdv : Value) (A : Around) (outer : List Env) (s : Shared) (H : Hp) (E : XK) (c : Cok (cxOf (L2.CX P w) P w K mg base ["machine", "many", "found", "one", "other", "led", "table", "deed", "pair"] "pair_steps" (defScope (top 15)) C.f_pair_steps cdv A outer s H E) (wishOf E) 1) :
    PSs (cxOf (L2.CX P w) P w K mg base ["machine", "many", "found", "one", "other", "led", "table", "deed", "pair"] "pair_steps" (defScope (top 15)) C.f_pair_steps cdv A outer s H E) (defBody (top 15)) (lS K (tb0 t) (wishOf E) (x_pair_steps K C)) := by
  exact (s_cons (s_set sc_pair_steps.nd 1 (e_fld T.cl_Machine T.na_Machine_states (e_var (i := 0)))) (s_cons (s_setO sc_pair_steps.nd 2 (o_lst a_nil)) (s_cons (s_for (passes_of rfl) rfl (i_rng1 T.b_range (a_cons (e_var (i := 1)) a_nil)) (g_nm sc_pair_steps.nd 3) (s_one (s_for (passes_of rfl) rfl (i_rng1 T.b_range (a_cons (e_var (i := 1)) a_nil)) (g_nm sc_pair_steps.nd 4) (s_cons (s_setLc 5 (own := [("table", 6)]) rfl sc_pair_steps.nd (i_seq (e_fld T.cl_Machine T.na_Machine_tables (e_var (i := 0)))) (blk_ok (by kernel_rfl)) (fun _ _ _ _ _ => (g_c 6 sc_pair_steps.nd)) (fun _ _ _ _ _ => f_nil) (fun _ _ _ _ _ => (e_tup (a_cons (e_ix (e_var (i := 6)) (e_var (i := 3))) (a_cons (e_ix (e_var (i := 6)) (e_var (i := 4))) a_nil))))) (s_one (s_app 2 (e_lc (own := [("deed", 7), ("pair", 8)]) rfl sc_pair_steps.nd (d_enum rfl T.b_enumerate (a_cons (e_var (i := 5)) a_nil)) (blk_ok (by kernel_rfl)) (fun _ _ _ _ _ => (g_c2S sc_pair_steps.nd rfl 7 8)) (fun _ _ _ _ _ => (f_one (t_ne (c.blk _ _ _ _ _) (e_ix (e_var (i := 8)) e_int) (e_ix (e_var (i := 8)) e_int)))) (fun _ _ _ _ _ => (e_tup (a_cons (e_var (i := 7)) (a_cons (e_add (e_mul (e_ix (e_var (i := 8)) e_int) (e_var (i := 1))) (e_ix (e_var (i := 8)) e_int)) a_nil))))))))))) (s_one (s_ret (e_var (i := 2)))))))
abbrev x_first_pairs (K : Fg) (C : Cs) : WS := (wRet (wLc (wiRg1 (wCons (wFld C.Machine "states" (wVar 0)) wNil)) (wgName 2) (wB (wOp (wEq true) (wVar 2) (wVar 1))) (wOp wAdd (wOp wMul (wVar 2) (wFld C.Machine "states" (wVar 0))) (wVar 1)) [2]))
theorem dv_first_pairs (T : Txt P w K mg base t C)  (cdv : Value) (A : Around) (outer : List Env) (s : Shared) (H : Hp) (E : XK) (c : Cok (cxOf (L2.CX P w) P w K mg base ["machine", "state", "other"] "first_pairs" (defScope (top 16)) C.f_first_pairs cdv A outer s H E) (wishOf E) 1) :
    PSs (cxOf (L2.CX P w) P w K mg base ["machine", "state", "other"] "first_pairs" (defScope (top 16)) C.f_first_pairs cdv A outer s H E) (defBody (top 16)) (lS K (tb0 t) (wishOf E) (x_first_pairs K C)) := by
  exact (s_one (s_ret (e_lc (own := [("other", 2)]) rfl sc_first_pairs.nd (i_rng1 T.b_range (a_cons (e_fld T.cl_Machine T.na_Machine_states (e_var (i := 0))) a_nil)) (blk_ok (by kernel_rfl)) (fun _ _ _ _ _ => (g_c 2 sc_first_pairs.nd)) (fun _ _ _ _ _ => (f_one (t_ne (c.blk _ _ _ _ _) (e_var (i := 2)) (e_var (i := 1))))) (fun _ _ _ _ _ => (e_add (e_mul (e_var (i := 2)) (e_fld T.cl_Machine T.na_Machine_states (e_var (i := 0)))) (e_var (i := 1)))))))
abbrev x_last_pairs (K : Fg) (C : Cs) : WS := (wRet (wLc (wiRg1 (wCons (wFld C.Machine "states" (wVar 0)) wNil)) (wgName 2) (wB (wOp (wEq true) (wVar 2) (wVar 1))) (wOp wAdd (wOp wMul (wVar 1) (wFld C.Machine "states" (wVar 0))) (wVar 2)) [2]))
theorem dv_last_pairs (T : Txt P w K mg base t C)  (cdv : Value) (A : Around) (outer : List Env) (s : Shared) (H : Hp) (E : XK) (c : Cok (cxOf (L2.CX P w) P w K mg base ["machine", "state", "other"] "last_pairs" (defScope (top 17)) C.f_last_pairs cdv A outer s H E) (wishOf E) 1) :
    PSs (cxOf (L2.CX P w) P w K mg base ["machine", "state", "other"] "last_pairs" (defScope (top 17)) C.f_last_pairs cdv A outer s H E) (defBody (top 17)) (lS K (tb0 t) (wishOf E) (x_last_pairs K C)) := by
  exact (s_one (s_ret (e_lc (own := [("other", 2)]) rfl sc_last_pairs.nd (i_rng1 T.b_range (a_cons (e_fld T.cl_Machine T.na_Machine_states (e_var (i := 0))) a_nil)) (blk_ok (by kernel_rfl)) (fun _ _ _ _ _ => (g_c 2 sc_last_pairs.nd)) (fun _ _ _ _ _ => (f_one (t_ne (c.blk _ _ _ _ _) (e_var (i := 2)) (e_var (i := 1))))) (fun _ _ _ _ _ => (e_add (e_mul (e_var (i := 1)) (e_fld T.cl_Machine T.na_Machine_states (e_var (i := 0)))) (e_var (i := 2)))))))
abbrev x_lot_of (K : Fg) (C : Cs) : WS := (wSeq (wAsg 1 (wC (.int 0))) (wSeq (wFor (wiSeq (wVar 0)) (wgName 2) (wAug Builtin.bitOr 1 (wOp wShl (wC (.int 1)) (wVar 2)))) (wRet (wVar 1))))
theorem dv_lot_of (T : Txt P w K mg base t C)  (cdv : Value) (A : Around) (outer : List Env) (s : Shared) (H : Hp) (E : XK) (c : Cok (cxOf (L2.CX P w) P w K mg base ["pairs", "lot", "pair"] "lot_of" (defScope (top 18)) C.f_lot_of cdv A outer s H E) (wishOf E) 1) :
    PSs (cxOf (L2.CX P w) P w K mg base ["pairs", "lot", "pair"] "lot_of" (defScope (top 18)) C.f_lot_of cdv A outer s H E) (defBody (top 18)) (lS K (tb0 t) (wishOf E) (x_lot_of K C)) := by
  exact (s_cons (s_set sc_lot_of.nd 1 e_int) (s_cons (s_for (passes_of rfl) rfl (i_seq (e_var (i := 0))) (g_nm sc_lot_of.nd 2) (s_one (s_augBOr sc_lot_of.nd 1 (e_shl e_int (e_var (i := 2)))))) (s_one (s_ret (e_var (i := 1))))))
abbrev x_members (K : Fg) (C : Cs) : WS := (wSeq (wAsgO 1 (woLst wNil)) (wSeq (wWhile (wB (wOp (wEq true) (wVar 0) (wC (.int 0)))) (wSeq (wAsg 2 (wOp wBAnd (wVar 0) (wOp wSub (wVar 0) (wC (.int 1))))) (wSeq (wApp 1 (wOp wSub (wBits (wOp wBXor (wVar 0) (wVar 2))) (wC (.int 1)))) (wAsg 0 (wVar 2))))) (wRet (wVar 1))))
theorem dv_members (T : Txt P w K mg base t C)  (cdv : Value) (A : Around) (outer : List Env) (s : Shared) (H : Hp) (E : XK) (c : Cok (cxOf (L2.CX P w) P w K mg base ["lot", "found", "rest"] "members" (defScope (top 19)) C.f_members cdv A outer s H E) (wishOf E) 1) :
    PSs (cxOf (L2.CX P w) P w K mg base ["lot", "found", "rest"] "members" (defScope (top 19)) C.f_members cdv A outer s H E) (defBody (top 19)) (lS K (tb0 t) (wishOf E) (x_members K C)) := by
  exact (s_cons (s_setO sc_members.nd 1 (o_lst a_nil)) (s_cons (s_while (passes_of rfl) (t_ne c (e_var (i := 0)) e_int) (s_cons (s_set sc_members.nd 2 (e_band (e_var (i := 0)) (e_sub (e_var (i := 0)) e_int))) (s_cons (s_app 1 (e_sub (e_bits (e_bxor (e_var (i := 0)) (e_var (i := 2)))) e_int)) (s_one (s_set sc_members.nd 0 (e_var (i := 2))))))) (s_one (s_ret (e_var (i := 1))))))
abbrev x_is_in (K : Fg) (C : Cs) : WS := (wRet (wOp (wEq true) (wOp wBAnd (wVar 0) (wOp wShl (wC (.int 1)) (wVar 1))) (wC (.int 0))))
theorem dv_is_in (T : Txt P w K mg base t C)  (cdv : Value) (A : Around) (outer : List Env) (s : Shared) (H : Hp) (E : XK) (c : Cok (cxOf (L2.CX P w) P w K mg base ["lot", "pair"] "is_in" (defScope (top 20)) C.f_is_in cdv A outer s H E) (wishOf E) 1) :
    PSs (cxOf (L2.CX P w) P w K mg base ["lot", "pair"] "is_in" (defScope (top 20)) C.f_is_in cdv A outer s H E) (defBody (top 20)) (lS K (tb0 t) (wishOf E) (x_is_in K C)) := by
  exact (s_one (s_ret (e_ne c (e_band (e_var (i := 0)) (e_shl e_int (e_var (i := 1)))) e_int)))
abbrev x_next_lots (K : Fg) (C : Cs) : WS := (wRet (wLc (wiSeq (wVar 0)) (wgName 1) wTrue (wCallA 1 0 (sp_lot_of C) (fun ds _ => ds) (wCons (wLc (wiSeq (wVar 1)) (wgSeq 2 (wgCons (wgName 2) (wgCons (wgName 3) wgNil))) wTrue (wVar 3) [2, 3]) wNil) wNil) [1]))
theorem dv_next_lots (T : Txt P w K mg base t C) (G_lot_of : FnG P w K mg base 2 C.f_lot_of C.d_lot_of ["pairs"] (lSp K t 1 (sp_lot_of C))) (U_lot_of : Dn K mg "lot_of" C.f_lot_of C.d_lot_of ["pairs"] 1) (cdv : Value) (A : Around) (outer : List Env) (s : Shared) (H : Hp) (E : XK) (c : Cok (cxOf (L2.CX P w) P w K mg base ["steps", "row", "_", "later"] "next_lots" (defScope (top 21)) C.f_next_lots cdv A outer s H E) (wishOf E) 2) :
    PSs (cxOf (L2.CX P w) P w K mg base ["steps", "row", "_", "later"] "next_lots" (defScope (top 21)) C.f_next_lots cdv A outer s H E) (defBody (top 21)) (lS K (tb0 t) (wishOf E) (x_next_lots K C)) := by
  exact (s_one (s_ret (e_lc (own := [("row", 1)]) rfl sc_next_lots.nd (i_seq (e_var (i := 0))) (blk_ok (by kernel_rfl)) (fun _ _ _ _ _ => (g_c 1 sc_next_lots.nd)) (fun _ _ _ _ _ => f_nil) (fun _ _ _ _ _ => (e_call (c.blk _ _ _ _ _) G_lot_of U_lot_of (a_cons (e_lc (own := [("_", 2), ("later", 3)]) rfl sc_next_lots.nd (i_seq (e_var (i := 1))) (blk_ok (by kernel_rfl)) (fun _ _ _ _ _ => (g_c2S sc_next_lots.nd rfl 2 3)) (fun _ _ _ _ _ => f_nil) (fun _ _ _ _ _ => (e_var (i := 3)))) a_nil))))))
abbrev x_earlier_lots (K : Fg) (C : Cs) : WS := (wSeq (wAsgO 1 (woMul (wLst (wCons (wC (.int 0)) wNil)) (wCB wLen (wCons (wVar 0) wNil)))) (wSeq (wFor (wiEnum (wCons (wVar 0) wNil)) (wgTup 2 (wgCons (wgName 2) (wgCons (wgName 3) wgNil))) (wFor (wiSeq (wCallA 1 0 (sp_members C) (fun ds _ => ds) (wCons (wVar 3) wNil) wNil)) (wgName 4) (wAugO Builtin.bitOr 1 (wVar 4) (wOp wShl (wC (.int 1)) (wVar 2))))) (wRet (wVar 1))))
theorem dv_earlier_lots (T : Txt P w K mg base t C) (G_members : FnG P w K mg base 2 C.f_members C.d_members ["lot"] (lSp K t 1 (sp_members C))) (U_members : Dn K mg "members" C.f_members C.d_members ["lot"] 1) (cdv : Value) (A : Around) (outer : List Env) (s : Shared) (H : Hp) (E : XK) (c : Cok (cxOf (L2.CX P w) P w K mg base ["nexts", "found", "pair", "lot", "later"] "earlier_lots" (defScope (top 22)) C.f_earlier_lots cdv A outer s H E) (wishOf E) 2) :
    PSs (cxOf (L2.CX P w) P w K mg base ["nexts", "found", "pair", "lot", "later"] "earlier_lots" (defScope (top 22)) C.f_earlier_lots cdv A outer s H E) (defBody (top 22)) (lS K (tb0 t) (wishOf E) (x_earlier_lots K C)) := by
  exact (s_cons (s_setO sc_earlier_lots.nd 1 (o_mul (e_lst (a_cons e_int a_nil)) (e_blt cr_lenD ok_len T.b_len PyProof.Rows.Boot.len (a_cons (e_var (i := 0)) a_nil)))) (s_cons (s_for (passes_of rfl) rfl (d_enum rfl T.b_enumerate (a_cons (e_var (i := 0)) a_nil)) (g_two sc_earlier_lots.nd rfl 2 3) (s_one (s_for (passes_of rfl) rfl (i_seq (e_call c G_members U_members (a_cons (e_var (i := 3)) a_nil))) (g_nm sc_earlier_lots.nd 4) (s_one (s_augOOr 1 (e_var (i := 4)) (e_shl e_int (e_var (i := 2)))))))) (s_one (s_ret (e_var (i := 1))))))
abbrev x_led_lot (K : Fg) (C : Cs) : WS := (wSeq (wAsg 2 (wC (.int 0))) (wSeq (wFor (wiSeq (wCallA 1 0 (sp_members C) (fun ds _ => ds) (wCons (wVar 1) wNil) wNil)) (wgName 3) (wAug Builtin.bitOr 2 (wOp wIx (wVar 0) (wVar 3)))) (wRet (wVar 2))))
theorem dv_led_lot (T : Txt P w K mg base t C) (G_members : FnG P w K mg base 2 C.f_members C.d_members ["lot"] (lSp K t 1 (sp_members C))) (U_members : Dn K mg "members" C.f_members C.d_members ["lot"] 1) (cdv : Value) (A : Around) (outer : List Env) (s : Shared) (H : Hp) (E : XK) (c : Cok (cxOf (L2.CX P w) P w K mg base ["nexts", "lot", "found", "pair"] "led_lot" (defScope (top 23)) C.f_led_lot cdv A outer s H E) (wishOf E) 2) :
    PSs (cxOf (L2.CX P w) P w K mg base ["nexts", "lot", "found", "pair"] "led_lot" (defScope (top 23)) C.f_led_lot cdv A outer s H E) (defBody (top 23)) (lS K (tb0 t) (wishOf E) (x_led_lot K C)) := by
  exact (s_cons (s_set sc_led_lot.nd 2 e_int) (s_cons (s_for (passes_of rfl) rfl (i_seq (e_call c G_members U_members (a_cons (e_var (i := 1)) a_nil))) (g_nm sc_led_lot.nd 3) (s_one (s_augBOr sc_led_lot.nd 2 (e_ix (e_var (i := 0)) (e_var (i := 3)))))) (s_one (s_ret (e_var (i := 2))))))
abbrev x_lots_behind (K : Fg) (C : Cs) (self : Spc) : WS := (wSeq (wIfS (wB (wOp (wEq false) (wVar 1) (wC (.int 1)))) (wRet (wVar 0)) wNext) (wSeq (wAsg 2 (wCallA 2 0 self (fun ds _ => ds) (wCons (wVar 0) (wCons (wOp wDiv (wVar 1) (wC (.int 2))) wNil)) wNil)) (wSeq (wAsg 3 (wLc (wiSeq (wVar 2)) (wgName 4) wTrue (wCallA 2 0 (sp_led_lot C) (fun ds _ => ds) (wCons (wVar 2) (wCons (wVar 4) wNil)) wNil) [4])) (wSeq (wIfS (wB (wOp (wEq false) (wOp wMod (wVar 1) (wC (.int 2))) (wC (.int 1)))) (wRet (wLc (wiSeq (wVar 3)) (wgName 4) wTrue (wCallA 2 0 (sp_led_lot C) (fun ds _ => ds) (wCons (wVar 0) (wCons (wVar 4) wNil)) wNil) [4])) wNext) (wRet (wVar 3))))))
theorem dv_lots_behind (T : Txt P w K mg base t C) (U_lots_behind : Dn K mg "lots_behind" C.f_lots_behind C.d_lots_behind ["nexts", "many"] 2) (G_led_lot : FnG P w K mg base 3 C.f_led_lot C.d_led_lot ["nexts", "lot"] (lSp K t 2 (sp_led_lot C))) (U_led_lot : Dn K mg "led_lot" C.f_led_lot C.d_led_lot ["nexts", "lot"] 2) {kk : Nat} (hk : 3 ≤ kk) (self : Spc) (GR : FnG P w K mg base kk C.f_lots_behind C.d_lots_behind ["nexts", "many"] (lSp K t 2 self)) (cdv : Value) (A : Around) (outer : List Env) (s : Shared) (H : Hp) (E : XK) (c : Cok (cxOf (L2.CX P w) P w K mg base ["nexts", "many", "half", "found", "lot"] "lots_behind" (defScope (top 24)) C.f_lots_behind cdv A outer s H E) (wishOf E) kk) :
    PSs (cxOf (L2.CX P w) P w K mg base ["nexts", "many", "half", "found", "lot"] "lots_behind" (defScope (top 24)) C.f_lots_behind cdv A outer s H E) (defBody (top 24)) (lS K (tb0 t) (wishOf E) (x_lots_behind K C self)) := by
  have cm := c.mono hk
  exact (s_cons (s_if (t_eq cm (e_var (i := 1)) e_int) (s_one (s_ret (e_var (i := 0)))) s_nil) (s_cons (s_set sc_lots_behind.nd 2 (e_call c GR U_lots_behind (hj := Nat.le_refl _) (a_cons (e_var (i := 0)) (a_cons (e_div (e_var (i := 1)) e_int) a_nil)))) (s_cons (s_setLc 3 (own := [("lot", 4)]) rfl sc_lots_behind.nd (i_seq (e_var (i := 2))) (blk_ok (by kernel_rfl)) (fun _ _ _ _ _ => (g_c 4 sc_lots_behind.nd)) (fun _ _ _ _ _ => f_nil) (fun _ _ _ _ _ => (e_call (cm.blk _ _ _ _ _) G_led_lot U_led_lot (a_cons (e_var (i := 2)) (a_cons (e_var (i := 4)) a_nil))))) (s_cons (s_if (t_eq cm (e_mod (e_var (i := 1)) e_int) e_int) (s_one (s_ret (e_lc (own := [("lot", 4)]) rfl sc_lots_behind.nd (i_seq (e_var (i := 3))) (blk_ok (by kernel_rfl)) (fun _ _ _ _ _ => (g_c 4 sc_lots_behind.nd)) (fun _ _ _ _ _ => f_nil) (fun _ _ _ _ _ => (e_call (cm.blk _ _ _ _ _) G_led_lot U_led_lot (a_cons (e_var (i := 0)) (a_cons (e_var (i := 4)) a_nil))))))) s_nil) (s_one (s_ret (e_var (i := 3))))))))
abbrev x_is_table (K : Fg) (C : Cs) : WS := (wSeq (wIfS (wOr (wNot (wB (wCallA 1 0 (sp_is_sequence C) (fun ds _ => ds) (wCons (wVar 0) wNil) wNil))) (wNot (wB (wChain wLe wLe (wC (.int 1)) (wCB wLen (wCons (wVar 0) wNil)) (wC (.int 12)))))) (wRet (wC (.bl false))) wNext) (wRet (wOp (wIsN false) (wCallA 2 0 (sp_fault_place C) (fun ds _ => ds) (wCons (wVar 0) (wCons (wCB wLen (wCons (wVar 0) wNil)) wNil)) wNil) (wC .non))))
theorem dv_is_table (T : Txt P w K mg base t C) (G_fault_place : FnG P w K mg base 4 C.f_fault_place C.d_fault_place ["value", "many"] (lSp K t 2 (sp_fault_place C))) (U_fault_place : Dn K mg "fault_place" C.f_fault_place C.d_fault_place ["value", "many"] 2) (G_is_sequence : FnG P w K mg base 2 C.f_is_sequence C.d_is_sequence ["value"] (lSp K t 1 (sp_is_sequence C))) (U_is_sequence : Dn K mg "is_sequence" C.f_is_sequence C.d_is_sequence ["value"] 1) (cdv : Value) (A : Around) (outer : List Env) (s : Shared) (H : Hp) (E : XK) (c : Cok (cxOf (L2.CX P w) P w K mg base ["value"] "is_table" (defScope (top 29)) C.f_is_table cdv A outer s H E) (wishOf E) 4) :
    PSs (cxOf (L2.CX P w) P w K mg base ["value"] "is_table" (defScope (top 29)) C.f_is_table cdv A outer s H E) (defBody (top 29)) (lS K (tb0 t) (wishOf E) (x_is_table K C)) := by
  exact (s_cons (s_if (t_pw (q_or (t_not (t_val (e_call c G_is_sequence U_is_sequence (a_cons (e_var (i := 0)) a_nil)))) (q_or1 (t_not (t_leLe e_int (e_blt cr_lenD ok_len T.b_len PyProof.Rows.Boot.len (a_cons (e_var (i := 0)) a_nil)) (e_globI T.MOST_STATES)))))) (s_one (s_ret e_bl)) s_nil) (s_one (s_ret (e_isN (e_call c G_fault_place U_fault_place (a_cons (e_var (i := 0)) (a_cons (e_blt cr_lenD ok_len T.b_len PyProof.Rows.Boot.len (a_cons (e_var (i := 0)) a_nil)) a_nil))) e_non))))
abbrev x_check_tables (K : Fg) (C : Cs) : WS := (wSeq (wIfS (wOr (wNot (wB (wCallA 1 0 (sp_is_sequence C) (fun ds _ => ds) (wCons (wVar 0) wNil) wNil))) (wNot (wB (wChain wLe wLe (wC (.int 1)) (wCB wLen (wCons (wVar 0) wNil)) (wC (.int 8)))))) (wRaise C.BadMachine "at" (wCons (wUn wNeg (wC (.int 1))) wNil)) wNext) (wSeq (wFor (wiEnum (wCons (wVar 0) wNil)) (wgTup 2 (wgCons (wgName 1) (wgCons (wgName 2) wgNil))) (wIfS (wOr (wNot (wB (wCallA 1 0 (sp_is_table C) (fun ds _ => ds) (wCons (wVar 2) wNil) wNil))) (wB (wOp (wEq true) (wCB wLen (wCons (wVar 2) wNil)) (wCB wLen (wCons (wOp wIx (wVar 0) (wC (.int 0))) wNil))))) (wRaise C.BadMachine "at" (wCons (wVar 1) wNil)) wNext)) (wRet (wCB wTupOf (wCons (wLc (wiSeq (wVar 0)) (wgName 2) wTrue (wCB wTupOf (wCons (wVar 2) wNil)) [2]) wNil)))))
theorem dv_check_tables (T : Txt P w K mg base t C) (G_is_sequence : FnG P w K mg base 2 C.f_is_sequence C.d_is_sequence ["value"] (lSp K t 1 (sp_is_sequence C))) (U_is_sequence : Dn K mg "is_sequence" C.f_is_sequence C.d_is_sequence ["value"] 1) (G_is_table : FnG P w K mg base 5 C.f_is_table C.d_is_table ["value"] (lSp K t 1 (sp_is_table C))) (U_is_table : Dn K mg "is_table" C.f_is_table C.d_is_table ["value"] 1) (cdv : Value) (A : Around) (outer : List Env) (s : Shared) (H : Hp) (E : XK) (c : Cok (cxOf (L2.CX P w) P w K mg base ["value", "at", "table"] "check_tables" (defScope (top 30)) C.f_check_tables cdv A outer s H E) (wishOf E) 5) :
    PSs (cxOf (L2.CX P w) P w K mg base ["value", "at", "table"] "check_tables" (defScope (top 30)) C.f_check_tables cdv A outer s H E) (defBody (top 30)) (lS K (tb0 t) (wishOf E) (x_check_tables K C)) := by
  exact (s_cons (s_if (t_pw (q_or (t_not (t_val (e_call c G_is_sequence U_is_sequence (a_cons (e_var (i := 0)) a_nil)))) (q_or1 (t_not (t_leLe e_int (e_blt cr_lenD ok_len T.b_len PyProof.Rows.Boot.len (a_cons (e_var (i := 0)) a_nil)) (e_globI T.MOST_TABLES)))))) (s_one (s_raise rfl c T.er_BadMachine (T.in_BadMachine _) T.bi_BadMachine passes_none T.BadMachine (a_cons (e_neg e_int) a_nil))) s_nil) (s_cons (s_for (passes_of rfl) rfl (d_enum rfl T.b_enumerate (a_cons (e_var (i := 0)) a_nil)) (g_two sc_check_tables.nd rfl 1 2) (s_one (s_if (t_pw (q_or (t_not (t_val (e_call c G_is_table U_is_table (a_cons (e_var (i := 2)) a_nil)))) (q_or1 (t_ne c (e_blt cr_lenD ok_len T.b_len PyProof.Rows.Boot.len (a_cons (e_var (i := 2)) a_nil)) (e_blt cr_lenD ok_len T.b_len PyProof.Rows.Boot.len (a_cons (e_ix (e_var (i := 0)) e_int) a_nil)))))) (s_one (s_raise rfl c T.er_BadMachine (T.in_BadMachine _) T.bi_BadMachine passes_none T.BadMachine (a_cons (e_var (i := 1)) a_nil))) s_nil))) (s_one (s_ret (e_bty call_tuple_of ok_tupOf T.b_tuple PyProof.Rows.Boot.tuple (a_cons (e_lc (own := [("table", 2)]) rfl sc_check_tables.nd (i_seq (e_var (i := 0))) (blk_ok (by kernel_rfl)) (fun _ _ _ _ _ => (g_c 2 sc_check_tables.nd)) (fun _ _ _ _ _ => f_nil) (fun _ _ _ _ _ => (e_bty call_tuple_of ok_tupOf T.b_tuple PyProof.Rows.Boot.tuple (a_cons (e_var (i := 2)) a_nil)))) a_nil))))))
abbrev x_Machine_init (K : Fg) (C : Cs) : WS := (wSeq (wFset C.Machine "tables" 0 (wCallA 1 0 (sp_check_tables C) (fun ds _ => ds) (wCons (wVar 1) wNil) wNil)) (wSeq (wFset C.Machine "deeds" 0 (wCB wLen (wCons (wFldO C.Machine "tables" 0) wNil))) (wFset C.Machine "states" 0 (wCB wLen (wCons (wOp wIx (wFldO C.Machine "tables" 0) (wC (.int 0))) wNil)))))
theorem dv_Machine_init (T : Txt P w K mg base t C) (G_check_tables : FnG P w K mg base 6 C.f_check_tables C.d_check_tables ["value"] (lSp K t 1 (sp_check_tables C))) (U_check_tables : Dn K mg "check_tables" C.f_check_tables C.d_check_tables ["value"] 1) (cdv : Value) (A : Around) (outer : List Env) (s : Shared) (H : Hp) (E : XK) (c : Cok (cxOf (L2.CX P w) P w K mg base ["self", "tables"] "Machine.__init__" (defScope (inClass (top 31) 0)) C.f_Machine_init cdv A outer s H E) (wishOf E) 6) :
    PSs (cxOf (L2.CX P w) P w K mg base ["self", "tables"] "Machine.__init__" (defScope (inClass (top 31) 0)) C.f_Machine_init cdv A outer s H E) (defBody (inClass (top 31) 0)) (lS K (tb0 t) (wishOf E) (x_Machine_init K C)) := by
  exact (s_cons (s_fset 0 T.cl_Machine T.na_Machine_tables (e_call c G_check_tables U_check_tables (a_cons (e_var (i := 1)) a_nil))) (s_cons (s_fset 0 T.cl_Machine T.na_Machine_deeds (e_blt cr_lenD ok_len T.b_len PyProof.Rows.Boot.len (a_cons (e_fldO (i := 0) T.cl_Machine T.na_Machine_tables) a_nil))) (s_one (s_fset 0 T.cl_Machine T.na_Machine_states (e_blt cr_lenD ok_len T.b_len PyProof.Rows.Boot.len (a_cons (e_ix (e_fldO (i := 0) T.cl_Machine T.na_Machine_tables) e_int) a_nil))))))
abbrev x_check_state (K : Fg) (C : Cs) : WS := (wIfS (wNot (wB (wCallA 2 0 (sp_is_below C) (fun ds _ => ds) (wCons (wVar 1) (wCons (wFld C.Machine "states" (wVar 0)) wNil)) wNil))) (wRaise C.NoState "state" (wCons (wVar 1) wNil)) wNext)
theorem dv_check_state (T : Txt P w K mg base t C) (G_is_below : FnG P w K mg base 3 C.f_is_below C.d_is_below ["value", "many"] (lSp K t 2 (sp_is_below C))) (U_is_below : Dn K mg "is_below" C.f_is_below C.d_is_below ["value", "many"] 2) (cdv : Value) (A : Around) (outer : List Env) (s : Shared) (H : Hp) (E : XK) (c : Cok (cxOf (L2.CX P w) P w K mg base ["machine", "value"] "check_state" (defScope (top 32)) C.f_check_state cdv A outer s H E) (wishOf E) 3) :
    PSs (cxOf (L2.CX P w) P w K mg base ["machine", "value"] "check_state" (defScope (top 32)) C.f_check_state cdv A outer s H E) (defBody (top 32)) (lS K (tb0 t) (wishOf E) (x_check_state K C)) := by
  exact (s_one (s_if (t_not (t_val (e_call c G_is_below U_is_below (a_cons (e_var (i := 1)) (a_cons (e_fld T.cl_Machine T.na_Machine_states (e_var (i := 0))) a_nil))))) (s_one (s_raise rfl c T.er_NoState (T.in_NoState _) T.bi_NoState passes_none T.NoState (a_cons (e_var (i := 1)) a_nil))) s_nil))
abbrev x_log_fault (K : Fg) (C : Cs) : WS := (wSeq (wIfS (wOr (wNot (wB (wCallA 1 0 (sp_is_sequence C) (fun ds _ => ds) (wCons (wVar 1) wNil) wNil))) (wB (wOp wGt (wCB wLen (wCons (wVar 1) wNil)) (wC (.int 10000))))) (wRet (wUn wNeg (wC (.int 1)))) wNext) (wRet (wCallA 2 0 (sp_fault_place C) (fun ds _ => ds) (wCons (wVar 1) (wCons (wFld C.Machine "deeds" (wVar 0)) wNil)) wNil)))
theorem dv_log_fault (T : Txt P w K mg base t C) (G_fault_place : FnG P w K mg base 4 C.f_fault_place C.d_fault_place ["value", "many"] (lSp K t 2 (sp_fault_place C))) (U_fault_place : Dn K mg "fault_place" C.f_fault_place C.d_fault_place ["value", "many"] 2) (G_is_sequence : FnG P w K mg base 2 C.f_is_sequence C.d_is_sequence ["value"] (lSp K t 1 (sp_is_sequence C))) (U_is_sequence : Dn K mg "is_sequence" C.f_is_sequence C.d_is_sequence ["value"] 1) (cdv : Value) (A : Around) (outer : List Env) (s : Shared) (H : Hp) (E : XK) (c : Cok (cxOf (L2.CX P w) P w K mg base ["machine", "value"] "log_fault" (defScope (top 33)) C.f_log_fault cdv A outer s H E) (wishOf E) 4) :
    PSs (cxOf (L2.CX P w) P w K mg base ["machine", "value"] "log_fault" (defScope (top 33)) C.f_log_fault cdv A outer s H E) (defBody (top 33)) (lS K (tb0 t) (wishOf E) (x_log_fault K C)) := by
  exact (s_cons (s_if (t_pw (q_or (t_not (t_val (e_call c G_is_sequence U_is_sequence (a_cons (e_var (i := 1)) a_nil)))) (q_or1 (t_gt (e_blt cr_lenD ok_len T.b_len PyProof.Rows.Boot.len (a_cons (e_var (i := 1)) a_nil)) (e_globI T.MOST_DEEDS))))) (s_one (s_ret (e_neg e_int))) s_nil) (s_one (s_ret (e_call c G_fault_place U_fault_place (a_cons (e_var (i := 1)) (a_cons (e_fld T.cl_Machine T.na_Machine_deeds (e_var (i := 0))) a_nil))))))
abbrev x_check_log (K : Fg) (C : Cs) : WS := (wSeq (wAsg 2 (wCallA 2 0 (sp_log_fault C) (fun ds _ => ds) (wCons (wVar 0) (wCons (wVar 1) wNil)) wNil)) (wSeq (wIfS (wB (wOp (wIsN true) (wVar 2) (wC .non))) (wRaise C.BadLog "at" (wCons (wVar 2) wNil)) wNext) (wRet (wCB wTupOf (wCons (wVar 1) wNil)))))
theorem dv_check_log (T : Txt P w K mg base t C) (G_log_fault : FnG P w K mg base 5 C.f_log_fault C.d_log_fault ["machine", "value"] (lSp K t 2 (sp_log_fault C))) (U_log_fault : Dn K mg "log_fault" C.f_log_fault C.d_log_fault ["machine", "value"] 2) (cdv : Value) (A : Around) (outer : List Env) (s : Shared) (H : Hp) (E : XK) (c : Cok (cxOf (L2.CX P w) P w K mg base ["machine", "value", "at"] "check_log" (defScope (top 34)) C.f_check_log cdv A outer s H E) (wishOf E) 5) :
    PSs (cxOf (L2.CX P w) P w K mg base ["machine", "value", "at"] "check_log" (defScope (top 34)) C.f_check_log cdv A outer s H E) (defBody (top 34)) (lS K (tb0 t) (wishOf E) (x_check_log K C)) := by
  exact (s_cons (s_set sc_check_log.nd 2 (e_call c G_log_fault U_log_fault (a_cons (e_var (i := 0)) (a_cons (e_var (i := 1)) a_nil)))) (s_cons (s_if (t_notN (e_var (i := 2)) e_non) (s_one (s_raise rfl c T.er_BadLog (T.in_BadLog _) T.bi_BadLog passes_none T.BadLog (a_cons (e_var (i := 2)) a_nil))) s_nil) (s_one (s_ret (e_bty call_tuple_of ok_tupOf T.b_tuple PyProof.Rows.Boot.tuple (a_cons (e_var (i := 1)) a_nil))))))
abbrev x_check_starts (K : Fg) (C : Cs) : WS := (wSeq (wIfS (wB (wOp (wIsN false) (wVar 1) (wC .non))) (wRet (wRgT (wCons (wFld C.Machine "states" (wVar 0)) wNil))) wNext) (wSeq (wIfS (wOr (wNot (wB (wCallA 2 0 (sp_is_ascending C) (fun ds _ => ds) (wCons (wVar 1) (wCons (wFld C.Machine "states" (wVar 0)) wNil)) wNil))) (wB (wOp (wEq false) (wCB wLen (wCons (wVar 1) wNil)) (wC (.int 0))))) (wRaise C.Refused "at" (wCons (wVar 1) wNil)) wNext) (wRet (wCB wTupOf (wCons (wVar 1) wNil)))))
theorem dv_check_starts (T : Txt P w K mg base t C) (G_is_ascending : FnG P w K mg base 4 C.f_is_ascending C.d_is_ascending ["value", "many"] (lSp K t 2 (sp_is_ascending C))) (U_is_ascending : Dn K mg "is_ascending" C.f_is_ascending C.d_is_ascending ["value", "many"] 2) (cdv : Value) (A : Around) (outer : List Env) (s : Shared) (H : Hp) (E : XK) (c : Cok (cxOf (L2.CX P w) P w K mg base ["machine", "value"] "check_starts" (defScope (top 35)) C.f_check_starts cdv A outer s H E) (wishOf E) 4) :
    PSs (cxOf (L2.CX P w) P w K mg base ["machine", "value"] "check_starts" (defScope (top 35)) C.f_check_starts cdv A outer s H E) (defBody (top 35)) (lS K (tb0 t) (wishOf E) (x_check_starts K C)) := by
  exact (s_cons (s_if (t_isN (e_var (i := 1)) e_non) (s_one (s_ret (e_tupRg rfl T.b_tuple T.b_range (e_fld T.cl_Machine T.na_Machine_states (e_var (i := 0)))))) s_nil) (s_cons (s_if (t_pw (q_or (t_not (t_val (e_call c G_is_ascending U_is_ascending (a_cons (e_var (i := 1)) (a_cons (e_fld T.cl_Machine T.na_Machine_states (e_var (i := 0))) a_nil))))) (q_or1 (t_eq c (e_blt cr_lenD ok_len T.b_len PyProof.Rows.Boot.len (a_cons (e_var (i := 1)) a_nil)) e_int)))) (s_one (s_raise rfl c T.er_Refused (T.in_Refused _) T.bi_Refused passes_none T.Refused (a_cons (e_var (i := 1)) a_nil))) s_nil) (s_one (s_ret (e_bty call_tuple_of ok_tupOf T.b_tuple PyProof.Rows.Boot.tuple (a_cons (e_var (i := 1)) a_nil))))))
abbrev x_state_after (K : Fg) (C : Cs) : WS := (wSeq (wDrop (wCallA 2 0 (sp_check_state C) (fun ds _ => ds) (wCons (wVar 0) (wCons (wVar 1) wNil)) wNil)) (wSeq (wFor (wiSeq (wCallA 2 0 (sp_check_log C) (fun ds _ => ds) (wCons (wVar 0) (wCons (wVar 2) wNil)) wNil)) (wgName 3) (wAsg 1 (wOp wIx (wOp wIx (wFld C.Machine "tables" (wVar 0)) (wVar 3)) (wVar 1)))) (wRet (wVar 1))))
theorem dv_state_after (T : Txt P w K mg base t C) (G_check_log : FnG P w K mg base 6 C.f_check_log C.d_check_log ["machine", "value"] (lSp K t 2 (sp_check_log C))) (U_check_log : Dn K mg "check_log" C.f_check_log C.d_check_log ["machine", "value"] 2) (G_check_state : FnG P w K mg base 4 C.f_check_state C.d_check_state ["machine", "value"] (lSp K t 2 (sp_check_state C))) (U_check_state : Dn K mg "check_state" C.f_check_state C.d_check_state ["machine", "value"] 2) (cdv : Value) (A : Around) (outer : List Env) (s : Shared) (H : Hp) (E : XK) (c : Cok (cxOf (L2.CX P w) P w K mg base ["machine", "state", "log", "deed"] "state_after" (defScope (top 36)) C.f_state_after cdv A outer s H E) (wishOf E) 6) :
    PSs (cxOf (L2.CX P w) P w K mg base ["machine", "state", "log", "deed"] "state_after" (defScope (top 36)) C.f_state_after cdv A outer s H E) (defBody (top 36)) (lS K (tb0 t) (wishOf E) (x_state_after K C)) := by
  exact (s_cons (s_drop (e_call c G_check_state U_check_state (a_cons (e_var (i := 0)) (a_cons (e_var (i := 1)) a_nil)))) (s_cons (s_for (passes_of rfl) rfl (i_seq (e_call c G_check_log U_check_log (a_cons (e_var (i := 0)) (a_cons (e_var (i := 2)) a_nil)))) (g_nm sc_state_after.nd 3) (s_one (s_set sc_state_after.nd 1 (e_ix (e_ix (e_fld T.cl_Machine T.na_Machine_tables (e_var (i := 0))) (e_var (i := 3))) (e_var (i := 1)))))) (s_one (s_ret (e_var (i := 1))))))
abbrev x_check_told_bound (K : Fg) (C : Cs) : WS := (wIfS (wNot (wB (wCallA 1 0 (sp_is_positive C) (fun ds _ => ds) (wCons (wVar 0) wNil) wNil))) (wRaise C.Refused "at" (wCons (wVar 0) wNil)) wNext)
theorem dv_check_told_bound (T : Txt P w K mg base t C) (G_is_positive : FnG P w K mg base 3 C.f_is_positive C.d_is_positive ["value"] (lSp K t 1 (sp_is_positive C))) (U_is_positive : Dn K mg "is_positive" C.f_is_positive C.d_is_positive ["value"] 1) (cdv : Value) (A : Around) (outer : List Env) (s : Shared) (H : Hp) (E : XK) (c : Cok (cxOf (L2.CX P w) P w K mg base ["value"] "check_told_bound" (defScope (top 38)) C.f_check_told_bound cdv A outer s H E) (wishOf E) 3) :
    PSs (cxOf (L2.CX P w) P w K mg base ["value"] "check_told_bound" (defScope (top 38)) C.f_check_told_bound cdv A outer s H E) (defBody (top 38)) (lS K (tb0 t) (wishOf E) (x_check_told_bound K C)) := by
  exact (s_one (s_if (t_not (t_val (e_call c G_is_positive U_is_positive (a_cons (e_var (i := 0)) a_nil)))) (s_one (s_raise rfl c T.er_Refused (T.in_Refused _) T.bi_Refused passes_none T.Refused (a_cons (e_var (i := 0)) a_nil))) s_nil))
abbrev x_check_bound (K : Fg) (C : Cs) : WS := (wIfS (wB (wOp (wIsN true) (wVar 0) (wC .non))) (wDrop (wCallA 1 0 (sp_check_told_bound C) (fun ds _ => ds) (wCons (wVar 0) wNil) wNil)) wNext)
theorem dv_check_bound (T : Txt P w K mg base t C) (G_check_told_bound : FnG P w K mg base 4 C.f_check_told_bound C.d_check_told_bound ["value"] (lSp K t 1 (sp_check_told_bound C))) (U_check_told_bound : Dn K mg "check_told_bound" C.f_check_told_bound C.d_check_told_bound ["value"] 1) (cdv : Value) (A : Around) (outer : List Env) (s : Shared) (H : Hp) (E : XK) (c : Cok (cxOf (L2.CX P w) P w K mg base ["value"] "check_bound" (defScope (top 39)) C.f_check_bound cdv A outer s H E) (wishOf E) 4) :
    PSs (cxOf (L2.CX P w) P w K mg base ["value"] "check_bound" (defScope (top 39)) C.f_check_bound cdv A outer s H E) (defBody (top 39)) (lS K (tb0 t) (wishOf E) (x_check_bound K C)) := by
  exact (s_one (s_if (t_notN (e_var (i := 0)) e_non) (s_one (s_drop (e_call c G_check_told_bound U_check_told_bound (a_cons (e_var (i := 0)) a_nil)))) s_nil))
abbrev x_check_modulus (K : Fg) (C : Cs) : WS := (wIfS (wOr (wNot (wB (wCallA 1 0 (sp_is_positive C) (fun ds _ => ds) (wCons (wVar 0) wNil) wNil))) (wB (wOp wGt (wVar 0) (wC (.int 200))))) (wRaise C.Refused "at" (wCons (wVar 0) wNil)) wNext)
theorem dv_check_modulus (T : Txt P w K mg base t C) (G_is_positive : FnG P w K mg base 3 C.f_is_positive C.d_is_positive ["value"] (lSp K t 1 (sp_is_positive C))) (U_is_positive : Dn K mg "is_positive" C.f_is_positive C.d_is_positive ["value"] 1) (cdv : Value) (A : Around) (outer : List Env) (s : Shared) (H : Hp) (E : XK) (c : Cok (cxOf (L2.CX P w) P w K mg base ["value"] "check_modulus" (defScope (top 42)) C.f_check_modulus cdv A outer s H E) (wishOf E) 3) :
    PSs (cxOf (L2.CX P w) P w K mg base ["value"] "check_modulus" (defScope (top 42)) C.f_check_modulus cdv A outer s H E) (defBody (top 42)) (lS K (tb0 t) (wishOf E) (x_check_modulus K C)) := by
  exact (s_one (s_if (t_pw (q_or (t_not (t_val (e_call c G_is_positive U_is_positive (a_cons (e_var (i := 0)) a_nil)))) (q_or1 (t_gt (e_var (i := 0)) (e_globI T.MOST_MODULUS))))) (s_one (s_raise rfl c T.er_Refused (T.in_Refused _) T.bi_Refused passes_none T.Refused (a_cons (e_var (i := 0)) a_nil))) s_nil))
abbrev x_first_times (K : Fg) (C : Cs) : WS := (wSeq (wAsg 3 (wVar 1)) (wSeq (wAsg 4 (wVar 1)) (wSeq (wAsg 5 (wC (.int 0))) (wSeq (wWhile (wB (wOp (wEq true) (wVar 4) (wC (.int 0)))) (wSeq (wAsg 4 (wOp wBAnd (wCallA 2 0 (sp_led_lot C) (fun ds _ => ds) (wCons (wVar 0) (wCons (wVar 4) wNil)) wNil) (wUn wInv (wVar 3)))) (wSeq (wAug Builtin.bitOr 3 (wVar 4)) (wSeq (wAug (fun i j => i + j) 5 (wC (.int 1))) (wIfS (wB (wOp (wEq true) (wOp wBAnd (wVar 4) (wVar 2)) (wC (.int 0)))) (wRet (wVar 5)) wNext))))) (wRet (wC .non))))))
theorem dv_first_times (T : Txt P w K mg base t C) (G_led_lot : FnG P w K mg base 3 C.f_led_lot C.d_led_lot ["nexts", "lot"] (lSp K t 2 (sp_led_lot C))) (U_led_lot : Dn K mg "led_lot" C.f_led_lot C.d_led_lot ["nexts", "lot"] 2) (cdv : Value) (A : Around) (outer : List Env) (s : Shared) (H : Hp) (E : XK) (c : Cok (cxOf (L2.CX P w) P w K mg base ["jumps", "firsts", "lasts", "reached", "fresh", "times"] "first_times" (defScope (top 43)) C.f_first_times cdv A outer s H E) (wishOf E) 3) :
    PSs (cxOf (L2.CX P w) P w K mg base ["jumps", "firsts", "lasts", "reached", "fresh", "times"] "first_times" (defScope (top 43)) C.f_first_times cdv A outer s H E) (defBody (top 43)) (lS K (tb0 t) (wishOf E) (x_first_times K C)) := by
  exact (s_cons (s_set sc_first_times.nd 3 (e_var (i := 1))) (s_cons (s_set sc_first_times.nd 4 (e_var (i := 1))) (s_cons (s_set sc_first_times.nd 5 e_int) (s_cons (s_while (passes_of rfl) (t_ne c (e_var (i := 4)) e_int) (s_cons (s_set sc_first_times.nd 4 (e_band (e_call c G_led_lot U_led_lot (a_cons (e_var (i := 0)) (a_cons (e_var (i := 4)) a_nil))) (e_inv (e_var (i := 3))))) (s_cons (s_augBOr sc_first_times.nd 3 (e_var (i := 4))) (s_cons (s_augA sc_first_times.nd 5 e_int) (s_one (s_if (t_ne c (e_band (e_var (i := 4)) (e_var (i := 2))) e_int) (s_one (s_ret (e_var (i := 5)))) s_nil)))))) (s_one (s_ret e_non))))))
abbrev x_first_wrap (K : Fg) (C : Cs) : WS := (wSeq (wAsg 4 (wCallA 2 0 (sp_lots_behind C) (fun ds _ => ds) (wCons (wCallA 1 0 (sp_next_lots C) (fun ds _ => ds) (wCons (wCallA 1 0 (sp_pair_steps C) (fun ds _ => ds) (wCons (wVar 0) wNil) wNil) wNil) wNil) (wCons (wVar 1) wNil)) wNil)) (wSeq (wAsgO 5 (woLst wNil)) (wSeq (wFor (wiSeq (wVar 2)) (wgName 6) (wSeq (wAsg 7 (wCallA 3 0 (sp_first_times C) (fun ds _ => ds) (wCons (wVar 4) (wCons (wCallA 1 0 (sp_lot_of C) (fun ds _ => ds) (wCons (wCallA 2 0 (sp_first_pairs C) (fun ds _ => ds) (wCons (wVar 0) (wCons (wVar 6) wNil)) wNil) wNil) wNil) (wCons (wCallA 1 0 (sp_lot_of C) (fun ds _ => ds) (wCons (wCallA 2 0 (sp_last_pairs C) (fun ds _ => ds) (wCons (wVar 0) (wCons (wVar 6) wNil)) wNil) wNil) wNil) wNil))) wNil)) (wIfS (wAnd (wB (wOp (wIsN true) (wVar 7) (wC .non))) (wOr (wB (wOp (wIsN false) (wVar 3) (wC .non))) (wB (wOp wLt (wOp wMul (wVar 7) (wVar 1)) (wVar 3))))) (wApp 5 (wTup (wCons (wOp wMul (wVar 7) (wVar 1)) (wCons (wVar 6) wNil)))) wNext))) (wRet (wMinPN (wCons (wVar 5) wNil) (wCons (wC .non) wNil))))))
theorem dv_first_wrap (T : Txt P w K mg base t C) (G_first_pairs : FnG P w K mg base 2 C.f_first_pairs C.d_first_pairs ["machine", "state"] (lSp K t 2 (sp_first_pairs C))) (U_first_pairs : Dn K mg "first_pairs" C.f_first_pairs C.d_first_pairs ["machine", "state"] 2) (G_first_times : FnG P w K mg base 4 C.f_first_times C.d_first_times ["jumps", "firsts", "lasts"] (lSp K t 3 (sp_first_times C))) (U_first_times : Dn K mg "first_times" C.f_first_times C.d_first_times ["jumps", "firsts", "lasts"] 3) (G_last_pairs : FnG P w K mg base 2 C.f_last_pairs C.d_last_pairs ["machine", "state"] (lSp K t 2 (sp_last_pairs C))) (U_last_pairs : Dn K mg "last_pairs" C.f_last_pairs C.d_last_pairs ["machine", "state"] 2) (G_lot_of : FnG P w K mg base 2 C.f_lot_of C.d_lot_of ["pairs"] (lSp K t 1 (sp_lot_of C))) (U_lot_of : Dn K mg "lot_of" C.f_lot_of C.d_lot_of ["pairs"] 1) (G_lots_behind : FnG P w K mg base 12 C.f_lots_behind C.d_lots_behind ["nexts", "many"] (lSp K t 2 (sp_lots_behind C))) (U_lots_behind : Dn K mg "lots_behind" C.f_lots_behind C.d_lots_behind ["nexts", "many"] 2) (G_next_lots : FnG P w K mg base 3 C.f_next_lots C.d_next_lots ["steps"] (lSp K t 1 (sp_next_lots C))) (U_next_lots : Dn K mg "next_lots" C.f_next_lots C.d_next_lots ["steps"] 1) (G_pair_steps : FnG P w K mg base 2 C.f_pair_steps C.d_pair_steps ["machine"] (lSp K t 1 (sp_pair_steps C))) (U_pair_steps : Dn K mg "pair_steps" C.f_pair_steps C.d_pair_steps ["machine"] 1) (cdv : Value) (A : Around) (outer : List Env) (s : Shared) (H : Hp) (E : XK) (c : Cok (cxOf (L2.CX P w) P w K mg base ["machine", "modulus", "states", "bound", "jumps", "found", "state", "times"] "first_wrap" (defScope (top 44)) C.f_first_wrap cdv A outer s H E) (wishOf E) 12) :
    PSs (cxOf (L2.CX P w) P w K mg base ["machine", "modulus", "states", "bound", "jumps", "found", "state", "times"] "first_wrap" (defScope (top 44)) C.f_first_wrap cdv A outer s H E) (defBody (top 44)) (lS K (tb0 t) (wishOf E) (x_first_wrap K C)) := by
  exact (s_cons (s_set sc_first_wrap.nd 4 (e_call c G_lots_behind U_lots_behind (a_cons (e_call c G_next_lots U_next_lots (a_cons (e_call c G_pair_steps U_pair_steps (a_cons (e_var (i := 0)) a_nil)) a_nil)) (a_cons (e_var (i := 1)) a_nil)))) (s_cons (s_setO sc_first_wrap.nd 5 (o_lst a_nil)) (s_cons (s_for (passes_of rfl) rfl (i_seq (e_var (i := 2))) (g_nm sc_first_wrap.nd 6) (s_cons (s_set sc_first_wrap.nd 7 (e_call c G_first_times U_first_times (a_cons (e_var (i := 4)) (a_cons (e_call c G_lot_of U_lot_of (a_cons (e_call c G_first_pairs U_first_pairs (a_cons (e_var (i := 0)) (a_cons (e_var (i := 6)) a_nil))) a_nil)) (a_cons (e_call c G_lot_of U_lot_of (a_cons (e_call c G_last_pairs U_last_pairs (a_cons (e_var (i := 0)) (a_cons (e_var (i := 6)) a_nil))) a_nil)) a_nil))))) (s_one (s_if (t_pw (q_and (t_notN (e_var (i := 7)) e_non) (q_and1 (t_pw (q_or (t_isN (e_var (i := 3)) e_non) (q_or1 (t_lt (e_mul (e_var (i := 7)) (e_var (i := 1))) (e_var (i := 3))))))))) (s_one (s_app 5 (e_tup (a_cons (e_mul (e_var (i := 7)) (e_var (i := 1))) (a_cons (e_var (i := 6)) a_nil))))) s_nil)))) (s_one (s_ret (e_minPN rfl c T.b_min (a_cons (e_var (i := 5)) a_nil) (k_cons e_non k_nil)))))))
abbrev x_walk_of_length (K : Fg) (C : Cs) : WS := (wSeq (wAsg 3 (wCallA 1 0 (sp_pair_steps C) (fun ds _ => ds) (wCons (wVar 0) wNil) wNil)) (wSeq (wAsg 4 (wCallA 1 0 (sp_earlier_lots C) (fun ds _ => ds) (wCons (wCallA 1 0 (sp_next_lots C) (fun ds _ => ds) (wCons (wVar 3) wNil) wNil) wNil) wNil)) (wSeq (wAsgO 5 (woLst (wCons (wCallA 1 0 (sp_lot_of C) (fun ds _ => ds) (wCons (wCallA 2 0 (sp_last_pairs C) (fun ds _ => ds) (wCons (wVar 0) (wCons (wVar 1) wNil)) wNil) wNil) wNil) wNil))) (wSeq (wFor (wiRg1 (wCons (wVar 2) wNil)) (wgName 6) (wApp 5 (wCallA 2 0 (sp_led_lot C) (fun ds _ => ds) (wCons (wVar 4) (wCons (wIxO 5 (wUn wNeg (wC (.int 1)))) wNil)) wNil))) (wSeq (wAsg 7 (wOp wIx (wCallA 1 0 (sp_members C) (fun ds _ => ds) (wCons (wOp wBAnd (wIxO 5 (wVar 2)) (wCallA 1 0 (sp_lot_of C) (fun ds _ => ds) (wCons (wCallA 2 0 (sp_first_pairs C) (fun ds _ => ds) (wCons (wVar 0) (wCons (wVar 1) wNil)) wNil) wNil) wNil)) wNil) wNil) (wC (.int 0)))) (wSeq (wAsg 8 (wVar 7)) (wSeq (wAsgO 9 (woLst wNil)) (wSeq (wFor (wiSeq (wRevSl2 (wVar 5) (wUn wNeg (wC (.int 2))) (wUn wNeg (wC (.int 1))))) (wgName 10) (wSeq (wAsgG (wgTup 2 (wgCons (wgName 11) (wgCons (wgName 8) wgNil))) (wOp wIx (wLc (wiSeq (wOp wIx (wVar 3) (wVar 8))) (wgName 12) (wB (wCallA 2 0 (sp_is_in C) (fun ds _ => ds) (wCons (wVar 10) (wCons (wOp wIx (wVar 12) (wC (.int 1))) wNil)) wNil)) (wVar 12) [12]) (wC (.int 0)))) (wApp 9 (wVar 11)))) (wRet (wTup (wCons (wOp wDiv (wVar 7) (wFld C.Machine "states" (wVar 0))) (wCons (wCB wTupOf (wCons (wVar 9) wNil)) wNil))))))))))))
theorem dv_walk_of_length (T : Txt P w K mg base t C) (G_earlier_lots : FnG P w K mg base 3 C.f_earlier_lots C.d_earlier_lots ["nexts"] (lSp K t 1 (sp_earlier_lots C))) (U_earlier_lots : Dn K mg "earlier_lots" C.f_earlier_lots C.d_earlier_lots ["nexts"] 1) (G_first_pairs : FnG P w K mg base 2 C.f_first_pairs C.d_first_pairs ["machine", "state"] (lSp K t 2 (sp_first_pairs C))) (U_first_pairs : Dn K mg "first_pairs" C.f_first_pairs C.d_first_pairs ["machine", "state"] 2) (G_is_in : FnG P w K mg base 2 C.f_is_in C.d_is_in ["lot", "pair"] (lSp K t 2 (sp_is_in C))) (U_is_in : Dn K mg "is_in" C.f_is_in C.d_is_in ["lot", "pair"] 2) (G_last_pairs : FnG P w K mg base 2 C.f_last_pairs C.d_last_pairs ["machine", "state"] (lSp K t 2 (sp_last_pairs C))) (U_last_pairs : Dn K mg "last_pairs" C.f_last_pairs C.d_last_pairs ["machine", "state"] 2) (G_led_lot : FnG P w K mg base 3 C.f_led_lot C.d_led_lot ["nexts", "lot"] (lSp K t 2 (sp_led_lot C))) (U_led_lot : Dn K mg "led_lot" C.f_led_lot C.d_led_lot ["nexts", "lot"] 2) (G_lot_of : FnG P w K mg base 2 C.f_lot_of C.d_lot_of ["pairs"] (lSp K t 1 (sp_lot_of C))) (U_lot_of : Dn K mg "lot_of" C.f_lot_of C.d_lot_of ["pairs"] 1) (G_members : FnG P w K mg base 2 C.f_members C.d_members ["lot"] (lSp K t 1 (sp_members C))) (U_members : Dn K mg "members" C.f_members C.d_members ["lot"] 1) (G_next_lots : FnG P w K mg base 3 C.f_next_lots C.d_next_lots ["steps"] (lSp K t 1 (sp_next_lots C))) (U_next_lots : Dn K mg "next_lots" C.f_next_lots C.d_next_lots ["steps"] 1) (G_pair_steps : FnG P w K mg base 2 C.f_pair_steps C.d_pair_steps ["machine"] (lSp K t 1 (sp_pair_steps C))) (U_pair_steps : Dn K mg "pair_steps" C.f_pair_steps C.d_pair_steps ["machine"] 1) (cdv : Value) (A : Around) (outer : List Env) (s : Shared) (H : Hp) (E : XK) (c : Cok (cxOf (L2.CX P w) P w K mg base ["machine", "state", "length", "steps", "back", "lots", "_", "first", "pair", "deeds", "lot", "deed", "step"] "walk_of_length" (defScope (top 45)) C.f_walk_of_length cdv A outer s H E) (wishOf E) 3) :
    PSs (cxOf (L2.CX P w) P w K mg base ["machine", "state", "length", "steps", "back", "lots", "_", "first", "pair", "deeds", "lot", "deed", "step"] "walk_of_length" (defScope (top 45)) C.f_walk_of_length cdv A outer s H E) (defBody (top 45)) (lS K (tb0 t) (wishOf E) (x_walk_of_length K C)) := by
  exact (s_cons (s_set sc_walk_of_length.nd 3 (e_call c G_pair_steps U_pair_steps (a_cons (e_var (i := 0)) a_nil))) (s_cons (s_set sc_walk_of_length.nd 4 (e_call c G_earlier_lots U_earlier_lots (a_cons (e_call c G_next_lots U_next_lots (a_cons (e_var (i := 3)) a_nil)) a_nil))) (s_cons (s_setO sc_walk_of_length.nd 5 (o_lst (a_cons (e_call c G_lot_of U_lot_of (a_cons (e_call c G_last_pairs U_last_pairs (a_cons (e_var (i := 0)) (a_cons (e_var (i := 1)) a_nil))) a_nil)) a_nil))) (s_cons (s_for (passes_of rfl) rfl (i_rng1 T.b_range (a_cons (e_var (i := 2)) a_nil)) (g_nm sc_walk_of_length.nd 6) (s_one (s_app 5 (e_call c G_led_lot U_led_lot (a_cons (e_var (i := 4)) (a_cons (e_ixO (i := 5) (e_neg e_int)) a_nil)))))) (s_cons (s_set sc_walk_of_length.nd 7 (e_ix (e_call c G_members U_members (a_cons (e_band (e_ixO (i := 5) (e_var (i := 2))) (e_call c G_lot_of U_lot_of (a_cons (e_call c G_first_pairs U_first_pairs (a_cons (e_var (i := 0)) (a_cons (e_var (i := 1)) a_nil))) a_nil))) a_nil)) e_int)) (s_cons (s_set sc_walk_of_length.nd 8 (e_var (i := 7))) (s_cons (s_setO sc_walk_of_length.nd 9 (o_lst a_nil)) (s_cons (s_for (passes_of rfl) rfl (i_seq (e_revSl2 (e_var (i := 5)) (e_neg e_int) (e_neg e_int))) (g_nm sc_walk_of_length.nd 10) (s_cons (s_asg (e_ix (e_lc (own := [("step", 12)]) rfl sc_walk_of_length.nd (i_seq (e_ix (e_var (i := 3)) (e_var (i := 8)))) (blk_ok (by kernel_rfl)) (fun _ _ _ _ _ => (g_c 12 sc_walk_of_length.nd)) (fun _ _ _ _ _ => (f_one (t_val (e_call (c.blk _ _ _ _ _) G_is_in U_is_in (a_cons (e_var (i := 10)) (a_cons (e_ix (e_var (i := 12)) e_int) a_nil)))))) (fun _ _ _ _ _ => (e_var (i := 12)))) e_int) (g_tupN rfl (gs_cons (g_nm sc_walk_of_length.nd 11) (gs_cons (g_nm sc_walk_of_length.nd 8) gs_nil)))) (s_one (s_app 9 (e_var (i := 11)))))) (s_one (s_ret (e_tup (a_cons (e_div (e_var (i := 7)) (e_fld T.cl_Machine T.na_Machine_states (e_var (i := 0)))) (a_cons (e_bty call_tuple_of ok_tupOf T.b_tuple PyProof.Rows.Boot.tuple (a_cons (e_var (i := 9)) a_nil)) a_nil)))))))))))))
abbrev x_wrap_paper (K : Fg) (C : Cs) : WS := (wSeq (wDrop (wCallA 1 0 (sp_check_modulus C) (fun ds _ => ds) (wCons (wVar 1) wNil) wNil)) (wSeq (wAsg 2 (wCallA 2 0 (sp_check_starts C) (fun ds _ => ds) (wCons (wVar 0) (wCons (wVar 2) wNil)) wNil)) (wSeq (wDrop (wCallA 1 0 (sp_check_bound C) (fun ds _ => ds) (wCons (wVar 3) wNil) wNil)) (wSeq (wAsg 4 (wCallA 4 0 (sp_first_wrap C) (fun ds _ => ds) (wCons (wVar 0) (wCons (wVar 1) (wCons (wVar 2) (wCons (wVar 3) wNil)))) wNil)) (wSeq (wIfS (wB (wOp (wIsN false) (wVar 4) (wC .non))) (wRet (wC .non)) wNext) (wSeq (wAsgG (wgTup 2 (wgCons (wgName 5) (wgCons (wgName 6) wgNil))) (wVar 4)) (wSeq (wAsgG (wgTup 2 (wgCons (wgName 7) (wgCons (wgName 8) wgNil))) (wCallA 3 0 (sp_walk_of_length C) (fun ds _ => ds) (wCons (wVar 0) (wCons (wVar 6) (wCons (wVar 5) wNil))) wNil)) (wRet (wTup (wCons (wC (.str "wrap")) (wCons (wVar 6) (wCons (wVar 7) (wCons (wVar 8) wNil)))))))))))))
theorem dv_wrap_paper (T : Txt P w K mg base t C) (G_check_bound : FnG P w K mg base 5 C.f_check_bound C.d_check_bound ["value"] (lSp K t 1 (sp_check_bound C))) (U_check_bound : Dn K mg "check_bound" C.f_check_bound C.d_check_bound ["value"] 1) (G_check_modulus : FnG P w K mg base 4 C.f_check_modulus C.d_check_modulus ["value"] (lSp K t 1 (sp_check_modulus C))) (U_check_modulus : Dn K mg "check_modulus" C.f_check_modulus C.d_check_modulus ["value"] 1) (G_check_starts : FnG P w K mg base 5 C.f_check_starts C.d_check_starts ["machine", "value"] (lSp K t 2 (sp_check_starts C))) (U_check_starts : Dn K mg "check_starts" C.f_check_starts C.d_check_starts ["machine", "value"] 2) (G_first_wrap : FnG P w K mg base 13 C.f_first_wrap C.d_first_wrap ["machine", "modulus", "states", "bound"] (lSp K t 4 (sp_first_wrap C))) (U_first_wrap : Dn K mg "first_wrap" C.f_first_wrap C.d_first_wrap ["machine", "modulus", "states", "bound"] 4) (G_walk_of_length : FnG P w K mg base 4 C.f_walk_of_length C.d_walk_of_length ["machine", "state", "length"] (lSp K t 3 (sp_walk_of_length C))) (U_walk_of_length : Dn K mg "walk_of_length" C.f_walk_of_length C.d_walk_of_length ["machine", "state", "length"] 3) (cdv : Value) (A : Around) (outer : List Env) (s : Shared) (H : Hp) (E : XK) (c : Cok (cxOf (L2.CX P w) P w K mg base ["machine", "modulus", "states", "bound", "found", "length", "state", "other", "log"] "wrap_paper" (defScope (top 46)) C.f_wrap_paper cdv A outer s H E) (wishOf E) 13) :
    PSs (cxOf (L2.CX P w) P w K mg base ["machine", "modulus", "states", "bound", "found", "length", "state", "other", "log"] "wrap_paper" (defScope (top 46)) C.f_wrap_paper cdv A outer s H E) (defBody (top 46)) (lS K (tb0 t) (wishOf E) (x_wrap_paper K C)) := by
  exact (s_cons (s_drop (e_call c G_check_modulus U_check_modulus (a_cons (e_var (i := 1)) a_nil))) (s_cons (s_set sc_wrap_paper.nd 2 (e_call c G_check_starts U_check_starts (a_cons (e_var (i := 0)) (a_cons (e_var (i := 2)) a_nil)))) (s_cons (s_drop (e_call c G_check_bound U_check_bound (a_cons (e_var (i := 3)) a_nil))) (s_cons (s_set sc_wrap_paper.nd 4 (e_call c G_first_wrap U_first_wrap (a_cons (e_var (i := 0)) (a_cons (e_var (i := 1)) (a_cons (e_var (i := 2)) (a_cons (e_var (i := 3)) a_nil)))))) (s_cons (s_if (t_isN (e_var (i := 4)) e_non) (s_one (s_ret e_non)) s_nil) (s_cons (s_asg (e_var (i := 4)) (g_tupN rfl (gs_cons (g_nm sc_wrap_paper.nd 5) (gs_cons (g_nm sc_wrap_paper.nd 6) gs_nil)))) (s_cons (s_asg (e_call c G_walk_of_length U_walk_of_length (a_cons (e_var (i := 0)) (a_cons (e_var (i := 6)) (a_cons (e_var (i := 5)) a_nil)))) (g_tupN rfl (gs_cons (g_nm sc_wrap_paper.nd 7) (gs_cons (g_nm sc_wrap_paper.nd 8) gs_nil)))) (s_one (s_ret (e_tup (a_cons e_str (a_cons (e_var (i := 6)) (a_cons (e_var (i := 7)) (a_cons (e_var (i := 8)) a_nil))))))))))))))
abbrev x_is_enough (K : Fg) (C : Cs) : WS := (wSeq (wDrop (wCallA 1 0 (sp_check_modulus C) (fun ds _ => ds) (wCons (wVar 1) wNil) wNil)) (wSeq (wAsg 2 (wCallA 2 0 (sp_check_starts C) (fun ds _ => ds) (wCons (wVar 0) (wCons (wVar 2) wNil)) wNil)) (wSeq (wDrop (wCallA 1 0 (sp_check_bound C) (fun ds _ => ds) (wCons (wVar 3) wNil) wNil)) (wRet (wOp (wIsN false) (wCallA 4 0 (sp_first_wrap C) (fun ds _ => ds) (wCons (wVar 0) (wCons (wVar 1) (wCons (wVar 2) (wCons (wVar 3) wNil)))) wNil) (wC .non))))))
theorem dv_is_enough (T : Txt P w K mg base t C) (G_check_bound : FnG P w K mg base 5 C.f_check_bound C.d_check_bound ["value"] (lSp K t 1 (sp_check_bound C))) (U_check_bound : Dn K mg "check_bound" C.f_check_bound C.d_check_bound ["value"] 1) (G_check_modulus : FnG P w K mg base 4 C.f_check_modulus C.d_check_modulus ["value"] (lSp K t 1 (sp_check_modulus C))) (U_check_modulus : Dn K mg "check_modulus" C.f_check_modulus C.d_check_modulus ["value"] 1) (G_check_starts : FnG P w K mg base 5 C.f_check_starts C.d_check_starts ["machine", "value"] (lSp K t 2 (sp_check_starts C))) (U_check_starts : Dn K mg "check_starts" C.f_check_starts C.d_check_starts ["machine", "value"] 2) (G_first_wrap : FnG P w K mg base 13 C.f_first_wrap C.d_first_wrap ["machine", "modulus", "states", "bound"] (lSp K t 4 (sp_first_wrap C))) (U_first_wrap : Dn K mg "first_wrap" C.f_first_wrap C.d_first_wrap ["machine", "modulus", "states", "bound"] 4) (cdv : Value) (A : Around) (outer : List Env) (s : Shared) (H : Hp) (E : XK) (c : Cok (cxOf (L2.CX P w) P w K mg base ["machine", "modulus", "states", "bound"] "is_enough" (defScope (top 47)) C.f_is_enough cdv A outer s H E) (wishOf E) 13) :
    PSs (cxOf (L2.CX P w) P w K mg base ["machine", "modulus", "states", "bound"] "is_enough" (defScope (top 47)) C.f_is_enough cdv A outer s H E) (defBody (top 47)) (lS K (tb0 t) (wishOf E) (x_is_enough K C)) := by
  exact (s_cons (s_drop (e_call c G_check_modulus U_check_modulus (a_cons (e_var (i := 1)) a_nil))) (s_cons (s_set sc_is_enough.nd 2 (e_call c G_check_starts U_check_starts (a_cons (e_var (i := 0)) (a_cons (e_var (i := 2)) a_nil)))) (s_cons (s_drop (e_call c G_check_bound U_check_bound (a_cons (e_var (i := 3)) a_nil))) (s_one (s_ret (e_isN (e_call c G_first_wrap U_first_wrap (a_cons (e_var (i := 0)) (a_cons (e_var (i := 1)) (a_cons (e_var (i := 2)) (a_cons (e_var (i := 3)) a_nil))))) e_non))))))
abbrev x_led_by (K : Fg) (C : Cs) : WS := (wSeq (wFor (wiSeq (wVar 2)) (wgName 3) (wAsg 1 (wCallA 3 0 (sp_state_after C) (fun ds _ => ds) (wCons (wVar 0) (wCons (wVar 1) (wCons (wVar 3) wNil))) wNil))) (wRet (wVar 1)))
theorem dv_led_by (T : Txt P w K mg base t C) (G_state_after : FnG P w K mg base 7 C.f_state_after C.d_state_after ["machine", "state", "log"] (lSp K t 3 (sp_state_after C))) (U_state_after : Dn K mg "state_after" C.f_state_after C.d_state_after ["machine", "state", "log"] 3) (cdv : Value) (A : Around) (outer : List Env) (s : Shared) (H : Hp) (E : XK) (c : Cok (cxOf (L2.CX P w) P w K mg base ["machine", "state", "logs", "log"] "led_by" (defScope (top 48)) C.f_led_by cdv A outer s H E) (wishOf E) 7) :
    PSs (cxOf (L2.CX P w) P w K mg base ["machine", "state", "logs", "log"] "led_by" (defScope (top 48)) C.f_led_by cdv A outer s H E) (defBody (top 48)) (lS K (tb0 t) (wishOf E) (x_led_by K C)) := by
  exact (s_cons (s_for (passes_of rfl) rfl (i_seq (e_var (i := 2))) (g_nm sc_led_by.nd 3) (s_one (s_set sc_led_by.nd 1 (e_call c G_state_after U_state_after (a_cons (e_var (i := 0)) (a_cons (e_var (i := 1)) (a_cons (e_var (i := 3)) a_nil))))))) (s_one (s_ret (e_var (i := 1)))))
abbrev x_is_parting (K : Fg) (C : Cs) : WS := (wSeq (wIfS (wOr (wNot (wB (wCallA 2 0 (sp_is_below C) (fun ds _ => ds) (wCons (wVar 2) (wCons (wFld C.Machine "states" (wVar 0)) wNil)) wNil))) (wOr (wB (wOp (wInI true) (wVar 2) (wVar 1))) (wNot (wB (wCallA 2 0 (sp_is_below C) (fun ds _ => ds) (wCons (wVar 3) (wCons (wFld C.Machine "states" (wVar 0)) wNil)) wNil))))) (wRet (wC (.bl false))) wNext) (wRet (wAndV (wOp (wEq false) (wCallA 3 0 (sp_led_by C) (fun ds _ => ds) (wCons (wVar 0) (wCons (wVar 3) (wCons (wVar 4) wNil))) wNil) (wVar 2)) (wOp (wEq true) (wCallA 3 0 (sp_led_by C) (fun ds _ => ds) (wCons (wVar 0) (wCons (wVar 2) (wCons (wVar 4) wNil))) wNil) (wVar 2)))))
theorem dv_is_parting (T : Txt P w K mg base t C) (G_is_below : FnG P w K mg base 3 C.f_is_below C.d_is_below ["value", "many"] (lSp K t 2 (sp_is_below C))) (U_is_below : Dn K mg "is_below" C.f_is_below C.d_is_below ["value", "many"] 2) (G_led_by : FnG P w K mg base 8 C.f_led_by C.d_led_by ["machine", "state", "logs"] (lSp K t 3 (sp_led_by C))) (U_led_by : Dn K mg "led_by" C.f_led_by C.d_led_by ["machine", "state", "logs"] 3) (cdv : Value) (A : Around) (outer : List Env) (s : Shared) (H : Hp) (E : XK) (c : Cok (cxOf (L2.CX P w) P w K mg base ["machine", "states", "value", "other", "logs"] "is_parting" (defScope (top 49)) C.f_is_parting cdv A outer s H E) (wishOf E) 8) :
    PSs (cxOf (L2.CX P w) P w K mg base ["machine", "states", "value", "other", "logs"] "is_parting" (defScope (top 49)) C.f_is_parting cdv A outer s H E) (defBody (top 49)) (lS K (tb0 t) (wishOf E) (x_is_parting K C)) := by
  exact (s_cons (s_if (t_pw (q_or (t_not (t_val (e_call c G_is_below U_is_below (a_cons (e_var (i := 2)) (a_cons (e_fld T.cl_Machine T.na_Machine_states (e_var (i := 0))) a_nil))))) (q_or (t_nin (e_var (i := 2)) (e_var (i := 1))) (q_or1 (t_not (t_val (e_call c G_is_below U_is_below (a_cons (e_var (i := 3)) (a_cons (e_fld T.cl_Machine T.na_Machine_states (e_var (i := 0))) a_nil))))))))) (s_one (s_ret e_bl)) s_nil) (s_one (s_ret (e_and (e_eq c (e_call c G_led_by U_led_by (a_cons (e_var (i := 0)) (a_cons (e_var (i := 3)) (a_cons (e_var (i := 4)) a_nil)))) (e_var (i := 2))) (e_and1 (e_ne c (e_call c G_led_by U_led_by (a_cons (e_var (i := 0)) (a_cons (e_var (i := 2)) (a_cons (e_var (i := 4)) a_nil)))) (e_var (i := 2))))))))
abbrev x_wrap_holds (K : Fg) (C : Cs) : WS := (wSeq (wDrop (wCallA 1 0 (sp_check_modulus C) (fun ds _ => ds) (wCons (wVar 1) wNil) wNil)) (wSeq (wAsg 3 (wCallA 2 0 (sp_check_starts C) (fun ds _ => ds) (wCons (wVar 0) (wCons (wVar 3) wNil)) wNil)) (wSeq (wDrop (wCallA 1 0 (sp_check_bound C) (fun ds _ => ds) (wCons (wVar 4) wNil) wNil)) (wSeq (wIfS (wOr (wNot (wB (wCallA 2 0 (sp_is_sequence_of C) (fun ds _ => ds) (wCons (wVar 2) (wCons (wC (.int 4)) wNil)) wNil))) (wB (wOp (wEq true) (wOp wIx (wVar 2) (wC (.int 0))) (wC (.str "wrap"))))) (wRet (wC (.bl false))) wNext) (wSeq (wAsgG (wgTup 4 (wgCons (wgName 5) (wgCons (wgName 6) (wgCons (wgName 7) (wgCons (wgName 8) wgNil))))) (wVar 2)) (wSeq (wIfS (wOr (wB (wOp (wIsN true) (wCallA 2 0 (sp_log_fault C) (fun ds _ => ds) (wCons (wVar 0) (wCons (wVar 8) wNil)) wNil) (wC .non))) (wB (wOp (wEq true) (wOp wMod (wCB wLen (wCons (wVar 8) wNil)) (wVar 1)) (wC (.int 0))))) (wRet (wC (.bl false))) wNext) (wSeq (wIfS (wAnd (wB (wOp (wIsN true) (wVar 4) (wC .non))) (wB (wOp wGe (wCB wLen (wCons (wVar 8) wNil)) (wVar 4)))) (wRet (wC (.bl false))) wNext) (wRet (wCallA 5 0 (sp_is_parting C) (fun ds _ => ds) (wCons (wVar 0) (wCons (wVar 3) (wCons (wVar 6) (wCons (wVar 7) (wCons (wTup (wCons (wVar 8) wNil)) wNil))))) wNil)))))))))
theorem dv_wrap_holds (T : Txt P w K mg base t C) (G_check_bound : FnG P w K mg base 5 C.f_check_bound C.d_check_bound ["value"] (lSp K t 1 (sp_check_bound C))) (U_check_bound : Dn K mg "check_bound" C.f_check_bound C.d_check_bound ["value"] 1) (G_check_modulus : FnG P w K mg base 4 C.f_check_modulus C.d_check_modulus ["value"] (lSp K t 1 (sp_check_modulus C))) (U_check_modulus : Dn K mg "check_modulus" C.f_check_modulus C.d_check_modulus ["value"] 1) (G_check_starts : FnG P w K mg base 5 C.f_check_starts C.d_check_starts ["machine", "value"] (lSp K t 2 (sp_check_starts C))) (U_check_starts : Dn K mg "check_starts" C.f_check_starts C.d_check_starts ["machine", "value"] 2) (G_is_parting : FnG P w K mg base 9 C.f_is_parting C.d_is_parting ["machine", "states", "value", "other", "logs"] (lSp K t 5 (sp_is_parting C))) (U_is_parting : Dn K mg "is_parting" C.f_is_parting C.d_is_parting ["machine", "states", "value", "other", "logs"] 5) (G_is_sequence_of : FnG P w K mg base 3 C.f_is_sequence_of C.d_is_sequence_of ["value", "length"] (lSp K t 2 (sp_is_sequence_of C))) (U_is_sequence_of : Dn K mg "is_sequence_of" C.f_is_sequence_of C.d_is_sequence_of ["value", "length"] 2) (G_log_fault : FnG P w K mg base 5 C.f_log_fault C.d_log_fault ["machine", "value"] (lSp K t 2 (sp_log_fault C))) (U_log_fault : Dn K mg "log_fault" C.f_log_fault C.d_log_fault ["machine", "value"] 2) (cdv : Value) (A : Around) (outer : List Env) (s : Shared) (H : Hp) (E : XK) (c : Cok (cxOf (L2.CX P w) P w K mg base ["machine", "modulus", "value", "states", "bound", "_", "state", "other", "log"] "wrap_holds" (defScope (top 50)) C.f_wrap_holds cdv A outer s H E) (wishOf E) 9) :
    PSs (cxOf (L2.CX P w) P w K mg base ["machine", "modulus", "value", "states", "bound", "_", "state", "other", "log"] "wrap_holds" (defScope (top 50)) C.f_wrap_holds cdv A outer s H E) (defBody (top 50)) (lS K (tb0 t) (wishOf E) (x_wrap_holds K C)) := by
  exact (s_cons (s_drop (e_call c G_check_modulus U_check_modulus (a_cons (e_var (i := 1)) a_nil))) (s_cons (s_set sc_wrap_holds.nd 3 (e_call c G_check_starts U_check_starts (a_cons (e_var (i := 0)) (a_cons (e_var (i := 3)) a_nil)))) (s_cons (s_drop (e_call c G_check_bound U_check_bound (a_cons (e_var (i := 4)) a_nil))) (s_cons (s_if (t_pw (q_or (t_not (t_val (e_call c G_is_sequence_of U_is_sequence_of (a_cons (e_var (i := 2)) (a_cons e_int a_nil))))) (q_or1 (t_ne c (e_ix (e_var (i := 2)) e_int) e_str)))) (s_one (s_ret e_bl)) s_nil) (s_cons (s_asg (e_var (i := 2)) (g_tupN rfl (gs_cons (g_nm sc_wrap_holds.nd 5) (gs_cons (g_nm sc_wrap_holds.nd 6) (gs_cons (g_nm sc_wrap_holds.nd 7) (gs_cons (g_nm sc_wrap_holds.nd 8) gs_nil)))))) (s_cons (s_if (t_pw (q_or (t_notN (e_call c G_log_fault U_log_fault (a_cons (e_var (i := 0)) (a_cons (e_var (i := 8)) a_nil))) e_non) (q_or1 (t_ne c (e_mod (e_blt cr_lenD ok_len T.b_len PyProof.Rows.Boot.len (a_cons (e_var (i := 8)) a_nil)) (e_var (i := 1))) e_int)))) (s_one (s_ret e_bl)) s_nil) (s_cons (s_if (t_pw (q_and (t_notN (e_var (i := 4)) e_non) (q_and1 (t_ge (e_blt cr_lenD ok_len T.b_len PyProof.Rows.Boot.len (a_cons (e_var (i := 8)) a_nil)) (e_var (i := 4)))))) (s_one (s_ret e_bl)) s_nil) (s_one (s_ret (e_call c G_is_parting U_is_parting (a_cons (e_var (i := 0)) (a_cons (e_var (i := 3)) (a_cons (e_var (i := 6)) (a_cons (e_var (i := 7)) (a_cons (e_tup (a_cons (e_var (i := 8)) a_nil)) a_nil)))))))))))))))
abbrev x_law_box (K : Fg) (C : Cs) : WS := (wSeq (wAsg 2 (wOp wAdd (wOp wMul (wC (.int 6449)) (wVar 1)) (wC (.int 983)))) (wSeq (wIfS (wB (wOp wLt (wVar 1) (wCB wLen (wCons (wVar 0) wNil)))) (wAsg 2 (wCB wAbs (wCons (wCB wInt (wCons (wOp wIx (wVar 0) (wVar 1)) wNil)) wNil))) (wIfS (wB (wOp wGt (wCB wLen (wCons (wVar 0) wNil)) (wC (.int 0)))) (wAsg 2 (wOp wAdd (wVar 2) (wOp wMul (wOp wMod (wCB wInt (wCons (wCB wAbs (wCons (wCB wInt (wCons (wOp wIx (wVar 0) (wOp wMod (wCB wInt (wCons (wVar 1) wNil)) (wCB wLen (wCons (wVar 0) wNil)))) wNil)) wNil)) wNil)) (wC (.int 2147483587))) (wC (.int 60503))))) wNext)) (wSeq (wAsg 3 (wIf (wB (wOp wGe (wVar 2) (wOp wPow (wC (.int 10)) (wC (.int 18))))) (wVar 2) (wC (.int 0)))) (wRetO (woLst (wCons (wVar 3) (wCons (wOp wAdd (wOp wMod (wCB wInt (wCons (wOp wAdd (wOp wMul (wOp wMod (wCB wInt (wCons (wVar 2) wNil)) (wC (.int 2147483587))) (wC (.int 69463))) (wOp wMul (wC (.int 983)) (wVar 1))) wNil)) (wC (.int 2147483587))) (wC (.int 1))) wNil)))))))
theorem dv_law_box (T : Txt P w K mg base t C)  (cdv : Value) (A : Around) (outer : List Env) (s : Shared) (H : Hp) (E : XK) (c : Cok (cxOf (L2.CX P w) P w K mg base ["script", "k", "cell", "great"] "_law_box" (defScope (top 52)) C.f_law_box cdv A outer s H E) (wishOf E) 1) :
    PSs (cxOf (L2.CX P w) P w K mg base ["script", "k", "cell", "great"] "_law_box" (defScope (top 52)) C.f_law_box cdv A outer s H E) (defBody (top 52)) (lS K (tb0 t) (wishOf E) (x_law_box K C)) := by
  exact (s_cons (s_set sc_law_box.nd 2 (e_add (e_mul e_int (e_var (i := 1))) e_int)) (s_cons (s_if (t_lt (e_var (i := 1)) (e_blt cr_lenD ok_len T.b_len PyProof.Rows.Boot.len (a_cons (e_var (i := 0)) a_nil))) (s_one (s_set sc_law_box.nd 2 (e_blt call_abs ok_abs T.b_abs PyProof.Rows.Boot.abs (a_cons (e_bty call_int1 ok_int T.b_int PyProof.Rows.Boot.int (a_cons (e_ix (e_var (i := 0)) (e_var (i := 1))) a_nil)) a_nil)))) (s_one (s_if (t_gt (e_blt cr_lenD ok_len T.b_len PyProof.Rows.Boot.len (a_cons (e_var (i := 0)) a_nil)) e_int) (s_one (s_set sc_law_box.nd 2 (e_add (e_var (i := 2)) (e_mul (e_mod (e_bty call_int1 ok_int T.b_int PyProof.Rows.Boot.int (a_cons (e_blt call_abs ok_abs T.b_abs PyProof.Rows.Boot.abs (a_cons (e_bty call_int1 ok_int T.b_int PyProof.Rows.Boot.int (a_cons (e_ix (e_var (i := 0)) (e_mod (e_bty call_int1 ok_int T.b_int PyProof.Rows.Boot.int (a_cons (e_var (i := 1)) a_nil)) (e_blt cr_lenD ok_len T.b_len PyProof.Rows.Boot.len (a_cons (e_var (i := 0)) a_nil)))) a_nil)) a_nil)) a_nil)) e_int) e_int)))) s_nil))) (s_cons (s_set sc_law_box.nd 3 (e_if (t_ge (e_var (i := 2)) (e_pow e_int e_int)) (e_var (i := 2)) e_int)) (s_one (s_retO (o_lst (a_cons (e_var (i := 3)) (a_cons (e_add (e_mod (e_bty call_int1 ok_int T.b_int PyProof.Rows.Boot.int (a_cons (e_add (e_mul (e_mod (e_bty call_int1 ok_int T.b_int PyProof.Rows.Boot.int (a_cons (e_var (i := 2)) a_nil)) e_int) e_int) (e_mul e_int (e_var (i := 1)))) a_nil)) e_int) e_int) a_nil))))))))
abbrev x_law_take (K : Fg) (C : Cs) : WS := (wSeq (wIfS (wB (wOp wGt (wIxO 0 (wC (.int 0))) (wC (.int 0)))) (wSeq (wAsg 2 (wOp wMod (wCB wInt (wCons (wIxO 0 (wC (.int 0))) wNil)) (wVar 1))) (wSeq (wSetO 0 (wC (.int 0)) (wOp wDiv (wIxO 0 (wC (.int 0))) (wVar 1))) (wRet (wVar 2)))) wNext) (wSeq (wAsg 3 (wOp wMod (wCB wInt (wCons (wOp wAdd (wOp wMul (wIxO 0 (wC (.int 1))) (wC (.int 40692))) (wC (.int 139))) wNil)) (wC (.int 2147483399)))) (wSeq (wSetO 0 (wC (.int 1)) (wOp wAdd (wOp wMod (wCB wInt (wCons (wOp wAdd (wOp wMul (wVar 3) (wC (.int 40014))) (wC (.int 11))) wNil)) (wC (.int 2147483587))) (wC (.int 1)))) (wRet (wOp wMod (wCB wInt (wCons (wOp wDiv (wOp wAdd (wOp wMul (wVar 3) (wC (.int 2147483629))) (wIxO 0 (wC (.int 1)))) (wC (.int 8209))) wNil)) (wVar 1))))))
theorem dv_law_take (T : Txt P w K mg base t C)  (cdv : Value) (A : Around) (outer : List Env) (s : Shared) (H : Hp) (E : XK) (c : Cok (cxOf (L2.CX P w) P w K mg base ["box", "many", "digit", "raw"] "_law_take" (defScope (top 53)) C.f_law_take cdv A outer s H E) (wishOf E) 1) :
    PSs (cxOf (L2.CX P w) P w K mg base ["box", "many", "digit", "raw"] "_law_take" (defScope (top 53)) C.f_law_take cdv A outer s H E) (defBody (top 53)) (lS K (tb0 t) (wishOf E) (x_law_take K C)) := by
  exact (s_cons (s_if (t_gt (e_ixO (i := 0) e_int) e_int) (s_cons (s_set sc_law_take.nd 2 (e_mod (e_bty call_int1 ok_int T.b_int PyProof.Rows.Boot.int (a_cons (e_ixO (i := 0) e_int) a_nil)) (e_var (i := 1)))) (s_cons (s_setO1 0 e_int (e_div (e_ixO (i := 0) e_int) (e_var (i := 1)))) (s_one (s_ret (e_var (i := 2)))))) s_nil) (s_cons (s_set sc_law_take.nd 3 (e_mod (e_bty call_int1 ok_int T.b_int PyProof.Rows.Boot.int (a_cons (e_add (e_mul (e_ixO (i := 0) e_int) e_int) e_int) a_nil)) e_int)) (s_cons (s_setO1 0 e_int (e_add (e_mod (e_bty call_int1 ok_int T.b_int PyProof.Rows.Boot.int (a_cons (e_add (e_mul (e_var (i := 3)) e_int) e_int) a_nil)) e_int) e_int)) (s_one (s_ret (e_mod (e_bty call_int1 ok_int T.b_int PyProof.Rows.Boot.int (a_cons (e_div (e_add (e_mul (e_var (i := 3)) e_int) (e_ixO (i := 0) e_int)) e_int) a_nil)) (e_var (i := 1))))))))
abbrev x_law_pick (K : Fg) (C : Cs) : WS := (wRet (wOp wIx (wVar 1) (wCallB 0 1 (sp_law_take C) (wCons (wCB wLen (wCons (wVar 1) wNil)) wNil))))
theorem dv_law_pick (T : Txt P w K mg base t C) (G_law_take : FnG P w K mg base 2 C.f_law_take C.d_law_take ["box", "many"] (lSp K t 2 (sp_law_take C))) (U_law_take : Dn K mg "_law_take" C.f_law_take C.d_law_take ["box", "many"] 2) (cdv : Value) (A : Around) (outer : List Env) (s : Shared) (H : Hp) (E : XK) (c : Cok (cxOf (L2.CX P w) P w K mg base ["box", "some"] "_law_pick" (defScope (top 54)) C.f_law_pick cdv A outer s H E) (wishOf E) 2) :
    PSs (cxOf (L2.CX P w) P w K mg base ["box", "some"] "_law_pick" (defScope (top 54)) C.f_law_pick cdv A outer s H E) (defBody (top 54)) (lS K (tb0 t) (wishOf E) (x_law_pick K C)) := by
  exact (s_one (s_ret (e_ix (e_var (i := 1)) (e_callB c (i := 0) G_law_take U_law_take (a_cons (e_blt cr_lenD ok_len T.b_len PyProof.Rows.Boot.len (a_cons (e_var (i := 1)) a_nil)) a_nil)))))
abbrev x_law_machine (K : Fg) (C : Cs) : WS := (wSeq (wAsgO 3 (woLst wNil)) (wSeq (wFor (wiRg1 (wCons (wVar 2) wNil)) (wgName 4) (wSeq (wParO 5 6 (wCallB 0 1 (sp_law_take C) (wCons (wC (.int 6)) wNil)) (woRg (wVar 1))) (wSeq (wIfS (wB (wOp wLt (wVar 5) (wC (.int 2)))) (wAsgO 6 (woLc (wiRg1 (wCons (wVar 1) wNil)) (wgName 9) wTrue (wCallB 0 1 (sp_law_take C) (wCons (wVar 1) wNil)) [9])) (wIfS (wB (wOp (wEq false) (wVar 5) (wC (.int 2)))) (wAsgO 6 (woLc (wiRg1 (wCons (wVar 1) wNil)) (wgName 9) wTrue (wOp wMod (wCB wInt (wCons (wOp wAdd (wVar 9) (wC (.int 1))) wNil)) (wVar 1)) [9])) (wIfS (wB (wOp (wEq false) (wVar 5) (wC (.int 3)))) (wSeq (wPar 7 8 (wCons (wCallB 0 1 (sp_law_take C) (wCons (wVar 1) wNil)) (wCons (wCallB 0 1 (sp_law_take C) (wCons (wVar 1) wNil)) wNil))) (wAsgG (wgTup 2 (wgCons (wgSub 6 (wVar 7)) (wgCons (wgSub 6 (wVar 8)) wgNil))) (wTup (wCons (wIxO 6 (wVar 8)) (wCons (wIxO 6 (wVar 7)) wNil))))) (wIfS (wB (wOp (wEq false) (wVar 5) (wC (.int 4)))) (wSetO 6 (wCallB 0 1 (sp_law_take C) (wCons (wVar 1) wNil)) (wCallB 0 1 (sp_law_take C) (wCons (wVar 1) wNil))) wNext)))) (wApp 3 (wCB wTupOf (wCons (wVar 6) wNil)))))) (wRet (wVar 3))))
theorem dv_law_machine (T : Txt P w K mg base t C) (G_law_take : FnG P w K mg base 2 C.f_law_take C.d_law_take ["box", "many"] (lSp K t 2 (sp_law_take C))) (U_law_take : Dn K mg "_law_take" C.f_law_take C.d_law_take ["box", "many"] 2) (cdv : Value) (A : Around) (outer : List Env) (s : Shared) (H : Hp) (E : XK) (c : Cok (cxOf (L2.CX P w) P w K mg base ["box", "states", "deeds", "found", "turn", "way", "table", "one", "other", "state"] "_law_machine" (defScope (top 55)) C.f_law_machine cdv A outer s H E) (wishOf E) 2) :
    PSs (cxOf (L2.CX P w) P w K mg base ["box", "states", "deeds", "found", "turn", "way", "table", "one", "other", "state"] "_law_machine" (defScope (top 55)) C.f_law_machine cdv A outer s H E) (defBody (top 55)) (lS K (tb0 t) (wishOf E) (x_law_machine K C)) := by
  exact (s_cons (s_setO sc_law_machine.nd 3 (o_lst a_nil)) (s_cons (s_for (passes_of rfl) rfl (i_rng1 T.b_range (a_cons (e_var (i := 2)) a_nil)) (g_nm sc_law_machine.nd 4) (s_cons (s_parO sc_law_machine.nd rfl 5 6 (e_callB c (i := 0) G_law_take U_law_take (a_cons e_int a_nil)) (o_rg rfl T.b_list T.b_range (e_var (i := 1))) rfl) (s_cons (s_if (t_lt (e_var (i := 5)) e_int) (s_one (s_setLcO 6 (own := [("state", 9)]) rfl sc_law_machine.nd (i_rng1 T.b_range (a_cons (e_var (i := 1)) a_nil)) (blk_ok (by kernel_rfl)) (fun _ _ _ _ _ => (g_c 9 sc_law_machine.nd)) (fun _ _ _ _ _ => f_nil) (fun _ _ _ _ _ => (e_callB (c.blk _ _ _ _ _) (i := 0) G_law_take U_law_take (a_cons (e_var (i := 1)) a_nil))))) (s_one (s_if (t_eq c (e_var (i := 5)) e_int) (s_one (s_setLcO 6 (own := [("state", 9)]) rfl sc_law_machine.nd (i_rng1 T.b_range (a_cons (e_var (i := 1)) a_nil)) (blk_ok (by kernel_rfl)) (fun _ _ _ _ _ => (g_c 9 sc_law_machine.nd)) (fun _ _ _ _ _ => f_nil) (fun _ _ _ _ _ => (e_mod (e_bty call_int1 ok_int T.b_int PyProof.Rows.Boot.int (a_cons (e_add (e_var (i := 9)) e_int) a_nil)) (e_var (i := 1)))))) (s_one (s_if (t_eq c (e_var (i := 5)) e_int) (s_cons (s_par sc_law_machine.nd rfl 7 8 (a_cons (e_callB c (i := 0) G_law_take U_law_take (a_cons (e_var (i := 1)) a_nil)) (a_cons (e_callB c (i := 0) G_law_take U_law_take (a_cons (e_var (i := 1)) a_nil)) a_nil)) rfl) (s_one (s_asg (e_tup (a_cons (e_ixO (i := 6) (e_var (i := 8))) (a_cons (e_ixO (i := 6) (e_var (i := 7))) a_nil))) (g_twoS (W := W0) rfl 6 6 (e_var (i := 7)) (e_var (i := 8)))))) (s_one (s_if (t_eq c (e_var (i := 5)) e_int) (s_one (s_setO1 6 (e_callB c (i := 0) G_law_take U_law_take (a_cons (e_var (i := 1)) a_nil)) (e_callB c (i := 0) G_law_take U_law_take (a_cons (e_var (i := 1)) a_nil)))) s_nil))))))) (s_one (s_app 3 (e_bty call_tuple_of ok_tupOf T.b_tuple PyProof.Rows.Boot.tuple (a_cons (e_var (i := 6)) a_nil))))))) (s_one (s_ret (e_var (i := 3))))))
abbrev x_law_behind (K : Fg) (C : Cs) : WS := (wSeq (wFor (wiSeq (wVar 2)) (wgName 3) (wAsg 1 (wOp wIx (wOp wIx (wVar 0) (wVar 3)) (wVar 1)))) (wRet (wVar 1)))
theorem dv_law_behind (T : Txt P w K mg base t C)  (cdv : Value) (A : Around) (outer : List Env) (s : Shared) (H : Hp) (E : XK) (c : Cok (cxOf (L2.CX P w) P w K mg base ["tables", "state", "log", "deed"] "_law_behind" (defScope (top 56)) C.f_law_behind cdv A outer s H E) (wishOf E) 1) :
    PSs (cxOf (L2.CX P w) P w K mg base ["tables", "state", "log", "deed"] "_law_behind" (defScope (top 56)) C.f_law_behind cdv A outer s H E) (defBody (top 56)) (lS K (tb0 t) (wishOf E) (x_law_behind K C)) := by
  exact (s_cons (s_for (passes_of rfl) rfl (i_seq (e_var (i := 2))) (g_nm sc_law_behind.nd 3) (s_one (s_set sc_law_behind.nd 1 (e_ix (e_ix (e_var (i := 0)) (e_var (i := 3))) (e_var (i := 1)))))) (s_one (s_ret (e_var (i := 1)))))
abbrev x_law_layers (K : Fg) (C : Cs) : WS := (wSeq (wAsg 2 (wRgT (wCons (wCB wLen (wCons (wOp wIx (wVar 0) (wC (.int 0))) wNil)) wNil))) (wSeq (wAsgO 3 (woLst (wCons (wLst (wCons (wVar 2) wNil)) wNil))) (wSeq (wFor (wiRg1 (wCons (wVar 1) wNil)) (wgName 4) (wSeq (wAsgO 5 woDicT) (wSeq (wFor (wiSeq (wIxO 3 (wVar 4))) (wgName 6) (wFor (wiSeq (wVar 0)) (wgName 7) (wPutT 5 (wCB wTupOf (wCons (wLc (wiSeq (wVar 6)) (wgName 8) wTrue (wOp wIx (wVar 7) (wVar 8)) [8]) wNil)) (wC (.bl true))))) (wApp 3 (wKeysT 5))))) (wRet (wVar 3)))))
theorem dv_law_layers (T : Txt P w K mg base t C)  (cdv : Value) (A : Around) (outer : List Env) (s : Shared) (H : Hp) (E : XK) (c : Cok (cxOf (L2.CX P w) P w K mg base ["tables", "length", "idle", "found", "turn", "later", "done", "table", "state"] "_law_layers" (defScope (top 57)) C.f_law_layers cdv A outer s H E) (wishOf E) 1) :
    PSs (cxOf (L2.CX P w) P w K mg base ["tables", "length", "idle", "found", "turn", "later", "done", "table", "state"] "_law_layers" (defScope (top 57)) C.f_law_layers cdv A outer s H E) (defBody (top 57)) (lS K (tb0 t) (wishOf E) (x_law_layers K C)) := by
  exact (s_cons (s_set sc_law_layers.nd 2 (e_tupRg rfl T.b_tuple T.b_range (e_blt cr_lenD ok_len T.b_len PyProof.Rows.Boot.len (a_cons (e_ix (e_var (i := 0)) e_int) a_nil)))) (s_cons (s_setO sc_law_layers.nd 3 (o_lst (a_cons (e_lst (a_cons (e_var (i := 2)) a_nil)) a_nil))) (s_cons (s_for (passes_of rfl) rfl (i_rng1 T.b_range (a_cons (e_var (i := 1)) a_nil)) (g_nm sc_law_layers.nd 4) (s_cons (s_setO sc_law_layers.nd 5 o_dicT) (s_cons (s_for (passes_of rfl) rfl (i_seq (e_ixO (i := 3) (e_var (i := 4)))) (g_nm sc_law_layers.nd 6) (s_one (s_for (passes_of rfl) rfl (i_seq (e_var (i := 0))) (g_nm sc_law_layers.nd 7) (s_one (s_putT c 5 (e_bty call_tuple_of ok_tupOf T.b_tuple PyProof.Rows.Boot.tuple (a_cons (e_lc (own := [("state", 8)]) rfl sc_law_layers.nd (i_seq (e_var (i := 6))) (blk_ok (by kernel_rfl)) (fun _ _ _ _ _ => (g_c 8 sc_law_layers.nd)) (fun _ _ _ _ _ => f_nil) (fun _ _ _ _ _ => (e_ix (e_var (i := 7)) (e_var (i := 8))))) a_nil)) e_bl))))) (s_one (s_app 3 (e_keysT (i := 5) rfl T.b_list)))))) (s_one (s_ret (e_var (i := 3)))))))
abbrev x_law_parts (K : Fg) (C : Cs) : WS := (wRet (wAndV (wOp (wEq true) (wOp wIx (wVar 0) (wVar 1)) (wVar 1)) (wOp (wInI false) (wVar 1) (wVar 0))))
theorem dv_law_parts (T : Txt P w K mg base t C)  (cdv : Value) (A : Around) (outer : List Env) (s : Shared) (H : Hp) (E : XK) (c : Cok (cxOf (L2.CX P w) P w K mg base ["done", "state"] "_law_parts" (defScope (top 58)) C.f_law_parts cdv A outer s H E) (wishOf E) 1) :
    PSs (cxOf (L2.CX P w) P w K mg base ["done", "state"] "_law_parts" (defScope (top 58)) C.f_law_parts cdv A outer s H E) (defBody (top 58)) (lS K (tb0 t) (wishOf E) (x_law_parts K C)) := by
  exact (s_one (s_ret (e_and (e_ne c (e_ix (e_var (i := 0)) (e_var (i := 1))) (e_var (i := 1))) (e_and1 (e_in (e_var (i := 1)) (e_var (i := 0)))))))
abbrev x_law_clash (K : Fg) (C : Cs) : WS := (wSeq (wAsgO 5 (woLst (wCons (wRgL (wCons (wCB wLen (wCons (wOp wIx (wVar 0) (wC (.int 0))) wNil)) wNil)) wNil))) (wSeq (wFor (wiSeq (wVar 1)) (wgName 6) (wApp 5 (wLc (wiSeq (wIxO 5 (wOp wSub (wLenO 5) (wC (.int 1))))) (wgName 9) wTrue (wOp wIx (wOp wIx (wVar 0) (wVar 6)) (wVar 9)) [9]))) (wSeq (wFor (wiRg1 (wCons (wLenO 5) wNil)) (wgName 7) (wFor (wiRg3 (wCons (wOp wAdd (wVar 7) (wVar 3)) (wCons (wLenO 5) (wCons (wVar 3) wNil)))) (wgName 8) (wIfS (wOr (wB (wOp (wIsN false) (wVar 4) (wC .non))) (wB (wOp wLt (wOp wSub (wVar 8) (wVar 7)) (wVar 4)))) (wFor (wiSeq (wVar 2)) (wgName 9) (wIfS (wAnd (wB (wOp (wInI false) (wVar 9) (wIxO 5 (wVar 7)))) (wAnd (wB (wOp (wInI false) (wVar 9) (wIxO 5 (wVar 8)))) (wB (wOp (wEq true) (wCallA 3 0 (sp_law_behind C) (fun ds _ => ds) (wCons (wVar 0) (wCons (wVar 9) (wCons (wSl (wVar 1) (woSome (wVar 7)) (woSome (wVar 8))) wNil))) wNil) (wVar 9))))) (wRet (wTup (wCons (wVar 7) (wCons (wVar 8) wNil)))) wNext)) wNext))) (wRet (wC .non)))))
theorem dv_law_clash (T : Txt P w K mg base t C) (G_law_behind : FnG P w K mg base 2 C.f_law_behind C.d_law_behind ["tables", "state", "log"] (lSp K t 3 (sp_law_behind C))) (U_law_behind : Dn K mg "_law_behind" C.f_law_behind C.d_law_behind ["tables", "state", "log"] 3) (cdv : Value) (A : Around) (outer : List Env) (s : Shared) (H : Hp) (E : XK) (c : Cok (cxOf (L2.CX P w) P w K mg base ["tables", "log", "lot", "modulus", "bound", "rows", "deed", "one", "other", "state"] "_law_clash" (defScope (top 59)) C.f_law_clash cdv A outer s H E) (wishOf E) 2) :
    PSs (cxOf (L2.CX P w) P w K mg base ["tables", "log", "lot", "modulus", "bound", "rows", "deed", "one", "other", "state"] "_law_clash" (defScope (top 59)) C.f_law_clash cdv A outer s H E) (defBody (top 59)) (lS K (tb0 t) (wishOf E) (x_law_clash K C)) := by
  exact (s_cons (s_setO sc_law_clash.nd 5 (o_lst (a_cons (e_lstRg rfl T.b_list T.b_range (e_blt cr_lenD ok_len T.b_len PyProof.Rows.Boot.len (a_cons (e_ix (e_var (i := 0)) e_int) a_nil))) a_nil))) (s_cons (s_for (passes_of rfl) rfl (i_seq (e_var (i := 1))) (g_nm sc_law_clash.nd 6) (s_one (s_app 5 (e_lc (own := [("state", 9)]) rfl sc_law_clash.nd (i_seq (e_ixO (i := 5) (e_sub (e_lenO (i := 5) T.b_len) e_int))) (blk_ok (by kernel_rfl)) (fun _ _ _ _ _ => (g_c 9 sc_law_clash.nd)) (fun _ _ _ _ _ => f_nil) (fun _ _ _ _ _ => (e_ix (e_ix (e_var (i := 0)) (e_var (i := 6))) (e_var (i := 9)))))))) (s_cons (s_for (passes_of rfl) rfl (i_rng1 T.b_range (a_cons (e_lenO (i := 5) T.b_len) a_nil)) (g_nm sc_law_clash.nd 7) (s_one (s_for (passes_of rfl) rfl (i_rng3 T.b_range (a_cons (e_add (e_var (i := 7)) (e_var (i := 3))) (a_cons (e_lenO (i := 5) T.b_len) (a_cons (e_var (i := 3)) a_nil)))) (g_nm sc_law_clash.nd 8) (s_one (s_if (t_pw (q_or (t_isN (e_var (i := 4)) e_non) (q_or1 (t_lt (e_sub (e_var (i := 8)) (e_var (i := 7))) (e_var (i := 4)))))) (s_one (s_for (passes_of rfl) rfl (i_seq (e_var (i := 2))) (g_nm sc_law_clash.nd 9) (s_one (s_if (t_pw (q_and (t_in (e_var (i := 9)) (e_ixO (i := 5) (e_var (i := 7)))) (q_and (t_in (e_var (i := 9)) (e_ixO (i := 5) (e_var (i := 8)))) (q_and1 (t_ne c (e_call c G_law_behind U_law_behind (a_cons (e_var (i := 0)) (a_cons (e_var (i := 9)) (a_cons (e_slice (e_var (i := 1)) (s_some (e_var (i := 7))) (s_some (e_var (i := 8)))) a_nil)))) (e_var (i := 9))))))) (s_one (s_ret (e_tup (a_cons (e_var (i := 7)) (a_cons (e_var (i := 8)) a_nil))))) s_nil)))) s_nil))))) (s_one (s_ret e_non)))))
abbrev x_law_paper_right (K : Fg) (C : Cs) : WS := (wSeq (wIfS (wOr (wNot (wB (wCB (wIsI K) (wCons (wVar 2) (wCons (wC (.raw (.ty "tuple"))) wNil))))) (wOr (wB (wOp (wEq true) (wCB wLen (wCons (wVar 2) wNil)) (wC (.int 4)))) (wOr (wB (wOp (wEq true) (wOp wIx (wVar 2) (wC (.int 0))) (wC (.str "wrap")))) (wNot (wB (wCB (wIsI K) (wCons (wOp wIx (wVar 2) (wC (.int 3))) (wCons (wC (.raw (.ty "tuple"))) wNil)))))))) (wRet (wC (.bl false))) wNext) (wSeq (wAsgG (wgTup 3 (wgCons (wgName 6) (wgCons (wgName 7) (wgCons (wgName 8) wgNil)))) (wSl (wVar 2) (woSome (wC (.int 1))) woNone)) (wSeq (wIfS (wOr (wB (wOp (wInI true) (wVar 6) (wVar 3))) (wOr (wB (wOp (wEq false) (wCB wLen (wCons (wVar 8) wNil)) (wC (.int 0)))) (wOr (wB (wOp (wEq true) (wOp wMod (wCB wInt (wCons (wCB wLen (wCons (wVar 8) wNil)) wNil)) (wVar 4)) (wC (.int 0)))) (wAnd (wB (wOp (wIsN true) (wVar 5) (wC .non))) (wB (wOp wGe (wCB wLen (wCons (wVar 8) wNil)) (wVar 5))))))) (wRet (wC (.bl false))) wNext) (wSeq (wIfS (wOr (wB (wOp (wEq true) (wCallA 3 0 (sp_law_behind C) (fun ds _ => ds) (wCons (wVar 0) (wCons (wVar 7) (wCons (wVar 8) wNil))) wNil) (wVar 6))) (wB (wOp (wEq false) (wCallA 3 0 (sp_law_behind C) (fun ds _ => ds) (wCons (wVar 0) (wCons (wVar 6) (wCons (wVar 8) wNil))) wNil) (wVar 6)))) (wRet (wC (.bl false))) wNext) (wSeq (wFor (wiRg3 (wCons (wVar 4) (wCons (wCB wMin2 (wCons (wCB wLen (wCons (wVar 8) wNil)) (wCons (wCB wLen (wCons (wVar 1) wNil)) wNil))) (wCons (wVar 4) wNil)))) (wgName 9) (wIfS (wB (wOp (wEq true) (wLc (wiSeq (wOp wIx (wVar 1) (wVar 9))) (wgName 10) (wB (wOp (wEq true) (wLc (wiSeq (wVar 3)) (wgName 11) (wB (wCallA 2 0 (sp_law_parts C) (fun ds _ => ds) (wCons (wVar 10) (wCons (wVar 11) wNil)) wNil)) (wVar 11) [11]) (wLst wNil))) (wVar 10) [10]) (wLst wNil))) (wRet (wC (.bl false))) wNext)) (wRet (wC (.bl true))))))))
theorem dv_law_paper_right (T : Txt P w K mg base t C) (G_law_behind : FnG P w K mg base 2 C.f_law_behind C.d_law_behind ["tables", "state", "log"] (lSp K t 3 (sp_law_behind C))) (U_law_behind : Dn K mg "_law_behind" C.f_law_behind C.d_law_behind ["tables", "state", "log"] 3) (G_law_parts : FnG P w K mg base 2 C.f_law_parts C.d_law_parts ["done", "state"] (lSp K t 2 (sp_law_parts C))) (U_law_parts : Dn K mg "_law_parts" C.f_law_parts C.d_law_parts ["done", "state"] 2) (cdv : Value) (A : Around) (outer : List Env) (s : Shared) (H : Hp) (E : XK) (c : Cok (cxOf (L2.CX P w) P w K mg base ["tables", "layers", "paper", "lot", "modulus", "bound", "state", "other", "log", "length", "done", "one"] "_law_paper_right" (defScope (top 60)) C.f_law_paper_right cdv A outer s H E) (wishOf E) 2) :
    PSs (cxOf (L2.CX P w) P w K mg base ["tables", "layers", "paper", "lot", "modulus", "bound", "state", "other", "log", "length", "done", "one"] "_law_paper_right" (defScope (top 60)) C.f_law_paper_right cdv A outer s H E) (defBody (top 60)) (lS K (tb0 t) (wishOf E) (x_law_paper_right K C)) := by
  exact (s_cons (s_if (t_pw (q_or (t_not (t_val (e_blt call_isi ok_isI T.b_isinstance PyProof.Rows.Boot.isinstance (a_cons (e_var (i := 2)) (a_cons (e_ty T.b_tuple PyProof.Rows.Boot.tuple) a_nil))))) (q_or (t_ne c (e_blt cr_lenD ok_len T.b_len PyProof.Rows.Boot.len (a_cons (e_var (i := 2)) a_nil)) e_int) (q_or (t_ne c (e_ix (e_var (i := 2)) e_int) e_str) (q_or1 (t_not (t_val (e_blt call_isi ok_isI T.b_isinstance PyProof.Rows.Boot.isinstance (a_cons (e_ix (e_var (i := 2)) e_int) (a_cons (e_ty T.b_tuple PyProof.Rows.Boot.tuple) a_nil)))))))))) (s_one (s_ret e_bl)) s_nil) (s_cons (s_asg (e_slice (e_var (i := 2)) (s_some e_int) s_none) (g_tupN rfl (gs_cons (g_nm sc_law_paper_right.nd 6) (gs_cons (g_nm sc_law_paper_right.nd 7) (gs_cons (g_nm sc_law_paper_right.nd 8) gs_nil))))) (s_cons (s_if (t_pw (q_or (t_nin (e_var (i := 6)) (e_var (i := 3))) (q_or (t_eq c (e_blt cr_lenD ok_len T.b_len PyProof.Rows.Boot.len (a_cons (e_var (i := 8)) a_nil)) e_int) (q_or (t_ne c (e_mod (e_bty call_int1 ok_int T.b_int PyProof.Rows.Boot.int (a_cons (e_blt cr_lenD ok_len T.b_len PyProof.Rows.Boot.len (a_cons (e_var (i := 8)) a_nil)) a_nil)) (e_var (i := 4))) e_int) (q_or1 (t_pw (q_and (t_notN (e_var (i := 5)) e_non) (q_and1 (t_ge (e_blt cr_lenD ok_len T.b_len PyProof.Rows.Boot.len (a_cons (e_var (i := 8)) a_nil)) (e_var (i := 5))))))))))) (s_one (s_ret e_bl)) s_nil) (s_cons (s_if (t_pw (q_or (t_ne c (e_call c G_law_behind U_law_behind (a_cons (e_var (i := 0)) (a_cons (e_var (i := 7)) (a_cons (e_var (i := 8)) a_nil)))) (e_var (i := 6))) (q_or1 (t_eq c (e_call c G_law_behind U_law_behind (a_cons (e_var (i := 0)) (a_cons (e_var (i := 6)) (a_cons (e_var (i := 8)) a_nil)))) (e_var (i := 6)))))) (s_one (s_ret e_bl)) s_nil) (s_cons (s_for (passes_of rfl) rfl (i_rng3 T.b_range (a_cons (e_var (i := 4)) (a_cons (e_blt (call_min2 rfl) ok_min2 T.b_min PyProof.Rows.Boot.min (a_cons (e_blt cr_lenD ok_len T.b_len PyProof.Rows.Boot.len (a_cons (e_var (i := 8)) a_nil)) (a_cons (e_blt cr_lenD ok_len T.b_len PyProof.Rows.Boot.len (a_cons (e_var (i := 1)) a_nil)) a_nil))) (a_cons (e_var (i := 4)) a_nil)))) (g_nm sc_law_paper_right.nd 9) (s_one (s_if (t_ne c (e_lc (own := [("done", 10)]) rfl sc_law_paper_right.nd (i_seq (e_ix (e_var (i := 1)) (e_var (i := 9)))) (blk_ok (by kernel_rfl)) (fun _ _ _ _ _ => (g_c 10 sc_law_paper_right.nd)) (fun _ _ _ _ _ => (f_one (t_ne (c.blk _ _ _ _ _) (e_lc (own := [("one", 11)]) rfl sc_law_paper_right.nd (i_seq (e_var (i := 3))) (blk_ok (by kernel_rfl)) (fun _ _ _ _ _ => (g_c 11 sc_law_paper_right.nd)) (fun _ _ _ _ _ => (f_one (t_val (e_call ((c.blk _ _ _ _ _).blk _ _ _ _ _) G_law_parts U_law_parts (a_cons (e_var (i := 10)) (a_cons (e_var (i := 11)) a_nil)))))) (fun _ _ _ _ _ => (e_var (i := 11)))) (e_lst a_nil)))) (fun _ _ _ _ _ => (e_var (i := 10)))) (e_lst a_nil)) (s_one (s_ret e_bl)) s_nil))) (s_one (s_ret e_bl)))))))
abbrev x_law_refused (K : Fg) (C : Cs) (wa : WE) : WS := (wSeq (wTry K (.ref C.Refused) 1 (wDrop wa) (fun a cls d => (wRet (wIf (wB (wCB (rIsXD K cls d a) (wCons (wVar 1) (wCons (wC (.raw (.ref C.AgeError))) wNil)))) (wCB wRepr (wCons (wXf a cls d C.Refused "at" (wVar 1)) wNil)) (wC (.str "wrong")))))) (wRet (wC .non)))
theorem dv_law_refused {τ : Tb} (T : Txt P w K mg base t C)  (cdv : Value) (A : Around) (outer : List Env) (s : Shared) (H : Hp) (E : XK) (wa : WE)
    (hA : ∀ (W : WX) (pn : List (Addr × Obj)) (xe : Value → Shared → Prop) (p1 p2 : Pos), Takes ((cxOf (L2.CX P w) P w K mg base ["ask", "fault"] "_law_refused" (defScope (top 61)) C.f_law_refused cdv A outer s H E).tr pn xe) W → PE ((cxOf (L2.CX P w) P w K mg base ["ask", "fault"] "_law_refused" (defScope (top 61)) C.f_law_refused cdv A outer s H E).tr pn xe) (.Call (.Name "ask" p1) [] [] p2) (lE K τ W wa)) (c : Cok (cxOf (L2.CX P w) P w K mg base ["ask", "fault"] "_law_refused" (defScope (top 61)) C.f_law_refused cdv A outer s H E) (wishOf E) 1) :
    PSs (cxOf (L2.CX P w) P w K mg base ["ask", "fault"] "_law_refused" (defScope (top 61)) C.f_law_refused cdv A outer s H E) (defBody (top 61)) (lS K τ (wishOf E) (x_law_refused K C wa)) :=
  (s_cons (s_try (i := 1) sc_law_refused.nd c ⟨rfl, by decide, .inl T.Refused⟩ (fun W' pn xe c' hp' => (s_one (s_drop (hA _ _ _ _ _ c'.tk)))) (fun a oe cls d pn hz hf => (s_one (s_ret (e_if (t_val (e_blt (call_isX hz hf) ok_isX T.b_isinstance PyProof.Rows.Boot.isinstance (a_cons (e_var (i := 1)) (a_cons (e_cls T.AgeError) a_nil)))) (e_blt (cr_reprU c) ok_repr T.b_repr PyProof.Rows.Boot.repr (a_cons (e_xf T.xf_Refused T.no_Refused hz hf (e_var (i := 1))) a_nil)) e_str))))) (s_one (s_ret e_non)))
abbrev x_law (K : Fg) (C : Cs) : WS := (wSeq (wFor (wiRg1 (wCons (wC (.int 2)) wNil)) (wgName 1) (wSeq (wAsgO 2 (woCall 2 (so_law_box C) (wCons (wVar 0) (wCons (wVar 1) wNil)))) (wSeq (wAsg 3 (wOp wAdd (wC (.int 2)) (wCallB 2 1 (sp_law_pick C) (wCons (wLst (wCons (wC (.int 1)) (wCons (wC (.int 2)) (wCons (wC (.int 0)) (wCons (wC (.int 1)) wNil))))) wNil)))) (wSeq (wAsg 4 (wCallB 2 2 (sp_law_machine C) (wCons (wVar 3) (wCons (wOp wAdd (wC (.int 1)) (wCallB 2 1 (sp_law_take C) (wCons (wC (.int 3)) wNil))) wNil)))) (wSeq (wAsgG (wgTup 2 (wgCons (wgName 5) (wgCons (wgName 6) wgNil))) (wTup (wCons (wMake C.Machine 1 0 (sp_Machine_init C) (fun ds _ => ds) (wCons (wVar 4) wNil) wNil) (wCons (wCallA 2 0 (sp_law_layers C) (fun ds _ => ds) (wCons (wVar 4) (wCons (wC (.int 8)) wNil)) wNil) wNil)))) (wSeq (wAsg 7 (wLc (wiRg1 (wCons (wVar 3) wNil)) (wgName 17) (wB (wOp wGt (wCallB 2 1 (sp_law_take C) (wCons (wC (.int 3)) wNil)) (wC (.int 0)))) (wVar 17) [17])) (wSeq (wAsg 7 (wIf (wB (wOp (wEq true) (wVar 7) (wLst wNil))) (wVar 7) (wLst (wCons (wOp wSub (wVar 3) (wC (.int 1))) wNil)))) (wSeq (wFor (wiRg1 (wCons (wC (.int 4)) wNil)) (wgName 8) (wSeq (wPar 9 10 (wCons (wOp wAdd (wC (.int 1)) (wCallB 2 1 (sp_law_take C) (wCons (wC (.int 8)) wNil))) (wCons (wCallB 2 1 (sp_law_pick C) (wCons (wLst (wCons (wC .non) (wCons (wC .non) (wCons (wOp wAdd (wC (.int 1)) (wCallB 2 1 (sp_law_take C) (wCons (wC (.int 12)) wNil))) wNil)))) wNil)) wNil))) (wSeq (wAsg 11 (wCallA 2 2 (sp_wrap_paper C) (kf_2_01 D.non) (wCons (wVar 5) (wCons (wVar 9) wNil)) (wCons (wVar 7) (wCons (wVar 10) wNil)))) (wSeq (wIfS (wB (wOp (wEq true) (wCB wRepr (wCons (wCallA 0 4 (sp_wrap_paper C) pm_3210 wNil (wCons (wVar 10) (wCons (wVar 7) (wCons (wVar 9) (wCons (wVar 5) wNil))))) wNil)) (wCB wRepr (wCons (wVar 11) wNil)))) (wRet (wC (.bl false))) wNext) (wSeq (wIfS (wB (wOp (wEq true) (wOp (wIsN false) (wCallA 2 2 (sp_wrap_paper C) (kf_2_01 D.non) (wCons (wVar 5) (wCons (wVar 9) wNil)) (wCons (wCB wTupOf (wCons (wVar 7) wNil)) (wCons (wVar 10) wNil))) (wC .non)) (wOp (wIsN false) (wVar 11) (wC .non)))) (wRet (wC (.bl false))) wNext) (wSeq (wAsg 12 (wLst (wCons (wCallA 2 2 (sp_is_enough C) (kf_2_01 D.non) (wCons (wVar 5) (wCons (wVar 9) wNil)) (wCons (wVar 7) (wCons (wVar 10) wNil))) (wCons (wCallA 0 4 (sp_is_enough C) pm_3210 wNil (wCons (wVar 10) (wCons (wVar 7) (wCons (wVar 9) (wCons (wVar 5) wNil))))) wNil)))) (wSeq (wIfS (wB (wOp (wEq true) (wCB wRepr (wCons (wVar 12) wNil)) (wCB wRepr (wCons (wOp wMul (wLst (wCons (wOp (wIsN false) (wVar 11) (wC .non)) wNil)) (wC (.int 2))) wNil)))) (wRet (wC (.bl false))) wNext) (wSeq (wIfS (wAnd (wB (wOp (wIsN true) (wVar 11) (wC .non))) (wNot (wB (wCallA 6 0 (sp_law_paper_right C) (fun ds _ => ds) (wCons (wVar 4) (wCons (wVar 6) (wCons (wVar 11) (wCons (wVar 7) (wCons (wVar 9) (wCons (wVar 10) wNil)))))) wNil)))) (wRet (wC (.bl false))) wNext) (wSeq (wIfS (wAnd (wB (wOp (wIsN true) (wVar 11) (wC .non))) (wB (wOp (wIsB true) (wCallA 3 2 (sp_wrap_holds C) (kf_3_01 D.non) (wCons (wVar 5) (wCons (wVar 9) (wCons (wVar 11) wNil))) (wCons (wVar 7) (wCons (wVar 10) wNil))) (wC (.bl true))))) (wRet (wC (.bl false))) wNext) (wSeq (wFor (wiRg1 (wCons (wC (.int 3)) wNil)) (wgName 13) (wSeq (wAsg 14 (wLc (wiRg1 (wCons (wCallB 2 1 (sp_law_take C) (wCons (wC (.int 25)) wNil)) wNil)) (wgName 18) wTrue (wCallB 2 1 (sp_law_take C) (wCons (wCB wLen (wCons (wVar 4) wNil)) wNil)) [18])) (wIfS (wAnd (wB (wOp (wIsN false) (wVar 11) (wC .non))) (wB (wOp (wIsN true) (wCallA 5 0 (sp_law_clash C) (fun ds _ => ds) (wCons (wVar 4) (wCons (wVar 14) (wCons (wVar 7) (wCons (wVar 9) (wCons (wVar 10) wNil))))) wNil) (wC .non)))) (wRet (wC (.bl false))) wNext))) (wIfS (wAnd (wB (wOp (wIsN true) (wVar 11) (wC .non))) (wB (wOp (wIsN false) (wCallA 5 0 (sp_law_clash C) (fun ds _ => ds) (wCons (wVar 4) (wCons (wCB wLstOf (wCons (wOp wIx (wVar 11) (wC (.int 3))) wNil)) (wCons (wVar 7) (wCons (wVar 9) (wCons (wVar 10) wNil))))) wNil) (wC .non)))) (wRet (wC (.bl false))) wNext))))))))))) (wSeq (wIfS (wB (wOp (wIsB true) (wCallA 2 1 (sp_is_enough C) (kf_2_n0 D.non) (wCons (wVar 5) (wCons (wC (.int 200)) wNil)) (wCons (wC (.int 200)) wNil)) (wC (.bl true)))) (wRet (wC (.bl false))) wNext) (wSeq (wAsg 15 (wRgL (wCons (wVar 3) wNil))) (wSeq (wIfS (wB (wOp (wEq true) (wCallA 2 0 (sp_is_enough C) (kf_2_nn D.non) (wCons (wVar 5) (wCons (wC (.int 3)) wNil)) wNil) (wCallA 2 1 (sp_is_enough C) (kf_2_0n D.non) (wCons (wVar 5) (wCons (wC (.int 3)) wNil)) (wCons (wVar 15) wNil)))) (wRet (wC (.bl false))) wNext) (wSeq (wIfS (wB (wOp (wEq true) (wOp (wIsN false) (wCallA 2 0 (sp_wrap_paper C) (kf_2_nn D.non) (wCons (wVar 5) (wCons (wC (.int 3)) wNil)) wNil) (wC .non)) (wOp (wIsN false) (wCallA 2 1 (sp_wrap_paper C) (kf_2_0n D.non) (wCons (wVar 5) (wCons (wC (.int 3)) wNil)) (wCons (wVar 15) wNil)) (wC .non)))) (wRet (wC (.bl false))) wNext) (wSeq (wAsg 16 (wCallB 2 1 (sp_law_pick C) (wCons (wLst (wCons (wC (.int 0)) (wCons (wC (.int 201)) (wCons (wOp wSub (wC (.int 0)) (wC (.int 1))) (wCons (wC .non) (wCons (wC (.bl true)) (wCons (wC (.str "2")) wNil))))))) wNil))) (wSeq (wIfS (wB (wOp (wEq true) (wLam (x_law_refused K C) 1 (wCallA 2 2 (sp_is_enough C) (kf_2_01 D.non) (wCons (wVar 5) (wCons (wVar 16) wNil)) (wCons (wC (.int 0)) (wCons (wC (.int 0)) wNil)))) (wCB wRepr (wCons (wVar 16) wNil)))) (wRet (wC (.bl false))) wNext) (wSeq (wIfS (wB (wOp (wEq true) (wLam (x_law_refused K C) 1 (wCallA 2 2 (sp_wrap_paper C) (kf_2_01 D.non) (wCons (wVar 5) (wCons (wVar 16) wNil)) (wCons (wC (.int 0)) (wCons (wC (.int 0)) wNil)))) (wCB wRepr (wCons (wVar 16) wNil)))) (wRet (wC (.bl false))) wNext) (wSeq (wIfS (wB (wOp (wEq true) (wLam (x_law_refused K C) 1 (wCallA 2 2 (sp_is_enough C) (kf_2_01 D.non) (wCons (wVar 5) (wCons (wC (.int 2)) wNil)) (wCons (wLst wNil) (wCons (wC (.int 0)) wNil)))) (wC (.str "[]")))) (wRet (wC (.bl false))) wNext) (wSeq (wIfS (wB (wOp (wEq true) (wLam (x_law_refused K C) 1 (wCallA 2 2 (sp_wrap_paper C) (kf_2_01 D.non) (wCons (wVar 5) (wCons (wC (.int 2)) wNil)) (wCons (wLst wNil) (wCons (wC (.int 0)) wNil)))) (wC (.str "[]")))) (wRet (wC (.bl false))) wNext) (wSeq (wIfS (wB (wOp (wEq true) (wLam (x_law_refused K C) 1 (wCallA 2 1 (sp_is_enough C) (kf_2_n0 D.non) (wCons (wVar 5) (wCons (wC (.int 2)) wNil)) (wCons (wC (.int 0)) wNil))) (wC (.str "0")))) (wRet (wC (.bl false))) wNext) (wIfS (wB (wOp (wEq true) (wLam (x_law_refused K C) 1 (wCallA 3 1 (sp_wrap_holds C) (kf_3_0n D.non) (wCons (wVar 5) (wCons (wVar 16) (wCons (wC .non) wNil))) (wCons (wC (.int 0)) wNil))) (wCB wRepr (wCons (wVar 16) wNil)))) (wRet (wC (.bl false))) wNext))))))))))))))))))) (wRet (wC (.bl true))))
theorem dv_law (T : Txt P w K mg base t C) (kb_is_enough_3210 : KBn K C.d_is_enough ["machine", "modulus", "states", "bound"] 0 ["bound", "states", "modulus", "machine"] (@pm_3210 Value) (@pm_3210 V)) (kb_wrap_paper_3210 : KBn K C.d_wrap_paper ["machine", "modulus", "states", "bound"] 0 ["bound", "states", "modulus", "machine"] (@pm_3210 Value) (@pm_3210 V)) (FD_law_refused : FunD K "_law_refused" "_law_refused" (defArgs (top 61)) (defBody (top 61)) (defScope (top 61)) [] [] C.f_law_refused C.d_law_refused) (U_law_refused : Dn K mg "_law_refused" C.f_law_refused C.d_law_refused ["ask"] 1) (G_Machine_init : FnG P w K mg base 7 C.f_Machine_init C.d_Machine_init ["self", "tables"] (lSp K t 2 (sp_Machine_init C))) (K_Machine_init : KBn K C.d_Machine_init ["self", "tables"] 2 [] (fun us _ => us) (fun us _ => us)) (V_is_enough : Df K mg "is_enough" C.f_is_enough) (V_wrap_holds : Df K mg "wrap_holds" C.f_wrap_holds) (V_wrap_paper : Df K mg "wrap_paper" C.f_wrap_paper) (kx_is_enough_2_01 : KBn K C.d_is_enough ["machine", "modulus", "states", "bound"] 2 ["states", "bound"] (kf_2_01 Value.none) (kf_2_01 V.non)) (kx_is_enough_2_0n : KBn K C.d_is_enough ["machine", "modulus", "states", "bound"] 2 ["states"] (kf_2_0n Value.none) (kf_2_0n V.non)) (kx_is_enough_2_n0 : KBn K C.d_is_enough ["machine", "modulus", "states", "bound"] 2 ["bound"] (kf_2_n0 Value.none) (kf_2_n0 V.non)) (kx_is_enough_2_nn : KBn K C.d_is_enough ["machine", "modulus", "states", "bound"] 2 [] (kf_2_nn Value.none) (kf_2_nn V.non)) (kx_wrap_holds_3_01 : KBn K C.d_wrap_holds ["machine", "modulus", "value", "states", "bound"] 3 ["states", "bound"] (kf_3_01 Value.none) (kf_3_01 V.non)) (kx_wrap_holds_3_0n : KBn K C.d_wrap_holds ["machine", "modulus", "value", "states", "bound"] 3 ["states"] (kf_3_0n Value.none) (kf_3_0n V.non)) (kx_wrap_paper_2_01 : KBn K C.d_wrap_paper ["machine", "modulus", "states", "bound"] 2 ["states", "bound"] (kf_2_01 Value.none) (kf_2_01 V.non)) (kx_wrap_paper_2_0n : KBn K C.d_wrap_paper ["machine", "modulus", "states", "bound"] 2 ["states"] (kf_2_0n Value.none) (kf_2_0n V.non)) (kx_wrap_paper_2_nn : KBn K C.d_wrap_paper ["machine", "modulus", "states", "bound"] 2 [] (kf_2_nn Value.none) (kf_2_nn V.non)) (G_law_box : FnG P w K mg base 2 C.f_law_box C.d_law_box ["script", "k"] (lSpO K t 2 (so_law_box C))) (U_law_box : Dn K mg "_law_box" C.f_law_box C.d_law_box ["script", "k"] 2) (G_law_clash : FnG P w K mg base 3 C.f_law_clash C.d_law_clash ["tables", "log", "lot", "modulus", "bound"] (lSp K t 5 (sp_law_clash C))) (U_law_clash : Dn K mg "_law_clash" C.f_law_clash C.d_law_clash ["tables", "log", "lot", "modulus", "bound"] 5) (G_law_layers : FnG P w K mg base 2 C.f_law_layers C.d_law_layers ["tables", "length"] (lSp K t 2 (sp_law_layers C))) (U_law_layers : Dn K mg "_law_layers" C.f_law_layers C.d_law_layers ["tables", "length"] 2) (G_law_machine : FnG P w K mg base 3 C.f_law_machine C.d_law_machine ["box", "states", "deeds"] (lSp K t 3 (sp_law_machine C))) (U_law_machine : Dn K mg "_law_machine" C.f_law_machine C.d_law_machine ["box", "states", "deeds"] 3) (G_law_paper_right : FnG P w K mg base 3 C.f_law_paper_right C.d_law_paper_right ["tables", "layers", "paper", "lot", "modulus", "bound"] (lSp K t 6 (sp_law_paper_right C))) (U_law_paper_right : Dn K mg "_law_paper_right" C.f_law_paper_right C.d_law_paper_right ["tables", "layers", "paper", "lot", "modulus", "bound"] 6) (G_law_pick : FnG P w K mg base 3 C.f_law_pick C.d_law_pick ["box", "some"] (lSp K t 2 (sp_law_pick C))) (U_law_pick : Dn K mg "_law_pick" C.f_law_pick C.d_law_pick ["box", "some"] 2) (G_law_take : FnG P w K mg base 2 C.f_law_take C.d_law_take ["box", "many"] (lSp K t 2 (sp_law_take C))) (U_law_take : Dn K mg "_law_take" C.f_law_take C.d_law_take ["box", "many"] 2) (G_is_enough : FnG P w K mg base 14 C.f_is_enough C.d_is_enough ["machine", "modulus", "states", "bound"] (lSp K t 4 (sp_is_enough C))) (G_wrap_holds : FnG P w K mg base 10 C.f_wrap_holds C.d_wrap_holds ["machine", "modulus", "value", "states", "bound"] (lSp K t 5 (sp_wrap_holds C))) (G_wrap_paper : FnG P w K mg base 14 C.f_wrap_paper C.d_wrap_paper ["machine", "modulus", "states", "bound"] (lSp K t 4 (sp_wrap_paper C))) (cdv : Value) (A : Around) (outer : List Env) (s : Shared) (H : Hp) (E : XK) (hcv : codeOf8 K C.f_law = some cdv) (c : Cok (cxOf (L2.CX P w) P w K mg base ["script", "k", "box", "states", "tables", "machine", "layers", "lot", "turn", "modulus", "bound", "paper", "told", "again", "log", "everyone", "bad", "state", "deed"] "law" (defScope (top 62)) C.f_law cdv A outer s H E) (wishOf E) 16) :
    PSs (cxOf (L2.CX P w) P w K mg base ["script", "k", "box", "states", "tables", "machine", "layers", "lot", "turn", "modulus", "bound", "paper", "told", "again", "log", "everyone", "bad", "state", "deed"] "law" (defScope (top 62)) C.f_law cdv A outer s H E) (defBody (top 62)) (lS K (tb0 t) (wishOf E) (x_law K C)) := by
  obtain rfl : cdv = .ref C.c_law := Option.some.inj (hcv.symm.trans T.co_law)
  exact (s_cons (s_for (passes_of rfl) rfl (i_rng1 T.b_range (a_cons e_int a_nil)) (g_nm sc_law.nd 1) (s_cons (s_setO sc_law.nd 2 (o_call c G_law_box U_law_box (a_cons (e_var (i := 0)) (a_cons (e_var (i := 1)) a_nil)))) (s_cons (s_set sc_law.nd 3 (e_add e_int (e_callB c (i := 2) G_law_pick U_law_pick (a_cons (e_lst (a_cons e_int (a_cons e_int (a_cons e_int (a_cons e_int a_nil))))) a_nil)))) (s_cons (s_set sc_law.nd 4 (e_callB c (i := 2) G_law_machine U_law_machine (a_cons (e_var (i := 3)) (a_cons (e_add e_int (e_callB c (i := 2) G_law_take U_law_take (a_cons e_int a_nil))) a_nil)))) (s_cons (s_asg (e_tup (a_cons (e_make c T.mk_Machine G_Machine_init T.Machine K_Machine_init (a_cons (e_var (i := 4)) a_nil)) (a_cons (e_call c G_law_layers U_law_layers (a_cons (e_var (i := 4)) (a_cons e_int a_nil))) a_nil))) (g_two sc_law.nd rfl 5 6)) (s_cons (s_setLc 7 (own := [("state", 17)]) rfl sc_law.nd (i_rng1 T.b_range (a_cons (e_var (i := 3)) a_nil)) (blk_ok (by kernel_rfl)) (fun _ _ _ _ _ => (g_c 17 sc_law.nd)) (fun _ _ _ _ _ => (f_one (t_gt (e_callB (c.blk _ _ _ _ _) (i := 2) G_law_take U_law_take (a_cons e_int a_nil)) e_int))) (fun _ _ _ _ _ => (e_var (i := 17)))) (s_cons (s_set sc_law.nd 7 (e_if (t_ne c (e_var (i := 7)) (e_lst a_nil)) (e_var (i := 7)) (e_lst (a_cons (e_sub (e_var (i := 3)) e_int) a_nil)))) (s_cons (s_for (passes_of rfl) rfl (i_rng1 T.b_range (a_cons e_int a_nil)) (g_nm sc_law.nd 8) (s_cons (s_par sc_law.nd rfl 9 10 (a_cons (e_add e_int (e_callB c (i := 2) G_law_take U_law_take (a_cons e_int a_nil))) (a_cons (e_callB c (i := 2) G_law_pick U_law_pick (a_cons (e_lst (a_cons e_non (a_cons e_non (a_cons (e_add e_int (e_callB c (i := 2) G_law_take U_law_take (a_cons e_int a_nil))) a_nil)))) a_nil)) a_nil)) rfl) (s_cons (s_set sc_law.nd 11 (e_callPK c G_wrap_paper V_wrap_paper.m V_wrap_paper.kp kx_wrap_paper_2_01 gf_2_01 (a_cons (e_var (i := 5)) (a_cons (e_var (i := 9)) a_nil)) (k_cons (e_var (i := 7)) (k_cons (e_var (i := 10)) k_nil)))) (s_cons (s_if (t_ne c (e_blt (cr_repr c) ok_repr T.b_repr PyProof.Rows.Boot.repr (a_cons (e_callK c G_wrap_paper V_wrap_paper.m V_wrap_paper.kp kb_wrap_paper_3210 gr_3210 (k_cons (e_var (i := 10)) (k_cons (e_var (i := 7)) (k_cons (e_var (i := 9)) (k_cons (e_var (i := 5)) k_nil))))) a_nil)) (e_blt (cr_repr c) ok_repr T.b_repr PyProof.Rows.Boot.repr (a_cons (e_var (i := 11)) a_nil))) (s_one (s_ret e_bl)) s_nil) (s_cons (s_if (t_ne c (e_isN (e_callPK c G_wrap_paper V_wrap_paper.m V_wrap_paper.kp kx_wrap_paper_2_01 gf_2_01 (a_cons (e_var (i := 5)) (a_cons (e_var (i := 9)) a_nil)) (k_cons (e_bty call_tuple_of ok_tupOf T.b_tuple PyProof.Rows.Boot.tuple (a_cons (e_var (i := 7)) a_nil)) (k_cons (e_var (i := 10)) k_nil))) e_non) (e_isN (e_var (i := 11)) e_non)) (s_one (s_ret e_bl)) s_nil) (s_cons (s_set sc_law.nd 12 (e_lst (a_cons (e_callPK c G_is_enough V_is_enough.m V_is_enough.kp kx_is_enough_2_01 gf_2_01 (a_cons (e_var (i := 5)) (a_cons (e_var (i := 9)) a_nil)) (k_cons (e_var (i := 7)) (k_cons (e_var (i := 10)) k_nil))) (a_cons (e_callK c G_is_enough V_is_enough.m V_is_enough.kp kb_is_enough_3210 gr_3210 (k_cons (e_var (i := 10)) (k_cons (e_var (i := 7)) (k_cons (e_var (i := 9)) (k_cons (e_var (i := 5)) k_nil))))) a_nil)))) (s_cons (s_if (t_ne c (e_blt (cr_repr c) ok_repr T.b_repr PyProof.Rows.Boot.repr (a_cons (e_var (i := 12)) a_nil)) (e_blt (cr_repr c) ok_repr T.b_repr PyProof.Rows.Boot.repr (a_cons (e_mul (e_lst (a_cons (e_isN (e_var (i := 11)) e_non) a_nil)) e_int) a_nil))) (s_one (s_ret e_bl)) s_nil) (s_cons (s_if (t_pw (q_and (t_notN (e_var (i := 11)) e_non) (q_and1 (t_not (t_val (e_call c G_law_paper_right U_law_paper_right (a_cons (e_var (i := 4)) (a_cons (e_var (i := 6)) (a_cons (e_var (i := 11)) (a_cons (e_var (i := 7)) (a_cons (e_var (i := 9)) (a_cons (e_var (i := 10)) a_nil)))))))))))) (s_one (s_ret e_bl)) s_nil) (s_cons (s_if (t_pw (q_and (t_notN (e_var (i := 11)) e_non) (q_and1 (t_isntB (e_callPK c G_wrap_holds V_wrap_holds.m V_wrap_holds.kp kx_wrap_holds_3_01 gf_3_01 (a_cons (e_var (i := 5)) (a_cons (e_var (i := 9)) (a_cons (e_var (i := 11)) a_nil))) (k_cons (e_var (i := 7)) (k_cons (e_var (i := 10)) k_nil))) e_bl)))) (s_one (s_ret e_bl)) s_nil) (s_cons (s_for (passes_of rfl) rfl (i_rng1 T.b_range (a_cons e_int a_nil)) (g_nm sc_law.nd 13) (s_cons (s_setLc 14 (own := [("deed", 18)]) rfl sc_law.nd (i_rng1 T.b_range (a_cons (e_callB c (i := 2) G_law_take U_law_take (a_cons e_int a_nil)) a_nil)) (blk_ok (by kernel_rfl)) (fun _ _ _ _ _ => (g_c 18 sc_law.nd)) (fun _ _ _ _ _ => f_nil) (fun _ _ _ _ _ => (e_callB (c.blk _ _ _ _ _) (i := 2) G_law_take U_law_take (a_cons (e_blt cr_lenD ok_len T.b_len PyProof.Rows.Boot.len (a_cons (e_var (i := 4)) a_nil)) a_nil)))) (s_one (s_if (t_pw (q_and (t_isN (e_var (i := 11)) e_non) (q_and1 (t_notN (e_call c G_law_clash U_law_clash (a_cons (e_var (i := 4)) (a_cons (e_var (i := 14)) (a_cons (e_var (i := 7)) (a_cons (e_var (i := 9)) (a_cons (e_var (i := 10)) a_nil)))))) e_non)))) (s_one (s_ret e_bl)) s_nil)))) (s_one (s_if (t_pw (q_and (t_notN (e_var (i := 11)) e_non) (q_and1 (t_isN (e_call c G_law_clash U_law_clash (a_cons (e_var (i := 4)) (a_cons (e_bty call_list_of ok_lstOf T.b_list PyProof.Rows.Boot.list (a_cons (e_ix (e_var (i := 11)) e_int) a_nil)) (a_cons (e_var (i := 7)) (a_cons (e_var (i := 9)) (a_cons (e_var (i := 10)) a_nil)))))) e_non)))) (s_one (s_ret e_bl)) s_nil)))))))))))) (s_cons (s_if (t_isntB (e_callPK c G_is_enough V_is_enough.m V_is_enough.kp kx_is_enough_2_n0 gf_2_n0 (a_cons (e_var (i := 5)) (a_cons e_int a_nil)) (k_cons e_int k_nil)) e_bl) (s_one (s_ret e_bl)) s_nil) (s_cons (s_set sc_law.nd 15 (e_lstRg rfl T.b_list T.b_range (e_var (i := 3)))) (s_cons (s_if (t_ne c (e_callG c G_is_enough V_is_enough.m V_is_enough.kp kx_is_enough_2_nn gf_2_nn (a_cons (e_var (i := 5)) (a_cons e_int a_nil))) (e_callPK c G_is_enough V_is_enough.m V_is_enough.kp kx_is_enough_2_0n gf_2_0n (a_cons (e_var (i := 5)) (a_cons e_int a_nil)) (k_cons (e_var (i := 15)) k_nil))) (s_one (s_ret e_bl)) s_nil) (s_cons (s_if (t_ne c (e_isN (e_callG c G_wrap_paper V_wrap_paper.m V_wrap_paper.kp kx_wrap_paper_2_nn gf_2_nn (a_cons (e_var (i := 5)) (a_cons e_int a_nil))) e_non) (e_isN (e_callPK c G_wrap_paper V_wrap_paper.m V_wrap_paper.kp kx_wrap_paper_2_0n gf_2_0n (a_cons (e_var (i := 5)) (a_cons e_int a_nil)) (k_cons (e_var (i := 15)) k_nil)) e_non)) (s_one (s_ret e_bl)) s_nil) (s_cons (s_set sc_law.nd 16 (e_callB c (i := 2) G_law_pick U_law_pick (a_cons (e_lst (a_cons e_int (a_cons e_int (a_cons (e_sub e_int e_int) (a_cons e_non (a_cons e_bl (a_cons e_str a_nil))))))) a_nil))) (s_cons (s_if (t_ne c (e_lam (k := 14) (n := 1) (c.mono (j := 16) (by decide)) FD_law_refused sc_law_refused U_law_refused T.tb_law rfl T.tm_law T.tu_law (LamX.lamS_by (by kernel_rfl)) (fun cdv s H E τq wq hτ cq hq => dv_law_refused T cdv _ _ s H E wq hq (cq.mono (by decide))) (fun A outer s H E f cl cL => (e_callPK cL G_is_enough V_is_enough.m V_is_enough.kp kx_is_enough_2_01 gf_2_01 (a_cons (e_var (i := 5)) (a_cons (e_var (i := 16)) a_nil)) (k_cons e_int (k_cons e_int k_nil))))) (e_blt (cr_repr c) ok_repr T.b_repr PyProof.Rows.Boot.repr (a_cons (e_var (i := 16)) a_nil))) (s_one (s_ret e_bl)) s_nil) (s_cons (s_if (t_ne c (e_lam (k := 14) (n := 1) (c.mono (j := 16) (by decide)) FD_law_refused sc_law_refused U_law_refused T.tb_law rfl T.tm_law T.tu_law (LamX.lamS_by (by kernel_rfl)) (fun cdv s H E τq wq hτ cq hq => dv_law_refused T cdv _ _ s H E wq hq (cq.mono (by decide))) (fun A outer s H E f cl cL => (e_callPK cL G_wrap_paper V_wrap_paper.m V_wrap_paper.kp kx_wrap_paper_2_01 gf_2_01 (a_cons (e_var (i := 5)) (a_cons (e_var (i := 16)) a_nil)) (k_cons e_int (k_cons e_int k_nil))))) (e_blt (cr_repr c) ok_repr T.b_repr PyProof.Rows.Boot.repr (a_cons (e_var (i := 16)) a_nil))) (s_one (s_ret e_bl)) s_nil) (s_cons (s_if (t_ne c (e_lam (k := 14) (n := 1) (c.mono (j := 16) (by decide)) FD_law_refused sc_law_refused U_law_refused T.tb_law rfl T.tm_law T.tu_law (LamX.lamS_by (by kernel_rfl)) (fun cdv s H E τq wq hτ cq hq => dv_law_refused T cdv _ _ s H E wq hq (cq.mono (by decide))) (fun A outer s H E f cl cL => (e_callPK cL G_is_enough V_is_enough.m V_is_enough.kp kx_is_enough_2_01 gf_2_01 (a_cons (e_var (i := 5)) (a_cons e_int a_nil)) (k_cons (e_lst a_nil) (k_cons e_int k_nil))))) e_str) (s_one (s_ret e_bl)) s_nil) (s_cons (s_if (t_ne c (e_lam (k := 14) (n := 1) (c.mono (j := 16) (by decide)) FD_law_refused sc_law_refused U_law_refused T.tb_law rfl T.tm_law T.tu_law (LamX.lamS_by (by kernel_rfl)) (fun cdv s H E τq wq hτ cq hq => dv_law_refused T cdv _ _ s H E wq hq (cq.mono (by decide))) (fun A outer s H E f cl cL => (e_callPK cL G_wrap_paper V_wrap_paper.m V_wrap_paper.kp kx_wrap_paper_2_01 gf_2_01 (a_cons (e_var (i := 5)) (a_cons e_int a_nil)) (k_cons (e_lst a_nil) (k_cons e_int k_nil))))) e_str) (s_one (s_ret e_bl)) s_nil) (s_cons (s_if (t_ne c (e_lam (k := 14) (n := 1) (c.mono (j := 16) (by decide)) FD_law_refused sc_law_refused U_law_refused T.tb_law rfl T.tm_law T.tu_law (LamX.lamS_by (by kernel_rfl)) (fun cdv s H E τq wq hτ cq hq => dv_law_refused T cdv _ _ s H E wq hq (cq.mono (by decide))) (fun A outer s H E f cl cL => (e_callPK cL G_is_enough V_is_enough.m V_is_enough.kp kx_is_enough_2_n0 gf_2_n0 (a_cons (e_var (i := 5)) (a_cons e_int a_nil)) (k_cons e_int k_nil)))) e_str) (s_one (s_ret e_bl)) s_nil) (s_one (s_if (t_ne c (e_lam (k := 14) (n := 1) (c.mono (j := 16) (by decide)) FD_law_refused sc_law_refused U_law_refused T.tb_law rfl T.tm_law T.tu_law (LamX.lamS_by (by kernel_rfl)) (fun cdv s H E τq wq hτ cq hq => dv_law_refused T cdv _ _ s H E wq hq (cq.mono (by decide))) (fun A outer s H E f cl cL => (e_callPK cL G_wrap_holds V_wrap_holds.m V_wrap_holds.kp kx_wrap_holds_3_0n gf_3_0n (a_cons (e_var (i := 5)) (a_cons (e_var (i := 16)) (a_cons e_non a_nil))) (k_cons e_int k_nil)))) (e_blt (cr_repr c) ok_repr T.b_repr PyProof.Rows.Boot.repr (a_cons (e_var (i := 16)) a_nil))) (s_one (s_ret e_bl)) s_nil)))))))))))))))))))) (s_one (s_ret e_bl)))
end
end K25
set_option Elab.async false
set_option autoImplicit false
set_option linter.all false
set_option maxRecDepth 100000
set_option maxHeartbeats 3900000
namespace K25
open DL L2 PyProof.Rows PySem PySem.Spec
def subT (a b : String) : Bool := decide (a = b) || (decide (a = "bool") && decide (b = "int"))
theorem is_ty {K : Fg} {x : D} {t n : String} {Φ : D → Prop} (h : tyN x = some t) (hn : n ∈ ["int", "bool", "str", "list", "tuple"]) (q : Φ (.bl (subT t n))) : wIsI K [x, .raw (.ty n)] Φ := by
  have go : ∀ b, PySem.W.kitOne K (.type t) (.type n) = some b → subT t n = b → DTy K x (.type t) → wIsI K [x, .raw (.ty n)] Φ := fun b h1 h2 h3 => ⟨.type n, .type t, b, .ty n, h3, h1, h2 ▸ q⟩
  simp only [List.mem_cons, List.not_mem_nil, or_false] at hn
  cases x <;> cases h <;> rcases hn with rfl | rfl | rfl | rfl | rfl <;> first | exact go true (by kernel_rfl) (by decide) (by constructor) | exact go false (by kernel_rfl) (by decide) (by constructor)
theorem is_seq {K : Fg} {x : D} {Φ : D → Prop} (h : plain x) (q : Φ (.bl (seqD x).isSome)) : wIsT K [x, .tup [.raw (.ty "list"), .raw (.ty "tuple")]] Φ := by
  have go : ∀ (t : String) b, PySem.W.kitAny K (.type t) [.type "list", .type "tuple"] = some b → (seqD x).isSome = b → DTy K x (.type t) → wIsT K [x, .tup [.raw (.ty "list"), .raw (.ty "tuple")]] Φ := fun t b h1 h2 h3 =>
    ⟨_, [.type "list", .type "tuple"], .type t, b, .cons _ (.cons _ .nil), .cons (.ty _) (.cons (.ty _) .nil), h3, h1, h2 ▸ q⟩
  cases x <;> first
    | exact go _ true (by kernel_rfl) rfl (by constructor)
    | exact go _ false (by kernel_rfl) rfl (by constructor)
    | (cases h)
theorem none_of {α β : Type} {h : Option α} {f : α → β} (e : h.map f = none) : h = none := by cases h <;> first | rfl | cases e
section
variable {K : Fg} {C : Cs}
/-- the sem of a def that owns nothing -/
abbrev Sem0 (n m : Nat) (sp : Spc) (x : WS) : Prop := ∀ hl ds Ψ Ξ, (args hl ds).length = n → sp (hl.map (·.2)) ds Ψ Ξ → x (args hl ds ++ List.replicate (m - n) .un) (dEnds hl Ψ Ξ)
theorem m_is_integer : Sem0 1 1 (sp_is_integer C) (x_is_integer K C) := by
  rintro hl ds Ψ Ξ - ⟨h, x, rfl, hp, q⟩
  cases none_of h
  obtain ⟨t, ht⟩ := Option.isSome_iff_exists.mp hp
  simp only [x_is_integer, wRet, wAndV, wCB, wCons, wVar, wNil, wC, wNotV, args, List.map, List.nil_append, List.cons_append, List.getElem?_cons_zero]
  refine is_ty ht (by decide) ?_
  cases x <;> cases ht <;> first
    | exact q
    | (show if subT "int" "int" = true then _ else _; rw [if_pos (by decide)]; refine is_ty (t := "int") rfl (by decide) ?_; exact q)
    | (show if subT "bool" "int" = true then _ else _; rw [if_pos (by decide)]; refine is_ty (t := "bool") rfl (by decide) ?_; exact q)
theorem m_is_below : Sem0 2 2 (sp_is_below C) (x_is_below K C) := by
  rintro hl ds Ψ Ξ - ⟨h, x, m, rfl, hp, q⟩
  cases none_of h
  refine ⟨rfl, rfl, rfl, x, rfl, hp, ?_⟩
  cases x <;> first | exact q | skip
  rename_i v
  show if (decide (0 ≤ v)) = true then _ else _
  replace q : Ψ (.bl (decide (0 ≤ v) && decide (v < m))) none := q
  cases h : decide (0 ≤ v) <;> rw [h] at q <;> exact q
theorem m_is_sequence : Sem0 1 1 (sp_is_sequence C) (x_is_sequence K C) := by
  rintro hl ds Ψ Ξ - ⟨h, x, rfl, hp, q⟩
  cases none_of h
  simp only [x_is_sequence, wRet, wCB, wCons, wVar, wNil, wC, wTup, args, List.map, List.nil_append, List.cons_append, List.getElem?_cons_zero]
  refine ⟨show 2 ≤ sizeLine by decide, is_seq hp ?_⟩
  exact q
theorem m_fault_place : Sem0 2 4 (sp_fault_place C) (x_fault_place K C) := by
  rintro hl ds Ψ Ξ - ⟨h, x, xs, m, rfl, hx, hp, q⟩
  cases none_of h
  have loop : ∀ (xs : List D) (i : Nat) (a b : Sl), (∀ y ∈ xs, plain y) → Ψ (faultD m xs i) none →
      wForL (wgTup 2 (wgCons (wgName 2) (wgCons (wgName 3) wgNil))) (wIfS (wNot (wB (wCallA 2 0 (sp_is_below C) (fun ds _ => ds) (wCons (wVar 3) (wCons (wVar 1) wNil)) wNil))) (wRet (wVar 2)) wNext)
        ((xs.zipIdx i).map fun p => .tup [.int (p.2 : Nat), p.1]) [.val x, .val (.int m), a, b] { dEnds none Ψ Ξ with nx := fun ρ => (dEnds none Ψ Ξ).rt .non ρ } := by
    intro xs
    induction xs with
    | nil => intro i a b _ q; exact q
    | cons y ys ih =>
      intro i a b hp q
      refine ⟨rfl, rfl, rfl, rfl, rfl, y, m, rfl, hp y List.mem_cons_self, ?_⟩
      show if (!belowD y m) = true then _ else _
      unfold faultD at q
      cases hb : belowD y m <;> rw [hb] at q
      · exact q
      · exact ih (i + 1) _ _ (fun z hz => hp z (List.mem_cons_of_mem _ hz)) q
  have := loop xs 0 .un .un hp q
  cases x <;> cases hx <;> exact this
theorem seq_cases {x : D} {xs : List D} (h : seqD x = some xs) : x = .lst xs ∨ x = .tup xs := by cases x <;> cases h <;> simp
theorem eqF_ints {a b : Int} {Φ : D → Prop} (q : Φ (.bl (decide (a = b)))) : wEq false (.int a) (.int b) Φ := ⟨.int a, .int b, rfl, rfl, rfl, rfl, by
  have : PyData.eqv (.int a) (.int b) = decide (a = b) := by simp [PyData.eqv, Bool.beq_eq_decide_eq]
  rw [this]; exact q⟩
end
end K25
set_option Elab.async false
set_option autoImplicit false
set_option linter.all false
set_option maxRecDepth 100000
set_option maxHeartbeats 3900000
namespace K25
open DL L2 PyProof.Rows PySem PySem.Spec
section
variable {K : Fg} {C : Cs}
theorem fault_is (m : Int) : ∀ (xs : List D) (i : Nat), (faultD m xs i = .non ∧ isNo (faultD m xs i) = true ∧ DL.isNon (faultD m xs i) = some true) ∨ ∃ j : Nat, faultD m xs i = .int j ∧ isNo (faultD m xs i) = false ∧ DL.isNon (faultD m xs i) = some false
  | [], i => .inl ⟨rfl, rfl, rfl⟩
  | x :: xs, i => by
    unfold faultD
    split
    · exact fault_is m xs (i + 1)
    · exact .inr ⟨i, rfl, rfl, rfl⟩
theorem m_is_table : Sem0 1 1 (sp_is_table C) (x_is_table K C) := by
  rintro hl ds Ψ Ξ - ⟨h, x, rfl, hp, q⟩
  cases none_of h
  simp only [x_is_table, wSeq, wNext, wBreak, wCont, wAsg, wRet, wRetN, wDrop, wIfS, wRetO, wgName, wgNil, wgCons, wgTup, wAsgG, wOp, wUn, wCB, wC, wVar, wNil, wCons, wTup, wLst, wB, wAnd, wOr, wNot, wAndV, wOrV, wNotV, wIf, wChain, wAdd, wSub, wMul, wMod, wDiv, wPow, wCmp, wIsN, DL.isNon, wLen, wAbs, wMin2, wMax2, wInt, wFld, wFldO, wM1, wCallA, wCallB, wMake, wRaise, wNeg, wIxO, wLenO, wApp, wSetO, wFset, wPar, wParO, wAsgO, woLst, woCall, wFor, wiSeq, wiRg1, wiEnum, dEnds, outs, args, List.getElem?_cons_zero, List.getElem?_cons_succ, List.nil_append, List.cons_append, List.map_cons, List.map_nil, List.set_cons_zero, List.set_cons_succ, List.append_nil, List.replicate_zero, List.replicate_succ, Option.map_none, Option.map_some, List.length_cons, List.length_nil, sp_is_sequence, sp_fault_place]
  refine ⟨trivial, trivial, trivial, x, rfl, hp.1, ?_⟩
  cases hx : seqD x with
  | none => simp only [isTab, hx] at q; simpa using q
  | some xs =>
    have hpl := hp.2 xs hx
    simp only [isTab, hx] at q
    obtain rfl | rfl := seq_cases hx
    all_goals
      simp
      split
      · rename_i h1
        split
        · rename_i h2
          have e : decide (xs.length ≤ 12) = false := decide_eq_false (by omega)
          simp only [e, Bool.and_false, Bool.false_and] at q; exact q
        · rename_i h2
          have e1 : decide (1 ≤ xs.length) = true := decide_eq_true (by omega)
          have e2 : decide (xs.length ≤ 12) = true := decide_eq_true (by omega)
          rw [e1, e2] at q
          refine ⟨_, xs, _, ⟨rfl, rfl⟩, rfl, hpl, ?_⟩
          rcases fault_is (xs.length : Int) xs 0 with ⟨-, a, b⟩ | ⟨j, -, a, b⟩ <;> rw [a] at q
          · exact .inr ⟨b, q⟩
          · exact .inl ⟨b, q⟩
      · rename_i h1
        have e : decide (1 ≤ xs.length) = false := decide_eq_false (by omega)
        simp only [e, Bool.false_and] at q; exact q
/-- a comprehension, item by item -/
theorem lc_gen {i : Nat} {we : WE} {vs : List Nat} {R : Rho → Prop} {P : D → D → Prop} {Φ : List D → Rho → Prop} : ∀ (ds acc : List D) (ρ : Rho), R ρ → acc.length + ds.length ≤ sizeLine →
    (∀ d ∈ ds, ∀ ρ' (Ψ : D → Rho → Prop), R ρ' → (∀ y ρ3, P d y → R (wipeR ρ3 vs) → Ψ y ρ3) → we (ρ'.set i (.val d)) χ0 Ψ) → (∀ ys ρ', Paired P ds ys → R ρ' → Φ (acc ++ ys) ρ') → wLcL (wgName i) wTrue we vs ds acc ρ Φ
  | [], acc, ρ, hR, _, _, hΦ => by
    have := hΦ [] ρ .nil hR
    rw [List.append_nil] at this
    exact this
  | d :: ds, acc, ρ, hR, hl, hs, hΦ => by
    simp only [wLcL, wgName, wTrue, ↓reduceIte]
    refine hs d List.mem_cons_self ρ _ hR fun y ρ3 hy h3 => ⟨by simp only [List.length_cons] at hl; omega, ?_⟩
    refine lc_gen ds (acc ++ [y]) _ h3 (by simp only [List.length_append, List.length_cons, List.length_nil] at hl ⊢; omega) (fun d' hd' => hs d' (List.mem_cons_of_mem _ hd')) fun ys ρ' h1 h2 => ?_
    rw [List.append_assoc]
    exact hΦ (y :: ys) ρ' (.cons hy h1) h2
theorem paired_map {f : D → D} : ∀ {ds ys : List D}, Paired (fun d y => y = f d) ds ys → ys = ds.map f
  | _, _, .nil => rfl
  | _, _, .cons h t => by rw [h, paired_map t]; rfl
theorem lc_map {i : Nat} {we : WE} {vs : List Nat} {R : Rho → Prop} {Φ : List D → Rho → Prop} (f : D → D) (ds : List D) (ρ : Rho) (hR : R ρ) (hl : ds.length ≤ sizeLine)
    (hs : ∀ d ∈ ds, ∀ ρ' (Ψ : D → Rho → Prop), R ρ' → (∀ ρ3, R (wipeR ρ3 vs) → Ψ (f d) ρ3) → we (ρ'.set i (.val d)) χ0 Ψ) (hΦ : ∀ ρ', R ρ' → Φ (ds.map f) ρ') : wLcL (wgName i) wTrue we vs ds [] ρ Φ :=
  lc_gen (P := fun d y => y = f d) ds [] ρ hR (by simpa using hl) (fun d hd ρ' Ψ h1 h2 => hs d hd ρ' Ψ h1 fun ρ3 h3 => h2 _ ρ3 rfl h3) fun ys ρ' h1 h2 => by rw [List.nil_append, paired_map h1]; exact hΦ ρ' h2
theorem big : 1000000 ≤ sizeLine := by rw [sizeLine_eq]; omega
theorem len_lst (x : D) (xs : List D) (h : seqD x = some xs) {Φ : D → Prop} (q : Φ (.int xs.length)) : wLen [x] Φ := by obtain rfl | rfl := seq_cases h <;> exact q
theorem tab_seq {x : D} (h : isTab x = true) : ∃ xs, seqD x = some xs := by
  unfold isTab at h
  cases hx : seqD x with
  | none => rw [hx] at h; cases h
  | some xs => exact ⟨xs, rfl⟩
theorem eq_ints {a b : Int} {Φ : D → Prop} (q : Φ (.bl (!decide (a = b)))) : wEq true (.int a) (.int b) Φ := ⟨.int a, .int b, rfl, rfl, rfl, rfl, by
  have : PyData.eqv (.int a) (.int b) = decide (a = b) := by simp [PyData.eqv, Bool.beq_eq_decide_eq]
  rw [this]; exact q⟩
theorem m_check_tables : Sem0 1 3 (sp_check_tables C) (x_check_tables K C) := by
  rintro hl ds Ψ Ξ - ⟨h, x, rfl, hp, q⟩
  cases none_of h
  simp only [x_check_tables, wSeq, wNext, wBreak, wCont, wAsg, wRet, wRetN, wDrop, wIfS, wRetO, wgName, wgNil, wgCons, wgTup, wAsgG, wOp, wUn, wCB, wC, wVar, wNil, wCons, wTup, wLst, wB, wAnd, wOr, wNot, wAndV, wOrV, wNotV, wIf, wChain, wAdd, wSub, wMul, wMod, wDiv, wPow, wCmp, wIsN, DL.isNon, wLen, wAbs, wMin2, wMax2, wInt, wFld, wFldO, wM1, wCallA, wCallB, wMake, wRaise, wNeg, wIxO, wLenO, wApp, wSetO, wFset, wPar, wParO, wAsgO, woLst, woCall, wFor, wiSeq, wiRg1, wiEnum, dEnds, outs, args, List.getElem?_cons_zero, List.getElem?_cons_succ, List.nil_append, List.cons_append, List.map_cons, List.map_nil, List.set_cons_zero, List.set_cons_succ, List.append_nil, List.replicate_zero, List.replicate_succ, Option.map_none, Option.map_some, List.length_cons, List.length_nil, sp_is_sequence]
  refine ⟨trivial, trivial, trivial, x, rfl, hp.1, ?_⟩
  cases hx : seqD x with
  | none => simp only [chkTabs, hx] at q; simpa using q
  | some xs =>
    have hpl := hp.2 xs hx
    have mid : ∀ (y : D) (ys : List D), xs = y :: ys → xs.length ≤ 8 → (match tabsFault (lenD y) (y :: ys) 0 with | none => Ψ (.tup ((y :: ys).map tupD)) none | some i => Ξ C.BadMachine "at" (.int (i : Nat))) →
      wForL (wgTup 2 (wgCons (wgName 1) (wgCons (wgName 2) wgNil)))
        (wIfS (wOr (wNot (wB (wCallA 1 0 (sp_is_table C) (fun ds _ => ds) (wCons (wVar 2) wNil) wNil))) (wB (wOp (wEq true) (wCB wLen (wCons (wVar 2) wNil)) (wCB wLen (wCons (wOp wIx (wVar 0) (wC (.int 0))) wNil)))))
          (wRaise C.BadMachine "at" (wCons (wVar 1) wNil)) wNext) (enD xs) [.val x, .un, .un]
        { nx := fun ρ' => wLc (wiSeq (wVar 0)) (wgName 2) wTrue (wCB wTupOf (wCons (wVar 2) wNil)) [2] ρ' (fun C f d _ => Ξ C f d) fun x _ => wTupOf [x] fun z => Ψ z none,
          rt := fun d _ => Ψ d none, bk := fun _ => False, ct := fun _ => False, xc := fun C f d _ => Ξ C f d } := by
      intro y ys hxy hle hq
      have hat : atI xs 0 = some y := by rw [hxy]; simp [atI, ixN]
      have hn : isTab y = true ∨ tabsFault (lenD y) (y :: ys) 0 = some 0 := by
        cases h : isTab y with
        | true => exact .inl rfl
        | false => exact .inr (by unfold tabsFault; rw [h]; rfl)
      have fin : ∀ (a b : Sl), (∀ z ∈ xs, ∃ zs, seqD z = some zs) → Ψ (.tup ((y :: ys).map tupD)) none → (wLc (wiSeq (wVar 0)) (wgName 2) wTrue (wCB wTupOf (wCons (wVar 2) wNil)) [2] [.val x, a, b] (fun C f d _ => Ξ C f d) fun x _ => wTupOf [x] fun z => Ψ z none) := by
        intro a b hz hq
        have go : wLcL (wgName 2) wTrue (wCB wTupOf (wCons (wVar 2) wNil)) [2] xs [] [.val x, a, .un] fun ys _ => wTupOf [.lst ys] fun z => Ψ z none := by
          refine lc_map (R := fun ρ => ρ = [.val x, a, .un]) tupD xs _ rfl (Nat.le_trans hle (by have := big; omega)) (fun d hd ρ' Φ h1 h2 => ?_) fun ρ' h1 => ?_
          · subst h1
            obtain ⟨zs, hz⟩ := hz d hd
            have e := h2 [.val x, a, .val d] rfl
            obtain rfl | rfl := seq_cases hz <;> exact e
          · rw [hxy]; exact hq
        obtain rfl | rfl := seq_cases hx <;> exact go
      have loop : ∀ (zs : List D) (i : Nat) (a b : Sl), (∀ z ∈ zs, plain2 z) → (isTab y = true ∨ ∃ r, zs = y :: r) → (∀ z ∈ xs, z ∈ zs ∨ isTab z = true) → (match tabsFault (lenD y) zs i with | none => Ψ (.tup ((y :: ys).map tupD)) none | some i => Ξ C.BadMachine "at" (.int (i : Nat))) →
          wForL (wgTup 2 (wgCons (wgName 1) (wgCons (wgName 2) wgNil)))
            (wIfS (wOr (wNot (wB (wCallA 1 0 (sp_is_table C) (fun ds _ => ds) (wCons (wVar 2) wNil) wNil))) (wB (wOp (wEq true) (wCB wLen (wCons (wVar 2) wNil)) (wCB wLen (wCons (wOp wIx (wVar 0) (wC (.int 0))) wNil)))))
              (wRaise C.BadMachine "at" (wCons (wVar 1) wNil)) wNext) ((zs.zipIdx i).map fun p => .tup [.int (p.2 : Nat), p.1]) [.val x, a, b]
            { nx := fun ρ' => wLc (wiSeq (wVar 0)) (wgName 2) wTrue (wCB wTupOf (wCons (wVar 2) wNil)) [2] ρ' (fun C f d _ => Ξ C f d) fun x _ => wTupOf [x] fun z => Ψ z none,
              rt := fun d _ => Ψ d none, bk := fun _ => False, ct := fun _ => False, xc := fun C f d _ => Ξ C f d } := by
        intro zs
        induction zs with
        | nil =>
          intro i a b _ _ hall hq
          exact fin a b (fun z hz => tab_seq ((hall z hz).resolve_left (by simp))) hq
        | cons z zs ih =>
          intro i a b hpz hy hall hq
          refine ⟨rfl, rfl, rfl, rfl, rfl, z, rfl, hpz z List.mem_cons_self, ?_⟩
          show if (!isTab z) = true then _ else _
          unfold tabsFault at hq
          cases hb : isTab z with
          | false =>
            rw [hb] at hq
            exact hq
          | true =>
            rw [hb] at hq
            have hy' : isTab y = true := hy.elim id fun ⟨r, e⟩ => by cases e; exact hb
            obtain ⟨us, hu⟩ := tab_seq hb
            obtain ⟨ws, hw⟩ := tab_seq hy'
            have e1 : lenD z = us.length := by unfold lenD; rw [hu]; rfl
            have e2 : lenD y = ws.length := by unfold lenD; rw [hw]; rfl
            have tail : ∀ b : Bool, decide (lenD z = lenD y) = b → (if (!b) = true then Ξ C.BadMachine "at" (.int (i : Nat)) else wForL (wgTup 2 (wgCons (wgName 1) (wgCons (wgName 2) wgNil)))
                (wIfS (wOr (wNot (wB (wCallA 1 0 (sp_is_table C) (fun ds _ => ds) (wCons (wVar 2) wNil) wNil))) (wB (wOp (wEq true) (wCB wLen (wCons (wVar 2) wNil)) (wCB wLen (wCons (wOp wIx (wVar 0) (wC (.int 0))) wNil)))))
                  (wRaise C.BadMachine "at" (wCons (wVar 1) wNil)) wNext) ((zs.zipIdx (i + 1)).map fun p => .tup [.int (p.2 : Nat), p.1]) [.val x, .val (.int (i : Nat)), .val z]
                { nx := fun ρ' => wLc (wiSeq (wVar 0)) (wgName 2) wTrue (wCB wTupOf (wCons (wVar 2) wNil)) [2] ρ' (fun C f d _ => Ξ C f d) fun x _ => wTupOf [x] fun z => Ψ z none,
                  rt := fun d _ => Ψ d none, bk := fun _ => False, ct := fun _ => False, xc := fun C f d _ => Ξ C f d }) := by
              intro b hb2
              rw [hb2] at hq
              cases b with
              | false => exact hq
              | true => exact ih (i + 1) _ _ (fun u hu => hpz u (List.mem_cons_of_mem _ hu)) (.inl hy') (fun u hu => (hall u hu).elim (fun m => (List.mem_cons.mp m).elim (fun e => .inr (e ▸ hb)) .inl) .inr) hq
            have key := tail _ rfl
            rw [e1, e2] at key
            rw [if_neg (show ¬ ((!true) = true) by decide)]
            simp only [wB, wOp, wCB, wCons, wVar, wNil, wC, List.set_cons_succ, List.set_cons_zero, List.getElem?_cons_zero, List.getElem?_cons_succ]
            refine len_lst z us hu ?_
            have hix : ∀ {Φ : D → Prop}, Φ y → wIx x (.int 0) Φ := fun {Φ} qq => by obtain rfl | rfl := seq_cases hx <;> exact ⟨y, hat, qq⟩
            refine hix ?_
            refine len_lst y ws hw ?_
            refine eq_ints ?_
            have ed : decide ((us.length : Int) = (ws.length : Int)) = decide (us.length = ws.length) := decide_eq_decide.mpr (by omega)
            rw [ed]
            exact key
      exact loop xs 0 .un .un hpl (.inr ⟨ys, hxy⟩) (fun z hz => .inl hz) (by rw [hxy]; exact hq)
    simp only [chkTabs, hx] at q
    have done : ∀ {A : Prop}, (xs.length ≤ 8 → 1 ≤ xs.length → A) → (if 1 ≤ (xs.length : Int) then if 8 < (xs.length : Int) then Ξ C.BadMachine "at" (.int (-1)) else A else Ξ C.BadMachine "at" (.int (-1))) := by
      intro A hA
      cases xs with
      | nil => simpa using q
      | cons y ys =>
        rw [if_pos (by simp only [List.length_cons]; omega)]
        split
        · rename_i h2
          have : ¬ (y :: ys).length ≤ 8 := by simp only [List.length_cons] at h2 ⊢; omega
          simp only [this, if_false] at q; exact q
        · rename_i h2
          exact hA (by simp only [List.length_cons] at h2 ⊢; omega) (by simp)
    obtain rfl | rfl := seq_cases hx
    all_goals
      simp
      refine done fun h1 h2 => ?_
      cases xs with
      | nil => simp at h2
      | cons y ys =>
        refine mid y ys rfl h1 ?_
        simp only [h1, ↓reduceIte] at q
        cases hf : tabsFault (lenD y) (y :: ys) 0 <;> simp only [hf] at q <;> exact q
end
end K25
set_option Elab.async false
set_option autoImplicit false
set_option linter.all false
set_option maxRecDepth 100000
set_option maxHeartbeats 3900000
namespace K25
open DL L2 PyProof.Rows PySem PySem.Spec
section
variable {K : Fg} {C : Cs}
/-- the sem of a def whose first argument is an object of one's own -/
theorem lenD_tup (x : D) : lenD (tupD x) = lenD x := rfl
theorem m_Machine_init : Sem0 2 2 (sp_Machine_init C) (x_Machine_init K C) := by
  rintro hl ds Ψ Ξ - ⟨h, x, rfl, hp, q⟩
  match hl, h with
  | some (l, o), h =>
    cases (Option.some.inj h : o = .i C.Machine [] [])
    simp only [x_Machine_init, wSeq, wNext, wBreak, wCont, wAsg, wRet, wRetN, wDrop, wIfS, wRetO, wgName, wgNil, wgCons, wgTup, wAsgG, wOp, wUn, wCB, wC, wVar, wNil, wCons, wTup, wLst, wB, wAnd, wOr, wNot, wAndV, wOrV, wNotV, wIf, wChain, wAdd, wSub, wMul, wMod, wDiv, wPow, wCmp, wIsN, DL.isNon, wLen, wAbs, wMin2, wMax2, wInt, wFld, wFldO, wM1, wCallA, wCallB, wMake, wRaise, wNeg, wIxO, wLenO, wApp, wSetO, wFset, wPar, wParO, wAsgO, woLst, woCall, wFor, wiSeq, wiRg1, wiEnum, dEnds, outs, args, List.getElem?_cons_zero, List.getElem?_cons_succ, List.nil_append, List.cons_append, List.map_cons, List.map_nil, List.set_cons_zero, List.set_cons_succ, List.append_nil, List.replicate_zero, List.replicate_succ, Option.map_none, Option.map_some, List.length_cons, List.length_nil, sp_check_tables]
    refine ⟨⟨_, _, rfl⟩, trivial, trivial, trivial, x, rfl, hp, ?_⟩
    cases hc : chkTabs x with
    | error i => rw [hc] at q; exact q
    | ok rs =>
      rw [hc] at q
      cases rs with
      | nil => simp only [chkTabs] at hc; split at hc <;> first | cases hc | (split at hc <;> first | cases hc | (split at hc <;> cases hc))
      | cons r rs =>
        obtain ⟨zs, hz⟩ : ∃ zs, seqD r = some zs := by
          simp only [chkTabs] at hc
          split at hc
          · split at hc
            · split at hc
              · simp only [List.map_cons] at hc; cases hc; exact ⟨_, rfl⟩
              · cases hc
            · cases hc
          · cases hc
        have hl : lenD r = zs.length := by unfold lenD; rw [hz]; rfl
        simp
        refine ⟨.tup (r :: rs), by simp [lookD], by decide, .tup (r :: rs), by simp [lookD], r, by simp [atI, ixN], ?_⟩
        obtain rfl | rfl := seq_cases hz <;> exact ⟨⟨by decide, by decide⟩, q⟩
theorem eqv_int (a : Int) : PyData.eqv (.int a) (.int a) = true := by simp [PyData.eqv]
/-! data and PyData -/
theorem py_row (r : List Nat) : pyOf (rowD r) = some (.tuple (r.map fun n => .int (n : Nat))) := by
  have : ∀ r : List Nat, pyOfL (r.map fun n => D.int (n : Nat)) = some (r.map fun n => .int (n : Nat)) := fun r => by
    induction r with
    | nil => rfl
    | cons n r ih => simp [pyOfL, pyOf, ih]
  simp [rowD, pyOf, this]
theorem py_rows (t : Tbl) : pyOf (.tup (t.map rowD)) = some (.tuple (t.map fun r => .tuple (r.map fun n => .int (n : Nat)))) := by
  have : ∀ t : Tbl, pyOfL (t.map rowD) = some (t.map fun r => .tuple (r.map fun n => .int (n : Nat))) := fun t => by
    induction t with
    | nil => rfl
    | cons r t ih => simp [pyOfL, py_row, ih]
  simp [pyOf, this]
theorem shaped_row (r : List Nat) : SeqAt.shaped (.tuple (r.map fun n => .int (n : Nat))) = true ∧ PyData.depth (.tuple (r.map fun n => .int (n : Nat))) ≤ 1 := by
  have a : ∀ r : List Nat, PyData.canLayAll0 (r.map fun n => .int (n : Nat)) = true := fun r => by induction r with
    | nil => rfl
    | cons n r ih => simp [PyData.canLayAll0, PyData.canLay0, ih]
  have b : ∀ r : List Nat, PyData.depthAll (r.map fun n => .int (n : Nat)) = 0 := fun r => by induction r with
    | nil => rfl
    | cons n r ih => simp [PyData.depthAll, PyData.depth, ih]
  simp [SeqAt.shaped, PyData.canLay0, PyData.depth, a, b]
theorem shaped_rows (t : Tbl) : SeqAt.shaped (.tuple (t.map fun r => .tuple (r.map fun n => .int (n : Nat)))) = true := by
  have a : ∀ t : Tbl, PyData.canLayAll0 (t.map fun r => .tuple (r.map fun n => .int (n : Nat))) = true := fun t => by induction t with
    | nil => rfl
    | cons r t ih =>
      have := (Bool.and_eq_true_iff.mp (shaped_row r).1).1
      simp only [List.map_cons, PyData.canLayAll0, this, ih, Bool.and_self]
  have b : ∀ t : Tbl, PyData.depthAll (t.map fun r => .tuple (r.map fun n => .int (n : Nat))) ≤ 1 := fun t => by induction t with
    | nil => exact Nat.zero_le _
    | cons r t ih =>
      have := (shaped_row r).2
      (simp only [List.map_cons, PyData.depthAll])
      omega
  have hb := b t
  refine Bool.and_eq_true_iff.mpr ⟨a t, decide_eq_true ?_⟩
  simp only [PyData.depth]
  omega
theorem eq_same {x : D} {p : PyData} {Φ : D → Prop} {neg : Bool} (h : pyOf x = some p) (hs : SeqAt.shaped p = true) (q : Φ (.bl !neg)) : wEq neg x x Φ :=
  ⟨p, p, h, h, hs, hs, by rw [SeqAt.eqv_refl p (SeqAt.canLay_of_shaped hs)]; cases neg <;> exact q⟩
theorem look_deeds (C : Cs) (t : Tbl) : lookD ["tables", "deeds", "states"] [.tup (t.map rowD), .int ((t.map rowD).length : Nat), .int (lenD ((t.map rowD).headD .non) : Nat)] "deeds" = some (.int (t.length : Nat)) := by simp [lookD]; decide
theorem len_le {n : Nat} (h : n ≤ 10000) : n ≤ sizeLine := Nat.le_trans h (by have := big; omega)
theorem Good.head {t : Tbl} (g : Good t) : 1 ≤ wd t ∧ wd t ≤ 12 := by
  cases t with
  | nil => exact absurd rfl g.ne
  | cons r t => exact ⟨(g.row r List.mem_cons_self).1, (g.row r List.mem_cons_self).2.1⟩
theorem look_st (C : Cs) (t : Tbl) : lookD ["tables", "deeds", "states"] [.tup (t.map rowD), .int ((t.map rowD).length : Nat), .int (lenD ((t.map rowD).headD .non) : Nat)] "states" = some (.int (wd t : Nat)) := by
  have e : lenD ((t.map rowD).headD .non) = wd t := by
    cases t with
    | nil => rfl
    | cons r t => simp [lenD, rowD, seqD, wd]
  rw [e]
  have a : ¬ ("tables" : Str) = "states" := by decide
  have b : ¬ ("deeds" : Str) = "states" := by decide
  simp [lookD, a, b]
theorem look_tb (C : Cs) (t : Tbl) : lookD ["tables", "deeds", "states"] [.tup (t.map rowD), .int ((t.map rowD).length : Nat), .int (lenD ((t.map rowD).headD .non) : Nat)] "tables" = some (.tup (t.map rowD)) := by simp [lookD]
end
end K25
set_option Elab.async false
set_option autoImplicit false
set_option linter.all false
set_option maxRecDepth 100000
set_option maxHeartbeats 3900000
namespace K25
open DL L2 PyProof.Rows PySem PySem.Spec
section
variable {K : Fg} {C : Cs}
theorem plain_row (r : List Nat) : plain2 (rowD r) := ⟨rfl, fun xs h y hy => by
  cases h
  obtain ⟨n, hn, rfl⟩ := List.mem_map.mp hy
  rfl⟩
theorem fault_none (m : Nat) : ∀ (r : List Nat) (i : Nat), (∀ n ∈ r, n < m) → faultD (m : Int) (numsD r) i = .non
  | [], _, _ => rfl
  | n :: r, i, h => by
    have h1 := h n List.mem_cons_self
    have e : belowD (.int (n : Nat)) (m : Int) = true := by
      show (decide (0 ≤ (n : Int)) && decide ((n : Int) < (m : Int))) = true
      rw [decide_eq_true (by omega), decide_eq_true (by omega)]; rfl
    show (if belowD (.int (n : Nat)) (m : Int) = true then faultD (m : Int) (numsD r) (i + 1) else _) = _
    rw [if_pos e]
    exact fault_none m r (i + 1) fun k hk => h k (List.mem_cons_of_mem _ hk)
theorem isTab_row {r : List Nat} (h1 : 1 ≤ r.length) (h2 : r.length ≤ 12) (h : ∀ n ∈ r, n < r.length) : isTab (rowD r) = true := by
  have e : (numsD r).length = r.length := List.length_map ..
  show (decide (1 ≤ (numsD r).length) && decide ((numsD r).length ≤ 12) && isNo (faultD ((numsD r).length : Int) (numsD r) 0)) = true
  rw [e, fault_none r.length r 0 h, decide_eq_true h1, decide_eq_true h2]
  rfl
theorem lenD_row (r : List Nat) : lenD (rowD r) = r.length := List.length_map ..
theorem tabs_none {n : Nat} : ∀ (t : Tbl) (i : Nat), (∀ r ∈ t, isTab (rowD r) = true ∧ r.length = n) → tabsFault n (t.map rowD) i = none
  | [], _, _ => rfl
  | r :: t, i, h => by
    obtain ⟨h1, h2⟩ := h r List.mem_cons_self
    show (if (isTab (rowD r) && decide (lenD (rowD r) = n)) = true then _ else _) = _
    rw [h1, lenD_row, h2]
    simp only [decide_true, Bool.and_self, ↓reduceIte]
    exact tabs_none t (i + 1) fun q hq => h q (List.mem_cons_of_mem _ hq)
theorem chk_good {t : Tbl} {x : D} (g : Good t) (hx : seqD x = some (t.map rowD)) : chkTabs x = .ok (t.map rowD) := by
  match t, g, hx with
  | [], g, _ => exact absurd rfl g.ne
  | r :: t, g, hx =>
    simp only [chkTabs, hx, List.map_cons]
    have hle := g.le
    simp only [List.length_cons] at hle
    have hf : tabsFault (lenD (rowD r)) (rowD r :: t.map rowD) 0 = none := tabs_none (r :: t) 0 fun q hq => by
      obtain ⟨h1, h2, h3, h4⟩ := g.row q hq
      exact ⟨isTab_row h1 h2 h4, by rw [lenD_row]; exact h3⟩
    simp only [List.length_cons, List.length_map, hle, ↓reduceIte, hf]
    have : t.map (tupD ∘ rowD) = t.map rowD := List.map_congr_left fun q _ => rfl
    rw [List.map_map, this]
    rfl
theorem plain_tb {t : Tbl} {x : D} (hx : seqD x = some (t.map rowD)) : plain3 x := ⟨by obtain rfl | rfl := seq_cases hx <;> rfl, fun xs h y hy => by
  rw [hx] at h; cases h
  obtain ⟨r, _, rfl⟩ := List.mem_map.mp hy
  exact plain_row r⟩
/-- Machine(..) of good tables -/
theorem mk_good {t : Tbl} {x : D} {Ψ : D → Option OD → Prop} {Ξ : Addr → Str → D → Prop} (g : Good t) (hx : seqD x = some (t.map rowD)) (q : Ψ .non (some (machO C (t.map rowD)))) : sp_Machine_init C (some (.i C.Machine [] [])) [x] Ψ Ξ :=
  ⟨rfl, x, rfl, plain_tb hx, by rw [chk_good g hx]; exact q⟩
theorem at2 (a b : Int) : atI [D.int a, .int b] 0 = some (.int a) ∧ atI [D.int a, .int b] 1 = some (.int b) := by simp [atI, ixN]
theorem ix2 : ixN 2 0 = some 0 ∧ ixN 2 1 = some 1 := by decide
theorem m_law_take : Sem0 2 4 (sp_law_take C) (x_law_take K C) := by
  rintro hl ds Ψ Ξ - ⟨o, m, h, ⟨a, b, ha, rfl⟩, rfl, hm, hm2, q⟩
  match hl, h with
  | some (l, o), h =>
    cases (Option.some.inj h : o = .l [.int a, .int b])
    refine ⟨⟨l, _, rfl⟩, .int a, (at2 a b).1, ?_⟩
    show if decide ((0 : Int) < a) = true then _ else _
    have nn : ∀ x y : Int, 0 < y → 0 ≤ x % y ∧ x % y < y := fun x y h => ⟨Int.emod_nonneg _ (by omega), Int.emod_lt_of_pos _ h⟩
    by_cases h0 : (0 : Int) < a
    · rw [if_pos (decide_eq_true h0)]
      refine ⟨⟨l, _, rfl⟩, .int a, (at2 a b).1, hm, ⟨l, _, rfl⟩, .int a, (at2 a b).1, ⟨hm, by omega⟩, ⟨l, _, rfl⟩, 0, ix2.1, ?_⟩
      refine ⟨.l [.int (a / m), .int b], rfl, q _ _ (nn a m hm).1 (nn a m hm).2 ⟨a / m, b, ?_, rfl⟩⟩
      exact Int.ediv_nonneg (by omega) (by omega)
    · rw [if_neg (by rw [decide_eq_false h0]; exact Bool.false_ne_true)]
      refine ⟨⟨l, _, rfl⟩, .int b, (at2 a b).2, .inr (by decide), by decide, ?_⟩
      refine ⟨.inr (by decide), by decide, ⟨l, _, rfl⟩, 1, ix2.2, .inr (by decide), ⟨l, _, rfl⟩, _, (at2 a _).2, ⟨by decide, by decide⟩, hm, ?_⟩
      refine ⟨.l [.int a, .int _], rfl, q _ _ (nn _ m hm).1 (nn _ m hm).2 ⟨a, _, ha, rfl⟩⟩
theorem at_of {xs : List D} {d : Int} (h0 : 0 ≤ d) (h1 : d < (xs.length : Int)) : ∃ x, atI xs d = some x ∧ x ∈ xs := by
  have hlt : d.toNat < xs.length := by omega
  refine ⟨xs[d.toNat], ?_, List.getElem_mem hlt⟩
  unfold atI ixN
  rw [if_pos h0, if_pos h1]
  simp [hlt]
theorem m_law_pick : Sem0 2 2 (sp_law_pick C) (x_law_pick K C) := by
  rintro hl ds Ψ Ξ - ⟨o, xs, h, ho, rfl, hne, hlen, q⟩
  match hl, h with
  | some (l, o'), h =>
    cases (Option.some.inj h : o' = o)
    have hpos : 0 < xs.length := List.length_pos_iff.mpr hne
    refine ⟨⟨l, _, rfl⟩, rfl, o, _, rfl, ho, rfl, by omega, by omega, fun d o2 h0 h1 h2 => ⟨o2, rfl, ?_⟩⟩
    obtain ⟨x, hx, hm⟩ := at_of h0 h1
    exact ⟨x, hx, o2, rfl, q x o2 hm h2⟩
/-- a range -/
theorem rg_nums (m : Nat) : rgD 0 m = numsD (List.range m) := by unfold rgD numsD; simp
/-- draws, one by one: the object is the slot 0 -/
theorem draws {i : Nat} {rest : Rho} {l : Addr} {m : Int} {we : WE} {Φ : List D → Rho → Prop} {R : Rho → Prop} (ds : List D) (ρ : Rho) (hm : 0 < m) (hl : ds.length ≤ sizeLine) (hR : R ρ)
    (hs : ∀ d ∈ ds, ∀ ρ' (Ψ : D → Rho → Prop), R ρ' → (∀ x ρ3, (∃ k : Nat, x = .int k ∧ (k : Int) < m) → R (wipeR ρ3 [i]) → Ψ x ρ3) → we (ρ'.set i (.val d)) χ0 Ψ)
    (hΦ : ∀ ns ρ', ns.length = ds.length → (∀ n ∈ ns, ((n : Nat) : Int) < m) → R ρ' → Φ (numsD ns) ρ') : wLcL (wgName i) wTrue we [i] ds [] ρ Φ := by
  refine lc_gen (P := fun _ y => ∃ k : Nat, y = .int k ∧ (k : Int) < m) ds [] ρ hR (by simpa using hl) (fun d hd ρ' Ψ h1 h2 => hs d hd ρ' Ψ h1 fun x ρ3 h3 h4 => h2 x ρ3 h3 h4) fun ys ρ' hp h2 => ?_
  have : ∃ ns : List Nat, ys = numsD ns ∧ ns.length = ds.length ∧ ∀ n ∈ ns, ((n : Nat) : Int) < m := by
    clear hs hΦ hl hR
    induction hp with
    | nil => exact ⟨[], rfl, rfl, fun _ h => nomatch h⟩
    | cons h t ih =>
      obtain ⟨k, rfl, hk⟩ := h
      obtain ⟨ns, rfl, h1, h2⟩ := ih
      exact ⟨k :: ns, rfl, by simp [h1], fun n hn => (List.mem_cons.mp hn).elim (fun e => e ▸ hk) (h2 n)⟩
  obtain ⟨ns, rfl, h3, h4⟩ := this
  rw [List.nil_append]
  exact hΦ ns ρ' h3 h4 h2
theorem nat_of {d m : Int} (h0 : 0 ≤ d) (h1 : d < m) : ∃ k : Nat, D.int d = .int k ∧ (k : Int) < m := ⟨d.toNat, by rw [Int.toNat_of_nonneg h0], by rw [Int.toNat_of_nonneg h0]; exact h1⟩
theorem at_int {ns : List Int} {i : Int} (h0 : 0 ≤ i) (h1 : i < (ns.length : Int)) : ∃ n, atI ns i = some n := by
  have hlt : i.toNat < ns.length := by omega
  refine ⟨ns[i.toNat], ?_⟩
  unfold atI ixN
  rw [if_pos h0, if_pos h1]
  simp [hlt]
def RowOk (m : Nat) (r : List Nat) : Prop := r.length = m ∧ ∀ n ∈ r, n < m
theorem seqI {w u : WS} {ρ : Rho} {Δ : DE} (h : w ρ { Δ with nx := fun ρ' => u ρ' Δ }) : wSeq w u ρ Δ := h
theorem asgI {i : Nat} {wa : WE} {ρ : Rho} {Δ : DE} (h : wa ρ Δ.xc fun d ρ1 => Δ.nx (ρ1.set i (.val d))) : wAsg i wa ρ Δ := h
theorem good_rows {m : Nat} {rows : Tbl} (h1 : 1 ≤ m) (h2 : m ≤ 12) (hr : ∀ r ∈ rows, RowOk m r) (hne : rows ≠ []) (h8 : rows.length ≤ 8) : Good rows := by
  refine ⟨hne, h8, fun r h => ?_⟩
  have e : (rows.headD []).length = m := by
    cases rows with
    | nil => exact absurd rfl hne
    | cons q t => exact (hr q List.mem_cons_self).1
  obtain ⟨a, b⟩ := hr r h
  rw [e, a]
  exact ⟨h1, h2, rfl, b⟩
abbrev roE (Ψ : OD → Prop) : DE := { nx := fun _ => False, rt := fun _ _ => False, bk := fun _ => False, ct := fun _ => False, xc := χ0, ro := fun _ od _ => Ψ od }
abbrev bx_e : WS := wSeq (wAsg 3 (wIf (wB (wOp wGe (wVar 2) (wOp wPow (wC (.int 10)) (wC (.int 18))))) (wVar 2) (wC (.int 0)))) (wRetO (woLst (wCons (wVar 3) (wCons (wOp wAdd (wOp wMod (wCB wInt (wCons (wOp wAdd (wOp wMul (wOp wMod (wCB wInt (wCons (wVar 2) wNil)) (wC (.int 2147483587))) (wC (.int 69463))) (wOp wMul (wC (.int 983)) (wVar 1))) wNil)) (wC (.int 2147483587))) (wC (.int 1))) wNil))))
theorem box_end {ns : List Int} {k v : Int} {s3 : Sl} {Ψ : OD → Prop} (hv : 0 ≤ v) (q : ∀ o, GoodB o → Ψ o) : bx_e [.val (.scr ns), .val (.int k), .val (.int v), s3] (roE Ψ) := by
  refine ⟨⟨by decide, by decide, by decide⟩, ?_⟩
  have go : ∀ g : Int, 0 ≤ g → wRetO (woLst (wCons (wVar 3) (wCons (wOp wAdd (wOp wMod (wCB wInt (wCons (wOp wAdd (wOp wMul (wOp wMod (wCB wInt (wCons (wVar 2) wNil)) (wC (.int 2147483587))) (wC (.int 69463))) (wOp wMul (wC (.int 983)) (wVar 1))) wNil)) (wC (.int 2147483587))) (wC (.int 1))) wNil))) [.val (.scr ns), .val (.int k), .val (.int v), .val (.int g)] (roE Ψ) := fun g hg =>
    ⟨by decide, .inr (by decide), .inl (by decide), by decide, by show 2 ≤ sizeLine; decide, fun l => q _ ⟨g, _, hg, rfl⟩⟩
  show if decide ((10 : Int) ^ (18 : Int).toNat ≤ v) = true then _ else _
  cases hb : decide ((10 : Int) ^ (18 : Int).toNat ≤ v)
  · exact go 0 (by omega)
  · exact go v hv
theorem m_law_box : ∀ ds Ψ, ds.length = 2 → so_law_box C ds Ψ → x_law_box K C (args none ds ++ List.replicate (4 - 2) .un) (roE Ψ) := by
  rintro ds Ψ - ⟨ns, k, rfl, hk0, hk1, hn, q⟩
  refine ⟨.inl (by decide), ?_⟩
  show if decide (k < (ns.length : Int)) = true then _ else _
  by_cases h1 : k < (ns.length : Int)
  · rw [if_pos (decide_eq_true h1)]
    obtain ⟨n, hn⟩ := at_int hk0 h1
    refine ⟨n, hn, box_end ?_ q⟩
    show 0 ≤ (if n < 0 then -n else n)
    split <;> omega
  · rw [if_neg (by rw [decide_eq_false h1]; exact Bool.false_ne_true)]
    show if decide ((0 : Int) < (ns.length : Int)) = true then _ else _
    by_cases h2 : (0 : Int) < (ns.length : Int)
    · rw [if_pos (decide_eq_true h2)]
      obtain ⟨n, hn⟩ := at_int (ns := ns) (i := k % (ns.length : Int)) (Int.emod_nonneg _ (by omega)) (Int.emod_lt_of_pos _ h2)
      refine ⟨h2, n, hn, by decide, .inr (by decide), box_end ?_ q⟩
      have := Int.emod_nonneg (if n < 0 then -n else n) (show (2147483587 : Int) ≠ 0 by decide)
      show 0 ≤ 6449 * k + 983 + (if n < 0 then -n else n) % 2147483587 * 60503
      omega
    · rw [if_neg (by rw [decide_eq_false h2]; exact Bool.false_ne_true)]
      exact box_end (by omega) q
end
end K25
set_option Elab.async false
set_option autoImplicit false
set_option linter.all false
set_option maxRecDepth 100000
set_option maxHeartbeats 3900000
namespace K25
open DL L2 PyProof.Rows PySem PySem.Spec
section
variable {K : Fg} {C : Cs}
/-- a loop by what holds before each turn -/
theorem for_inv {g : WG} {w : WS} {Δ : DE} (I : List D → Rho → Prop) (step : ∀ d ds ρ (N : Rho → Prop), I (d :: ds) ρ → (∀ ρ', I ds ρ' → N ρ') → g d ρ fun ρ1 => w ρ1 { Δ with nx := N, ct := N, bk := Δ.nx }) (done : ∀ ρ, I [] ρ → Δ.nx ρ) :
    ∀ (ds : List D) (ρ : Rho), I ds ρ → wForL g w ds ρ Δ
  | [], ρ, h => done ρ h
  | d :: ds, ρ, h => step d ds ρ (fun ρ' => wForL g w ds ρ' Δ) h fun ρ' h' => for_inv I step done ds ρ' h'
/-- a comprehension with a test -/
theorem lc_mfa {α : Type} {g : WG} {wt : WT} {we : WE} {vs : List Nat} {Φ : List D → Rho → Prop} (R : Rho → Prop) (e : α → D) (f : α → Option D) (xs0 : List α) (hl : xs0.length ≤ sizeLine)
    (step : ∀ x ∈ xs0, ∀ ρ (N : Option D → Rho → Prop), R ρ → (∀ ρ', R ρ' → N (f x) ρ') → g (e x) ρ fun ρ1 => wt ρ1 χ0 fun b ρ2 => if b = true then we ρ2 χ0 fun y ρ3 => N (some y) (wipeR ρ3 vs) else N none (wipeR ρ2 vs))
    (done : ∀ ρ', R ρ' → Φ (xs0.filterMap f) ρ') (ρ : Rho) (hR : R ρ) : wLcL g wt we vs (xs0.map e) [] ρ Φ := by
  have main : ∀ (xs : List α) (acc : List D) (ρ : Rho), (∀ x ∈ xs, x ∈ xs0) → acc.length + xs.length ≤ sizeLine → R ρ → (∀ ρ', R ρ' → Φ (acc ++ xs.filterMap f) ρ') → wLcL g wt we vs (xs.map e) acc ρ Φ := by
    intro xs
    induction xs with
    | nil => intro acc ρ _ _ hR q; have := q ρ hR; rwa [List.filterMap_nil, List.append_nil] at this
    | cons x xs ih =>
      intro acc ρ hm hz hR q
      have hz' : acc.length < sizeLine := by simp only [List.length_cons] at hz; omega
      have := step x (hm x List.mem_cons_self) ρ (fun o ρ' => match o with | some y => acc.length < sizeLine ∧ wLcL g wt we vs (xs.map e) (acc ++ [y]) ρ' Φ | none => wLcL g wt we vs (xs.map e) acc ρ' Φ) hR fun ρ' h' => by
        cases hf : f x with
        | none =>
          refine ih acc ρ' (fun z hz => hm z (List.mem_cons_of_mem _ hz)) (by simp only [List.length_cons] at hz; omega) h' fun ρ2 h2 => ?_
          have := q ρ2 h2; rwa [List.filterMap_cons_none hf] at this
        | some y =>
          refine ⟨hz', ih (acc ++ [y]) ρ' (fun z hz => hm z (List.mem_cons_of_mem _ hz)) (by simp only [List.length_append, List.length_cons, List.length_nil] at hz ⊢; omega) h' fun ρ2 h2 => ?_⟩
          have := q ρ2 h2; rw [List.filterMap_cons_some hf] at this; rwa [List.append_assoc]
      exact this
  exact main xs0 [] ρ (fun _ h => h) (by simpa using hl) hR done
theorem lc_mfc {α : Type} {g : WG} {wt : WT} {we : WE} {vs : List Nat} {Φ : List D → Rho → Prop} (ρ0 : Rho) (e : α → D) (f : α → Option D) (xs : List α) (hl : xs.length ≤ sizeLine)
    (step : ∀ x ∈ xs, ∀ (N : Option D → Rho → Prop), N (f x) ρ0 → g (e x) ρ0 fun ρ1 => wt ρ1 χ0 fun b ρ2 => if b = true then we ρ2 χ0 fun y ρ3 => N (some y) (wipeR ρ3 vs) else N none (wipeR ρ2 vs))
    (done : Φ (xs.filterMap f) ρ0) : wLcL g wt we vs (xs.map e) [] ρ0 Φ :=
  lc_mfa (fun ρ => ρ = ρ0) e f xs hl (fun x hx ρ N hR h => by subst hR; exact step x hx N (h _ rfl)) (fun ρ' h => h ▸ done) ρ0 rfl
/-- an expression's value, a test's answer -/
def Ev (w : WE) (ρ : Rho) (x : D) (ρ' : Rho) : Prop := ∀ χ Φ, Φ x ρ' → w ρ χ Φ
def Te (w : WT) (ρ : Rho) (b : Bool) (ρ' : Rho) : Prop := ∀ χ Φ, Φ b ρ' → w ρ χ Φ
section
variable {wa wb : WE} {ρ ρ1 ρ2 : Rho} {i : Nat} {d x : D} {xs : List D} {a b : Int}
theorem ev_var (h : ρ[i]? = some (.val d)) : Ev (wVar i) ρ d ρ := fun χ Φ q => by unfold wVar; rw [h]; exact q
theorem ev_c : Ev (wC d) ρ d ρ := fun χ Φ q => q
theorem ev_len (h : ρ[i]? = some (.val x)) (hx : seqD x = some xs) : Ev (wCB wLen (wCons (wVar i) wNil)) ρ (.int (xs.length : Nat)) ρ := fun χ Φ q => by
  have : wVar i ρ χ (fun v ρ1 => wNil ρ1 χ fun vs ρ2 => wLen (v :: vs) fun z => Φ z ρ2) := ev_var h χ _ (show wLen [x] fun z => Φ z ρ from len_lst x xs hx q)
  exact this
theorem te_ne (ha : Ev wa ρ (.int a) ρ1) (hb : Ev wb ρ1 (.int b) ρ2) : Te (wB (wOp (wEq true) wa wb)) ρ (!decide (a = b)) ρ2 := fun χ Φ q => ha χ _ (hb χ _ (eq_ints (Φ := fun z => match z with | .bl b => Φ b ρ2 | _ => False) q))
theorem te_eq (ha : Ev wa ρ (.int a) ρ1) (hb : Ev wb ρ1 (.int b) ρ2) : Te (wB (wOp (wEq false) wa wb)) ρ (decide (a = b)) ρ2 := fun χ Φ q => ha χ _ (hb χ _ (eqF_ints (Φ := fun z => match z with | .bl b => Φ b ρ2 | _ => False) q))
end
theorem m_is_ascending : Sem0 2 4 (sp_is_ascending C) (x_is_ascending K C) := by
  rintro hl ds Ψ Ξ - ⟨h, x, m, rfl, hp, q⟩
  cases none_of h
  refine ⟨rfl, rfl, rfl, x, rfl, hp.1, ?_⟩
  cases hx : seqD x with
  | none => unfold ascD at q; rw [hx] at q; exact q
  | some xs =>
    have q : Ψ (.bl (ascL m xs 0)) none := by unfold ascD at q; rw [hx] at q; exact q
    have hpl := hp.2 xs hx
    have go : wForL (wgName 3) (wSeq (wIfS (wOr (wNot (wB (wCallA 2 0 (sp_is_below C) (fun ds _ => ds) (wCons (wVar 3) (wCons (wVar 1) wNil)) wNil))) (wB (wOp wLt (wVar 3) (wVar 2)))) (wRet (wC (.bl false))) wNext) (wAsg 2 (wOp wAdd (wVar 3) (wC (.int 1))))) xs
        [.val x, .val (.int m), .val (.int 0), .un] { dEnds none Ψ Ξ with nx := fun ρ => Ψ (.bl true) none } := by
      refine for_inv (fun ds ρ => ∃ (v : Int) (s : Sl), ρ = [.val x, .val (.int m), .val (.int v), s] ∧ (∀ y ∈ ds, plain y) ∧ Ψ (.bl (ascL m ds v)) none) (fun d ds ρ N h hN => ?_) (fun ρ h => ?_) xs _ ⟨0, .un, rfl, hpl, q⟩
      · obtain ⟨v, s, rfl, h1, h2⟩ := h
        refine ⟨rfl, rfl, rfl, d, m, rfl, h1 d List.mem_cons_self, ?_⟩
        show if (!belowD d m) = true then _ else _
        unfold ascL at h2
        cases hb : belowD d m with
        | false =>
          have h3 : Ψ (.bl false) none := by
            cases d <;> first | exact h2 | (simp only [hb, Bool.false_and] at h2; exact h2)
          exact h3
        | true =>
          cases d with
          | int w =>
            simp only [hb, Bool.true_and] at h2
            show if decide (w < v) = true then _ else _
            by_cases hlt : w < v
            · rw [if_pos (decide_eq_true hlt)]
              rw [if_neg (by rw [decide_eq_false (by omega)]; exact Bool.false_ne_true)] at h2
              exact h2
            · rw [if_neg (by rw [decide_eq_false hlt]; exact Bool.false_ne_true)]
              rw [if_pos (decide_eq_true (by omega))] at h2
              exact (hN _ ⟨w + 1, .val (.int w), rfl, fun y hy => h1 y (List.mem_cons_of_mem _ hy), h2⟩)
          | _ => exact absurd hb (by simp [belowD])
      · obtain ⟨v, s, rfl, h1, h2⟩ := h
        exact h2
    obtain rfl | rfl := seq_cases hx <;> exact go
theorem asc_seq {x : D} {m : Int} (h : ascD x m = true) : ∃ xs, seqD x = some xs := by
  unfold ascD at h
  cases hx : seqD x with
  | none => rw [hx] at h; cases h
  | some xs => exact ⟨xs, rfl⟩
theorem m_check_starts : Sem0 2 2 (sp_check_starts C) (x_check_starts K C) := by
  rintro hl ds Ψ Ξ - ⟨h, t, x, rfl, g, q⟩
  cases none_of h
  have hw := g.head
  rcases q with ⟨rfl, q⟩ | ⟨hn, hp, q⟩
  · refine ⟨rfl, true, rfl, rfl, .int (wd t : Nat), look_st C t, ⟨by omega, by omega⟩, ?_⟩
    have e0 : D.tup (rgD 0 (Int.toNat (wd t : Nat))) = rowD (List.range (wd t)) := by rw [Int.toNat_natCast, rg_nums]; rfl
    show Ψ (D.tup (rgD 0 (Int.toNat (wd t : Nat)))) none
    rw [e0]; exact q
  · have hno : DL.isNon x = some false := by cases x <;> first | rfl | (cases hn; done) | exact absurd hp.1 (by simp [plain, tyN])
    refine ⟨rfl, false, hno, rfl, .int (wd t : Nat), look_st C t, rfl, rfl, rfl, x, (wd t : Nat), rfl, hp, ?_⟩
    show if (!ascD x (wd t : Nat)) = true then _ else _
    unfold startsOk at q
    cases ha : ascD x (wd t : Nat) with
    | false => rw [ha, Bool.false_and] at q; exact q
    | true =>
      rw [ha, Bool.true_and] at q
      obtain ⟨xs, hx⟩ := asc_seq ha
      have hlen : lenD x = xs.length := by unfold lenD; rw [hx]; rfl
      have e2 : (decide (lenD x ≠ 0)) = !decide ((xs.length : Int) = 0) := by
        rw [hlen, ← decide_not]; exact decide_eq_decide.mpr (by omega)
      rw [e2] at q
      have htup : tupD x = .tup xs := by unfold tupD; rw [hx]; rfl
      rw [htup] at q
      refine te_eq (ev_len rfl hx) ev_c _ _ ?_
      show if decide (((xs.length : Nat) : Int) = 0) = true then _ else _
      cases hd : decide ((xs.length : Int) = 0) with
      | true => rw [hd] at q; exact q
      | false =>
        rw [hd] at q
        obtain rfl | rfl := seq_cases hx <;> exact q
theorem fm_oth (m s : Nat) (h : Nat → Nat) : (List.range m).filterMap (fun o => if o = s then none else some (D.int (h o : Nat))) = numsD ((oth m s).map h) := by
  unfold numsD oth
  rw [List.map_map]
  induction List.range m with
  | nil => rfl
  | cons a l ih =>
    by_cases e : a = s
    · rw [List.filterMap_cons_none (by rw [if_pos e]), ih, List.filter_cons_of_neg (by simp [e])]
    · rw [List.filterMap_cons_some (by rw [if_neg e]), ih, List.filter_cons_of_pos (by simp [e])]
      rfl
theorem rg_map (m : Nat) : rgD 0 m = (List.range m).map fun n => D.int (n : Nat) := rg_nums m
theorem m_first_pairs : Sem0 2 3 (sp_first_pairs C) (x_first_pairs K C) := by
  rintro hl ds Ψ Ξ - ⟨h, t, s, g, hs, rfl, q⟩
  cases none_of h
  have hw := g.head
  refine ⟨rfl, .int (wd t : Nat), look_st C t, ⟨by omega, by omega⟩, ?_⟩
  show wLcL _ _ _ _ (rgD 0 (Int.toNat (wd t : Nat))) [] [.val (mach C t), .val (.int (s : Nat)), .un] _
  rw [Int.toNat_natCast, rg_map]
  refine lc_mfc _ _ (fun o => if o = s then none else some (D.int ((o * wd t + s : Nat) : Nat))) _ (by rw [List.length_range]; have := big; omega) (fun o ho N hN => ?_) ?_
  · refine te_ne (ρ := [.val (mach C t), .val (.int (s : Nat)), .val (.int (o : Nat))]) (ev_var (i := 2) (d := .int (o : Nat)) rfl) (ev_var (i := 1) (d := .int (s : Nat)) rfl) χ0 _ ?_
    show if (!decide ((o : Int) = s)) = true then _ else _
    by_cases e : o = s
    · rw [if_pos e] at hN
      rw [decide_eq_true (by omega)]
      exact hN
    · rw [if_neg e] at hN
      rw [decide_eq_false (by omega)]
      refine ⟨rfl, .int (wd t : Nat), look_st C t, .inr ⟨by omega, by omega⟩, ?_⟩
      · have e2 : ((o * wd t + s : Nat) : Int) = (o : Int) * (wd t : Nat) + (s : Nat) := by simp
        rw [e2] at hN; exact hN
  · rw [fm_oth (wd t) s fun o => o * wd t + s]
    exact q
theorem m_last_pairs : Sem0 2 3 (sp_last_pairs C) (x_last_pairs K C) := by
  rintro hl ds Ψ Ξ - ⟨h, t, s, g, hs, rfl, q⟩
  cases none_of h
  have hw := g.head
  refine ⟨rfl, .int (wd t : Nat), look_st C t, ⟨by omega, by omega⟩, ?_⟩
  show wLcL _ _ _ _ (rgD 0 (Int.toNat (wd t : Nat))) [] [.val (mach C t), .val (.int (s : Nat)), .un] _
  rw [Int.toNat_natCast, rg_map]
  refine lc_mfc _ _ (fun o => if o = s then none else some (D.int ((s * wd t + o : Nat) : Nat))) _ (by rw [List.length_range]; have := big; omega) (fun o ho N hN => ?_) ?_
  · refine te_ne (ρ := [.val (mach C t), .val (.int (s : Nat)), .val (.int (o : Nat))]) (ev_var (i := 2) (d := .int (o : Nat)) rfl) (ev_var (i := 1) (d := .int (s : Nat)) rfl) χ0 _ ?_
    show if (!decide ((o : Int) = s)) = true then _ else _
    by_cases e : o = s
    · rw [if_pos e] at hN
      rw [decide_eq_true (by omega)]
      exact hN
    · rw [if_neg e] at hN
      rw [decide_eq_false (by omega)]
      refine ⟨rfl, .int (wd t : Nat), look_st C t, .inr ⟨by omega, by omega⟩, ?_⟩
      have e2 : ((s * wd t + o : Nat) : Int) = (s : Int) * (wd t : Nat) + (o : Nat) := by simp
      rw [e2] at hN; exact hN
  · rw [fm_oth (wd t) s fun o => s * wd t + o]
    exact q
theorem at_cell {r : List Nat} {s : Nat} (h : s < r.length) : atI (r.map fun n => D.int (n : Nat)) (s : Nat) = some (.int (cellR r s : Nat)) := by
  unfold atI ixN cellR
  rw [if_pos (by omega), if_pos (by rw [List.length_map]; omega)]
  simp [h]
theorem ints_row (r : List Nat) : intsOf (r.map fun n => D.int (n : Nat)) = some (r.map fun (n : Nat) => (n : Int)) := by
  induction r with
  | nil => rfl
  | cons x r ih => rw [List.map_cons, intsOf, ih]; rfl
theorem mem_cast (s : Nat) (r : List Nat) : (s : Int) ∈ (r.map fun (n : Nat) => (n : Int)) ↔ s ∈ r := by
  rw [List.mem_map]
  refine ⟨fun ⟨a, h1, h2⟩ => ?_, fun h => ⟨s, h, rfl⟩⟩
  have : a = s := by omega
  exact this ▸ h1
theorem m_law_parts : Sem0 2 2 (sp_law_parts C) (x_law_parts K C) := by
  rintro hl ds Ψ Ξ - ⟨h, r, s, hs, rfl, q⟩
  cases none_of h
  refine ⟨.int (cellR r s : Nat), at_cell hs, ?_⟩
  refine eq_ints (a := (cellR r s : Nat)) (b := (s : Nat)) (Φ := fun z => match z with | .bl b => if b = true then wOp (wInI false) (wVar 1) (wVar 0) [.val (rowD r), .val (.int (s : Nat))] (dEnds none Ψ Ξ).xc (fun z ρ => Ψ z none) else Ψ (.bl false) none | _ => False) ?_
  unfold partsB at q
  have e1 : decide (cellR r s ≠ s) = !decide ((cellR r s : Int) = (s : Int)) := by rw [← decide_not]; exact decide_eq_decide.mpr (by omega)
  rw [e1] at q
  show if (!decide ((cellR r s : Int) = (s : Int))) = true then _ else _
  cases hb : !decide ((cellR r s : Int) = (s : Int)) with
  | false => rw [hb] at q; exact q
  | true =>
    rw [hb] at q
    refine ⟨_, ints_row r, ?_⟩
    have e2 : decide ((s : Int) ∈ r.map fun (n : Nat) => (n : Int)) = decide (s ∈ r) := decide_eq_decide.mpr (mem_cast s r)
    show Ψ (.bl (decide ((s : Int) ∈ r.map fun (n : Nat) => (n : Int)))) none
    rw [e2]; exact q
end
end K25
set_option Elab.async false
set_option autoImplicit false
set_option linter.all false
set_option maxRecDepth 100000
set_option maxHeartbeats 3900000
namespace K25
open DL L2 PyProof.Rows PySem PySem.Spec
/-! bits -/
theorem bor_nat (a b : Nat) : Builtin.bitOr (a : Int) (b : Int) = ((a ||| b : Nat) : Int) := by
  rw [bitOr_nn (by omega) (by omega), Int.toNat_natCast, Int.toNat_natCast]
theorem band_nat (a b : Nat) : Builtin.bitAnd (a : Int) (b : Int) = ((a &&& b : Nat) : Int) := by
  unfold Builtin.bitAnd
  rw [decide_eq_true (by omega), decide_eq_true (by omega)]
  show ((Int.toNat (a : Int) &&& Int.toNat (b : Int) : Nat) : Int) = _
  rw [Int.toNat_natCast, Int.toNat_natCast]
theorem odd_part : ∀ n : Nat, n ≠ 0 → ∃ k q, n = 2 ^ k * (2 * q + 1) := by
  intro n
  induction n using Nat.strongRecOn with
  | ind n ih =>
    intro h
    by_cases e : n % 2 = 1
    · exact ⟨0, n / 2, by rw [Nat.pow_zero]; omega⟩
    · obtain ⟨k, q, hk⟩ := ih (n / 2) (by omega) (by omega)
      refine ⟨k + 1, q, ?_⟩
      have : n = 2 * (n / 2) := by omega
      rw [this, hk, Nat.pow_succ]
      simp [Nat.mul_comm, Nat.mul_left_comm]
theorem low_bit (n : Nat) (h : n ≠ 0) : ∃ k, n.testBit k = true ∧ (n &&& (n - 1)) + 2 ^ k = n ∧ (∀ j, (n &&& (n - 1)).testBit j = (n.testBit j && decide (j ≠ k))) ∧ ∀ j, j < k → n.testBit j = false := by
  obtain ⟨k, q, e⟩ := odd_part n h
  have hp : 0 < 2 ^ k := Nat.two_pow_pos k
  have e0 : n = 2 ^ k * (2 * q + 1) + 0 := e
  have e1 : n - 1 = 2 ^ k * (2 * q) + (2 ^ k - 1) := by rw [e, Nat.mul_add]; omega
  have b0 : ∀ j, n.testBit j = if j < k then false else (2 * q + 1).testBit (j - k) := fun j => by
    rw [e0, Nat.testBit_two_pow_mul_add _ hp]; simp
  have b1 : ∀ j, (n - 1).testBit j = if j < k then (2 ^ k - 1).testBit j else (2 * q).testBit (j - k) := fun j => by
    rw [e1, Nat.testBit_two_pow_mul_add _ (by omega)]
  have c0 : (2 * q + 1).testBit 0 = true := by simp [Nat.testBit_zero]
  have d0 : (2 * q).testBit 0 = false := by simp [Nat.testBit_zero]
  have c1 : ∀ i, (2 * q + 1).testBit (i + 1) = q.testBit i := fun i => by rw [Nat.testBit_succ]; congr 1; omega
  have d1 : ∀ i, (2 * q).testBit (i + 1) = q.testBit i := fun i => by rw [Nat.testBit_succ]; congr 1; omega
  have bits : ∀ j, (n &&& (n - 1)).testBit j = (n.testBit j && decide (j ≠ k)) := fun j => by
    rw [Nat.testBit_and, b0, b1]
    by_cases h1 : j < k
    · rw [if_pos h1]; simp
    · rw [if_neg h1, if_neg h1]
      by_cases h2 : j = k
      · subst h2; simp [d0]
      · obtain ⟨i, hi⟩ : ∃ i, j - k = i + 1 := ⟨j - k - 1, by omega⟩
        rw [hi, c1, d1]; simp [h2]
  refine ⟨k, ?_, ?_, bits, fun j hj => by rw [b0, if_pos hj]⟩
  · rw [b0, if_neg (by omega), Nat.sub_self]; exact c0
  · have z : n &&& (n - 1) = 2 ^ k * (2 * q) := Nat.eq_of_testBit_eq fun j => by
      rw [bits, b0]
      have t : (2 ^ k * (2 * q) + 0).testBit j = if j < k then false else (2 * q).testBit (j - k) := by rw [Nat.testBit_two_pow_mul_add _ hp]; simp
      rw [Nat.add_zero] at t
      rw [t]
      by_cases h1 : j < k
      · rw [if_pos h1, if_pos h1]; rfl
      · rw [if_neg h1, if_neg h1]
        by_cases h2 : j = k
        · subst h2; simp [d0]
        · obtain ⟨i, hi⟩ : ∃ i, j - k = i + 1 := ⟨j - k - 1, by omega⟩
          rw [hi, c1, d1]; simp [h2]
    rw [z, e, Nat.mul_add, Nat.mul_one]
theorem bxor_low {n r k : Nat} (h : r + 2 ^ k = n) (hb : ∀ j, r.testBit j = (n.testBit j && decide (j ≠ k))) : (Builtin.Int.intBits (Builtin.bitXor (n : Int) (r : Int)) : Int) - 1 = (k : Nat) := by
  have h1 : n ||| r = n := Nat.eq_of_testBit_eq fun j => by rw [Nat.testBit_or, hb]; cases n.testBit j <;> simp
  have h2 : n &&& r = r := Nat.eq_of_testBit_eq fun j => by rw [Nat.testBit_and, hb]; cases n.testBit j <;> simp
  have e : Builtin.bitXor (n : Int) (r : Int) = ((2 ^ k : Nat) : Int) := by
    unfold Builtin.bitXor
    rw [bor_nat, band_nat, h1, h2]
    omega
  rw [e]
  unfold Builtin.Int.intBits
  have hp : 0 < 2 ^ k := Nat.two_pow_pos k
  have hne : (((2 ^ k : Nat) : Int) == 0) = false := by rw [beq_eq_false_iff_ne]; omega
  rw [hne, if_neg Bool.false_ne_true, Int.natAbs_natCast, Nat.log2_two_pow]
  omega
section
variable {K : Fg} {C : Cs}
theorem nums_cons (n : Nat) (ns : List Nat) : numsD (n :: ns) = .int (n : Nat) :: numsD ns := rfl
theorem m_lot_of : Sem0 1 3 (sp_lot_of C) (x_lot_of K C) := by
  rintro hl ds Ψ Ξ - ⟨h, ps, rfl, hp, q⟩
  cases none_of h
  show wForL (wgName 2) (wAug Builtin.bitOr 1 (wOp wShl (wC (.int 1)) (wVar 2))) (numsD ps) [.val (.lst (numsD ps)), .val (.int ((0 : Nat) : Int)), .un] _
  refine for_inv (fun ds ρ => ∃ (done rest : List Nat) (n : Nat) (s : Sl), ds = numsD rest ∧ done ++ rest = ps ∧ n < 2 ^ 200 ∧ (∀ q, n.testBit q = true ↔ q ∈ done) ∧ ρ = [.val (.lst (numsD ps)), .val (.int (n : Nat)), s]) (fun d ds ρ N h hN => ?_) (fun ρ h => ?_) _ _ ⟨[], ps, 0, .un, rfl, rfl, Nat.two_pow_pos 200, by simp, rfl⟩
  · obtain ⟨dn, rest, n, s, h1, h2, h3, h4, rfl⟩ := h
    cases rest with
    | nil => cases h1
    | cons p rest =>
      rw [nums_cons] at h1
      injection h1 with h5 h6
      subst h5 h6
      have hp' : p < 200 := hp p (by rw [← h2]; simp)
      refine ⟨(n : Nat), rfl, ⟨by omega, ?_⟩, ?_⟩
      · show (1 : Int) + (p : Nat) ≤ 134217728
        omega
      · refine hN _ ⟨dn ++ [p], rest, n ||| 2 ^ p, .val (.int (p : Nat)), rfl, by simp [h2], Nat.or_lt_two_pow h3 (Nat.pow_lt_pow_right (by omega) hp'), fun q => ?_, ?_⟩
        · rw [Nat.testBit_or, Nat.testBit_two_pow, Bool.or_eq_true, decide_eq_true_eq, h4, List.mem_append, List.mem_singleton]
          exact ⟨fun z => z.imp id Eq.symm, fun z => z.imp id Eq.symm⟩
        · have e : (1 : Int) * 2 ^ (Int.toNat (p : Nat)) = ((2 ^ p : Nat) : Int) := by rw [Int.toNat_natCast]; simp
          show [Sl.val _, Sl.val (D.int (Builtin.bitOr (n : Nat) ((1 : Int) * 2 ^ (Int.toNat (p : Nat))))), Sl.val _] = _
          rw [e, bor_nat]
  · obtain ⟨dn, rest, n, s, h1, h2, h3, h4, rfl⟩ := h
    cases rest with
    | cons p rest => cases h1
    | nil =>
      rw [List.append_nil] at h2
      subst h2
      exact q n ⟨h3, h4⟩
theorem m_members : Sem0 1 3 (sp_members C) (x_members K C) := by
  rintro hl ds Ψ Ξ - ⟨h, n, rfl, hn, q⟩
  cases none_of h
  refine ⟨by show 0 ≤ sizeLine; omega, fun l => ?_⟩
  refine ⟨fun m ρ => ∃ (acc : List Nat) (s : Sl), ρ = [.val (.int (m : Nat)), .own l (.l (numsD acc)), s] ∧ m < 2 ^ 200 ∧ acc.length ≤ 200 ∧ (∀ j, j < acc.length → m.testBit j = false) ∧ (∀ p, n.testBit p = true ↔ p ∈ acc ∨ m.testBit p = true) ∧ acc.Pairwise (· < ·) ∧ ∀ a ∈ acc, ∀ j, m.testBit j = true → a < j, ⟨n, [], .un, rfl, hn, by simp, by simp, by simp, .nil, (fun _ z => nomatch z)⟩, ?_⟩
  rintro m ρ ⟨acc, s, rfl, h1, h2, h3, h4, h5, h6⟩
  refine te_ne (ev_var (i := 0) (d := .int (m : Nat)) rfl) (ev_c (d := .int 0)) _ _ ?_
  by_cases hm : m = 0
  · rw [hm]
    show Ψ (.lst (numsD acc)) none
    refine q acc h2 (fun p => ?_) h5
    rw [h4 p, hm, Nat.zero_testBit]
    simp
  · show if (!decide ((m : Int) = 0)) = true then _ else _
    rw [decide_eq_false (by omega)]
    obtain ⟨k, k1, k2, k3, k4⟩ := low_bit m hm
    have hk : acc.length ≤ k := Nat.le_of_not_lt fun z => by rw [h3 k z] at k1; cases k1
    have hk2 : k < 200 := Nat.lt_of_not_le fun z => by
      have := Nat.ge_two_pow_of_testBit k1
      have := Nat.pow_le_pow_right (n := 2) (by omega) z
      omega
    have e1 : ((m : Nat) : Int) - 1 = ((m - 1 : Nat) : Int) := by omega
    have hb := bxor_low k2 k3
    have hp : 0 < 2 ^ k := Nat.two_pow_pos k
    have key : ∀ r : Int, r = ((m &&& (m - 1) : Nat) : Int) → wSeq (wApp 1 (wOp wSub (wBits (wOp wBXor (wVar 0) (wVar 2))) (wC (.int 1)))) (wAsg 0 (wVar 2)) [.val (.int (m : Nat)), .own l (.l (numsD acc)), .val (.int r)]
        { dEnds none Ψ Ξ with nx := fun ρ' => ∃ m', m' < m ∧ ∃ (acc : List Nat) (s : Sl), ρ' = [.val (.int (m' : Nat)), .own l (.l (numsD acc)), s] ∧ m' < 2 ^ 200 ∧ acc.length ≤ 200 ∧ (∀ j, j < acc.length → m'.testBit j = false) ∧ (∀ p, n.testBit p = true ↔ p ∈ acc ∨ m'.testBit p = true) ∧ acc.Pairwise (· < ·) ∧ ∀ a ∈ acc, ∀ j, m'.testBit j = true → a < j,
                              ct := fun ρ' => ∃ m', m' < m ∧ ∃ (acc : List Nat) (s : Sl), ρ' = [.val (.int (m' : Nat)), .own l (.l (numsD acc)), s] ∧ m' < 2 ^ 200 ∧ acc.length ≤ 200 ∧ (∀ j, j < acc.length → m'.testBit j = false) ∧ (∀ p, n.testBit p = true ↔ p ∈ acc ∨ m'.testBit p = true) ∧ acc.Pairwise (· < ·) ∧ ∀ a ∈ acc, ∀ j, m'.testBit j = true → a < j,
                              bk := fun ρ => wRet (wVar 1) ρ (dEnds none Ψ Ξ) } := by
      rintro r rfl
      refine ⟨⟨l, _, rfl⟩, ⟨?_, ?_⟩⟩
      · show (numsD acc).length < sizeLine
        unfold numsD; rw [List.length_map]; have := big; omega
      · have e2 : numsD acc ++ [D.int ((Builtin.Int.intBits (Builtin.bitXor ((m : Nat) : Int) ((m &&& (m - 1) : Nat) : Int)) : Int) - 1)] = numsD (acc ++ [k]) := by rw [hb]; unfold numsD; simp
        refine ⟨m &&& (m - 1), by omega, acc ++ [k], .val (.int ((m &&& (m - 1) : Nat) : Int)), ?_, by omega, by simp; omega, fun j hj => ?_, fun p => ?_, ?_, fun a ha j hj => ?_⟩
        · show [Sl.val _, Sl.own l (.l (numsD acc ++ [D.int ((Builtin.Int.intBits (Builtin.bitXor ((m : Nat) : Int) ((m &&& (m - 1) : Nat) : Int)) : Int) - 1)])), Sl.val _] = _
          rw [e2]
        · rw [k3]
          by_cases hj2 : j = k
          · simp [hj2]
          · simp only [List.length_append, List.length_cons, List.length_nil] at hj
            have : m.testBit j = false := by
              by_cases hj3 : j < k
              · exact k4 j hj3
              · omega
            rw [this]; rfl
        · rw [h4 p, k3, List.mem_append, List.mem_singleton, Bool.and_eq_true, decide_eq_true_eq]
          constructor
          · rintro (z | z)
            · exact .inl (.inl z)
            · by_cases e : p = k
              · exact .inl (.inr e)
              · exact .inr ⟨z, e⟩
          · rintro ((z | z) | z)
            · exact .inl z
            · exact .inr (z ▸ k1)
            · exact .inr z.1
        · refine List.pairwise_append.mpr ⟨h5, List.pairwise_singleton _ _, fun a ha b hb => ?_⟩
          rw [List.mem_singleton.mp hb]
          exact h6 a ha k k1
        · rw [k3, Bool.and_eq_true, decide_eq_true_eq] at hj
          rcases List.mem_append.mp ha with z | z
          · exact h6 a z j hj.1
          · rw [List.mem_singleton.mp z]
            refine Nat.lt_of_le_of_ne (Nat.le_of_not_lt fun w => ?_) fun e => hj.2 e.symm
            rw [k4 j w] at hj
            exact Bool.false_ne_true hj.1
    exact key _ (by show Builtin.bitAnd ((m : Nat) : Int) (((m : Nat) : Int) - 1) = _; rw [e1, band_nat])
end
end K25
set_option Elab.async false
set_option autoImplicit false
set_option linter.all false
set_option maxRecDepth 100000
set_option maxHeartbeats 3900000
namespace K25
open DL L2 PyProof.Rows PySem PySem.Spec
section
variable {K : Fg} {C : Cs}
theorem at_nums {ns : List Nat} {p n : Nat} (h : ns[p]? = some n) : atI (numsD ns) (p : Nat) = some (.int (n : Nat)) := by
  obtain ⟨h1, h2⟩ := List.getElem?_eq_some_iff.mp h
  unfold atI ixN numsD
  rw [if_pos (by omega), if_pos (by rw [List.length_map]; omega)]
  simp [h1, h2]
theorem m_led_lot : Sem0 2 4 (sp_led_lot C) (x_led_lot K C) := by
  rintro hl ds Ψ Ξ - ⟨h, ns, lot, rfl, hl1, hl2, hlot, hlt, q⟩
  cases none_of h
  refine ⟨rfl, rfl, rfl, lot, rfl, hlot, fun bs hb1 hb2 _ => ?_⟩
  show wForL (wgName 3) (wAug Builtin.bitOr 2 (wOp wIx (wVar 0) (wVar 3))) (numsD bs) [.val (.lst (numsD ns)), .val (.int (lot : Nat)), .val (.int ((0 : Nat) : Int)), .un] _
  refine for_inv (fun ds ρ => ∃ (done rest : List Nat) (n : Nat) (s : Sl), ds = numsD rest ∧ done ++ rest = bs ∧ n < 2 ^ 200 ∧ (∀ q, n.testBit q = true ↔ ∃ p m, p ∈ done ∧ ns[p]? = some m ∧ m.testBit q = true) ∧ ρ = [.val (.lst (numsD ns)), .val (.int (lot : Nat)), .val (.int (n : Nat)), s]) (fun d ds ρ N h hN => ?_) (fun ρ h => ?_) _ _ ⟨[], bs, 0, .un, rfl, rfl, Nat.two_pow_pos 200, by simp, rfl⟩
  · obtain ⟨dn, rest, n, s, h1, h2, h3, h4, rfl⟩ := h
    cases rest with
    | nil => cases h1
    | cons p rest =>
      rw [nums_cons] at h1
      injection h1 with h5 h6
      subst h5 h6
      have hp' : lot.testBit p = true := (hb2 p).mp (by rw [← h2]; simp)
      have hp2 := hlt p hp'
      have hget : ns[p]? = some ns[p] := List.getElem?_eq_getElem hp2
      refine ⟨(n : Nat), rfl, .int (ns[p] : Nat), at_nums hget, ?_⟩
      refine hN _ ⟨dn ++ [p], rest, n ||| ns[p], .val (.int (p : Nat)), rfl, by simp [h2], Nat.or_lt_two_pow h3 (hl2 _ (List.getElem_mem hp2)), fun q => ?_, ?_⟩
      · rw [Nat.testBit_or, Bool.or_eq_true, h4]
        constructor
        · rintro (⟨p', m, a, b, c⟩ | z)
          · exact ⟨p', m, List.mem_append_left _ a, b, c⟩
          · exact ⟨p, _, List.mem_append_right _ (List.mem_singleton.mpr rfl), hget, z⟩
        · rintro ⟨p', m, a, b, c⟩
          rcases List.mem_append.mp a with a | a
          · exact .inl ⟨p', m, a, b, c⟩
          · cases List.mem_singleton.mp a
            rw [hget] at b
            cases b
            exact .inr c
      · show [Sl.val _, Sl.val _, Sl.val (D.int (Builtin.bitOr (n : Nat) (ns[p] : Nat))), Sl.val _] = _
        rw [bor_nat]
  · obtain ⟨dn, rest, n, s, h1, h2, h3, h4, rfl⟩ := h
    cases rest with
    | cons p rest => cases h1
    | nil =>
      rw [List.append_nil] at h2
      subst h2
      exact q n ⟨h3, fun q => (h4 q).trans ⟨fun ⟨p, m, a, b, c⟩ => ⟨p, m, (hb2 p).mp a, b, c⟩, fun ⟨p, m, a, b, c⟩ => ⟨p, m, (hb2 p).mpr a, b, c⟩⟩⟩
/-- a comprehension without a test, item by item -/
theorem lc_nda {α : Type} {g : WG} {we : WE} {vs : List Nat} {Φ : List D → Rho → Prop} (ρ0 : Rho) (e : α → D) (P : α → D → Prop) (xs0 : List α) (hl : xs0.length ≤ sizeLine)
    (step : ∀ x ∈ xs0, ∀ (N : D → Rho → Prop), (∀ y, P x y → N y ρ0) → g (e x) ρ0 fun ρ1 => we ρ1 χ0 fun y ρ3 => N y (wipeR ρ3 vs))
    (done : ∀ ys, Paired P xs0 ys → Φ ys ρ0) : wLcL g wTrue we vs (xs0.map e) [] ρ0 Φ := by
  have main : ∀ (xs : List α) (acc : List D), (∀ x ∈ xs, x ∈ xs0) → acc.length + xs.length ≤ sizeLine → (∀ ys, Paired P xs ys → Φ (acc ++ ys) ρ0) → wLcL g wTrue we vs (xs.map e) acc ρ0 Φ := by
    intro xs
    induction xs with
    | nil => intro acc _ _ q; have := q [] .nil; rwa [List.append_nil] at this
    | cons x xs ih =>
      intro acc hm hz q
      have hz' : acc.length < sizeLine := by simp only [List.length_cons] at hz; omega
      exact step x (hm x List.mem_cons_self) (fun y ρ' => acc.length < sizeLine ∧ wLcL g wTrue we vs (xs.map e) (acc ++ [y]) ρ' Φ) fun y hy =>
        ⟨hz', ih (acc ++ [y]) (fun z hz => hm z (List.mem_cons_of_mem _ hz)) (by simp only [List.length_append, List.length_cons, List.length_nil] at hz ⊢; omega) fun ys h => by
          have := q (y :: ys) (.cons hy h); rwa [List.append_assoc]⟩
  exact main xs0 [] (fun _ h => h) (by simpa using hl) fun ys h => done ys h
theorem fm_all {α : Type} (f : α → D) : ∀ xs : List α, xs.filterMap (fun x => some (f x)) = xs.map f
  | [] => rfl
  | x :: xs => by rw [List.filterMap_cons_some (f := fun x => some (f x)) (b := f x) rfl, fm_all f xs]; rfl
theorem m_next_lots : Sem0 1 4 (sp_next_lots C) (x_next_lots K C) := by
  rintro hl ds Ψ Ξ - ⟨h, rows, rfl, hr, hp, q⟩
  cases none_of h
  show wLcL (wgName 1) wTrue _ [1] (rows.map rowPD) [] [.val (.lst (rows.map rowPD)), .un, .un, .un] _
  refine lc_nda _ rowPD (fun r y => ∃ n : Nat, y = .int (n : Nat) ∧ LotIs n fun q => q ∈ r.map (·.2)) rows (by have := big; omega) (fun r hr' N hN => ?_) fun ys hys => ?_
  · obtain ⟨h1, h2⟩ := hp r hr'
    show wLcL _ wTrue _ [2, 3] (r.map fun p => D.tup [.int (p.1 : Nat), .int (p.2 : Nat)]) [] [.val (.lst (rows.map rowPD)), .val (rowPD r), .un, .un] _
    refine lc_mfc _ _ (fun p => some (D.int (p.2 : Nat))) r (by have := big; omega) (fun p hp N' hN' => ?_) ?_
    · exact ⟨rfl, rfl, hN'⟩
    · rw [fm_all]
      refine ⟨rfl, rfl, rfl, r.map (·.2), ?_, ?_, fun n hn => hN _ ⟨n, rfl, hn⟩⟩
      · show [D.lst (r.map fun p => D.int (p.2 : Nat))] = _
        unfold numsD; rw [List.map_map]; rfl
      · intro p hp
        obtain ⟨x, hx, rfl⟩ := List.mem_map.mp hp
        exact h2 x hx
  · have : ∃ ns : List Nat, ys = numsD ns ∧ Paired (fun (r : List (Nat × Nat)) n => LotIs n fun q => q ∈ r.map (·.2)) rows ns := by
      clear q hp hr
      induction hys with
      | nil => exact ⟨[], rfl, .nil⟩
      | cons h t ih =>
        obtain ⟨n, rfl, hn⟩ := h
        obtain ⟨ns, rfl, h2⟩ := ih
        exact ⟨n :: ns, rfl, .cons hn h2⟩
    obtain ⟨ns, rfl, h⟩ := this
    exact q ns h
end
end K25
set_option Elab.async false
set_option autoImplicit false
set_option linter.all false
set_option maxRecDepth 100000
set_option maxHeartbeats 3900000
namespace K25
open DL L2 PyProof.Rows PySem PySem.Spec
section
variable {K : Fg} {C : Cs}
abbrev ps_b : Cs → WS := fun C => wSeq (wAsg 5 (wLc (wiSeq (wFld C.Machine "tables" (wVar 0))) (wgName 6) wTrue (wTup (wCons (wOp wIx (wVar 6) (wVar 3)) (wCons (wOp wIx (wVar 6) (wVar 4)) wNil))) [6])) (wApp 2 (wLc (wiEnum (wCons (wVar 5) wNil)) (wgSeq 2 (wgCons (wgName 7) (wgCons (wgName 8) wgNil))) (wB (wOp (wEq true) (wOp wIx (wVar 8) (wC (.int 0))) (wOp wIx (wVar 8) (wC (.int 1))))) (wTup (wCons (wVar 7) (wCons (wOp wAdd (wOp wMul (wOp wIx (wVar 8) (wC (.int 0))) (wVar 1)) (wOp wIx (wVar 8) (wC (.int 1)))) wNil))) [7, 8]))
theorem ev_ix2 {ρ : Rho} {i : Nat} {a b : D} (h : ρ[i]? = some (.val (.tup [a, b]))) : Ev (wOp wIx (wVar i) (wC (.int 0))) ρ a ρ ∧ Ev (wOp wIx (wVar i) (wC (.int 1))) ρ b ρ := by
  have h0 : atI [a, b] 0 = some a := by simp [atI, ixN]
  have h1 : atI [a, b] 1 = some b := by simp [atI, ixN]
  exact ⟨fun χ Φ q => ev_var h χ _ (show wIx (.tup [a, b]) (.int 0) fun z => Φ z ρ from ⟨a, h0, q⟩), fun χ Φ q => ev_var h χ _ (show wIx (.tup [a, b]) (.int 1) fun z => Φ z ρ from ⟨b, h1, q⟩)⟩
theorem en_pairs (ps : List (Nat × Nat)) : enD (ps.map fun p => D.tup [.int (p.1 : Nat), .int (p.2 : Nat)]) = ps.zipIdx.map fun p => D.tup [.int (p.2 : Nat), .tup [.int (p.1.1 : Nat), .int (p.1.2 : Nat)]] := by
  unfold enD
  rw [List.zipIdx_map, List.map_map]
  rfl
theorem fm_rows (m : Nat) : ∀ xs : List ((Nat × Nat) × Nat), xs.filterMap (fun p => if p.1.1 = p.1.2 then none else some (D.tup [.int (p.2 : Nat), .int ((p.1.1 * m + p.1.2 : Nat) : Nat)])) =
    ((xs.filter fun p => decide (p.1.1 ≠ p.1.2)).map fun p => (p.2, p.1.1 * m + p.1.2)).map fun p => D.tup [.int (p.1 : Nat), .int (p.2 : Nat)]
  | [] => rfl
  | p :: xs => by
    by_cases e : p.1.1 = p.1.2
    · rw [List.filterMap_cons_none (by rw [if_pos e]), List.filter_cons_of_neg (by simp [e]), fm_rows m xs]
    · rw [List.filterMap_cons_some (by rw [if_neg e]), List.filter_cons_of_pos (by simp [e]), fm_rows m xs]
      rfl
theorem at2d2 (a b : D) : atI [a, b] 0 = some a ∧ atI [a, b] 1 = some b := by simp [atI, ixN]
theorem ps_body {t : Tbl} (g : Good t) {a b : Nat} (ha : a < wd t) (hb : b < wd t) {l : Addr} {acc : List D} {s5 : Sl} {Δ : DE} (hz : acc.length < sizeLine)
    (q : ∀ s, Δ.nx [.val (mach C t), .val (.int (wd t : Nat)), .own l (.l (acc ++ [rowPD (rowP t a b)])), .val (.int (a : Nat)), .val (.int (b : Nat)), s, .un, .un, .un]) :
    ps_b C [.val (mach C t), .val (.int (wd t : Nat)), .own l (.l acc), .val (.int (a : Nat)), .val (.int (b : Nat)), s5, .un, .un, .un] Δ := by
  have h8 := g.le
  have hlen : ∀ r ∈ t, r.length = wd t := fun r hr => (g.row r hr).2.2.1
  refine ⟨rfl, .tup (t.map rowD), look_tb C t, ?_⟩
  show wLcL _ wTrue _ [6] (t.map rowD) [] [.val (mach C t), .val (.int (wd t : Nat)), .own l (.l acc), .val (.int (a : Nat)), .val (.int (b : Nat)), s5, .un, .un, .un] _
  refine lc_mfc _ rowD (fun r => some (.tup [.int (cellR r a : Nat), .int (cellR r b : Nat)])) t (by have := big; omega) (fun r hr N hN => ?_) ?_
  · refine ⟨.int (cellR r a : Nat), at_cell (by rw [hlen r hr]; exact ha), .int (cellR r b : Nat), at_cell (by rw [hlen r hr]; exact hb), ?_⟩
    exact ⟨by show 2 ≤ sizeLine; decide, hN⟩
  · rw [fm_all]
    refine ⟨⟨l, _, rfl⟩, ?_⟩
    have e0 : (t.map fun r => D.tup [.int (cellR r a : Nat), .int (cellR r b : Nat)]) = (t.map fun r => (cellR r a, cellR r b)).map fun p => D.tup [.int (p.1 : Nat), .int (p.2 : Nat)] := by rw [List.map_map]; rfl
    rw [e0]
    generalize hps : (t.map fun r => (cellR r a, cellR r b)) = ps
    have hpl : ps.length ≤ 8 := by rw [← hps, List.length_map]; exact h8
    have hrow : rowPD (rowP t a b) = .lst (((ps.zipIdx.filter fun p => decide (p.1.1 ≠ p.1.2)).map fun p => (p.2, p.1.1 * wd t + p.1.2)).map fun p => D.tup [.int (p.1 : Nat), .int (p.2 : Nat)]) := by
      unfold rowPD rowP; rw [hps]
    show wLcL _ _ _ [7, 8] (enD (ps.map fun p => D.tup [.int (p.1 : Nat), .int (p.2 : Nat)])) [] [.val (mach C t), .val (.int (wd t : Nat)), .own l (.l acc), .val (.int (a : Nat)), .val (.int (b : Nat)), .val (.lst (ps.map fun p => D.tup [.int (p.1 : Nat), .int (p.2 : Nat)])), .un, .un, .un] _
    rw [en_pairs]
    refine lc_mfc _ _ (fun p => if p.1.1 = p.1.2 then none else some (D.tup [.int (p.2 : Nat), .int ((p.1.1 * wd t + p.1.2 : Nat) : Nat)])) _ (by rw [List.length_zipIdx]; have := big; omega) (fun p hp N hN => ?_) ?_
    · refine ⟨rfl, rfl, ?_⟩
      have hev := ev_ix2 (ρ := [.val (mach C t), .val (.int (wd t : Nat)), .own l (.l acc), .val (.int (a : Nat)), .val (.int (b : Nat)), .val (.lst (ps.map fun p => D.tup [.int (p.1 : Nat), .int (p.2 : Nat)])), .un, .val (.int (p.2 : Nat)), .val (.tup [.int (p.1.1 : Nat), .int (p.1.2 : Nat)])]) (i := 8) (a := .int (p.1.1 : Nat)) (b := .int (p.1.2 : Nat)) rfl
      refine te_ne hev.1 hev.2 χ0 _ ?_
      show if (!decide ((p.1.1 : Int) = (p.1.2 : Nat))) = true then _ else _
      by_cases e : p.1.1 = p.1.2
      · rw [if_pos e] at hN
        rw [decide_eq_true (by omega)]
        exact hN
      · rw [if_neg e] at hN
        rw [decide_eq_false (by omega)]
        have hw := g.head
        have e2 : ((p.1.1 * wd t + p.1.2 : Nat) : Int) = (p.1.1 : Int) * (wd t : Nat) + (p.1.2 : Nat) := by simp
        rw [e2] at hN
        refine ⟨.int (p.1.1 : Nat), (at2d2 _ _).1, .inr ⟨by omega, by omega⟩, .int (p.1.2 : Nat), (at2d2 _ _).2, ?_⟩
        exact ⟨by show 2 ≤ sizeLine; decide, hN⟩
    · rw [fm_rows]
      have q' := q
      rw [hrow] at q'
      exact ⟨hz, q' _⟩
end
end K25
set_option Elab.async false
set_option autoImplicit false
set_option linter.all false
set_option maxRecDepth 100000
set_option maxHeartbeats 3900000
namespace K25
open DL L2 PyProof.Rows PySem PySem.Spec
section
variable {K : Fg} {C : Cs}
theorem nums_nil_of {ns : List Nat} (h : [] = numsD ns) : ns = [] := by cases ns with | nil => rfl | cons a b => cases h
theorem nums_cons_of {d : D} {ds : List D} {ns : List Nat} (h : d :: ds = numsD ns) : ∃ n r, ns = n :: r ∧ d = .int (n : Nat) ∧ ds = numsD r := by
  cases ns with
  | nil => cases h
  | cons a b => rw [nums_cons] at h; injection h with h1 h2; exact ⟨a, b, rfl, h1, h2⟩
theorem rg_range (m : Nat) : rgD 0 (Int.toNat (m : Nat)) = numsD (List.range m) := by rw [Int.toNat_natCast]; exact rg_nums m
theorem m_pair_steps : Sem0 1 9 (sp_pair_steps C) (x_pair_steps K C) := by
  rintro hl ds Ψ Ξ - ⟨h, t, g, rfl, q⟩
  cases none_of h
  have hw := g.head
  refine ⟨rfl, .int (wd t : Nat), look_st C t, (by show 0 ≤ sizeLine; omega), fun l => ?_⟩
  refine ⟨⟨by omega, by omega⟩, ?_⟩
  show wForL (wgName 3) (wFor (wiRg1 (wCons (wVar 1) wNil)) (wgName 4) (ps_b C)) (rgD 0 (Int.toNat (wd t : Nat))) [.val (mach C t), .val (.int (wd t : Nat)), .own l (.l []), .un, .un, .un, .un, .un, .un] _
  rw [rg_range]
  let rowsOf : Nat → List D := fun a => (List.range (wd t)).map fun b => rowPD (rowP t a b)
  refine for_inv (fun ds ρ => ∃ (dn rest : List Nat) (s3 s4 s5 : Sl), ds = numsD rest ∧ dn ++ rest = List.range (wd t) ∧ ρ = [.val (mach C t), .val (.int (wd t : Nat)), .own l (.l (dn.flatMap rowsOf)), s3, s4, s5, .un, .un, .un]) (fun d ds ρ N h hN => ?_) (fun ρ h => ?_) _ _ ⟨[], _, .un, .un, .un, rfl, rfl, rfl⟩
  · obtain ⟨dn, rest, s3, s4, s5, h1, h2, rfl⟩ := h
    obtain ⟨a, rest, rfl, rfl, rfl⟩ := nums_cons_of h1
    have ham : a ∈ List.range (wd t) := by rw [← h2]; simp
    have ha := List.mem_range.mp ham
    have hdl : dn.length < wd t := by
      have := congrArg List.length h2
      rw [List.length_append, List.length_range, List.length_cons] at this; omega
    refine ⟨⟨by omega, by omega⟩, ?_⟩
    show wForL (wgName 4) (ps_b C) (rgD 0 (Int.toNat (wd t : Nat))) [.val (mach C t), .val (.int (wd t : Nat)), .own l (.l (dn.flatMap rowsOf)), .val (.int (a : Nat)), s4, s5, .un, .un, .un] _
    rw [rg_range]
    refine for_inv (fun ds ρ => ∃ (dn2 rest2 : List Nat) (s4 s5 : Sl), ds = numsD rest2 ∧ dn2 ++ rest2 = List.range (wd t) ∧ ρ = [.val (mach C t), .val (.int (wd t : Nat)), .own l (.l (dn.flatMap rowsOf ++ dn2.map fun b => rowPD (rowP t a b))), .val (.int (a : Nat)), s4, s5, .un, .un, .un]) (fun d ds ρ N2 h hN2 => ?_) (fun ρ h => ?_) _ _ ⟨[], _, s4, s5, rfl, rfl, by rw [List.map_nil, List.append_nil]⟩
    · obtain ⟨dn2, rest2, s4, s5, h3, h4, rfl⟩ := h
      obtain ⟨b, rest2, rfl, rfl, rfl⟩ := nums_cons_of h3
      have hb := List.mem_range.mp (by rw [← h4]; simp : b ∈ List.range (wd t))
      have hdl2 : dn2.length < wd t := by
        have := congrArg List.length h4
        rw [List.length_append, List.length_range, List.length_cons] at this; omega
      have hfl : (dn.flatMap rowsOf).length = dn.length * wd t := by
        clear hdl h2 ham hN hN2 h4
        induction dn with
        | nil => simp
        | cons x dn ih => rw [List.flatMap_cons, List.length_append, ih, List.length_cons, Nat.succ_mul, Nat.add_comm]; simp [rowsOf]
      have hle : dn.length * wd t ≤ 12 * 12 := Nat.mul_le_mul (by omega) hw.2
      refine ps_body g ha hb (s5 := s5) ?_ fun s => ?_
      · rw [List.length_append, List.length_map, hfl]; have := big; omega
      · refine hN2 _ ⟨dn2 ++ [b], rest2, .val (.int (b : Nat)), s, rfl, by simp [h4], ?_⟩
        rw [List.map_append, ← List.append_assoc]
        rfl
    · obtain ⟨dn2, rest2, s4, s5, h3, h4, rfl⟩ := h
      cases nums_nil_of h3
      rw [List.append_nil] at h4
      subst h4
      refine hN _ ⟨dn ++ [a], rest, .val (.int (a : Nat)), s4, s5, rfl, by simp [h2], ?_⟩
      rw [List.flatMap_append]
      simp [rowsOf]
  · obtain ⟨dn, rest, s3, s4, s5, h1, h2, rfl⟩ := h
    cases nums_nil_of h1
    rw [List.append_nil] at h2
    subst h2
    have e : (psL t).map rowPD = (List.range (wd t)).flatMap rowsOf := by
      unfold psL
      rw [List.map_flatMap]
      simp [rowsOf, List.map_map, Function.comp_def]
    show Ψ (.lst ((List.range (wd t)).flatMap rowsOf)) none
    rw [← e]; exact q
end
end K25
set_option Elab.async false
set_option autoImplicit false
set_option linter.all false
set_option maxRecDepth 100000
set_option maxHeartbeats 3900000
namespace K25
open DL L2 PyProof.Rows PySem PySem.Spec
section
variable {t : Tbl}
theorem Good.step {t : Tbl} (g : Good t) {d s : Nat} (hd : d < t.length) (hs : s < wd t) : stepN t s d < wd t ∧ ∃ r, t[d]? = some r ∧ stepN t s d = cellR r s := by
  have hget : t[d]? = some t[d] := List.getElem?_eq_getElem hd
  obtain ⟨h1, h2, h3, h4⟩ := g.row _ (List.getElem_mem hd)
  have hl : (t[d]).length = wd t := h3
  have e : stepN t s d = cellR t[d] s := by unfold stepN cellR; rw [hget]; rfl
  refine ⟨?_, _, hget, e⟩
  rw [e]
  unfold cellR
  rw [List.getElem?_eq_getElem (by rw [hl]; exact hs)]
  have := h4 _ (List.getElem_mem (show s < (t[d]).length by rw [hl]; exact hs))
  exact Nat.lt_of_lt_of_eq this hl
theorem Good.led {t : Tbl} (g : Good t) : ∀ {ns : List Nat} {s : Nat}, (∀ n ∈ ns, n < t.length) → s < wd t → ledN t s ns < wd t
  | [], s, _, h => h
  | d :: ns, s, h, hs => g.led (ns := ns) (s := stepN t s d) (fun n hn => h n (List.mem_cons_of_mem _ hn)) (g.step (h d List.mem_cons_self) hs).1
theorem led_snoc (t : Tbl) (s d : Nat) (ns : List Nat) : ledN t s (ns ++ [d]) = stepN t (ledN t s ns) d := by unfold ledN; rw [List.foldl_append]; rfl
theorem mem_rowP (g : Good t) {a b q : Nat} (ha : a < wd t) (hb : b < wd t) : q ∈ (rowP t a b).map (·.2) ↔ ∃ d, d < t.length ∧ stepN t a d ≠ stepN t b d ∧ q = stepN t a d * wd t + stepN t b d := by
  unfold rowP
  rw [List.map_map, List.mem_map]
  constructor
  · rintro ⟨p, hp, rfl⟩
    obtain ⟨hp, hne⟩ := List.mem_filter.mp hp
    obtain ⟨⟨x, y⟩, d⟩ := p
    obtain ⟨-, hd, he⟩ := List.mem_zipIdx hp
    rw [List.length_map] at hd
    have hd' : d < t.length := by omega
    obtain ⟨-, r, hr, e1⟩ := g.step hd' ha
    obtain ⟨-, r', hr', e2⟩ := g.step hd' hb
    rw [hr] at hr'; cases hr'
    have hrd : t[d] = r := by rw [List.getElem?_eq_getElem hd'] at hr; exact Option.some.inj hr
    simp only [Nat.sub_zero, List.getElem_map, hrd, Prod.mk.injEq] at he
    refine ⟨d, hd', ?_, ?_⟩
    · rw [e1, e2, ← he.1, ← he.2]; exact of_decide_eq_true hne
    · rw [e1, e2, ← he.1, ← he.2]; rfl
  · rintro ⟨d, hd, hne, rfl⟩
    obtain ⟨-, r, hr, e1⟩ := g.step hd ha
    obtain ⟨-, r', hr', e2⟩ := g.step hd hb
    rw [hr] at hr'; cases hr'
    refine ⟨((cellR r a, cellR r b), d), List.mem_filter.mpr ⟨?_, decide_eq_true (by rw [e1, e2] at hne; exact hne)⟩, by rw [e1, e2]; rfl⟩
    rw [List.mem_zipIdx_iff_getElem?]
    simp [hr]
theorem psL_at {a b : Nat} (ha : a < wd t) (hb : b < wd t) : (psL t)[a * wd t + b]? = some (rowP t a b) := by
  unfold psL
  have main : ∀ (m k a : Nat), a < k → ((List.range' m k).flatMap fun a => (List.range (wd t)).map fun b => rowP t a b)[a * wd t + b]? = some (rowP t (m + a) b) := by
    intro m k
    induction k generalizing m with
    | zero => intro a h; omega
    | succ k ih =>
      intro a h
      rw [List.range'_succ, List.flatMap_cons]
      cases a with
      | zero =>
        rw [Nat.zero_mul, Nat.zero_add, List.getElem?_append_left (by rw [List.length_map, List.length_range]; exact hb)]
        simp [hb]
      | succ a =>
        rw [List.getElem?_append_right (by rw [List.length_map, List.length_range, Nat.succ_mul]; omega), List.length_map, List.length_range]
        have : (a + 1) * wd t + b - wd t = a * wd t + b := by rw [Nat.succ_mul]; omega
        rw [this, ih (m + 1) a (by omega)]
        congr 2; omega
  have := main 0 (wd t) a ha
  rw [Nat.zero_add, ← List.range_eq_range'] at this
  exact this
theorem psL_len : (psL t).length = wd t * wd t := by
  unfold psL
  rw [List.length_flatMap]
  have : ∀ (l : List Nat) (c : Nat), (l.map fun _ => c).sum = l.length * c := fun l c => by
    induction l with
    | nil => simp
    | cons x l ih => rw [List.map_cons, List.sum_cons, ih, List.length_cons, Nat.succ_mul]; omega
  simp only [List.length_map, List.length_range]
  rw [this, List.length_range]
theorem paired_at {α β : Type} {P : α → β → Prop} : ∀ {xs : List α} {ys : List β}, Paired P xs ys → ∀ {i : Nat} {x : α}, xs[i]? = some x → ∃ y, ys[i]? = some y ∧ P x y
  | _, _, .nil, i, x, h => by simp at h
  | _, _, .cons a b, 0, x, h => by
    rw [List.getElem?_cons_zero] at h; cases h
    exact ⟨_, by rw [List.getElem?_cons_zero], a⟩
  | _, _, .cons a b, i + 1, x, h => by
    rw [List.getElem?_cons_succ] at h
    obtain ⟨y, h1, h2⟩ := paired_at b h
    exact ⟨y, by rw [List.getElem?_cons_succ]; exact h1, h2⟩
theorem paired_len {α β : Type} {P : α → β → Prop} : ∀ {xs : List α} {ys : List β}, Paired P xs ys → xs.length = ys.length
  | _, _, .nil => rfl
  | _, _, .cons _ b => congrArg (· + 1) (paired_len b)
theorem paired_mem {α β : Type} {P : α → β → Prop} : ∀ {xs : List α} {ys : List β}, Paired P xs ys → ∀ y ∈ ys, ∃ x ∈ xs, P x y
  | _, _, .nil, y, h => nomatch h
  | _, _, .cons a b, y, h => by
    rcases List.mem_cons.mp h with rfl | h
    · exact ⟨_, List.mem_cons_self, a⟩
    · obtain ⟨x, h1, h2⟩ := paired_mem b y h
      exact ⟨x, List.mem_cons_of_mem _ h1, h2⟩
/-- the pairs to which logs of so many deeds lead the others beside s -/
def Reach (t : Tbl) (s L p : Nat) : Prop := ∃ o ns, o < wd t ∧ ns.length = L ∧ (∀ n ∈ ns, n < t.length) ∧ ledN t o ns ≠ ledN t s ns ∧ p = ledN t o ns * wd t + ledN t s ns
theorem LotIs.congr {n : Nat} {P Q : Nat → Prop} (h : LotIs n P) (e : ∀ q, P q ↔ Q q) : LotIs n Q := ⟨h.lt, fun q => (h.bit q).trans (e q)⟩
theorem reach_0 {s : Nat} (hs : s < wd t) (q : Nat) : q ∈ (oth (wd t) s).map (fun o => o * wd t + s) ↔ Reach t s 0 q := by
  rw [List.mem_map]
  constructor
  · rintro ⟨o, ho, rfl⟩
    obtain ⟨h1, h2⟩ := List.mem_filter.mp ho
    exact ⟨o, [], List.mem_range.mp h1, rfl, (fun _ h => nomatch h), of_decide_eq_true h2, rfl⟩
  · rintro ⟨o, ns, h1, h2, h3, h4, rfl⟩
    cases List.length_eq_zero_iff.mp h2
    exact ⟨o, List.mem_filter.mpr ⟨List.mem_range.mpr h1, decide_eq_true h4⟩, rfl⟩
theorem Reach.lt (g : Good t) {s L p : Nat} (hs : s < wd t) (h : Reach t s L p) : p < wd t * wd t := by
  obtain ⟨o, ns, h1, h2, h3, h4, rfl⟩ := h
  have a := g.led h3 h1
  have b := g.led h3 hs
  calc ledN t o ns * wd t + ledN t s ns < ledN t o ns * wd t + wd t := by omega
    _ = (ledN t o ns + 1) * wd t := by rw [Nat.succ_mul]
    _ ≤ wd t * wd t := Nat.mul_le_mul_right _ a
theorem reach_s (g : Good t) {s L : Nat} (hs : s < wd t) {ns : List Nat} (hns : Paired (fun (r : List (Nat × Nat)) n => LotIs n fun q => q ∈ r.map (·.2)) (psL t) ns) {lot : Nat} (hl : LotIs lot (Reach t s L)) (q : Nat) :
    (∃ p n, lot.testBit p = true ∧ ns[p]? = some n ∧ n.testBit q = true) ↔ Reach t s (L + 1) q := by
  constructor
  · rintro ⟨p, n, h1, h2, h3⟩
    obtain ⟨o, log, k1, k2, k3, k4, rfl⟩ := (hl.bit p).mp h1
    have a := g.led k3 k1
    have b := g.led k3 hs
    obtain ⟨n', e1, e2⟩ := paired_at hns (psL_at a b)
    rw [h2] at e1; cases e1
    obtain ⟨d, d1, d2, d3⟩ := (mem_rowP g a b).mp ((e2.bit q).mp h3)
    refine ⟨o, log ++ [d], k1, by simp [k2], fun n hn => ?_, by rw [led_snoc, led_snoc]; exact d2, by rw [led_snoc, led_snoc]; exact d3⟩
    rcases List.mem_append.mp hn with z | z
    · exact k3 n z
    · rw [List.mem_singleton.mp z]; exact d1
  · rintro ⟨o, log, k1, k2, k3, k4, rfl⟩
    obtain ⟨log', d, rfl⟩ : ∃ l d, log = l ++ [d] := ⟨log.dropLast, log.getLast (by intro z; rw [z] at k2; simp at k2), (List.dropLast_concat_getLast _).symm⟩
    have k3' : ∀ n ∈ log', n < t.length := fun n hn => k3 n (List.mem_append_left _ hn)
    have hd : d < t.length := k3 d (by simp)
    have a := g.led k3' k1
    have b := g.led k3' hs
    rw [led_snoc, led_snoc] at k4 ⊢
    have hne : ledN t o log' ≠ ledN t s log' := fun z => k4 (by rw [z])
    obtain ⟨n', e1, e2⟩ := paired_at hns (psL_at a b)
    refine ⟨_, n', (hl.bit _).mpr ⟨o, log', k1, by simpa using k2, k3', hne, rfl⟩, e1, (e2.bit _).mpr ((mem_rowP g a b).mpr ⟨d, hd, k4, rfl⟩)⟩
theorem hit_iff (g : Good t) {s L : Nat} (hs : s < wd t) {lot lasts : Nat} (hl : LotIs lot (Reach t s L)) (hz : LotIs lasts fun q => q ∈ (oth (wd t) s).map fun o => s * wd t + o) : lot &&& lasts ≠ 0 ↔ Part t s L := by
  constructor
  · intro h
    obtain ⟨p, hp⟩ := Nat.exists_testBit_of_ne_zero h
    rw [Nat.testBit_and, Bool.and_eq_true] at hp
    obtain ⟨o, log, k1, k2, k3, k4, e⟩ := (hl.bit p).mp hp.1
    obtain ⟨o', h1, h2⟩ := List.mem_map.mp ((hz.bit p).mp hp.2)
    obtain ⟨h3, h4⟩ := List.mem_filter.mp h1
    have h3 := List.mem_range.mp h3
    have b := g.led k3 hs
    have e' : s * wd t + o' = ledN t o log * wd t + ledN t s log := h2.trans e
    have e1 : s = ledN t o log := by
      have x1 : (s * wd t + o') / wd t = (ledN t o log * wd t + ledN t s log) / wd t := by rw [e']
      rw [Nat.add_comm, Nat.add_mul_div_right _ _ (by omega), Nat.div_eq_of_lt h3, Nat.add_comm (ledN t o log * wd t), Nat.add_mul_div_right _ _ (by omega), Nat.div_eq_of_lt b] at x1
      omega
    have e2 : o' = ledN t s log := by rw [← e1] at e'; omega
    exact ⟨o, log, k1, k2, k3, e1.symm, by rw [← e2]; exact of_decide_eq_true h4⟩
  · rintro ⟨o, log, k1, k2, k3, k4, k5⟩ h
    have h1 : lot.testBit (s * wd t + ledN t s log) = true := (hl.bit _).mpr ⟨o, log, k1, k2, k3, by rw [k4]; exact fun z => k5 z.symm, by rw [k4]⟩
    have h2 : lasts.testBit (s * wd t + ledN t s log) = true := (hz.bit _).mpr (List.mem_map.mpr ⟨ledN t s log, List.mem_filter.mpr ⟨List.mem_range.mpr (g.led k3 hs), decide_eq_true k5⟩, rfl⟩)
    have h3 : (lot &&& lasts).testBit (s * wd t + ledN t s log) = true := by rw [Nat.testBit_and, h1, h2]; rfl
    rw [h, Nat.zero_testBit] at h3
    cases h3
end
end K25
set_option Elab.async false
set_option autoImplicit false
set_option linter.all false
set_option maxRecDepth 100000
set_option maxHeartbeats 3900000
namespace K25
open DL L2 PyProof.Rows PySem PySem.Spec
section
variable {K : Fg} {C : Cs}
theorem rg_cons (lo : Int) (k : Nat) : rgD lo (k + 1) = .int lo :: rgD (lo + 1) k := by
  unfold rgD
  rw [List.range_succ_eq_map, List.map_cons, List.map_map]
  congr 1
  · simp
  · refine List.map_congr_left fun i _ => ?_
    show D.int (lo + ((i + 1 : Nat) : Int)) = D.int (lo + 1 + (i : Nat))
    congr 1; omega
theorem ev_band {ρ : Rho} {i j : Nat} {a b : Nat} (ha : ρ[i]? = some (.val (.int (a : Nat)))) (hb : ρ[j]? = some (.val (.int (b : Nat)))) : Ev (wOp wBAnd (wVar i) (wVar j)) ρ (.int ((a &&& b : Nat) : Int)) ρ := fun χ Φ q =>
  ev_var ha χ _ (ev_var hb χ _ (show Φ (.int (Builtin.bitAnd (a : Int) (b : Int))) ρ by rw [band_nat]; exact q))
theorem asc_nums {m : Nat} : ∀ (ss : List Nat) (v : Int), v ≤ m → ascL (m : Int) (numsD ss) v = true → (∀ s ∈ ss, s < m) ∧ (ss.length : Int) ≤ m - v
  | [], v, hv, _ => ⟨(fun _ h => nomatch h), by simp; omega⟩
  | s :: ss, v, hv, h => by
    rw [nums_cons] at h
    unfold ascL at h
    by_cases hb : (belowD (.int (s : Nat)) (m : Int) && decide (v ≤ (s : Nat))) = true
    · simp only [hb, if_true] at h
      rw [Bool.and_eq_true, decide_eq_true_eq] at hb
      obtain ⟨b1, b2⟩ := hb
      simp only [belowD, Bool.and_eq_true, decide_eq_true_eq] at b1
      obtain ⟨h1, h2⟩ := asc_nums ss ((s : Nat) + 1) (by omega) h
      refine ⟨fun x hx => ?_, by rw [List.length_cons]; omega⟩
      rcases List.mem_cons.mp hx with rfl | hx
      · omega
      · exact h1 x hx
    · simp only [hb] at h
      cases h
/-! a machine -/
def T (l0 l1 : Addr) (m k : Nat) (rows : Tbl) (ρ : Rho) : Prop := ∃ (o : OD) (way : Int) (r : List Nat) (l2 : Addr) (s4 s7 s8 s9 : Sl), GoodB o ∧ RowOk m r ∧
  ρ = [.own l0 o, .val (.int (m : Nat)), .val (.int (k : Nat)), .own l1 (.l (rows.map rowD)), s4, .val (.int way), .own l2 (.l (numsD r)), s7, s8, s9]
variable {l0 l1 : Addr} {m k : Nat} {rows : Tbl}
theorem T.set9 {ρ : Rho} {s : Sl} (h : T l0 l1 m k rows ρ) : T l0 l1 m k rows (ρ.set 9 s) := by
  obtain ⟨o, way, r, l2, s4, s7, s8, s9, h1, h2, rfl⟩ := h
  exact ⟨o, way, r, l2, s4, s7, s8, s, h1, h2, rfl⟩
theorem T.own6 {ρ : Rho} {r : List Nat} {l : Addr} (h : T l0 l1 m k rows ρ) (hr : RowOk m r) : T l0 l1 m k rows (ρ.set 6 (.own l (.l (numsD r)))) := by
  obtain ⟨o, way, r0, l2, s4, s7, s8, s9, h1, h2, rfl⟩ := h
  exact ⟨o, way, r, l, s4, s7, s8, s9, h1, hr, rfl⟩
theorem T_lt {ρ : Rho} {w u : WS} {Δ : DE} (h : T l0 l1 m k rows ρ) (h1 : w ρ Δ) (h2 : u ρ Δ) : wIfS (wB (wOp wLt (wVar 5) (wC (.int 2)))) w u ρ Δ := by
  obtain ⟨o, way, r, l2, s4, s7, s8, s9, a, b, rfl⟩ := h
  show if decide (way < 2) = true then _ else _
  split
  · exact h1
  · exact h2
theorem T_eq {ρ : Rho} {w u : WS} {Δ : DE} {c : Int} (h : T l0 l1 m k rows ρ) (h1 : w ρ Δ) (h2 : u ρ Δ) : wIfS (wB (wOp (wEq false) (wVar 5) (wC (.int c)))) w u ρ Δ := by
  obtain ⟨o, way, r, l2, s4, s7, s8, s9, a, b, rfl⟩ := h
  refine te_eq (ev_var (i := 5) (d := .int way) rfl) (ev_c (d := .int c)) _ _ ?_
  show if decide (way = c) = true then _ else _
  split
  · exact h1
  · exact h2
theorem T_comp (hm : 1 ≤ m) (hm4 : m ≤ 4) {elt : WE} {ρ : Rho} {Δ : DE} (h : T l0 l1 m k rows ρ)
    (he : ∀ ρ (s : Nat) (Ψ : D → Rho → Prop), T l0 l1 m k rows ρ → s < m → (∀ (v : Nat) ρ3, v < m → T l0 l1 m k rows ρ3 → Ψ (.int v) ρ3) → elt (ρ.set 9 (.val (.int (s : Nat)))) χ0 Ψ)
    (q : ∀ ρ', T l0 l1 m k rows ρ' → Δ.nx ρ') : wAsgO 6 (woLc (wiRg1 (wCons (wVar 1) wNil)) (wgName 9) wTrue elt [9]) ρ Δ := by
  have go : wLcL (wgName 9) wTrue elt [9] (rgD 0 m) [] (wipeR ρ [9]) fun ys ρ2 => ∀ l, Δ.nx ((backR ρ ρ2 [9]).set 6 (.own l (.l ys))) := by
    have hlen : (rgD 0 m).length = m := by unfold rgD; simp
    rw [rg_nums] at hlen ⊢
    refine draws (R := T l0 l1 m k rows) (m := (m : Int)) (rest := []) (l := l0) _ _ (by omega) (by rw [hlen]; have := big; omega) (T.set9 h) (fun x hx ρ' Ψ hR hk => ?_) fun ns ρ' h3 h4 hR l => ?_
    · obtain ⟨s, hs, rfl⟩ := List.mem_map.mp hx
      exact he ρ' s Ψ hR (List.mem_range.mp hs) fun v ρ3 hv h3 => hk _ ρ3 ⟨v, rfl, by omega⟩ (T.set9 h3)
    · exact q _ (T.own6 (T.set9 hR) ⟨by rw [h3, hlen], fun n hn => by have := h4 n hn; omega⟩)
  obtain ⟨o, way, r, l2, s4, s7, s8, s9, a, b, rfl⟩ := h
  refine ⟨⟨by omega, by omega⟩, ?_⟩
  rw [Int.toNat_natCast]
  exact go
theorem T_take (hm : 1 ≤ m) (hm4 : m ≤ 4) {ρ : Rho} {χ : XC} {Φ : D → Rho → Prop} (h : T l0 l1 m k rows ρ) (q : ∀ (v : Nat) ρ', v < m → T l0 l1 m k rows ρ' → Φ (.int v) ρ') : wCallB 0 1 (sp_law_take C) (wCons (wVar 1) wNil) ρ χ Φ := by
  obtain ⟨o, way, r, l2, s4, s7, s8, s9, a, b, rfl⟩ := h
  refine ⟨⟨l0, _, rfl⟩, rfl, o, _, rfl, a, rfl, by omega, by omega, fun d o' h1 h2 h3 => ⟨o', rfl, ?_⟩⟩
  obtain ⟨v, hv, hv2⟩ := nat_of h1 h2
  rw [hv]
  exact q v _ (by omega) ⟨o', way, r, l2, s4, s7, s8, s9, h3, b, rfl⟩
theorem row_set {r : List Nat} {i v : Nat} (h : RowOk m r) (hv : v < m) : RowOk m (r.set i v) :=
  ⟨by rw [List.length_set]; exact h.1, fun n hn => (List.mem_or_eq_of_mem_set hn).elim (h.2 n) fun e => e ▸ hv⟩
theorem nums_set (r : List Nat) (i v : Nat) : (numsD r).set i (.int (v : Nat)) = numsD (r.set i v) := by unfold numsD; rw [List.map_set]
theorem ix_nums {r : List Nat} {i : Nat} (h : RowOk m r) (hi : i < m) : ixN (numsD r).length (i : Nat) = some i ∧ ∃ v : Nat, v < m ∧ atI (numsD r) (i : Nat) = some (.int (v : Nat)) := by
  have hl : i < r.length := by rw [h.1]; exact hi
  refine ⟨?_, r[i], h.2 _ (List.getElem_mem hl), at_nums (List.getElem?_eq_getElem hl)⟩
  unfold ixN numsD
  rw [if_pos (by omega), if_pos (by rw [List.length_map]; omega)]
  simp
abbrev lm_c : Cs → WS := fun C => wIfS (wB (wOp wLt (wVar 5) (wC (.int 2)))) (wAsgO 6 (woLc (wiRg1 (wCons (wVar 1) wNil)) (wgName 9) wTrue (wCallB 0 1 (sp_law_take C) (wCons (wVar 1) wNil)) [9])) (wIfS (wB (wOp (wEq false) (wVar 5) (wC (.int 2)))) (wAsgO 6 (woLc (wiRg1 (wCons (wVar 1) wNil)) (wgName 9) wTrue (wOp wMod (wCB wInt (wCons (wOp wAdd (wVar 9) (wC (.int 1))) wNil)) (wVar 1)) [9])) (wIfS (wB (wOp (wEq false) (wVar 5) (wC (.int 3)))) (wSeq (wPar 7 8 (wCons (wCallB 0 1 (sp_law_take C) (wCons (wVar 1) wNil)) (wCons (wCallB 0 1 (sp_law_take C) (wCons (wVar 1) wNil)) wNil))) (wAsgG (wgTup 2 (wgCons (wgSub 6 (wVar 7)) (wgCons (wgSub 6 (wVar 8)) wgNil))) (wTup (wCons (wIxO 6 (wVar 8)) (wCons (wIxO 6 (wVar 7)) wNil))))) (wIfS (wB (wOp (wEq false) (wVar 5) (wC (.int 4)))) (wSetO 6 (wCallB 0 1 (sp_law_take C) (wCons (wVar 1) wNil)) (wCallB 0 1 (sp_law_take C) (wCons (wVar 1) wNil))) wNext)))
theorem T_par (hm : 1 ≤ m) (hm4 : m ≤ 4) {ρ : Rho} {Δ : DE} (h : T l0 l1 m k rows ρ) (q : ∀ (v v2 : Nat) ρ', v < m → v2 < m → T l0 l1 m k rows ρ' → Δ.nx ((ρ'.set 7 (.val (.int v))).set 8 (.val (.int v2)))) :
    wPar 7 8 (wCons (wCallB 0 1 (sp_law_take C) (wCons (wVar 1) wNil)) (wCons (wCallB 0 1 (sp_law_take C) (wCons (wVar 1) wNil)) wNil)) ρ Δ := by
  have : (wCallB 0 1 (sp_law_take C) (wCons (wVar 1) wNil)) ρ Δ.xc fun d ρ1 => (wCallB 0 1 (sp_law_take C) (wCons (wVar 1) wNil)) ρ1 Δ.xc fun d2 ρ2 => Δ.nx ((ρ2.set 7 (.val d)).set 8 (.val d2)) :=
    T_take hm hm4 h fun v ρ1 hv h1 => T_take hm hm4 h1 fun v2 ρ2 hv2 h2 => q v v2 ρ2 hv hv2 h2
  exact this
theorem T_seto (hm : 1 ≤ m) (hm4 : m ≤ 4) {ρ : Rho} {Δ : DE} (h : T l0 l1 m k rows ρ) (q : ∀ ρ', T l0 l1 m k rows ρ' → Δ.nx ρ') : wSetO 6 (wCallB 0 1 (sp_law_take C) (wCons (wVar 1) wNil)) (wCallB 0 1 (sp_law_take C) (wCons (wVar 1) wNil)) ρ Δ := by
  have : (wCallB 0 1 (sp_law_take C) (wCons (wVar 1) wNil)) ρ Δ.xc fun d ρ1 => (∃ l xs, ρ1[6]? = some (Sl.own l (.l xs))) ∧ (wCallB 0 1 (sp_law_take C) (wCons (wVar 1) wNil)) ρ1 Δ.xc fun k ρ2 => match k, ρ2[6]? with
      | D.int z, some (Sl.own l (OD.l xs)) => ∃ j, ixN xs.length z = some j ∧ Δ.nx (ρ2.set 6 (.own l (.l (xs.set j d))))
      | _, _ => False := T_take hm hm4 h fun v ρ1 hv h1 => by
    refine ⟨?_, T_take hm hm4 h1 fun v2 ρ2 hv2 h2 => ?_⟩
    · obtain ⟨o, way, r, l2, s4, s7, s8, s9, a, b, rfl⟩ := h1
      exact ⟨l2, _, rfl⟩
    · obtain ⟨o, way, r, l2, s4, s7, s8, s9, a, b, rfl⟩ := h2
      refine ⟨v2, (ix_nums b hv2).1, ?_⟩
      rw [nums_set]
      exact q _ ⟨o, way, _, l2, s4, s7, s8, s9, a, row_set b hv, rfl⟩
  exact this
theorem T_chain (hm : 1 ≤ m) (hm4 : m ≤ 4) {ρ : Rho} {Δ : DE} (h : T l0 l1 m k rows ρ) (q : ∀ ρ', T l0 l1 m k rows ρ' → Δ.nx ρ') : lm_c C ρ Δ := by
  refine T_lt h (T_comp hm hm4 h (fun ρ s Ψ hR hs hk => ?_) q) (T_eq h (T_comp hm hm4 h (fun ρ s Ψ hR hs hk => ?_) q) (T_eq h ?_ (T_eq h ?_ (q _ h))))
  · exact T_take hm hm4 (T.set9 hR) hk
  · obtain ⟨o, way, r, l2, s4, s7, s8, s9, a, b, rfl⟩ := hR
    refine ⟨by omega, ?_⟩
    have e : ((s : Int) + 1) % (m : Nat) = (((s + 1) % m : Nat) : Int) := by simp
    show Ψ (.int (((s : Int) + 1) % (m : Nat))) _
    rw [e]
    exact hk _ _ (Nat.mod_lt _ (by omega)) ⟨o, way, r, l2, s4, s7, s8, _, a, b, rfl⟩
  · refine seqI (T_par hm hm4 h fun v v2 ρ2 hv hv2 h2 => ?_)
    obtain ⟨o, way, r, l2, s4, s7, s8, s9, a, b, rfl⟩ := h2
    obtain ⟨i1, w1, g1, e1⟩ := ix_nums b hv
    obtain ⟨i2, w2, g2, e2⟩ := ix_nums b hv2
    have b' := row_set (i := v) b g2
    obtain ⟨i3, -⟩ := ix_nums b' hv2
    refine ⟨⟨l2, _, rfl⟩, _, e2, ⟨l2, _, rfl⟩, _, e1, by show 2 ≤ sizeLine; decide, rfl, ⟨l2, _, rfl⟩, v, i1, ⟨l2, _, rfl⟩, ?_⟩
    show ∃ j, ixN ((numsD r).set v (.int (w2 : Nat))).length (v2 : Nat) = some j ∧ _
    rw [nums_set]
    refine ⟨v2, i3, rfl, ?_⟩
    rw [nums_set]
    exact q _ ⟨o, way, _, l2, s4, _, _, s9, a, row_set b' g1, rfl⟩
  · exact T_seto hm hm4 h q
end
end K25
set_option Elab.async false
set_option autoImplicit false
set_option linter.all false
set_option maxRecDepth 100000
set_option maxHeartbeats 3900000
namespace K25
open DL L2 PyProof.Rows PySem PySem.Spec
section
variable {K : Fg} {C : Cs}
theorem m_law_machine : Sem0 3 10 (sp_law_machine C) (x_law_machine K C) := by
  rintro hl ds Ψ Ξ - ⟨o, m, k, h, ho, hm, hm4, hk, hk3, rfl, q⟩
  match hl, h with
  | some (l0, o'), h =>
    cases (Option.some.inj h : o' = o)
    refine ⟨by show 0 ≤ sizeLine; omega, fun l1 => ?_⟩
    refine ⟨⟨by omega, by omega⟩, ?_⟩
    show wForL (wgName 4) (wSeq (wParO 5 6 (wCallB 0 1 (sp_law_take C) (wCons (wC (.int 6)) wNil)) (woRg (wVar 1))) (wSeq (lm_c C) (wApp 3 (wCB wTupOf (wCons (wVar 6) wNil))))) (rgD 0 (Int.toNat (k : Nat))) [.own l0 o, .val (.int (m : Nat)), .val (.int (k : Nat)), .own l1 (.l (([] : Tbl).map rowD)), .un, .un, .un, .un, .un, .un] _
    rw [rg_range]
    refine for_inv (fun ds ρ => ∃ (rest : List Nat) (rows : Tbl) (o : OD) (s4 s5 s6 s7 s8 s9 : Sl), ds = numsD rest ∧ rows.length + rest.length = k ∧ (∀ r ∈ rows, RowOk m r) ∧ GoodB o ∧
      ρ = [.own l0 o, .val (.int (m : Nat)), .val (.int (k : Nat)), .own l1 (.l (rows.map rowD)), s4, s5, s6, s7, s8, s9]) (fun d ds ρ N h hN => ?_) (fun ρ h => ?_) _ _ ⟨List.range k, [], o, .un, .un, .un, .un, .un, .un, rfl, by simp, (fun _ h => nomatch h), ho, rfl⟩
    · obtain ⟨rest, rows, o, s4, s5, s6, s7, s8, s9, h1, h2, h3, h4, rfl⟩ := h
      obtain ⟨e, rest, rfl, rfl, rfl⟩ := nums_cons_of h1
      refine ⟨⟨l0, _, rfl⟩, rfl, o, _, rfl, h4, rfl, by decide, by decide, fun way o2 w1 w2 h5 => ⟨o2, rfl, ⟨by omega, by omega⟩, fun l2 => ?_⟩⟩
      have e0 : rgD 0 (Int.toNat (m : Nat)) = numsD (List.range m) := rg_range m
      have t0 : T l0 l1 m k rows [.own l0 o2, .val (.int (m : Nat)), .val (.int (k : Nat)), .own l1 (.l (rows.map rowD)), .val (.int (e : Nat)), .val (.int way), .own l2 (.l (rgD 0 (Int.toNat (m : Nat)))), s7, s8, s9] := by
        rw [e0]
        exact ⟨o2, way, List.range m, l2, _, s7, s8, s9, h5, ⟨List.length_range, fun n hn => List.mem_range.mp hn⟩, rfl⟩
      refine seqI (T_chain hm hm4 t0 fun ρ' h' => ?_)
      obtain ⟨o3, way3, r, l3, t4, t7, t8, t9, a, b, rfl⟩ := h'
      refine ⟨⟨l1, _, rfl⟩, ?_⟩
      refine ⟨by show (rows.map rowD).length < sizeLine; rw [List.length_map]; simp only [List.length_cons] at h2; have := big; omega, ?_⟩
      refine hN _ ⟨rest, rows ++ [r], o3, t4, .val (.int way3), .val (.lst (numsD r)), t7, t8, t9, rfl, by simp only [List.length_append, List.length_cons, List.length_nil] at h2 ⊢; omega, fun r' hr' => (List.mem_append.mp hr').elim (h3 r') fun z => by rw [List.mem_singleton.mp z]; exact b, a, ?_⟩
      rw [List.map_append]
      rfl
    · obtain ⟨rest, rows, o, s4, s5, s6, s7, s8, s9, h1, h2, h3, h4, rfl⟩ := h
      cases nums_nil_of h1
      have hlen : rows.length = k := by simpa using h2
      have hne : rows ≠ [] := fun z => by rw [z] at hlen; simp at hlen; omega
      refine ⟨o, rfl, q rows o (good_rows hm (by omega) h3 hne (by omega)) hlen ?_ h4⟩
      cases rows with
      | nil => exact absurd rfl hne
      | cons r rows => exact (h3 r List.mem_cons_self).1
/-! layers -/
def keysT (kl : Tbl) : List (List Key) := kl.map fun r => r.map fun (n : Nat) => Sum.inl (n : Int)
theorem inl_inj {r r' : List Nat} (h : (r.map fun (n : Nat) => (Sum.inl (n : Int) : Key)) = r'.map fun (n : Nat) => Sum.inl (n : Int)) : r = r' := by
  refine List.map_inj_right (f := fun (n : Nat) => (Sum.inl (n : Int) : Key)) (fun a b e => ?_) |>.mp h
  injection e with e
  omega
theorem put_keysT (kl : Tbl) (r : List Nat) : putDk (keysT kl) (r.map fun (n : Nat) => Sum.inl (n : Int)) = keysT (if r ∈ kl then kl else kl ++ [r]) := by
  have e : (r.map fun (n : Nat) => (Sum.inl (n : Int) : Key)) ∈ keysT kl ↔ r ∈ kl := by
    unfold keysT
    rw [List.mem_map]
    exact ⟨fun ⟨r', h1, h2⟩ => inl_inj h2 ▸ h1, fun h => ⟨r, h, rfl⟩⟩
  unfold putDk
  by_cases h : r ∈ kl
  · rw [if_pos (e.mpr h), if_pos h]
  · rw [if_neg (fun z => h (e.mp z)), if_neg h]; unfold keysT; rw [List.map_append]; rfl
theorem keys_row (r : List Nat) : D.tup ((r.map fun (n : Nat) => (Sum.inl (n : Int) : Key)).map keyDD) = rowD r := by unfold rowD; rw [List.map_map]; rfl
theorem keys_tbs (kl : Tbl) : D.lst ((keysT kl).map fun k => D.tup (k.map keyDD)) = tbsD kl := by
  unfold keysT tbsD
  rw [List.map_map]
  congr 1
  exact List.map_congr_left fun r _ => keys_row r
theorem end_snoc {t : Tbl} (g : Good t) {log : List Nat} {d : Nat} (hl : ∀ n ∈ log, n < t.length) (hd : d < t.length) : (endRow t log).map (cellR t[d]) = endRow t (log ++ [d]) := by
  unfold endRow
  rw [List.map_map]
  refine List.map_congr_left fun s hs => ?_
  obtain ⟨-, r, hr, e⟩ := g.step hd (g.led hl (List.mem_range.mp hs))
  rw [List.getElem?_eq_getElem hd] at hr
  cases hr
  rw [led_snoc, e]
  rfl
abbrev ll_b : WS := wPutT 5 (wCB wTupOf (wCons (wLc (wiSeq (wVar 6)) (wgName 8) wTrue (wOp wIx (wVar 7) (wVar 8)) [8]) wNil)) (wC (.bl true))
theorem lay_put {d row : List Nat} (hd : d.length ≤ 1000) (hr : ∀ n ∈ d, n < row.length) {a0 a1 a2 a3 a4 : Sl} {l : Addr} {kl : Tbl} {vs : List D} {Δ : DE} (hk : kl.length < 100000)
    (q : ∀ vs', Δ.nx [a0, a1, a2, a3, a4, .own l (.t (keysT (if d.map (cellR row) ∈ kl then kl else kl ++ [d.map (cellR row)])) vs'), .val (rowD d), .val (rowD row), .un]) :
    ll_b [a0, a1, a2, a3, a4, .own l (.t (keysT kl) vs), .val (rowD d), .val (rowD row), .un] Δ := by
  refine ⟨⟨l, _, _, rfl⟩, ?_⟩
  show wLcL _ wTrue _ [8] (d.map fun n => D.int (n : Nat)) [] [a0, a1, a2, a3, a4, .own l (.t (keysT kl) vs), .val (rowD d), .val (rowD row), .un] _
  refine lc_mfc _ (fun n => D.int (n : Nat)) (fun n => some (.int (cellR row n : Nat))) d (by have := big; omega) (fun n hn N hN => ?_) ?_
  · exact ⟨_, at_cell (hr n hn), hN⟩
  · rw [fm_all]
    refine ⟨(d.map (cellR row)).map fun (n : Nat) => Sum.inl (n : Int), ?_, ?_, ?_⟩
    · rw [keys_row]; unfold rowD; rw [List.map_map]; rfl
    · show (keysT kl).length < sizeLine
      unfold keysT; rw [List.length_map]; have := big; omega
    · rw [put_keysT]
      exact q _
end
end K25
set_option Elab.async false
set_option autoImplicit false
set_option linter.all false
set_option maxRecDepth 100000
set_option maxHeartbeats 3900000
namespace K25
open DL L2 PyProof.Rows PySem PySem.Spec
section
variable {K : Fg} {C : Cs}
theorem row_len {t : Tbl} (g : Good t) {r : List Nat} (h : r ∈ t) : r.length = wd t := (g.row r h).2.2.1
theorem end_ok {t : Tbl} (g : Good t) {log : List Nat} (hl : ∀ n ∈ log, n < t.length) : (endRow t log).length = wd t ∧ ∀ n ∈ endRow t log, n < wd t := by
  refine ⟨by unfold endRow; simp, fun n hn => ?_⟩
  obtain ⟨s, hs, rfl⟩ := List.mem_map.mp hn
  exact g.led hl (List.mem_range.mp hs)
/-- how a lot of rows grows -/
theorem mem_grow {kl : Tbl} {x r : List Nat} : r ∈ (if x ∈ kl then kl else kl ++ [x]) ↔ r ∈ kl ∨ r = x := by
  split
  · rename_i h
    exact ⟨.inl, fun z => z.elim id fun e => e ▸ h⟩
  · rw [List.mem_append, List.mem_singleton]
theorem len_grow {kl : Tbl} {x : List Nat} : (if x ∈ kl then kl else kl ++ [x]).length ≤ kl.length + 1 := by
  split
  · omega
  · rw [List.length_append, List.length_singleton]; exact Nat.le_refl _
theorem rows_cons_of {d : D} {ds : List D} {kl : Tbl} (h : d :: ds = kl.map rowD) : ∃ r rest, kl = r :: rest ∧ d = rowD r ∧ ds = rest.map rowD := by
  cases kl with
  | nil => cases h
  | cons r rest => rw [List.map_cons] at h; injection h with h1 h2; exact ⟨r, rest, rfl, h1, h2⟩
theorem rows_nil_of {kl : Tbl} (h : [] = kl.map rowD) : kl = [] := by cases kl with | nil => rfl | cons a b => cases h
/-- one row, all tables -/
theorem lay_row {t : Tbl} (g : Good t) (h3 : t.length ≤ 3) {d : List Nat} (hd : d.length = wd t) (hn : ∀ n ∈ d, n < wd t) {a1 a2 a3 a4 s7 : Sl} {l : Addr} {kl : Tbl} {vs : List D} {Δ : DE} (hk : kl.length < 90000)
    (q : ∀ kl' vs' s, (∀ r, r ∈ kl' ↔ r ∈ kl ∨ ∃ row ∈ t, r = d.map (cellR row)) → kl'.length ≤ kl.length + 3 → Δ.nx [.val (tbsD t), a1, a2, a3, a4, .own l (.t (keysT kl') vs'), .val (rowD d), s, .un]) :
    wFor (wiSeq (wVar 0)) (wgName 7) ll_b [.val (tbsD t), a1, a2, a3, a4, .own l (.t (keysT kl) vs), .val (rowD d), s7, .un] Δ := by
  have hw := g.head
  show wForL (wgName 7) ll_b (t.map rowD) [.val (tbsD t), a1, a2, a3, a4, .own l (.t (keysT kl) vs), .val (rowD d), s7, .un] Δ
  refine for_inv (fun ds ρ => ∃ (dn rest kl' : Tbl) (vs' : List D) (s : Sl), ds = rest.map rowD ∧ dn ++ rest = t ∧ (∀ r, r ∈ kl' ↔ r ∈ kl ∨ ∃ row ∈ dn, r = d.map (cellR row)) ∧ kl'.length ≤ kl.length + dn.length ∧
    ρ = [.val (tbsD t), a1, a2, a3, a4, .own l (.t (keysT kl') vs'), .val (rowD d), s, .un]) (fun x ds ρ N h hN => ?_) (fun ρ h => ?_) _ _ ⟨[], t, kl, vs, s7, rfl, rfl, by simp, by simp, rfl⟩
  · obtain ⟨dn, rest, kl', vs', s, h1, h2, h4, h5, rfl⟩ := h
    obtain ⟨row, rest, rfl, rfl, rfl⟩ := rows_cons_of h1
    have hrow : row ∈ t := by rw [← h2]; simp
    have hdl : dn.length < 3 := by
      have := congrArg List.length h2
      rw [List.length_append, List.length_cons] at this; omega
    refine lay_put (by omega) (by rw [row_len g hrow]; exact hn) (by omega) fun vs2 => hN _ ⟨dn ++ [row], rest, _, vs2, _, rfl, by simp [h2], fun r => ?_, ?_, rfl⟩
    · rw [mem_grow, h4]
      constructor
      · rintro ((z | ⟨row', z1, z2⟩) | z)
        · exact .inl z
        · exact .inr ⟨row', List.mem_append_left _ z1, z2⟩
        · exact .inr ⟨row, by simp, z⟩
      · rintro (z | ⟨row', z1, z2⟩)
        · exact .inl (.inl z)
        · rcases List.mem_append.mp z1 with z1 | z1
          · exact .inl (.inr ⟨row', z1, z2⟩)
          · rw [List.mem_singleton.mp z1] at z2; exact .inr z2
    · have := len_grow (kl := kl') (x := d.map (cellR row))
      rw [List.length_append, List.length_singleton]
      omega
  · obtain ⟨dn, rest, kl', vs', s, h1, h2, h4, h5, rfl⟩ := h
    cases rows_nil_of h1
    rw [List.append_nil] at h2
    subst h2
    exact q kl' vs' s h4 (by omega)
theorem m_law_layers : Sem0 2 9 (sp_law_layers C) (x_law_layers K C) := by
  rintro hl ds Ψ Ξ - ⟨h, t, m, g, ht, hm, rfl, q⟩
  cases none_of h
  have hw := g.head
  obtain ⟨r0, t', et⟩ : ∃ r t', t = r :: t' := by
    cases t with
    | nil => exact absurd rfl g.ne
    | cons r t' => exact ⟨r, t', rfl⟩
  have h0 : atI (t.map rowD) 0 = some (rowD r0) := by rw [et]; simp [atI, ixN]
  have hr0 : r0.length = wd t := row_len g (by rw [et]; exact List.mem_cons_self)
  have hln : (r0.map fun n => D.int (n : Nat)).length = wd t := by rw [List.length_map, hr0]
  have e0 : D.tup (rgD 0 (Int.toNat ((r0.map fun n => D.int (n : Nat)).length : Nat))) = rowD (List.range (wd t)) := by rw [hln, rg_range]; rfl
  have eR : endRow t [] = List.range (wd t) := by unfold endRow; exact List.map_id' _
  refine ⟨_, h0, ⟨by omega, by omega⟩, ?_⟩
  refine ⟨by show 1 ≤ sizeLine; decide, ?_⟩
  refine ⟨by show 1 ≤ sizeLine; decide, fun l3 => ?_⟩
  refine ⟨⟨by omega, by omega⟩, ?_⟩
  show wForL (wgName 4) (wSeq (wAsgO 5 woDicT) (wSeq (wFor (wiSeq (wIxO 3 (wVar 4))) (wgName 6) (wFor (wiSeq (wVar 0)) (wgName 7) ll_b)) (wApp 3 (wKeysT 5)))) (rgD 0 (Int.toNat (m : Nat)))
    [.val (tbsD t), .val (.int (m : Nat)), .val (D.tup (rgD 0 (Int.toNat ((r0.map fun n => D.int (n : Nat)).length : Nat)))), .own l3 (.l [.lst [D.tup (rgD 0 (Int.toNat ((r0.map fun n => D.int (n : Nat)).length : Nat)))]]), .un, .un, .un, .un, .un] _
  rw [e0]
  have eI : rgD 0 (Int.toNat (m : Nat)) = rgD ((0 : Nat) : Int) (m - 0) := by rw [Int.toNat_natCast]; rfl
  rw [eI]
  refine for_inv (fun ds ρ => ∃ (j : Nat) (ls : List Tbl) (s4 s5 s6 s7 : Sl), ds = rgD (j : Nat) (m - j) ∧ j ≤ m ∧ ls.length = j + 1 ∧ (∀ (k : Nat) (la : Tbl), ls[k]? = some la → Layer t k la) ∧
    ρ = [.val (tbsD t), .val (.int (m : Nat)), .val (rowD (List.range (wd t))), .own l3 (.l (ls.map tbsD)), s4, s5, s6, s7, .un]) (fun d ds ρ N h hN => ?_) (fun ρ h => ?_) _ _ ⟨0, [[List.range (wd t)]], .un, .un, .un, .un, rfl, by omega, rfl, fun k la hk => ?_, rfl⟩
  · obtain ⟨j, ls, s4, s5, s6, s7, h1, h2, h3, h4, rfl⟩ := h
    obtain ⟨i, hi⟩ : ∃ i, m - j = i + 1 := by
      cases hmj : m - j with
      | zero => rw [hmj] at h1; cases h1
      | succ i => exact ⟨i, rfl⟩
    rw [hi, rg_cons] at h1
    injection h1 with h5 h6
    subst h5 h6
    have hj : j < ls.length := by omega
    have hget : ls[j]? = some ls[j] := List.getElem?_eq_getElem hj
    have hla := h4 j _ hget
    generalize ls[j] = la at hget hla
    have hat : atI (ls.map tbsD) (j : Nat) = some (tbsD la) := by
      unfold atI ixN
      rw [if_pos (by omega), if_pos (by rw [List.length_map]; omega)]
      simp [hget]
    have hlal : la.length ≤ 6561 := Nat.le_trans hla.len (Nat.le_trans (Nat.pow_le_pow_right (by omega) (show j ≤ 8 by omega)) (by decide))
    intro l5
    refine ⟨⟨l3, _, rfl⟩, _, hat, ?_⟩
    show wForL (wgName 6) (wFor (wiSeq (wVar 0)) (wgName 7) ll_b) (la.map rowD) [.val (tbsD t), .val (.int (m : Nat)), .val (rowD (List.range (wd t))), .own l3 (.l (ls.map tbsD)), .val (.int (j : Nat)), .own l5 (.t (keysT []) []), s6, s7, .un] _
    refine for_inv (fun ds ρ => ∃ (dn rest kl : Tbl) (vs : List D) (s6 s7 : Sl), ds = rest.map rowD ∧ dn ++ rest = la ∧ (∀ r, r ∈ kl ↔ ∃ d ∈ dn, ∃ row ∈ t, r = d.map (cellR row)) ∧ kl.length ≤ dn.length * 3 ∧
      ρ = [.val (tbsD t), .val (.int (m : Nat)), .val (rowD (List.range (wd t))), .own l3 (.l (ls.map tbsD)), .val (.int (j : Nat)), .own l5 (.t (keysT kl) vs), s6, s7, .un]) (fun x ds ρ N2 h hN2 => ?_) (fun ρ h => ?_) _ _ ⟨[], la, [], [], s6, s7, rfl, rfl, by simp, by simp, rfl⟩
    · obtain ⟨dn, rest, kl, vs, s6, s7, k1, k2, k3, k4, rfl⟩ := h
      obtain ⟨d, rest, rfl, rfl, rfl⟩ := rows_cons_of k1
      have hd : d ∈ la := by rw [← k2]; simp
      have hdl : dn.length < 6561 := by
        have := congrArg List.length k2
        rw [List.length_append, List.length_cons] at this; omega
      obtain ⟨log, g1, g2, rfl⟩ := (hla.mem d).mp hd
      obtain ⟨p1, p2⟩ := end_ok g g2
      refine lay_row g ht p1 p2 (by omega) fun kl' vs' s z1 z2 => hN2 _ ⟨dn ++ [endRow t log], rest, kl', vs', _, s, rfl, by simp [k2], fun r => ?_, by rw [List.length_append, List.length_singleton]; omega, rfl⟩
      rw [z1, k3]
      constructor
      · rintro (⟨d, a, b⟩ | z)
        · exact ⟨d, List.mem_append_left _ a, b⟩
        · exact ⟨_, by simp, z⟩
      · rintro ⟨d, a, b⟩
        rcases List.mem_append.mp a with a | a
        · exact .inl ⟨d, a, b⟩
        · rw [List.mem_singleton.mp a] at b; exact .inr b
    · obtain ⟨dn, rest, kl, vs, s6, s7, k1, k2, k3, k4, rfl⟩ := h
      cases rows_nil_of k1
      rw [List.append_nil] at k2
      subst k2
      refine ⟨⟨l3, _, rfl⟩, ⟨?_, ?_⟩⟩
      · show (keysT kl).length ≤ sizeLine
        unfold keysT; rw [List.length_map]; have := big; omega
      refine ⟨?_, ?_⟩
      · show (ls.map tbsD).length < sizeLine
        rw [List.length_map]; have := big; omega
      · rw [keys_tbs]
        refine hN _ ⟨j + 1, ls ++ [kl], _, _, s6, s7, ?_, by omega, by simp [h3], fun k la' hk => ?_, by rw [List.map_append]; rfl⟩
        · have : m - (j + 1) = i := by omega
          rw [this]; rfl
        · by_cases hkl : k < ls.length
          · rw [List.getElem?_append_left hkl] at hk; exact h4 k la' hk
          · rw [List.getElem?_append_right (by omega)] at hk
            have hk0 : k - ls.length = 0 := by
              cases hz : k - ls.length with
              | zero => rfl
              | succ z => rw [hz] at hk; simp at hk
            rw [hk0] at hk
            cases hk
            have hkj : k = j + 1 := by omega
            subst hkj
            refine ⟨by rw [Nat.pow_succ]; have := hla.len; omega, fun r => (k3 r).trans ?_⟩
            constructor
            · rintro ⟨d, a, row, b, rfl⟩
              obtain ⟨log, g1, g2, rfl⟩ := (hla.mem d).mp a
              obtain ⟨x, hx, rfl⟩ := List.getElem_of_mem b
              refine ⟨log ++ [x], by simp [g1], fun n hn => ?_, end_snoc g g2 hx⟩
              rcases List.mem_append.mp hn with z | z
              · exact g2 n z
              · rw [List.mem_singleton.mp z]; exact hx
            · rintro ⟨log, g1, g2, rfl⟩
              obtain ⟨log', x, rfl⟩ : ∃ l d, log = l ++ [d] := ⟨log.dropLast, log.getLast (by intro z; rw [z] at g1; simp at g1), (List.dropLast_concat_getLast _).symm⟩
              have g2' : ∀ n ∈ log', n < t.length := fun n hn => g2 n (List.mem_append_left _ hn)
              have hx : x < t.length := g2 x (by simp)
              exact ⟨endRow t log', (hla.mem _).mpr ⟨log', by simpa using g1, g2', rfl⟩, t[x], List.getElem_mem hx, (end_snoc g g2' hx).symm⟩
  · obtain ⟨j, ls, s4, s5, s6, s7, h1, h2, h3, h4, rfl⟩ := h
    have ej : j = m := by
      cases hmj : m - j with
      | zero => omega
      | succ i => rw [hmj, rg_cons] at h1; cases h1
    subst ej
    exact q ls h3 h4
  · cases k with
    | zero =>
      cases hk
      refine ⟨by simp, fun r => ?_⟩
      rw [List.mem_singleton]
      constructor
      · rintro rfl; exact ⟨[], rfl, (fun _ h => nomatch h), eR.symm⟩
      · rintro ⟨ns, g1, g2, rfl⟩
        cases List.length_eq_zero_iff.mp g1
        exact eR
    | succ k => simp at hk
end
end K25
set_option Elab.async false
set_option autoImplicit false
set_option linter.all false
set_option maxRecDepth 100000
set_option maxHeartbeats 3900000
namespace K25
open DL L2 PyProof.Rows PySem PySem.Spec
section
variable {K : Fg} {C : Cs}
theorem m_is_positive : Sem0 1 1 (sp_is_positive C) (x_is_positive K C) := by
  rintro hl ds Ψ Ξ - ⟨h, x, rfl, hp, q⟩
  cases none_of h
  refine ⟨rfl, rfl, rfl, x, rfl, hp, ?_⟩
  cases x <;> exact q
theorem m_is_sequence_of : Sem0 2 2 (sp_is_sequence_of C) (x_is_sequence_of K C) := by
  rintro hl ds Ψ Ξ - ⟨h, x, n, rfl, hp, q⟩
  cases none_of h
  refine ⟨rfl, rfl, rfl, x, rfl, hp, ?_⟩
  unfold lenIs at q
  cases hx : seqD x with
  | none => rw [hx] at q; exact q
  | some xs =>
    rw [hx] at q
    obtain rfl | rfl := seq_cases hx
    · exact eqF_ints (a := (xs.length : Nat)) (b := n) (Φ := fun z => Ψ z none) q
    · exact eqF_ints (a := (xs.length : Nat)) (b := n) (Φ := fun z => Ψ z none) q
theorem m_check_state : Sem0 2 2 (sp_check_state C) (x_check_state K C) := by
  rintro hl ds Ψ Ξ - ⟨h, t, x, rfl, hp, q⟩
  cases none_of h
  refine ⟨rfl, .int (wd t : Nat), look_st C t, rfl, rfl, rfl, x, (wd t : Nat), rfl, hp, ?_⟩
  show if (!belowD x (wd t : Nat)) = true then _ else _
  cases hb : belowD x (wd t : Nat) <;> rw [hb] at q <;> exact q
theorem m_log_fault : Sem0 2 2 (sp_log_fault C) (x_log_fault K C) := by
  rintro hl ds Ψ Ξ - ⟨h, t, x, rfl, hp, q⟩
  cases none_of h
  simp only [x_log_fault, wSeq, wNext, wBreak, wCont, wAsg, wRet, wRetN, wDrop, wIfS, wRetO, wgName, wgNil, wgCons, wgTup, wAsgG, wOp, wUn, wCB, wC, wVar, wNil, wCons, wTup, wLst, wB, wAnd, wOr, wNot, wAndV, wOrV, wNotV, wIf, wChain, wAdd, wSub, wMul, wMod, wDiv, wPow, wCmp, wIsN, DL.isNon, wLen, wAbs, wMin2, wMax2, wInt, wFld, wFldO, wM1, wCallA, wCallB, wMake, wRaise, wNeg, wIxO, wLenO, wApp, wSetO, wFset, wPar, wParO, wAsgO, woLst, woCall, wFor, wiSeq, wiRg1, wiEnum, dEnds, outs, args, List.getElem?_cons_zero, List.getElem?_cons_succ, List.nil_append, List.cons_append, List.map_cons, List.map_nil, List.set_cons_zero, List.set_cons_succ, List.append_nil, List.replicate_zero, List.replicate_succ, Option.map_none, Option.map_some, List.length_cons, List.length_nil, sp_is_sequence, sp_fault_place]
  refine ⟨trivial, trivial, trivial, x, rfl, hp.1, ?_⟩
  cases hx : seqD x with
  | none => simp only [logF, hx] at q; simpa using q
  | some xs =>
    have hpl := hp.2 xs hx
    simp only [logF, hx] at q
    have key : (if 10000 < (xs.length : Int) then Ψ (.int (-1)) none else Ψ (faultD (t.length : Int) xs 0) none) := by
      split
      · rename_i h1
        rw [if_neg (by omega)] at q; exact q
      · rename_i h1
        rw [if_pos (by omega)] at q; exact q
    obtain rfl | rfl := seq_cases hx
    all_goals
      simp
      split
      · rename_i h1; rw [if_pos h1] at key; exact key
      · rename_i h1; rw [if_neg h1] at key
        exact ⟨rfl, .int (t.length : Nat), look_deeds C t, _, xs, _, ⟨rfl, rfl⟩, rfl, hpl, key⟩
theorem m_check_log : Sem0 2 3 (sp_check_log C) (x_check_log K C) := by
  rintro hl ds Ψ Ξ - ⟨h, t, x, rfl, hp, q⟩
  cases none_of h
  simp only [x_check_log, wSeq, wNext, wBreak, wCont, wAsg, wRet, wRetN, wDrop, wIfS, wRetO, wgName, wgNil, wgCons, wgTup, wAsgG, wOp, wUn, wCB, wC, wVar, wNil, wCons, wTup, wLst, wB, wAnd, wOr, wNot, wAndV, wOrV, wNotV, wIf, wChain, wAdd, wSub, wMul, wMod, wDiv, wPow, wCmp, wIsN, DL.isNon, wLen, wAbs, wMin2, wMax2, wInt, wFld, wFldO, wM1, wCallA, wCallB, wMake, wRaise, wNeg, wIxO, wLenO, wApp, wSetO, wFset, wPar, wParO, wAsgO, woLst, woCall, wFor, wiSeq, wiRg1, wiEnum, dEnds, outs, args, List.getElem?_cons_zero, List.getElem?_cons_succ, List.nil_append, List.cons_append, List.map_cons, List.map_nil, List.set_cons_zero, List.set_cons_succ, List.append_nil, List.replicate_zero, List.replicate_succ, Option.map_none, Option.map_some, List.length_cons, List.length_nil, sp_log_fault]
  refine ⟨trivial, trivial, trivial, t, x, rfl, hp, ?_⟩
  have hx : logF t.length x = .non ∧ (∃ xs, seqD x = some xs) ∨ ∃ i, logF t.length x = .int i := by
    unfold logF
    cases hx : seqD x with
    | none => exact .inr ⟨_, rfl⟩
    | some xs =>
      simp only
      split
      · exact (fault_is (t.length : Int) xs 0).elim (fun z => .inl ⟨z.1, xs, rfl⟩) fun ⟨j, z, _⟩ => .inr ⟨_, z⟩
      · exact .inr ⟨_, rfl⟩
  rcases hx with ⟨e, xs, hs⟩ | ⟨i, e⟩
  · rw [e] at q ⊢
    refine ⟨trivial, true, rfl, ?_⟩
    have : tupD x = .tup xs := by unfold tupD; rw [hs]; rfl
    simp only [this] at q
    obtain rfl | rfl := seq_cases hs <;> exact q
  · rw [e] at q ⊢
    exact ⟨trivial, false, rfl, q⟩
theorem m_check_told_bound : Sem0 1 1 (sp_check_told_bound C) (x_check_told_bound K C) := by
  rintro hl ds Ψ Ξ - ⟨h, x, rfl, hp, q⟩
  cases none_of h
  refine ⟨rfl, rfl, rfl, x, rfl, hp, ?_⟩
  show if (!posD x) = true then _ else _
  cases hb : posD x <;> rw [hb] at q <;> exact q
theorem non_no {x : D} (h : plain x) : DL.isNon x = some (isNo x) := by cases x <;> first | rfl | exact absurd h (by simp [plain, tyN])
theorem m_check_bound : Sem0 1 1 (sp_check_bound C) (x_check_bound K C) := by
  rintro hl ds Ψ Ξ - ⟨h, x, rfl, hp, q⟩
  cases none_of h
  refine ⟨rfl, isNo x, non_no hp, ?_⟩
  unfold bndOk at q
  show if (!isNo x) = true then _ else _
  cases hn : isNo x with
  | true => rw [hn] at q; exact q
  | false =>
    rw [hn, Bool.false_or] at q
    exact ⟨rfl, rfl, rfl, x, rfl, hp, q⟩
theorem m_check_modulus : Sem0 1 1 (sp_check_modulus C) (x_check_modulus K C) := by
  rintro hl ds Ψ Ξ - ⟨h, x, rfl, hp, q⟩
  cases none_of h
  refine ⟨rfl, rfl, rfl, x, rfl, hp, ?_⟩
  show if (!posD x) = true then _ else _
  cases x <;> first | exact q | skip
  rename_i v
  change (if (decide (0 < v) && decide (v ≤ 200)) = true then Ψ .non none else Ξ C.Refused "at" (.int v)) at q
  show if (!decide (0 < v)) = true then _ else _
  cases h0 : decide (0 < v) with
  | false => rw [h0] at q; exact q
  | true =>
    rw [h0, Bool.true_and] at q
    show if decide ((200 : Int) < v) = true then _ else _
    have e : decide ((200 : Int) < v) = !decide (v ≤ 200) := by rw [← decide_not]; exact decide_eq_decide.mpr (by omega)
    rw [e]
    cases h1 : decide (v ≤ 200) <;> rw [h1] at q <;> exact q
theorem shl_1 (p : Nat) : (1 : Int) * 2 ^ (Int.toNat (p : Nat)) = ((2 ^ p : Nat) : Int) := by rw [Int.toNat_natCast]; simp
theorem and_bit (n p : Nat) : n &&& 2 ^ p ≠ 0 ↔ n.testBit p = true := by
  constructor
  · intro h
    obtain ⟨i, hi⟩ := Nat.exists_testBit_of_ne_zero h
    rw [Nat.testBit_and, Nat.testBit_two_pow, Bool.and_eq_true, decide_eq_true_eq] at hi
    rw [hi.2]; exact hi.1
  · intro h e
    have : (n &&& 2 ^ p).testBit p = true := by rw [Nat.testBit_and, Nat.testBit_two_pow, h]; simp
    rw [e, Nat.zero_testBit] at this
    cases this
theorem m_is_in : Sem0 2 2 (sp_is_in C) (x_is_in K C) := by
  rintro hl ds Ψ Ξ - ⟨h, n, p, rfl, hp, q⟩
  cases none_of h
  refine ⟨⟨by omega, by show (1 : Int) + (p : Nat) ≤ 134217728; omega⟩, ?_⟩
  have go : ∀ z : Int, z = ((2 ^ p : Nat) : Int) → wEq true (.int (Builtin.bitAnd (n : Nat) z)) (.int 0) (fun z => Ψ z none) := by
    rintro z rfl
    rw [band_nat]
    refine eq_ints ?_
    have e : (!decide (((n &&& 2 ^ p : Nat) : Int) = 0)) = n.testBit p := by
      rw [Bool.eq_iff_iff]
      simp only [Bool.not_eq_true', decide_eq_false_iff_not]
      rw [← and_bit]
      omega
    rw [e]; exact q
  exact go _ (shl_1 p)
theorem at_rows {t : Tbl} {d : Nat} {r : List Nat} (h : t[d]? = some r) : atI (t.map rowD) (d : Nat) = some (rowD r) := by
  obtain ⟨h1, h2⟩ := List.getElem?_eq_some_iff.mp h
  unfold atI ixN
  rw [if_pos (by omega), if_pos (by rw [List.length_map]; omega)]
  simp [h1, h2]
theorem step_ix {t : Tbl} (g : Good t) {d s : Nat} (hd : d < t.length) (hs : s < wd t) : ∃ x, atI (t.map rowD) (d : Nat) = some x ∧ ∃ r, x = rowD r ∧ atI (numsD r) (s : Nat) = some (.int (stepN t s d : Nat)) := by
  obtain ⟨_, r, hr, e⟩ := g.step hd hs
  have hl : r.length = wd t := (g.row r (List.mem_of_getElem? hr)).2.2.1
  exact ⟨rowD r, at_rows hr, r, rfl, by rw [e]; exact at_cell (by rw [hl]; exact hs)⟩
theorem plain_nums {y : D} {ns : List Nat} (h : seqD y = some (numsD ns)) : plain2 y := by
  refine ⟨by obtain rfl | rfl := seq_cases h <;> rfl, fun xs hx z hz => ?_⟩
  rw [h] at hx; cases hx
  obtain ⟨n, _, rfl⟩ := List.mem_map.mp hz
  rfl
theorem log_ok {t : Tbl} {y : D} {ns : List Nat} (h : seqD y = some (numsD ns)) (h1 : ∀ n ∈ ns, n < t.length) (h2 : ns.length ≤ 10000) : logF t.length y = .non ∧ tupD y = .tup (numsD ns) := by
  constructor
  · unfold logF
    rw [h]
    have e : (numsD ns).length = ns.length := List.length_map ..
    show (if (numsD ns).length ≤ 10000 then faultD (t.length : Int) (numsD ns) 0 else _) = _
    rw [if_pos (by rw [e]; exact h2)]
    exact fault_none _ _ _ h1
  · unfold tupD; rw [h]; rfl
theorem led_cons (t : Tbl) (s d : Nat) (ns : List Nat) : ledN t s (d :: ns) = ledN t (stepN t s d) ns := rfl
theorem m_state_after : Sem0 3 4 (sp_state_after C) (x_state_after K C) := by
  rintro hl ds Ψ Ξ - ⟨h, t, s, ns, y, g, hs, rfl, hy, -, hn, hlen, q⟩
  cases none_of h
  have hb : belowD (.int (s : Nat)) (wd t : Nat) = true := by
    show (decide (0 ≤ (s : Int)) && decide ((s : Int) < (wd t : Nat))) = true
    rw [decide_eq_true (by omega), decide_eq_true (by omega)]; rfl
  obtain ⟨e1, e2⟩ := log_ok hy hn hlen
  refine ⟨rfl, rfl, rfl, t, _, rfl, rfl, ?_⟩
  rw [if_pos hb]
  refine ⟨rfl, rfl, rfl, t, y, rfl, plain_nums hy, ?_⟩
  rw [e1, e2]
  show wForL (wgName 3) (wAsg 1 (wOp wIx (wOp wIx (wFld C.Machine "tables" (wVar 0)) (wVar 3)) (wVar 1))) (numsD ns) [.val (mach C t), .val (.int (s : Nat)), .val y, .un] _
  refine for_inv (fun ds ρ => ∃ (rest : List Nat) (c : Nat) (s3 : Sl), ds = numsD rest ∧ c < wd t ∧ (∀ n ∈ rest, n < t.length) ∧ ledN t c rest = ledN t s ns ∧ ρ = [.val (mach C t), .val (.int (c : Nat)), .val y, s3]) (fun d ds ρ N h hN => ?_) (fun ρ h => ?_) _ _ ⟨ns, s, .un, rfl, hs, hn, rfl, rfl⟩
  · obtain ⟨rest, c, s3, h1, h2, h3, h4, rfl⟩ := h
    obtain ⟨n, rest, rfl, rfl, rfl⟩ := nums_cons_of h1
    have hd := h3 n List.mem_cons_self
    obtain ⟨x, k1, r, rfl, k2⟩ := step_ix g hd h2
    refine ⟨rfl, .tup (t.map rowD), look_tb C t, _, k1, _, k2, ?_⟩
    exact hN _ ⟨rest, stepN t c n, _, rfl, (g.step hd h2).1, fun m hm => h3 m (List.mem_cons_of_mem _ hm), h4, rfl⟩
  · obtain ⟨rest, c, s3, h1, h2, h3, h4, rfl⟩ := h
    cases nums_nil_of h1
    show Ψ (.int (c : Nat)) none
    have : c = ledN t s ns := h4
    rw [this]; exact q
theorem m_led_by : Sem0 3 4 (sp_led_by C) (x_led_by K C) := by
  rintro hl ds Ψ Ξ - ⟨h, t, s, ns, y, g, hs, rfl, hy, hn, hlen, q⟩
  cases none_of h
  exact ⟨rfl, rfl, rfl, t, s, ns, y, g, hs, rfl, hy, by omega, hn, hlen, q⟩
theorem m_law_behind : Sem0 3 4 (sp_law_behind C) (x_law_behind K C) := by
  rintro hl ds Ψ Ξ - ⟨h, t, s, ns, y, g, hs, hn, rfl, hy, q⟩
  cases none_of h
  have key : wForL (wgName 3) (wAsg 1 (wOp wIx (wOp wIx (wVar 0) (wVar 3)) (wVar 1))) (numsD ns) [.val (tbsD t), .val (.int (s : Nat)), .val y, .un] { dEnds none Ψ Ξ with nx := fun ρ => wRet (wVar 1) ρ (dEnds none Ψ Ξ) } := by
    refine for_inv (fun ds ρ => ∃ (rest : List Nat) (c : Nat) (s3 : Sl), ds = numsD rest ∧ c < wd t ∧ (∀ n ∈ rest, n < t.length) ∧ ledN t c rest = ledN t s ns ∧ ρ = [.val (tbsD t), .val (.int (c : Nat)), .val y, s3]) (fun d ds ρ N h hN => ?_) (fun ρ h => ?_) _ _ ⟨ns, s, .un, rfl, hs, hn, rfl, rfl⟩
    · obtain ⟨rest, c, s3, h1, h2, h3, h4, rfl⟩ := h
      obtain ⟨n, rest, rfl, rfl, rfl⟩ := nums_cons_of h1
      have hd := h3 n List.mem_cons_self
      obtain ⟨x, k1, r, rfl, k2⟩ := step_ix g hd h2
      refine ⟨_, k1, _, k2, ?_⟩
      exact hN _ ⟨rest, stepN t c n, _, rfl, (g.step hd h2).1, fun m hm => h3 m (List.mem_cons_of_mem _ hm), h4, rfl⟩
    · obtain ⟨rest, c, s3, h1, h2, h3, h4, rfl⟩ := h
      cases nums_nil_of h1
      show Ψ (.int (c : Nat)) none
      have : c = ledN t s ns := h4
      rw [this]; exact q
  obtain rfl | rfl := seq_cases hy <;> exact key
end
end K25
set_option Elab.async false
set_option autoImplicit false
set_option linter.all false
set_option maxRecDepth 100000
set_option maxHeartbeats 3900000
namespace K25
open DL L2 PyProof.Rows PySem PySem.Spec
section
variable {K : Fg} {C : Cs}
theorem ix_of {n q : Nat} (h : q < n) : ixN n (q : Nat) = some q := by
  unfold ixN
  rw [if_pos (by omega), if_pos (by omega)]
  simp
theorem nums_len (l : List Nat) : (numsD l).length = l.length := List.length_map ..
theorem en_nums (ns : List Nat) : enD (numsD ns) = ns.zipIdx.map fun p => D.tup [.int (p.2 : Nat), .int (p.1 : Nat)] := by
  unfold enD numsD
  rw [List.zipIdx_map, List.map_map]
  rfl
/-- by pair the earlier pairs below a place -/
def Back (ns : List Nat) (i : Nat) (E : Nat → Prop) (bs : List Nat) : Prop := bs.length = ns.length ∧ ∀ q b, bs[q]? = some b → LotIs b fun p => (p < i ∧ ∃ n, ns[p]? = some n ∧ n.testBit q = true) ∨ (p = i ∧ E q)
theorem Back.put {ns : List Nat} {i q b : Nat} {E : Nat → Prop} {bs : List Nat} (h : Back ns i E bs) (hi : i < 200) (hb : bs[q]? = some b) : Back ns i (fun z => E z ∨ z = q) (bs.set q (b ||| 2 ^ i)) := by
  refine ⟨by rw [List.length_set]; exact h.1, fun q' b' hb' => ?_⟩
  rw [List.getElem?_set] at hb'
  by_cases e : q = q'
  · subst e
    obtain ⟨hlt, -⟩ := List.getElem?_eq_some_iff.mp hb
    rw [if_pos rfl, if_pos hlt] at hb'
    cases hb'
    obtain ⟨h1, h2⟩ := h.2 q b hb
    refine ⟨Nat.or_lt_two_pow h1 (Nat.pow_lt_pow_right (by omega) hi), fun p => ?_⟩
    rw [Nat.testBit_or, Nat.testBit_two_pow, Bool.or_eq_true, decide_eq_true_eq, h2]
    constructor
    · rintro ((z | z) | z)
      · exact .inl z
      · exact .inr ⟨z.1, .inl z.2⟩
      · exact .inr ⟨z.symm, .inr rfl⟩
    · rintro (z | ⟨z1, z2⟩)
      · exact .inl (.inl z)
      · exact .inr z1.symm
  · rw [if_neg e] at hb'
    obtain ⟨h1, h2⟩ := h.2 q' b' hb'
    refine ⟨h1, fun p => (h2 p).trans ?_⟩
    constructor
    · rintro (z | z)
      · exact .inl z
      · exact .inr ⟨z.1, .inl z.2⟩
    · rintro (z | ⟨z1, z2⟩)
      · exact .inl z
      · rcases z2 with z2 | z2
        · exact .inr ⟨z1, z2⟩
        · exact absurd z2.symm e
theorem Back.next {ns : List Nat} {i n : Nat} {E : Nat → Prop} {bs : List Nat} (h : Back ns i E bs) (hn : ns[i]? = some n) (hE : ∀ q, E q ↔ n.testBit q = true) : Back ns (i + 1) (fun _ => False) bs := by
  refine ⟨h.1, fun q b hb => ?_⟩
  obtain ⟨h1, h2⟩ := h.2 q b hb
  refine ⟨h1, fun p => (h2 p).trans ?_⟩
  constructor
  · rintro (⟨z1, z2⟩ | ⟨rfl, z2⟩)
    · exact .inl ⟨by omega, z2⟩
    · exact .inl ⟨by omega, n, hn, (hE q).mp z2⟩
  · rintro (⟨z1, z2⟩ | z)
    · by_cases e : p = i
      · subst e
        obtain ⟨n', k1, k2⟩ := z2
        rw [hn] at k1; cases k1
        exact .inr ⟨rfl, (hE q).mpr k2⟩
      · exact .inl ⟨by omega, z2⟩
    · exact z.2.elim
abbrev el_b : Cs → WS := fun C => wFor (wiSeq (wCallA 1 0 (sp_members C) (fun ds _ => ds) (wCons (wVar 3) wNil) wNil)) (wgName 4) (wAugO Builtin.bitOr 1 (wVar 4) (wOp wShl (wC (.int 1)) (wVar 2)))
theorem el_one {ns : List Nat} (g : LotsOk ns) {i n : Nat} (hn : ns[i]? = some n) {bs : List Nat} (hb : Back ns i (fun _ => False) bs) {l : Addr} {s4 : Sl} {Δ : DE}
    (q : ∀ bs s, Back ns (i + 1) (fun _ => False) bs → Δ.nx [.val (.lst (numsD ns)), .own l (.l (numsD bs)), .val (.int (i : Nat)), .val (.int (n : Nat)), s]) :
    el_b C [.val (.lst (numsD ns)), .own l (.l (numsD bs)), .val (.int (i : Nat)), .val (.int (n : Nat)), s4] Δ := by
  obtain ⟨hi, e⟩ := List.getElem?_eq_some_iff.mp hn
  have hmem : n ∈ ns := List.mem_of_getElem? hn
  have h200 := g.len
  refine ⟨rfl, rfl, rfl, n, rfl, g.lt n hmem, fun ms hm1 hm2 _ => ?_⟩
  show wForL (wgName 4) (wAugO Builtin.bitOr 1 (wVar 4) (wOp wShl (wC (.int 1)) (wVar 2))) (numsD ms) [.val (.lst (numsD ns)), .own l (.l (numsD bs)), .val (.int (i : Nat)), .val (.int (n : Nat)), s4] Δ
  refine for_inv (fun ds ρ => ∃ (dn rest bs : List Nat) (s : Sl), ds = numsD rest ∧ dn ++ rest = ms ∧ Back ns i (· ∈ dn) bs ∧ ρ = [.val (.lst (numsD ns)), .own l (.l (numsD bs)), .val (.int (i : Nat)), .val (.int (n : Nat)), s]) (fun d ds ρ N h hN => ?_) (fun ρ h => ?_) _ _ ⟨[], ms, bs, s4, rfl, rfl, ⟨hb.1, fun q b hq => (hb.2 q b hq).congr fun p => by simp⟩, rfl⟩
  · obtain ⟨dn, rest, bs, s, h1, h2, h3, rfl⟩ := h
    obtain ⟨p, rest, rfl, rfl, rfl⟩ := nums_cons_of h1
    have hp : n.testBit p = true := (hm2 p).mp (by rw [← h2]; simp)
    have hlt : p < bs.length := by rw [h3.1]; exact g.bit n hmem p hp
    have hget : bs[p]? = some bs[p] := List.getElem?_eq_getElem hlt
    refine ⟨⟨l, _, rfl⟩, (p : Nat), (bs[p] : Nat), rfl, by omega, at_nums hget, ⟨by omega, by show (1 : Int) + (i : Nat) ≤ 134217728; omega⟩, ?_⟩
    refine ⟨p, by rw [nums_len]; exact ix_of hlt, ?_⟩
    have go : ∀ z : Int, z = ((2 ^ i : Nat) : Int) → N [.val (.lst (numsD ns)), .own l (.l ((numsD bs).set p (.int (Builtin.bitOr (bs[p] : Nat) z)))), .val (.int (i : Nat)), .val (.int (n : Nat)), .val (.int (p : Nat))] := by
      rintro z rfl
      rw [bor_nat]
      refine hN _ ⟨dn ++ [p], rest, bs.set p (bs[p] ||| 2 ^ i), .val (.int (p : Nat)), rfl, by simp [h2], ?_, ?_⟩
      · refine ⟨(h3.put (by omega) hget).1, fun q b hq => ((h3.put (by omega) hget).2 q b hq).congr fun z => ?_⟩
        simp
      · unfold numsD; rw [List.map_set]
    exact go _ (shl_1 i)
  · obtain ⟨dn, rest, bs, s, h1, h2, h3, rfl⟩ := h
    cases nums_nil_of h1
    rw [List.append_nil] at h2
    subst h2
    exact q bs s (h3.next hn hm2)
theorem m_earlier_lots : Sem0 1 5 (sp_earlier_lots C) (x_earlier_lots K C) := by
  rintro hl ds Ψ Ξ - ⟨h, ns, rfl, g, q⟩
  cases none_of h
  have h200 := g.len
  have hb := big
  have e0 : ∀ k : Nat, (List.replicate k [D.int 0]).flatten = numsD (List.replicate k 0) := fun k => by
    induction k with
    | zero => rfl
    | succ k ih => rw [List.replicate_succ, List.flatten_cons, ih]; rfl
  refine ⟨by show 1 ≤ sizeLine; omega, ?_⟩
  show -(2 ^ 63) ≤ (((numsD ns).length : Nat) : Int) ∧ _
  refine ⟨by rw [nums_len]; omega, by show (((numsD ns).length : Nat) : Int) < 2 ^ 63; rw [nums_len]; omega, ?_, fun l => ?_⟩
  · show [D.int 0].length * (Int.toNat ((numsD ns).length : Nat)) ≤ sizeLine
    rw [Int.toNat_natCast, nums_len]; show 1 * ns.length ≤ sizeLine; omega
  show wForL (wgTup 2 (wgCons (wgName 2) (wgCons (wgName 3) wgNil))) (el_b C) (enD (numsD ns)) [.val (.lst (numsD ns)), .own l (.l (List.replicate (Int.toNat ((numsD ns).length : Nat)) [D.int 0]).flatten), .un, .un, .un] _
  rw [Int.toNat_natCast, nums_len, e0, en_nums]
  refine for_inv (fun ds ρ => ∃ (i : Nat) (bs : List Nat) (s2 s3 s4 : Sl), ds = ((ns.drop i).zipIdx i).map (fun p => D.tup [.int (p.2 : Nat), .int (p.1 : Nat)]) ∧ i ≤ ns.length ∧ Back ns i (fun _ => False) bs ∧ ρ = [.val (.lst (numsD ns)), .own l (.l (numsD bs)), s2, s3, s4]) (fun d ds ρ N h hN => ?_) (fun ρ h => ?_) _ _ ⟨0, _, .un, .un, .un, by rw [List.drop_zero], by omega, ⟨List.length_replicate .., fun q b hq => ?_⟩, rfl⟩
  · obtain ⟨i, bs, s2, s3, s4, h1, h2, h3, rfl⟩ := h
    by_cases hi : i < ns.length
    · rw [List.drop_eq_getElem_cons hi, List.zipIdx_cons, List.map_cons] at h1
      injection h1 with h4 h5
      subst h4 h5
      refine ⟨rfl, rfl, ?_⟩
      exact el_one g (List.getElem?_eq_getElem hi) h3 fun bs s hbk => hN _ ⟨i + 1, bs, _, _, s, rfl, by omega, hbk, rfl⟩
    · rw [List.drop_eq_nil_of_le (by omega)] at h1
      cases h1
  · obtain ⟨i, bs, s2, s3, s4, h1, h2, h3, rfl⟩ := h
    have hi : i = ns.length := by
      by_cases hi : i < ns.length
      · rw [List.drop_eq_getElem_cons hi, List.zipIdx_cons, List.map_cons] at h1; cases h1
      · omega
    subst hi
    show Ψ (.lst (numsD bs)) none
    refine q bs h3.1 fun q b hq => (h3.2 q b hq).congr fun p => ?_
    constructor
    · rintro (z | z)
      · exact z.2
      · exact z.2.elim
    · rintro ⟨n, z1, z2⟩
      exact .inl ⟨(List.getElem?_eq_some_iff.mp z1).1, n, z1, z2⟩
  · obtain ⟨hlt, e⟩ := List.getElem?_eq_some_iff.mp hq
    rw [List.getElem_replicate] at e
    subst e
    exact ⟨Nat.two_pow_pos 200, fun p => by simp⟩
theorem ifI {wt : WT} {w u : WS} {ρ : Rho} {Δ : DE} (h : wt ρ Δ.xc fun b ρ1 => if b = true then w ρ1 Δ else u ρ1 Δ) : wIfS wt w u ρ Δ := h
theorem ev_mod {wa : WE} {ρ ρ1 : Rho} {a c : Int} (h : Ev wa ρ (.int a) ρ1) (hc : 0 < c) : Ev (wOp wMod wa (wC (.int c))) ρ (.int (a % c)) ρ1 := fun χ Φ q => h χ _ ⟨hc, q⟩
/-! steps -/
theorem steps_add (ns : List Nat) : ∀ (a b p q : Nat), StepsN ns (a + b) p q ↔ ∃ r, StepsN ns a p r ∧ StepsN ns b r q
  | 0, b, p, q => by rw [Nat.zero_add]; exact ⟨fun h => ⟨p, rfl, h⟩, fun ⟨r, h1, h2⟩ => by cases (h1 : p = r); exact h2⟩
  | a + 1, b, p, q => by
    rw [Nat.add_right_comm]
    constructor
    · rintro ⟨r, n, h1, h2, h3⟩
      obtain ⟨z, h4, h5⟩ := (steps_add ns a b r q).mp h3
      exact ⟨z, ⟨r, n, h1, h2, h4⟩, h5⟩
    · rintro ⟨z, ⟨r, n, h1, h2, h4⟩, h5⟩
      exact ⟨r, n, h1, h2, (steps_add ns a b r q).mpr ⟨z, h4, h5⟩⟩
theorem steps_1 (ns : List Nat) (p q : Nat) : StepsN ns 1 p q ↔ ∃ n, ns[p]? = some n ∧ n.testBit q = true := by
  constructor
  · rintro ⟨r, n, h1, h2, h3⟩; cases (h3 : r = q); exact ⟨n, h1, h2⟩
  · rintro ⟨n, h1, h2⟩; exact ⟨q, n, h1, h2, rfl⟩
/-- a table of lots of so many steps -/
def Behind (ns : List Nat) (k : Nat) (js : List Nat) : Prop := js.length = ns.length ∧ ∀ p j, js[p]? = some j → LotIs j (StepsN ns k p)
theorem behind_1 {ns : List Nat} (g : LotsOk ns) : Behind ns 1 ns := ⟨rfl, fun p j h => ⟨g.lt j (List.mem_of_getElem? h), fun q => by
  rw [steps_1]
  exact ⟨fun z => ⟨j, h, z⟩, fun ⟨n, z1, z2⟩ => by rw [h] at z1; cases z1; exact z2⟩⟩⟩
theorem steps_lt {ns : List Nat} (g : LotsOk ns) {p q : Nat} : ∀ {k : Nat}, 1 ≤ k → StepsN ns k p q → q < ns.length
  | k + 1, _, h => by
    obtain ⟨r, h1, h2⟩ := (steps_add ns k 1 p q).mp h
    obtain ⟨n, h3, h4⟩ := (steps_1 ns r q).mp h2
    exact g.bit n (List.mem_of_getElem? h3) q h4
theorem Behind.ok {ns js : List Nat} {k : Nat} (g : LotsOk ns) (hk : 1 ≤ k) (h : Behind ns k js) : LotsOk js := by
  refine ⟨by rw [h.1]; exact g.len, fun n hn => ?_, fun n hn q hq => ?_⟩
  · obtain ⟨i, hi⟩ := List.getElem?_of_mem hn
    exact (h.2 i n hi).lt
  · obtain ⟨i, hi⟩ := List.getElem?_of_mem hn
    rw [h.1]
    exact steps_lt g hk (((h.2 i n hi).bit q).mp hq)
theorem lc_led {ns ts js : List Nat} {a b i : Nat} (g : LotsOk ns) (ha : 1 ≤ a) (hb : 1 ≤ b) (hj : Behind ns a js) (ht : Behind ns b ts) {ρ : Rho} (h4 : ∃ s0 s1 s2 s3, ρ = [s0, s1, s2, s3, .un]) (hi : i < 4) (hti : ρ[i]? = some (.val (.lst (numsD ts)))) {Φ : List D → Rho → Prop}
    (q : ∀ vs, Behind ns (a + b) vs → Φ (numsD vs) ρ) : wLcL (wgName 4) wTrue (wCallA 2 0 (sp_led_lot C) (fun ds _ => ds) (wCons (wVar i) (wCons (wVar 4) wNil)) wNil) [4] (numsD js) [] ρ Φ := by
  have hlen := g.len
  have hjo := hj.ok g ha
  have hto := ht.ok g hb
  obtain ⟨s0, s1, s2, s3, rfl⟩ := h4
  refine lc_nda _ (fun n : Nat => D.int (n : Nat)) (fun j y => ∃ v : Nat, y = .int (v : Nat) ∧ LotIs v fun q => ∃ p n, j.testBit p = true ∧ ts[p]? = some n ∧ n.testBit q = true) js (by rw [hj.1]; have := big; omega) (fun j hj' N hN => ?_) fun ys hys => ?_
  · have hv : wVar i [s0, s1, s2, s3, .val (.int (j : Nat))] χ0 (fun x ρ1 => wCons (wVar 4) wNil ρ1 χ0 fun xs ρ2 => wNil ρ2 χ0 fun ys ρ3 => (x :: xs).length = 2 ∧ ys.length = 0 ∧ sp_led_lot C none (x :: xs) (fun d o => N d (wipeR ρ3 [4])) fun _ _ _ => False) := by
      refine ev_var (d := .lst (numsD ts)) ?_ _ _ ?_
      · rw [← hti]
        match i, hi with
        | 0, _ => rfl
        | 1, _ => rfl
        | 2, _ => rfl
        | 3, _ => rfl
      · refine ⟨rfl, rfl, rfl, ts, j, rfl, by rw [ht.1]; exact hlen, hto.lt, hjo.lt j hj', fun p hp => ?_, fun v hv => ?_⟩
        · rw [ht.1, ← hj.1]; exact hjo.bit j hj' p hp
        · exact hN _ ⟨v, rfl, hv⟩
    exact hv
  · have : ∃ vs : List Nat, ys = numsD vs ∧ Paired (fun j v => LotIs v fun q => ∃ p n, j.testBit p = true ∧ ts[p]? = some n ∧ n.testBit q = true) js vs := by
      clear q hj hjo
      induction hys with
      | nil => exact ⟨[], rfl, .nil⟩
      | cons h t ih =>
        obtain ⟨n, rfl, hn⟩ := h
        obtain ⟨ns, rfl, h2⟩ := ih
        exact ⟨n :: ns, rfl, .cons hn h2⟩
    obtain ⟨vs, rfl, hp⟩ := this
    refine q vs ⟨by rw [← paired_len hp]; exact hj.1, fun p v hv => ?_⟩
    obtain ⟨hlt, -⟩ := List.getElem?_eq_some_iff.mp hv
    have hlt' : p < js.length := by rw [paired_len hp]; exact hlt
    obtain ⟨v', e1, e2⟩ := paired_at hp (List.getElem?_eq_getElem hlt')
    rw [hv] at e1; cases e1
    refine e2.congr fun q => ?_
    rw [steps_add]
    have hjp := hj.2 p _ (List.getElem?_eq_getElem hlt')
    constructor
    · rintro ⟨r, n, z1, z2, z3⟩
      exact ⟨r, (hjp.bit r).mp z1, ((ht.2 r n z2).bit q).mp z3⟩
    · rintro ⟨r, z1, z2⟩
      have hr : r < ts.length := by rw [ht.1]; exact steps_lt g ha z1
      have hget : ts[r]? = some ts[r] := List.getElem?_eq_getElem hr
      exact ⟨r, ts[r], (hjp.bit r).mpr z1, hget, ((ht.2 r _ hget).bit q).mpr z2⟩
abbrev lb_t : Cs → WS := fun C => wSeq (wIfS (wB (wOp (wEq false) (wOp wMod (wVar 1) (wC (.int 2))) (wC (.int 1)))) (wRet (wLc (wiSeq (wVar 3)) (wgName 4) wTrue (wCallA 2 0 (sp_led_lot C) (fun ds _ => ds) (wCons (wVar 0) (wCons (wVar 4) wNil)) wNil) [4])) wNext) (wRet (wVar 3))
theorem m_lots_behind (d : Nat) : Sem0 2 5 (spR_lots_behind C (d + 1)) (x_lots_behind K C (spR_lots_behind C d)) := by
  rintro hl ds Ψ Ξ - ⟨h, ns, m, rfl, g, hm, hd, q⟩
  cases none_of h
  refine seqI (ifI ?_)
  refine te_eq (ev_var (i := 1) (d := .int (m : Nat)) (ρ := [.val (.lst (numsD ns)), .val (.int (m : Nat)), .un, .un, .un]) rfl) (ev_c (d := .int 1)) _ _ ?_
  by_cases h1 : m = 1
  · subst h1
    exact q ns rfl (behind_1 g).2
  show if decide ((m : Int) = 1) = true then _ else _
  rw [decide_eq_false (by omega)]
  have hdiv : ((m : Nat) : Int) / 2 = ((m / 2 : Nat) : Int) := by omega
  have hmod : ((m : Nat) : Int) % 2 = ((m % 2 : Nat) : Int) := by omega
  have key : ∀ z : Int, z = ((m / 2 : Nat) : Int) → spR_lots_behind C d none [.lst (numsD ns), .int z] (fun x o => wSeq (wAsg 3 (wLc (wiSeq (wVar 2)) (wgName 4) wTrue (wCallA 2 0 (sp_led_lot C) (fun ds _ => ds) (wCons (wVar 2) (wCons (wVar 4) wNil)) wNil) [4])) (wSeq (wIfS (wB (wOp (wEq false) (wOp wMod (wVar 1) (wC (.int 2))) (wC (.int 1)))) (wRet (wLc (wiSeq (wVar 3)) (wgName 4) wTrue (wCallA 2 0 (sp_led_lot C) (fun ds _ => ds) (wCons (wVar 0) (wCons (wVar 4) wNil)) wNil) [4])) wNext) (wRet (wVar 3)))
      [.val (.lst (numsD ns)), .val (.int (m : Nat)), .val x, .un, .un] (dEnds none Ψ Ξ)) fun _ _ _ => False := by
    rintro z rfl
    rw [Nat.pow_succ] at hd
    refine ⟨rfl, ns, m / 2, rfl, g, by omega, by omega, fun js hj1 hj2 => ?_⟩
    have hj : Behind ns (m / 2) js := ⟨hj1, hj2⟩
    show wLcL (wgName 4) wTrue (wCallA 2 0 (sp_led_lot C) (fun ds _ => ds) (wCons (wVar 2) (wCons (wVar 4) wNil)) wNil) [4] (numsD js) [] [.val (.lst (numsD ns)), .val (.int (m : Nat)), .val (.lst (numsD js)), .un, .un] _
    refine lc_led g (by omega) (by omega) hj hj ⟨_, _, _, _, rfl⟩ (by omega) rfl fun vs hvs => ?_
    show lb_t C [.val (.lst (numsD ns)), .val (.int (m : Nat)), .val (.lst (numsD js)), .val (.lst (numsD vs)), .un] (dEnds none Ψ Ξ)
    refine seqI (ifI ?_)
    refine te_eq (ρ := [.val (.lst (numsD ns)), .val (.int (m : Nat)), .val (.lst (numsD js)), .val (.lst (numsD vs)), .un]) (ev_mod (ev_var (i := 1) (d := .int (m : Nat)) rfl) (c := 2) (by decide)) (ev_c (d := .int 1)) _ _ ?_
    show if decide (((m : Nat) : Int) % 2 = 1) = true then _ else _
    by_cases h2 : m % 2 = 1
    · rw [if_pos (decide_eq_true (by omega))]
      show wLcL (wgName 4) wTrue (wCallA 2 0 (sp_led_lot C) (fun ds _ => ds) (wCons (wVar 0) (wCons (wVar 4) wNil)) wNil) [4] (numsD vs) [] [.val (.lst (numsD ns)), .val (.int (m : Nat)), .val (.lst (numsD js)), .val (.lst (numsD vs)), .un] _
      refine lc_led g (by omega) (by omega) hvs (behind_1 g) ⟨_, _, _, _, rfl⟩ (by omega) rfl fun us hus => ?_
      have e : m / 2 + m / 2 + 1 = m := by omega
      rw [e] at hus
      exact q us hus.1 hus.2
    · rw [if_neg (by rw [decide_eq_false (by omega)]; exact Bool.false_ne_true)]
      have e : m / 2 + m / 2 = m := by omega
      rw [e] at hvs
      exact q vs hvs.1 hvs.2
  exact ⟨⟨by decide, by decide⟩, rfl, rfl, key _ hdiv⟩
end
end K25
set_option Elab.async false
set_option autoImplicit false
set_option linter.all false
set_option maxRecDepth 100000
set_option maxHeartbeats 3900000
namespace K25
open DL L2 PyProof.Rows PySem PySem.Spec
section
variable {K : Fg} {C : Cs}
theorem sub_and (v r : Nat) : ∀ q, (v - (v &&& r)).testBit q = (v.testBit q && !r.testBit q) := by
  intro q
  have h2 : (v &&& r) % 2 = 1 ↔ v % 2 = 1 ∧ r % 2 = 1 := Nat.and_mod_two_eq_one
  have h1 : (v &&& r) / 2 = v / 2 &&& r / 2 := Nat.and_div_two
  have h3 : v &&& r ≤ v := Nat.and_le_left
  have h4 : v / 2 &&& r / 2 ≤ v / 2 := Nat.and_le_left
  induction q generalizing v r with
  | zero =>
    rw [Nat.testBit_zero, Nat.testBit_zero, Nat.testBit_zero, Bool.eq_iff_iff]
    simp only [Bool.and_eq_true, Bool.not_eq_true', decide_eq_true_eq, decide_eq_false_iff_not]
    omega
  | succ q ih =>
    rw [Nat.testBit_succ, Nat.testBit_succ, Nat.testBit_succ]
    have e : (v - (v &&& r)) / 2 = v / 2 - (v / 2 &&& r / 2) := by
      rw [← h1]
      rw [← h1] at h4
      have := Nat.mod_two_eq_zero_or_one v
      have := Nat.mod_two_eq_zero_or_one r
      have := Nat.mod_two_eq_zero_or_one (v &&& r)
      omega
    rw [e]
    exact ih (v / 2) (r / 2) Nat.and_mod_two_eq_one Nat.and_div_two Nat.and_le_left Nat.and_le_left
theorem band_inv (v r : Nat) : Builtin.bitAnd (v : Int) (Builtin.bitNot (r : Int)) = ((v - (v &&& r) : Nat) : Int) := by
  have h3 : v &&& r ≤ v := Nat.and_le_left
  unfold Builtin.bitAnd
  have e1 : decide (0 ≤ (v : Int)) = true := decide_eq_true (by omega)
  have e2 : decide (0 ≤ Builtin.bitNot (r : Int)) = false := decide_eq_false (by unfold Builtin.bitNot; omega)
  rw [e1, e2]
  show (v : Int) - ((Int.toNat (v : Int) &&& Int.toNat (Builtin.bitNot (Builtin.bitNot (r : Int))) : Nat) : Int) = _
  have e3 : Builtin.bitNot (Builtin.bitNot (r : Int)) = (r : Int) := by unfold Builtin.bitNot; omega
  rw [e3, Int.toNat_natCast, Int.toNat_natCast]
  omega
/-! how far -/
section
variable {js : List Nat} {f l : Nat}
def At (js : List Nat) (f k q : Nat) : Prop := ∃ p, f.testBit p = true ∧ StepsN js k p q
def Mn (js : List Nat) (f k q : Nat) : Prop := At js f k q ∧ ∀ i, i < k → ¬ At js f i q
theorem at_succ {k q : Nat} : At js f (k + 1) q ↔ ∃ r n, At js f k r ∧ js[r]? = some n ∧ n.testBit q = true := by
  constructor
  · rintro ⟨p, h1, h2⟩
    obtain ⟨r, h3, h4⟩ := (steps_add js k 1 p q).mp h2
    obtain ⟨n, h5, h6⟩ := (steps_1 js r q).mp h4
    exact ⟨r, n, ⟨p, h1, h3⟩, h5, h6⟩
  · rintro ⟨r, n, ⟨p, h1, h3⟩, h5, h6⟩
    exact ⟨p, h1, (steps_add js k 1 p q).mpr ⟨r, h3, (steps_1 js r q).mpr ⟨n, h5, h6⟩⟩⟩
theorem at_mn {q : Nat} : ∀ {k : Nat}, At js f k q → ∃ i, i ≤ k ∧ Mn js f i q := by
  intro k
  induction k using Nat.strongRecOn with
  | ind k ih =>
    intro h
    by_cases e : ∃ i, i < k ∧ At js f i q
    · obtain ⟨i, h1, h2⟩ := e
      obtain ⟨j, h3, h4⟩ := ih i h1 h2
      exact ⟨j, by omega, h4⟩
    · exact ⟨k, by omega, h, fun i h1 h2 => e ⟨i, h1, h2⟩⟩
theorem mn_succ {k q : Nat} (h : Mn js f (k + 1) q) : ∃ r n, Mn js f k r ∧ js[r]? = some n ∧ n.testBit q = true := by
  obtain ⟨r, n, h1, h2, h3⟩ := at_succ.mp h.1
  refine ⟨r, n, ⟨h1, fun i hi ha => ?_⟩, h2, h3⟩
  exact h.2 (i + 1) (by omega) (at_succ.mpr ⟨r, n, ha, h2, h3⟩)
theorem mn_next {k q : Nat} : Mn js f (k + 1) q ↔ (∃ r n, Mn js f k r ∧ js[r]? = some n ∧ n.testBit q = true) ∧ ¬ ∃ i, i ≤ k ∧ At js f i q :=
  ⟨fun h => ⟨mn_succ h, fun ⟨i, h1, h2⟩ => h.2 i (by omega) h2⟩, fun ⟨⟨r, n, h1, h2, h3⟩, h4⟩ => ⟨at_succ.mpr ⟨r, n, h1.1, h2, h3⟩, fun i hi ha => h4 ⟨i, by omega, ha⟩⟩⟩
theorem mn_none {k : Nat} (h : ∀ q, ¬ Mn js f k q) : ∀ i, k ≤ i → ∀ q, ¬ Mn js f i q := by
  intro i hi
  induction i with
  | zero => cases Nat.le_zero.mp hi; exact h
  | succ i ih =>
    intro q hq
    by_cases e : k = i + 1
    · subst e; exact h q hq
    · obtain ⟨r, n, h1, -⟩ := mn_succ hq
      exact ih (by omega) r h1
theorem hit_mn {k : Nat} (h : Hit js f l k) : ∃ i q, i ≤ k ∧ Mn js f i q ∧ l.testBit q = true := by
  obtain ⟨p, q, h1, h2, h3⟩ := h
  obtain ⟨i, h4, h5⟩ := at_mn ⟨p, h1, h3⟩
  exact ⟨i, q, h4, h5, h2⟩
theorem mn_0 {q : Nat} : Mn js f 0 q ↔ f.testBit q = true :=
  ⟨fun h => by obtain ⟨p, h1, h2⟩ := h.1; cases (h2 : p = q); exact h1, fun h => ⟨⟨q, h, rfl⟩, fun i hi => by omega⟩⟩
/-- how many are not there yet -/
def cnt (N r : Nat) : Nat := ((List.range N).filter fun q => !r.testBit q).length
theorem cnt_le (N r : Nat) : cnt N r ≤ N := by have := List.length_filter_le (fun q => !r.testBit q) (List.range N); rw [List.length_range] at this; exact this
theorem cnt_lt {N r r' q : Nat} (h : ∀ z, r.testBit z = true → r'.testBit z = true) (hq : q < N) (h1 : r.testBit q = false) (h2 : r'.testBit q = true) : cnt N r' < cnt N r := by
  unfold cnt
  have e : (List.range N).filter (fun q => !r'.testBit q) = ((List.range N).filter fun q => !r.testBit q).filter fun q => !r'.testBit q := by
    rw [List.filter_filter]
    refine List.filter_congr fun z _ => ?_
    cases hz : r.testBit z with
    | false => simp
    | true => rw [h z hz]; rfl
  rw [e]
  exact List.length_filter_lt_length_iff_exists.mpr ⟨q, List.mem_filter.mpr ⟨List.mem_range.mpr hq, by rw [h1]; rfl⟩, by rw [h2]; simp⟩
theorem cnt_eq {N r r' : Nat} (h : ∀ z, r.testBit z = r'.testBit z) : cnt N r = cnt N r' := by
  rw [Nat.eq_of_testBit_eq h]
end
theorem ev_bandI {ρ : Rho} {i j : Nat} {a b : Int} (ha : ρ[i]? = some (.val (.int a))) (hb : ρ[j]? = some (.val (.int b))) : Ev (wOp wBAnd (wVar i) (wVar j)) ρ (.int (Builtin.bitAnd a b)) ρ := fun χ Φ q => ev_var ha χ _ (ev_var hb χ _ q)
theorem m_first_times : Sem0 3 6 (sp_first_times C) (x_first_times K C) := by
  rintro hl ds Ψ Ξ - ⟨h, js, f, l, rfl, g, hf, hfb, hfl, q0, q1⟩
  cases none_of h
  have h200 := g.len
  let Inv : Nat → Rho → Prop := fun m ρ => ∃ (k rc fr : Nat), ρ = [.val (.lst (numsD js)), .val (.int (f : Nat)), .val (.int (l : Nat)), .val (.int (rc : Nat)), .val (.int (fr : Nat)), .val (.int (k : Nat))] ∧
    rc < 2 ^ 200 ∧ (∀ q, rc.testBit q = true ↔ ∃ i, i ≤ k ∧ At js f i q) ∧ LotIs fr (Mn js f k) ∧ (∀ i, 1 ≤ i → i ≤ k → ∀ q, Mn js f i q → l.testBit q = false) ∧ (fr ≠ 0 → k + cnt js.length rc ≤ js.length) ∧ m = cnt js.length rc + if fr = 0 then 0 else 1
  have hno : ∀ q, f.testBit q = true → l.testBit q = false := fun q h1 => by
    have : (f &&& l).testBit q = false := by rw [hfl, Nat.zero_testBit]
    rw [Nat.testBit_and, h1, Bool.true_and] at this
    exact this
  refine ⟨Inv, ⟨_, 0, f, f, rfl, hf, fun q => ?_, ⟨hf, fun q => mn_0.symm⟩, fun i h1 h2 => by omega, fun _ => by have := cnt_le js.length f; omega, rfl⟩, ?_⟩
  · constructor
    · intro h; exact ⟨0, Nat.le_refl _, q, h, rfl⟩
    · rintro ⟨i, h1, h2⟩
      cases Nat.le_zero.mp h1
      obtain ⟨p, h3, h4⟩ := h2
      cases (h4 : p = q); exact h3
  rintro m ρ ⟨k, rc, fr, rfl, h1, h2, h3, h4, h5, rfl⟩
  refine te_ne (ev_var (i := 4) (d := .int (fr : Nat)) rfl) (ev_c (d := .int 0)) _ _ ?_
  show if (!decide ((fr : Int) = 0)) = true then _ else _
  by_cases hfr : fr = 0
  · rw [decide_eq_true (by omega)]
    show Ψ .non none
    refine q0 fun i hi hh => ?_
    obtain ⟨j, q, k1, k2, k3⟩ := hit_mn hh
    by_cases hj : j = 0
    · subst hj
      rw [hno q (mn_0.mp k2)] at k3; cases k3
    · by_cases hjk : j ≤ k
      · rw [h4 j (by omega) hjk q k2] at k3; cases k3
      · refine mn_none (fun q hq => ?_) j (by omega : k ≤ j) q k2
        have := (h3.bit q).mpr hq
        rw [hfr, Nat.zero_testBit] at this; cases this
  rw [decide_eq_false (by omega)]
  have h6 := h5 hfr
  refine ⟨rfl, rfl, rfl, js, fr, rfl, h200, g.lt, h3.lt, fun p hp => ?_, fun v hv => ?_⟩
  · have hm := (h3.bit p).mp hp
    cases k with
    | zero => exact hfb p (mn_0.mp hm)
    | succ k =>
      obtain ⟨r, n, z1, z2, z3⟩ := mn_succ hm
      exact g.bit n (List.mem_of_getElem? z2) p z3
  let w := v - (v &&& rc)
  have hw : LotIs w (Mn js f (k + 1)) := by
    refine ⟨Nat.lt_of_le_of_lt (Nat.sub_le _ _) hv.lt, fun q => ?_⟩
    show (v - (v &&& rc)).testBit q = true ↔ _
    rw [sub_and, Bool.and_eq_true, hv.bit, Bool.not_eq_true', mn_next]
    have e1 : rc.testBit q = false ↔ ¬ ∃ i, i ≤ k ∧ At js f i q := by rw [← h2]; simp
    rw [e1]
    refine and_congr ⟨?_, ?_⟩ Iff.rfl
    · rintro ⟨p, n, z1, z2, z3⟩; exact ⟨p, n, (h3.bit p).mp z1, z2, z3⟩
    · rintro ⟨p, n, z1, z2, z3⟩; exact ⟨p, n, (h3.bit p).mpr z1, z2, z3⟩
  have hor : ∀ q, (rc ||| w).testBit q = true ↔ ∃ i, i ≤ k + 1 ∧ At js f i q := fun q => by
    rw [Nat.testBit_or, Bool.or_eq_true, h2, hw.bit]
    constructor
    · rintro (⟨i, z1, z2⟩ | z)
      · exact ⟨i, by omega, z2⟩
      · exact ⟨k + 1, Nat.le_refl _, z.1⟩
    · rintro ⟨i, z1, z2⟩
      by_cases e : ∃ i, i ≤ k ∧ At js f i q
      · exact .inl e
      · have hi : i = k + 1 := Nat.le_antisymm z1 (Nat.lt_of_not_le fun z => e ⟨i, z, z2⟩)
        subst hi
        exact .inr ⟨z2, fun j hj ha => e ⟨j, by omega, ha⟩⟩
  have hgrow : w ≠ 0 → cnt js.length (rc ||| w) < cnt js.length rc := fun hne => by
    obtain ⟨q, hq⟩ := Nat.exists_testBit_of_ne_zero hne
    have hm := (hw.bit q).mp hq
    obtain ⟨r, n, z1, z2, z3⟩ := mn_succ hm
    refine cnt_lt (fun z hz => by rw [Nat.testBit_or, hz]; rfl) (g.bit n (List.mem_of_getElem? z2) q z3) ?_ (by rw [Nat.testBit_or, hq, Bool.or_true])
    have : ¬ rc.testBit q = true := by rw [h2]; exact fun ⟨i, y1, y2⟩ => hm.2 i (by omega) y2
    simpa using this
  have key : ∀ (z1 z2 z3 z4 : Int), z1 = ((w : Nat) : Int) → z2 = ((rc ||| w : Nat) : Int) → z3 = ((k + 1 : Nat) : Int) → z4 = ((w &&& l : Nat) : Int) → ∀ (N : Rho → Prop), (∀ m' ρ', m' < (cnt js.length rc + if fr = 0 then 0 else 1) → Inv m' ρ' → N ρ') →
      (if (!decide (z4 = 0)) = true then Ψ (.int z3) none else N [.val (.lst (numsD js)), .val (.int (f : Nat)), .val (.int (l : Nat)), .val (.int z2), .val (.int z1), .val (.int z3)]) := by
    rintro _ _ _ _ rfl rfl rfl rfl N hN
    by_cases hz : w &&& l = 0
    · rw [hz, show decide (((0 : Nat) : Int) = 0) = true from rfl]
      refine hN _ _ ?_ ⟨k + 1, rc ||| w, w, rfl, Nat.or_lt_two_pow h1 hw.lt, hor, hw, fun i i1 i2 q hq => ?_, fun hne => ?_, rfl⟩
      · rw [if_neg hfr]
        by_cases hne : w = 0
        · rw [if_pos hne, hne, Nat.or_zero]; omega
        · rw [if_neg hne]; have := hgrow hne; omega
      · by_cases e : i = k + 1
        · subst e
          have hq' := (hw.bit q).mpr hq
          have : (w &&& l).testBit q = false := by rw [hz, Nat.zero_testBit]
          rw [Nat.testBit_and, hq', Bool.true_and] at this
          exact this
        · exact h4 i i1 (by omega) q hq
      · have := hgrow hne; omega
    · rw [decide_eq_false (by omega)]
      show Ψ (.int ((k + 1 : Nat) : Int)) none
      obtain ⟨q, hq⟩ := Nat.exists_testBit_of_ne_zero hz
      rw [Nat.testBit_and, Bool.and_eq_true] at hq
      have hm := (hw.bit q).mp hq.1
      obtain ⟨p, y1, y2⟩ := hm.1
      refine q1 (k + 1) (by omega) (by omega) ⟨p, q, y1, hq.2, y2⟩ fun i i1 i2 hh => ?_
      obtain ⟨j, q', k1, k2, k3⟩ := hit_mn hh
      by_cases hj : j = 0
      · subst hj
        rw [hno q' (mn_0.mp k2)] at k3; cases k3
      · rw [h4 j (by omega) (by omega) q' k2] at k3; cases k3
  have e1 := band_inv v rc
  have e2 : Builtin.bitOr (rc : Int) (Builtin.bitAnd (v : Int) (Builtin.bitNot (rc : Int))) = ((rc ||| w : Nat) : Int) := by rw [e1, bor_nat]
  have e3 : Builtin.bitAnd (Builtin.bitAnd (v : Int) (Builtin.bitNot (rc : Int))) (l : Int) = ((w &&& l : Nat) : Int) := by rw [e1, band_nat]
  refine ⟨(rc : Nat), rfl, (k : Nat), rfl, ?_⟩
  refine ifI (te_ne (ρ := [.val (.lst (numsD js)), .val (.int (f : Nat)), .val (.int (l : Nat)), .val (.int (Builtin.bitOr (rc : Int) (Builtin.bitAnd (v : Int) (Builtin.bitNot (rc : Int))))), .val (.int (Builtin.bitAnd (v : Int) (Builtin.bitNot (rc : Int)))), .val (.int ((k : Nat) + 1))]) (ev_bandI (i := 4) (j := 2) rfl rfl) (ev_c (d := .int 0)) _ _ ?_)
  exact key _ _ _ _ e1 e2 (by omega) e3 _ fun m' ρ' h1 h2 => ⟨m', h1, h2⟩
end
end K25
set_option Elab.async false
set_option autoImplicit false
set_option linter.all false
set_option maxRecDepth 100000
set_option maxHeartbeats 3900000
namespace K25
open DL L2 PyProof.Rows PySem PySem.Spec
section
variable {K : Fg} {C : Cs} {t : Tbl}
abbrev Nexts (t : Tbl) (ns : List Nat) : Prop := Paired (fun (r : List (Nat × Nat)) n => LotIs n fun q => q ∈ r.map (·.2)) (psL t) ns
theorem ps_ok (g : Good t) : (psL t).length ≤ 200 ∧ ∀ r ∈ psL t, r.length ≤ 10000 ∧ ∀ p ∈ r, p.2 < 200 := by
  have hw := g.head
  have h144 : wd t * wd t ≤ 12 * 12 := Nat.mul_le_mul hw.2 hw.2
  refine ⟨by rw [psL_len]; omega, fun r hr => ?_⟩
  obtain ⟨a, ha, hr⟩ := List.mem_flatMap.mp hr
  obtain ⟨b, hb, rfl⟩ := List.mem_map.mp hr
  have ha := List.mem_range.mp ha
  have hb := List.mem_range.mp hb
  refine ⟨?_, fun p hp => ?_⟩
  · unfold rowP
    rw [List.length_map]
    refine Nat.le_trans (List.length_filter_le _ _) ?_
    rw [List.length_zipIdx, List.length_map]
    have := g.le; omega
  · obtain ⟨d, d1, d2, d3⟩ := (mem_rowP g ha hb).mp (List.mem_map.mpr ⟨p, hp, rfl⟩)
    have x := (g.step d1 ha).1
    have y := (g.step d1 hb).1
    rw [d3]
    have z : stepN t a d * wd t ≤ 11 * 12 := Nat.mul_le_mul (by omega) hw.2
    omega
theorem pair_lt {x y : Nat} (hx : x < wd t) (hy : y < wd t) : x * wd t + y < wd t * wd t := by
  calc x * wd t + y < x * wd t + wd t := by omega
    _ = (x + 1) * wd t := by rw [Nat.succ_mul]
    _ ≤ wd t * wd t := Nat.mul_le_mul_right _ hx
theorem pair_inj {a b x y : Nat} (hb : b < wd t) (hy : y < wd t) (e : a * wd t + b = x * wd t + y) : a = x ∧ b = y := by
  have e1 : a = x := by
    have x1 : (a * wd t + b) / wd t = (x * wd t + y) / wd t := by rw [e]
    rw [Nat.add_comm, Nat.add_mul_div_right _ _ (by omega), Nat.div_eq_of_lt hb, Nat.add_comm (x * wd t), Nat.add_mul_div_right _ _ (by omega), Nat.div_eq_of_lt hy] at x1
    omega
  refine ⟨e1, ?_⟩
  rw [e1] at e; omega
theorem nexts_len {ns : List Nat} (h : Nexts t ns) : ns.length = wd t * wd t := by rw [← paired_len h, psL_len]
theorem nexts_ok (g : Good t) {ns : List Nat} (h : Nexts t ns) : LotsOk ns := by
  have hw := g.head
  have h144 : wd t * wd t ≤ 12 * 12 := Nat.mul_le_mul hw.2 hw.2
  refine ⟨by rw [nexts_len h]; omega, fun n hn => ?_, fun n hn q hq => ?_⟩
  · obtain ⟨r, -, z⟩ := paired_mem h n hn
    exact z.lt
  · obtain ⟨r, hr, z⟩ := paired_mem h n hn
    obtain ⟨a, ha, hr⟩ := List.mem_flatMap.mp hr
    obtain ⟨b, hb, rfl⟩ := List.mem_map.mp hr
    have ha := List.mem_range.mp ha
    have hb := List.mem_range.mp hb
    obtain ⟨d, d1, d2, d3⟩ := (mem_rowP g ha hb).mp ((z.bit q).mp hq)
    rw [nexts_len h, d3]
    exact pair_lt (g.step d1 ha).1 (g.step d1 hb).1
theorem one_step (g : Good t) {ns : List Nat} (h : Nexts t ns) {a b q : Nat} (ha : a < wd t) (hb : b < wd t) : (∃ n, ns[a * wd t + b]? = some n ∧ n.testBit q = true) ↔ ∃ d, d < t.length ∧ stepN t a d ≠ stepN t b d ∧ q = stepN t a d * wd t + stepN t b d := by
  obtain ⟨n, e1, e2⟩ := paired_at h (psL_at ha hb)
  rw [← mem_rowP g ha hb, ← e2.bit]
  exact ⟨fun ⟨n', z1, z2⟩ => by rw [e1] at z1; cases z1; exact z2, fun z => ⟨n, e1, z⟩⟩
theorem led_eq {a b : Nat} (e : a = b) (ns : List Nat) : ledN t a ns = ledN t b ns := by rw [e]
theorem steps_pair (g : Good t) {ns : List Nat} (h : Nexts t ns) : ∀ (L : Nat) {a b : Nat} (q : Nat), a < wd t → b < wd t → a ≠ b →
    (StepsN ns L (a * wd t + b) q ↔ ∃ log : List Nat, log.length = L ∧ (∀ n ∈ log, n < t.length) ∧ ledN t a log ≠ ledN t b log ∧ q = ledN t a log * wd t + ledN t b log)
  | 0, a, b, q, ha, hb, hne => by
    constructor
    · intro e
      exact ⟨[], rfl, (fun _ z => nomatch z), hne, (show a * wd t + b = q from e).symm⟩
    · rintro ⟨log, h1, -, -, h4⟩
      cases List.length_eq_zero_iff.mp h1
      exact h4.symm
  | L + 1, a, b, q, ha, hb, hne => by
    constructor
    · rintro ⟨r, n, h1, h2, h3⟩
      obtain ⟨d, d1, d2, d3⟩ := (one_step g h ha hb).mp ⟨n, h1, h2⟩
      subst d3
      obtain ⟨log, k1, k2, k3, k4⟩ := (steps_pair g h L q (g.step d1 ha).1 (g.step d1 hb).1 d2).mp h3
      exact ⟨d :: log, by rw [List.length_cons, k1], fun n hn => (List.mem_cons.mp hn).elim (fun e => e ▸ d1) (k2 n), k3, k4⟩
    · rintro ⟨log, h1, h2, h3, h4⟩
      match log, h1 with
      | d :: log, h1 =>
        have hd := h2 d List.mem_cons_self
        have hne' : stepN t a d ≠ stepN t b d := fun e => h3 (by rw [led_cons, led_cons, e])
        obtain ⟨n, z1, z2⟩ := (one_step g h (q := stepN t a d * wd t + stepN t b d) ha hb).mpr ⟨d, hd, hne', rfl⟩
        refine ⟨_, n, z1, z2, (steps_pair g h L q (g.step hd ha).1 (g.step hd hb).1 hne').mpr ⟨log, ?_, fun n hn => h2 n (List.mem_cons_of_mem _ hn), h3, h4⟩⟩
        simpa using h1
theorem steps_mul {ns js : List Nat} {m : Nat} (hj : Behind ns m js) (hm : 1 ≤ m) : ∀ (k p q : Nat), StepsN js k p q ↔ StepsN ns (k * m) p q
  | 0, p, q => by rw [Nat.zero_mul]; exact Iff.rfl
  | k + 1, p, q => by
    have e : (k + 1) * m = m + k * m := by rw [Nat.succ_mul, Nat.add_comm]
    rw [e, steps_add ns m]
    constructor
    · rintro ⟨r, n, h1, h2, h3⟩
      exact ⟨r, ((hj.2 p n h1).bit r).mp h2, (steps_mul hj hm k r q).mp h3⟩
    · rintro ⟨r, h1, h2⟩
      have hp : p < js.length := by
        rw [hj.1]
        obtain ⟨m', rfl⟩ : ∃ m', m = m' + 1 := ⟨m - 1, by omega⟩
        obtain ⟨_, n, z, _⟩ := h1
        exact (List.getElem?_eq_some_iff.mp z).1
      have hget : js[p]? = some js[p] := List.getElem?_eq_getElem hp
      exact ⟨r, _, hget, ((hj.2 p _ hget).bit r).mpr h1, (steps_mul hj hm k r q).mpr h2⟩
abbrev Firsts (t : Tbl) (s f : Nat) : Prop := LotIs f fun q => q ∈ (oth (wd t) s).map fun o => o * wd t + s
abbrev Lasts (t : Tbl) (s l : Nat) : Prop := LotIs l fun q => q ∈ (oth (wd t) s).map fun o => s * wd t + o
theorem mem_oth {m s o : Nat} : o ∈ oth m s ↔ o < m ∧ o ≠ s := by
  unfold oth
  rw [List.mem_filter, List.mem_range]
  exact ⟨fun h => ⟨h.1, of_decide_eq_true h.2⟩, fun h => ⟨h.1, decide_eq_true h.2⟩⟩
theorem part_iff (g : Good t) {ns : List Nat} (h : Nexts t ns) {s L f l : Nat} (hs : s < wd t) (hf : Firsts t s f) (hl : Lasts t s l) :
    (∃ p q, f.testBit p = true ∧ l.testBit q = true ∧ StepsN ns L p q) ↔ Part t s L := by
  constructor
  · rintro ⟨p, q, h1, h2, h3⟩
    obtain ⟨o, ho, rfl⟩ := List.mem_map.mp ((hf.bit p).mp h1)
    obtain ⟨o', ho', rfl⟩ := List.mem_map.mp ((hl.bit q).mp h2)
    obtain ⟨ho, hne⟩ := mem_oth.mp ho
    obtain ⟨ho', hne'⟩ := mem_oth.mp ho'
    obtain ⟨log, k1, k2, k3, k4⟩ := (steps_pair g h L _ ho hs hne).mp h3
    obtain ⟨e1, e2⟩ := pair_inj ho' (g.led k2 hs) k4
    exact ⟨o, log, ho, k1, k2, e1.symm, by rw [← e2]; exact hne'⟩
  · rintro ⟨o, log, k1, k2, k3, k4, k5⟩
    have hne : o ≠ s := fun e => k5 (by rw [← e, k4, e])
    refine ⟨o * wd t + s, s * wd t + ledN t s log, (hf.bit _).mpr (List.mem_map.mpr ⟨o, mem_oth.mpr ⟨k1, hne⟩, rfl⟩), (hl.bit _).mpr (List.mem_map.mpr ⟨_, mem_oth.mpr ⟨g.led k3 hs, k5⟩, rfl⟩), ?_⟩
    exact (steps_pair g h L _ k1 hs hne).mpr ⟨log, k2, k3, by rw [k4]; exact fun e => k5 e.symm, by rw [k4]⟩
theorem hit_part (g : Good t) {ns js : List Nat} {m : Nat} (h : Nexts t ns) (hj : Behind ns m js) (hm : 1 ≤ m) {s f l : Nat} (hs : s < wd t) (hf : Firsts t s f) (hl : Lasts t s l) (k : Nat) : Hit js f l k ↔ Part t s (k * m) := by
  rw [← part_iff g h hs hf hl]
  exact ⟨fun ⟨p, q, h1, h2, h3⟩ => ⟨p, q, h1, h2, (steps_mul hj hm k p q).mp h3⟩, fun ⟨p, q, h1, h2, h3⟩ => ⟨p, q, h1, h2, (steps_mul hj hm k p q).mpr h3⟩⟩
theorem fl_zero (g : Good t) {s f l : Nat} (hs : s < wd t) (hf : Firsts t s f) (hl : Lasts t s l) : f &&& l = 0 := by
  refine Nat.eq_of_testBit_eq fun q => ?_
  rw [Nat.zero_testBit, Nat.testBit_and]
  cases h1 : f.testBit q with
  | false => rfl
  | true =>
    cases h2 : l.testBit q with
    | false => rfl
    | true =>
      obtain ⟨o, ho, rfl⟩ := List.mem_map.mp ((hf.bit q).mp h1)
      obtain ⟨o', ho', e⟩ := List.mem_map.mp ((hl.bit _).mp h2)
      obtain ⟨ho, hne⟩ := mem_oth.mp ho
      obtain ⟨ho', hne'⟩ := mem_oth.mp ho'
      exact absurd (pair_inj ho' hs e).1.symm hne
theorem firsts_lt {s : Nat} (g : Good t) (hs : s < wd t) : (∀ p ∈ (oth (wd t) s).map fun o => o * wd t + s, p < wd t * wd t) ∧ ∀ p ∈ (oth (wd t) s).map fun o => s * wd t + o, p < wd t * wd t := by
  refine ⟨fun p hp => ?_, fun p hp => ?_⟩
  · obtain ⟨o, ho, rfl⟩ := List.mem_map.mp hp
    exact pair_lt (mem_oth.mp ho).1 hs
  · obtain ⟨o, ho, rfl⟩ := List.mem_map.mp hp
    exact pair_lt hs (mem_oth.mp ho).1
theorem sq_le (g : Good t) : wd t * wd t ≤ 144 := by
  have hw := g.head
  exact Nat.mul_le_mul hw.2 hw.2
end
end K25
set_option Elab.async false
set_option autoImplicit false
set_option linter.all false
set_option maxRecDepth 100000
set_option maxHeartbeats 3900000
namespace K25
open DL L2 PyProof.Rows PySem PySem.Spec
section
variable {K : Fg} {C : Cs} {t : Tbl}
theorem Under.le {b : D} {x y : Nat} (h : Under b y) (e : x ≤ y) : Under b x := h.imp id fun ⟨v, h1, h2⟩ => ⟨v, h1, by omega⟩
abbrev fw_c : WS := wIfS (wAnd (wB (wOp (wIsN true) (wVar 7) (wC .non))) (wOr (wB (wOp (wIsN false) (wVar 3) (wC .non))) (wB (wOp wLt (wOp wMul (wVar 7) (wVar 1)) (wVar 3))))) (wApp 5 (wTup (wCons (wOp wMul (wVar 7) (wVar 1)) (wCons (wVar 6) wNil)))) wNext
theorem fw_some {a0 a2 a4 : Sl} {l : Addr} {xs : List D} {m s k : Nat} {b : D} {Δ : DE} (hb : bndOk b = true) (hm : m ≤ 200) (hk : k ≤ 201) (hz : xs.length < sizeLine)
    (q1 : Under b (k * m) → Δ.nx [a0, .val (.int (m : Nat)), a2, .val b, a4, .own l (.l (xs ++ [pairD (((k * m : Nat) : Int), ((s : Nat) : Int))])), .val (.int (s : Nat)), .val (.int (k : Nat))])
    (q0 : ¬ Under b (k * m) → Δ.nx [a0, .val (.int (m : Nat)), a2, .val b, a4, .own l (.l xs), .val (.int (s : Nat)), .val (.int (k : Nat))]) :
    fw_c [a0, .val (.int (m : Nat)), a2, .val b, a4, .own l (.l xs), .val (.int (s : Nat)), .val (.int (k : Nat))] Δ := by
  have app : ∀ z : Int, z = ((k * m : Nat) : Int) → (Under b (k * m)) → Δ.nx [a0, .val (.int (m : Nat)), a2, .val b, a4, .own l (.l (xs ++ [.tup [.int z, .int (s : Nat)]])), .val (.int (s : Nat)), .val (.int (k : Nat))] := by
    rintro z rfl hu; exact q1 hu
  have hmul : ((k : Nat) : Int) * (m : Nat) = ((k * m : Nat) : Int) := by simp
  refine ⟨rfl, false, rfl, ?_⟩
  cases b with
  | non =>
    refine ⟨rfl, true, rfl, ?_⟩
    exact ⟨⟨l, _, rfl⟩, .inr ⟨by omega, by omega⟩, by show 2 ≤ sizeLine; decide, hz, app _ hmul (.inl rfl)⟩
  | int v =>
    refine ⟨rfl, false, rfl, .inr ⟨by omega, by omega⟩, ?_⟩
    have key : ∀ z : Int, z = ((k * m : Nat) : Int) → (if decide (z < v) = true then wApp 5 (wTup (wCons (wOp wMul (wVar 7) (wVar 1)) (wCons (wVar 6) wNil))) [a0, .val (.int (m : Nat)), a2, .val (.int v), a4, .own l (.l xs), .val (.int (s : Nat)), .val (.int (k : Nat))] Δ else Δ.nx [a0, .val (.int (m : Nat)), a2, .val (.int v), a4, .own l (.l xs), .val (.int (s : Nat)), .val (.int (k : Nat))]) := by
      rintro z rfl
      by_cases e : ((k * m : Nat) : Int) < v
      · rw [if_pos (decide_eq_true e)]
        exact ⟨⟨l, _, rfl⟩, .inr ⟨by omega, by omega⟩, by show 2 ≤ sizeLine; decide, hz, app _ hmul (.inr ⟨v, rfl, e⟩)⟩
      · rw [if_neg (by rw [decide_eq_false e]; exact Bool.false_ne_true)]
        refine q0 ?_
        rintro (h | ⟨v', h1, h2⟩)
        · cases h
        · cases h1; exact e h2
    exact key _ hmul
  | _ => cases hb
theorem fw_non {a0 a1 a2 a3 a4 a5 a6 : Sl} {Δ : DE} (q : Δ.nx [a0, a1, a2, a3, a4, a5, a6, .val .non]) : fw_c [a0, a1, a2, a3, a4, a5, a6, .val .non] Δ := ⟨rfl, true, rfl, q⟩
abbrev fw_b : Cs → WS := fun C => wSeq (wAsg 7 (wCallA 3 0 (sp_first_times C) (fun ds _ => ds) (wCons (wVar 4) (wCons (wCallA 1 0 (sp_lot_of C) (fun ds _ => ds) (wCons (wCallA 2 0 (sp_first_pairs C) (fun ds _ => ds) (wCons (wVar 0) (wCons (wVar 6) wNil)) wNil) wNil) wNil) (wCons (wCallA 1 0 (sp_lot_of C) (fun ds _ => ds) (wCons (wCallA 2 0 (sp_last_pairs C) (fun ds _ => ds) (wCons (wVar 0) (wCons (wVar 6) wNil)) wNil) wNil) wNil) wNil))) wNil)) fw_c
theorem fw_one (g : Good t) {ns js : List Nat} {m s : Nat} {b : D} (hn : Nexts t ns) (hj : Behind ns m js) (hm : 1 ≤ m) (hm2 : m ≤ 200) (hb : bndOk b = true) (hs : s < wd t) {a2 s7 : Sl} {l : Addr} {xs : List D} {Δ : DE} (hz : xs.length < sizeLine)
    (q0 : ∀ s7, (∀ L, 1 ≤ L → m ∣ L → Under b L → ¬ Part t s L) → Δ.nx [.val (mach C t), .val (.int (m : Nat)), a2, .val b, .val (.lst (numsD js)), .own l (.l xs), .val (.int (s : Nat)), s7])
    (q1 : ∀ k s7, 1 ≤ k → k ≤ 201 → Under b (k * m) → Part t s (k * m) → (∀ L, 1 ≤ L → m ∣ L → Part t s L → k * m ≤ L) → Δ.nx [.val (mach C t), .val (.int (m : Nat)), a2, .val b, .val (.lst (numsD js)), .own l (.l (xs ++ [pairD (((k * m : Nat) : Int), ((s : Nat) : Int))])), .val (.int (s : Nat)), s7]) :
    fw_b C [.val (mach C t), .val (.int (m : Nat)), a2, .val b, .val (.lst (numsD js)), .own l (.l xs), .val (.int (s : Nat)), s7] Δ := by
  have h144 := sq_le g
  have hno := nexts_ok g hn
  have hjo := hj.ok hno hm
  obtain ⟨hf1, hl1⟩ := firsts_lt g hs
  have hjl : js.length = wd t * wd t := by rw [hj.1, nexts_len hn]
  refine ⟨rfl, rfl, rfl, t, s, g, hs, rfl, rfl, rfl, rfl, _, rfl, fun p hp => by have := hf1 p hp; omega, fun f hf => ?_⟩
  refine ⟨rfl, rfl, rfl, t, s, g, hs, rfl, rfl, rfl, rfl, _, rfl, fun p hp => by have := hl1 p hp; omega, fun la hl => ?_⟩
  have hk := hit_part g hn hj hm hs hf hl
  refine ⟨rfl, rfl, rfl, js, f, la, rfl, hjo, hf.lt, fun p hp => by rw [hjl]; exact hf1 p ((hf.bit p).mp hp), fl_zero g hs hf hl, fun h => ?_, fun k k1 k2 k3 k4 => ?_⟩
  · refine fw_non (q0 _ fun L h1 h2 _ h4 => ?_)
    obtain ⟨k, rfl⟩ := h2
    have hk0 : 1 ≤ k := Nat.pos_of_ne_zero fun e => by subst e; omega
    rw [Nat.mul_comm] at h4
    exact h k hk0 ((hk k).mpr h4)
  · have least : ∀ L, 1 ≤ L → m ∣ L → Part t s L → k * m ≤ L := fun L h1 h2 h4 => by
      obtain ⟨k', rfl⟩ := h2
      have hk0 : 1 ≤ k' := Nat.pos_of_ne_zero fun e => by subst e; omega
      rw [Nat.mul_comm] at h4
      have hkk : k ≤ k' := Nat.le_of_not_lt fun z => k4 k' hk0 z ((hk k').mpr h4)
      rw [Nat.mul_comm m]
      exact Nat.mul_le_mul_right _ hkk
    exact fw_some hb hm2 k2 hz (fun hu => q1 k _ k1 k2 hu ((hk k).mp k3) least) fun hu => q0 _ fun L h1 h2 h3 h4 => hu (h3.le (least L h1 h2 h4))
theorem m_first_wrap : Sem0 4 8 (sp_first_wrap C) (x_first_wrap K C) := by
  rintro hl ds Ψ Ξ - ⟨h, t, m, ss, b, g, rfl, hm, hm2, hss, hsl, hb, q0, q1⟩
  cases none_of h
  obtain ⟨p1, p2⟩ := ps_ok g
  refine ⟨rfl, rfl, rfl, t, g, rfl, rfl, rfl, rfl, psL t, rfl, p1, p2, fun ns hns => ?_⟩
  have hno := nexts_ok g hns
  refine ⟨rfl, rfl, rfl, ns, m, rfl, hno, hm, by show m < 2 ^ 8; omega, fun js hj1 hj2 => ?_⟩
  have hj : Behind ns m js := ⟨hj1, hj2⟩
  refine ⟨by show 0 ≤ sizeLine; omega, fun l => ?_⟩
  show wForL (wgName 6) (fw_b C) (numsD ss) [.val (mach C t), .val (.int (m : Nat)), .val (rowD ss), .val b, .val (.lst (numsD js)), .own l (.l []), .un, .un] _
  refine for_inv (fun ds ρ => ∃ (dn rest : List Nat) (ps : List (Int × Int)) (s6 s7 : Sl), ds = numsD rest ∧ dn ++ rest = ss ∧ ps.length ≤ dn.length ∧ (∀ p ∈ ps, ∃ L s : Nat, p = ((L : Int), (s : Int)) ∧ L ≤ 201 * m ∧ s ∈ dn ∧ Wr t ss m b L s) ∧ (∀ s ∈ dn, ∀ L, Wr t ss m b L s → ∃ p ∈ ps, p.1 ≤ (L : Int) ∧ p.2 = (s : Int)) ∧
    ρ = [.val (mach C t), .val (.int (m : Nat)), .val (rowD ss), .val b, .val (.lst (numsD js)), .own l (.l (ps.map pairD)), s6, s7]) (fun d ds ρ N h hN => ?_) (fun ρ h => ?_) _ _ ⟨[], ss, [], .un, .un, rfl, rfl, Nat.le_refl _, (fun _ z => nomatch z), (fun _ z => nomatch z), rfl⟩
  · obtain ⟨dn, rest, ps, s6, s7, h1, h2, h3, h4, h5, rfl⟩ := h
    obtain ⟨s, rest, rfl, rfl, rfl⟩ := nums_cons_of h1
    have hmem : s ∈ ss := by rw [← h2]; simp
    have hs := hss s hmem
    have hdl : dn.length < 12 := by
      have := congrArg List.length h2
      rw [List.length_append, List.length_cons] at this; omega
    refine fw_one g hns hj hm hm2 hb hs (by rw [List.length_map]; have := big; omega) (fun s7 hno => hN _ ⟨dn ++ [s], rest, ps, _, s7, rfl, by simp [h2], by rw [List.length_append]; omega, fun p hp => ?_, fun s' hs' L hw => ?_, rfl⟩) (fun k s7 k1 k2 hu hp least => hN _ ⟨dn ++ [s], rest, ps ++ [(((k * m : Nat) : Int), ((s : Nat) : Int))], _, s7, rfl, by simp [h2], by simp [h3], fun p hp' => ?_, fun s' hs' L hw => ?_, by rw [List.map_append]; rfl⟩)
    · obtain ⟨L, s', z1, z2, z3, z4⟩ := h4 p hp
      exact ⟨L, s', z1, z2, List.mem_append_left _ z3, z4⟩
    · rcases List.mem_append.mp hs' with z | z
      · exact h5 s' z L hw
      · cases List.mem_singleton.mp z
        exact absurd hw.part (hno L hw.pos hw.dvd hw.und)
    · rcases List.mem_append.mp hp' with z | z
      · obtain ⟨L, s', z1, z2, z3, z4⟩ := h4 p z
        exact ⟨L, s', z1, z2, List.mem_append_left _ z3, z4⟩
      · cases List.mem_singleton.mp z
        exact ⟨k * m, s, rfl, Nat.mul_le_mul_right _ k2, by simp, ⟨hmem, Nat.mul_pos k1 hm, ⟨k, Nat.mul_comm _ _⟩, hu, hp⟩⟩
    · rcases List.mem_append.mp hs' with z | z
      · obtain ⟨p, z1, z2⟩ := h5 s' z L hw
        exact ⟨p, List.mem_append_left _ z1, z2⟩
      · cases List.mem_singleton.mp z
        refine ⟨_, List.mem_append_right _ (List.mem_singleton.mpr rfl), ?_⟩
        have := least L hw.pos hw.dvd hw.part
        refine ⟨?_, rfl⟩
        show ((k * m : Nat) : Int) ≤ (L : Int)
        omega
  · obtain ⟨dn, rest, ps, s6, s7, h1, h2, h3, h4, h5, rfl⟩ := h
    cases nums_nil_of h1
    rw [List.append_nil] at h2
    subst h2
    refine ⟨ps, rfl, fun e => ?_, fun p hp hle => ?_⟩
    · refine q0 fun L s hw => ?_
      obtain ⟨p, z1, -⟩ := h5 s hw.mem L hw
      rw [e] at z1; cases z1
    · obtain ⟨L, s, rfl, z2, z3, z4⟩ := h4 p hp
      refine q1 L s z2 z4 (fun L' s' hw => ?_) fun s' hw => ?_
      · obtain ⟨p', y1, y2, -⟩ := h5 s' hw.mem L' hw
        have := hle p' y1
        unfold leP at this
        simp only at this
        omega
      · obtain ⟨p', y1, y2, y3⟩ := h5 s' hw.mem L hw
        have := hle p' y1
        unfold leP at this
        simp only at this
        omega
end
end K25
set_option Elab.async false
set_option autoImplicit false
set_option linter.all false
set_option maxRecDepth 100000
set_option maxHeartbeats 3900000
namespace K25
open DL L2 PyProof.Rows PySem PySem.Spec
section
variable {K : Fg} {C : Cs} {t : Tbl}
/-- so many steps lead to one of a lot -/
def Lead (ns : List Nat) (l k p : Nat) : Prop := ∃ q, l.testBit q = true ∧ StepsN ns k p q
theorem lead_succ {ns : List Nat} {l k p : Nat} : Lead ns l (k + 1) p ↔ ∃ r n, ns[p]? = some n ∧ n.testBit r = true ∧ Lead ns l k r :=
  ⟨fun ⟨q, h1, r, n, h2, h3, h4⟩ => ⟨r, n, h2, h3, q, h1, h4⟩, fun ⟨r, n, h2, h3, q, h1, h4⟩ => ⟨q, h1, r, n, h2, h3, h4⟩⟩
theorem lead_lt {ns : List Nat} {l k p : Nat} (hl : ∀ q, l.testBit q = true → q < ns.length) (h : Lead ns l k p) : p < ns.length := by
  cases k with
  | zero => obtain ⟨q, h1, h2⟩ := h; cases (h2 : p = q); exact hl p h1
  | succ k => obtain ⟨r, n, h2, -⟩ := lead_succ.mp h; exact (List.getElem?_eq_some_iff.mp h2).1
structure LeadL (ns : List Nat) (l : Nat) (ls : List Nat) : Prop where
  at' : ∀ (i n : Nat), ls[i]? = some n → LotIs n (Lead ns l i)
theorem at_last {ls : List Nat} {n : Nat} (h : ls.getLast? = some n) : atI (numsD ls) (-1) = some (.int (n : Nat)) := by
  have hne : ls ≠ [] := fun e => by rw [e] at h; cases h
  have hpos : 0 < ls.length := List.length_pos_iff.mpr hne
  rw [List.getLast?_eq_getElem?] at h
  unfold atI ixN
  rw [if_neg (by omega), if_pos (by rw [nums_len]; omega)]
  have e : ((-1 : Int) + ((numsD ls).length : Nat)).toNat = ls.length - 1 := by rw [nums_len]; omega
  simp only [e, Option.bind_some]
  unfold numsD
  rw [List.getElem?_map, h]; rfl
abbrev wk_a : Cs → WS := fun C => wApp 5 (wCallA 2 0 (sp_led_lot C) (fun ds _ => ds) (wCons (wVar 4) (wCons (wIxO 5 (wUn wNeg (wC (.int 1)))) wNil)) wNil)
theorem rowP_mem (g : Good t) {a b d q : Nat} (ha : a < wd t) (hb : b < wd t) (h : (d, q) ∈ rowP t a b) : d < t.length ∧ stepN t a d ≠ stepN t b d ∧ q = stepN t a d * wd t + stepN t b d := by
  unfold rowP at h
  obtain ⟨p, hp, e⟩ := List.mem_map.mp h
  injection e with e1 e2
  obtain ⟨hp, hne⟩ := List.mem_filter.mp hp
  obtain ⟨⟨x, y⟩, d'⟩ := p
  have e1 : d = d' := e1.symm
  subst e1
  obtain ⟨-, hd, he⟩ := List.mem_zipIdx hp
  rw [List.length_map] at hd
  have hd' : d < t.length := by omega
  obtain ⟨-, r, hr, e1⟩ := g.step hd' ha
  obtain ⟨-, r', hr', e3⟩ := g.step hd' hb
  rw [hr] at hr'; cases hr'
  have hrd : t[d] = r := by rw [List.getElem?_eq_getElem hd'] at hr; exact Option.some.inj hr
  simp only [Nat.sub_zero, List.getElem_map, hrd, Prod.mk.injEq] at he
  refine ⟨hd', ?_, ?_⟩
  · rw [e1, e3, ← he.1, ← he.2]; exact of_decide_eq_true hne
  · rw [← e2, e1, e3, ← he.1, ← he.2]
theorem rowP_in (g : Good t) {a b d : Nat} (ha : a < wd t) (hb : b < wd t) (hd : d < t.length) (hne : stepN t a d ≠ stepN t b d) : (d, stepN t a d * wd t + stepN t b d) ∈ rowP t a b := by
  obtain ⟨-, r, hr, e1⟩ := g.step hd ha
  obtain ⟨-, r', hr', e2⟩ := g.step hd hb
  rw [hr] at hr'; cases hr'
  unfold rowP
  refine List.mem_map.mpr ⟨((cellR r a, cellR r b), d), List.mem_filter.mpr ⟨?_, decide_eq_true (by rw [e1, e2] at hne; exact hne)⟩, by rw [e1, e2]⟩
  rw [List.mem_zipIdx_iff_getElem?]
  simp [hr]
theorem rowP_asc (a b : Nat) : (rowP t a b).Pairwise fun p q => p.1 < q.1 := by
  unfold rowP
  rw [List.pairwise_map]
  have h : (((t.map fun r => (cellR r a, cellR r b)).zipIdx).Pairwise fun p q => p.2 < q.2) := by
    rw [List.pairwise_iff_getElem]
    intro i j hi hj hij
    simp only [List.getElem_zipIdx]; omega
  exact (h.filter _).imp fun h => h
theorem at_row0 {ps : List (Nat × Nat)} {p : Nat × Nat} (h : ps.head? = some p) : atI (ps.map fun p => D.tup [.int (p.1 : Nat), .int (p.2 : Nat)]) 0 = some (.tup [.int (p.1 : Nat), .int (p.2 : Nat)]) := by
  cases ps with
  | nil => cases h
  | cons x ps =>
    cases h
    unfold atI ixN
    rw [if_pos (by omega), if_pos (by simp only [List.map_cons, List.length_cons]; omega)]
    rfl
theorem at_psD {p : Nat} {r : List (Nat × Nat)} (h : (psL t)[p]? = some r) : atI ((psL t).map rowPD) (p : Nat) = some (rowPD r) := by
  obtain ⟨h1, h2⟩ := List.getElem?_eq_some_iff.mp h
  unfold atI ixN
  rw [if_pos (by omega), if_pos (by rw [List.length_map]; omega)]
  simp [h1, h2]
theorem at_n0 {ls : List Nat} {n : Nat} (h : ls.head? = some n) : atI (numsD ls) 0 = some (.int (n : Nat)) := by
  cases ls with
  | nil => cases h
  | cons x ls =>
    cases h
    unfold atI ixN
    rw [if_pos (by omega), if_pos (by rw [nums_len]; simp only [List.length_cons]; omega)]
    rfl
abbrev wk_l : Cs → WE := fun C => wLc (wiSeq (wOp wIx (wVar 3) (wVar 8))) (wgName 12) (wB (wCallA 2 0 (sp_is_in C) (fun ds _ => ds) (wCons (wVar 10) (wCons (wOp wIx (wVar 12) (wC (.int 1))) wNil)) wNil)) (wVar 12) [12]
abbrev wk_b : Cs → WS := fun C => wSeq (wAsgG (wgTup 2 (wgCons (wgName 11) (wgCons (wgName 8) wgNil))) (wOp wIx (wk_l C) (wC (.int 0)))) (wApp 9 (wVar 11))
theorem wk_one (g : Good t) {a b lot : Nat} (ha : a < wd t) (hb : b < wd t) {a0 a1 a2 a4 a5 a6 a7 a11 : Sl} {l : Addr} {xs : List D} {Δ : DE} (hz : xs.length < sizeLine)
    (hex : ∃ d, d < t.length ∧ stepN t a d ≠ stepN t b d ∧ lot.testBit (stepN t a d * wd t + stepN t b d) = true)
    (q : ∀ d, d < t.length → stepN t a d ≠ stepN t b d → lot.testBit (stepN t a d * wd t + stepN t b d) = true → (∀ d', d' < t.length → stepN t a d' ≠ stepN t b d' → lot.testBit (stepN t a d' * wd t + stepN t b d') = true → d ≤ d') →
      Δ.nx [a0, a1, a2, .val (.lst ((psL t).map rowPD)), a4, a5, a6, a7, .val (.int ((stepN t a d * wd t + stepN t b d : Nat) : Int)), .own l (.l (xs ++ [.int (d : Nat)])), .val (.int (lot : Nat)), .val (.int (d : Nat)), .un]) :
    wk_b C [a0, a1, a2, .val (.lst ((psL t).map rowPD)), a4, a5, a6, a7, .val (.int ((a * wd t + b : Nat) : Int)), .own l (.l xs), .val (.int (lot : Nat)), a11, .un] Δ := by
  have h144 := sq_le g
  refine ⟨_, at_psD (psL_at ha hb), ?_⟩
  show wLcL _ _ _ [12] ((rowP t a b).map fun p => D.tup [.int (p.1 : Nat), .int (p.2 : Nat)]) [] [a0, a1, a2, .val (.lst ((psL t).map rowPD)), a4, a5, a6, a7, .val (.int ((a * wd t + b : Nat) : Int)), .own l (.l xs), .val (.int (lot : Nat)), a11, .un] _
  refine lc_mfc _ _ (fun p => if lot.testBit p.2 = true then some (D.tup [.int (p.1 : Nat), .int (p.2 : Nat)]) else none) _ ?_ (fun p hp N hN => ?_) ?_
  · have := (ps_ok g).2 (rowP t a b) (List.mem_of_getElem? (psL_at ha hb))
    have := this.1; have := big; omega
  · obtain ⟨d, q⟩ := p
    obtain ⟨h1, h2, h3⟩ := rowP_mem g ha hb hp
    have hq : q < 200 := by rw [h3]; have := pair_lt (g.step h1 ha).1 (g.step h1 hb).1; omega
    refine ⟨.int (q : Nat), (at2d2 _ _).2, rfl, rfl, rfl, lot, q, rfl, hq, ?_⟩
    show if lot.testBit q = true then _ else _
    by_cases e : lot.testBit q = true
    · rw [if_pos e] at hN ⊢; exact hN
    · rw [if_neg e] at hN ⊢; exact hN
  · obtain ⟨d, d1, d2, d3⟩ := hex
    have hfm : ∀ ps : List (Nat × Nat), ps.filterMap (fun p => if lot.testBit p.2 = true then some (D.tup [.int (p.1 : Nat), .int (p.2 : Nat)]) else none) = (ps.filter fun p => lot.testBit p.2).map fun p => D.tup [.int (p.1 : Nat), .int (p.2 : Nat)] := fun ps => by
      induction ps with
      | nil => rfl
      | cons p ps ih =>
        by_cases e : lot.testBit p.2 = true
        · rw [List.filterMap_cons_some (by rw [if_pos e]), List.filter_cons_of_pos (p := fun p : Nat × Nat => lot.testBit p.2) e, ih]; rfl
        · rw [List.filterMap_cons_none (by rw [if_neg e]), List.filter_cons_of_neg (p := fun p : Nat × Nat => lot.testBit p.2) e, ih]
    rw [hfm]
    generalize hfs : (rowP t a b).filter (fun p => lot.testBit p.2) = fs
    cases fs with
    | nil =>
      exfalso
      obtain ⟨p, hp1, hp2⟩ := List.mem_map.mp ((mem_rowP g ha hb).mpr ⟨d, d1, d2, rfl⟩)
      have : p ∈ (rowP t a b).filter fun p => lot.testBit p.2 := List.mem_filter.mpr ⟨hp1, by rw [hp2]; exact d3⟩
      rw [hfs] at this; cases this
    | cons p fs =>
      have hp : p ∈ (rowP t a b).filter fun p => lot.testBit p.2 := by rw [hfs]; exact List.mem_cons_self
      obtain ⟨hp1, hp2⟩ := List.mem_filter.mp hp
      obtain ⟨e, r⟩ := p
      obtain ⟨k1, k2, k3⟩ := rowP_mem g ha hb hp1
      refine ⟨.tup [.int (e : Nat), .int (r : Nat)], at_row0 (p := (e, r)) rfl, rfl, ?_⟩
      have hp2 : lot.testBit r = true := hp2
      subst k3
      refine ⟨rfl, ⟨l, _, rfl⟩, hz, q e k1 k2 hp2 fun d' y1 y2 y3 => ?_⟩
      have hm : (d', stepN t a d' * wd t + stepN t b d') ∈ (rowP t a b).filter fun p => lot.testBit p.2 := List.mem_filter.mpr ⟨rowP_in g ha hb y1 y2, y3⟩
      rw [hfs] at hm
      have hasc : ((e, _) :: fs).Pairwise fun p q => p.1 < q.1 := hfs ▸ (rowP_asc a b).filter _
      rcases List.mem_cons.mp hm with z | z
      · injection z with z1 z2; omega
      · have := (List.pairwise_cons.mp hasc).1 _ z
        simp only at this; omega
end
end K25
set_option Elab.async false
set_option autoImplicit false
set_option linter.all false
set_option maxRecDepth 100000
set_option maxHeartbeats 3900000
namespace K25
open DL L2 PyProof.Rows PySem PySem.Spec
section
variable {K : Fg} {C : Cs} {t : Tbl}
theorem lead_pair (g : Good t) {ns : List Nat} (h : Nexts t ns) {l k a b : Nat} (ha : a < wd t) (hb : b < wd t) (hL : Lead ns l (k + 1) (a * wd t + b)) : ∃ d, d < t.length ∧ stepN t a d ≠ stepN t b d ∧ Lead ns l k (stepN t a d * wd t + stepN t b d) := by
  obtain ⟨r, n, h1, h2, h3⟩ := lead_succ.mp hL
  obtain ⟨d, d1, d2, rfl⟩ := (one_step g h ha hb).mp ⟨n, h1, h2⟩
  exact ⟨d, d1, d2, h3⟩
theorem drop_rev {α : Type} {ls : List α} {i : Nat} (h : i < ls.length) : (ls.reverse.drop i) = ls[ls.length - 1 - i] :: ls.reverse.drop (i + 1) := by
  rw [List.drop_eq_getElem_cons (by rw [List.length_reverse]; exact h), List.getElem_reverse]
theorem way_lead (g : Good t) {ns : List Nat} (h : Nexts t ns) {s o la : Nat} (hs : s < wd t) (hla : Lasts t s la) {pre rest : List Nat} (hw : Way t s o (pre ++ rest)) : ledN t o pre ≠ ledN t s pre ∧ Lead ns la rest.length (ledN t o pre * wd t + ledN t s pre) := by
  have hpre : ∀ n ∈ pre, n < t.length := fun n hn => hw.lt n (List.mem_append_left _ hn)
  have hres : ∀ n ∈ rest, n < t.length := fun n hn => hw.lt n (List.mem_append_right _ hn)
  have e1 : ∀ x, ledN t x (pre ++ rest) = ledN t (ledN t x pre) rest := fun x => by unfold ledN; rw [List.foldl_append]
  have h1 := hw.to
  have h2 := hw.ne
  rw [e1] at h1 h2
  have hne : ledN t o pre ≠ ledN t s pre := fun e => h2 (by rw [← e]; exact h1)
  refine ⟨hne, s * wd t + ledN t (ledN t s pre) rest, (hla.bit _).mpr (List.mem_map.mpr ⟨_, mem_oth.mpr ⟨g.led hres (g.led hpre hs), h2⟩, rfl⟩), ?_⟩
  exact (steps_pair g h rest.length _ (g.led hpre hw.olt) (g.led hpre hs) hne).mpr ⟨rest, rfl, hres, by rw [h1]; exact fun e => h2 e.symm, by rw [h1]⟩
theorem m_walk_of_length : Sem0 3 13 (sp_walk_of_length C) (x_walk_of_length K C) := by
  rintro hl ds Ψ Ξ - ⟨h, t, s, L, g, hs, hL1, hL2, rfl, hpart, q⟩
  cases none_of h
  have h144 := sq_le g
  obtain ⟨p1, p2⟩ := ps_ok g
  obtain ⟨hf1, hl1⟩ := firsts_lt g hs
  have hw := g.head
  refine ⟨rfl, rfl, rfl, t, g, rfl, ?_⟩
  refine ⟨rfl, rfl, rfl, psL t, rfl, p1, p2, fun ns hns => ?_⟩
  have hno := nexts_ok g hns
  have hnl := nexts_len hns
  refine ⟨rfl, rfl, rfl, ns, rfl, hno, fun bs hb1 hb2 => ?_⟩
  have hbok : bs.length ≤ 200 ∧ ∀ n ∈ bs, n < 2 ^ 200 := ⟨by rw [hb1]; exact hno.len, fun n hn => by
    obtain ⟨i, hi⟩ := List.getElem?_of_mem hn
    exact (hb2 i n hi).lt⟩
  refine ⟨rfl, rfl, rfl, t, s, g, hs, rfl, rfl, rfl, rfl, _, rfl, fun p hp => by have := hl1 p hp; omega, fun la hla => ?_⟩
  have hlab : ∀ q, la.testBit q = true → q < ns.length := fun q hq => by rw [hnl]; exact hl1 q ((hla.bit q).mp hq)
  refine ⟨by show 1 ≤ sizeLine; decide, fun l5 => ?_⟩
  refine ⟨⟨by omega, by omega⟩, ?_⟩
  show wForL (wgName 6) (wk_a C) (rgD 0 (Int.toNat (L : Nat))) [.val (mach C t), .val (.int (s : Nat)), .val (.int (L : Nat)), .val (.lst ((psL t).map rowPD)), .val (.lst (numsD bs)), .own l5 (.l (numsD [la])), .un, .un, .un, .un, .un, .un, .un] _
  rw [rg_range]
  refine for_inv (fun ds ρ => ∃ (dn rest ls : List Nat) (s6 : Sl), ds = numsD rest ∧ dn ++ rest = List.range L ∧ ls.length = dn.length + 1 ∧ LeadL ns la ls ∧ ρ = [.val (mach C t), .val (.int (s : Nat)), .val (.int (L : Nat)), .val (.lst ((psL t).map rowPD)), .val (.lst (numsD bs)), .own l5 (.l (numsD ls)), s6, .un, .un, .un, .un, .un, .un]) (fun d ds ρ N h hN => ?_) (fun ρ h => ?_) _ _ ⟨[], List.range L, [la], .un, rfl, rfl, rfl, ⟨fun i n hi => ?_⟩, rfl⟩
  · obtain ⟨dn, rest, ls, s6, h1, h2, h3, h4, rfl⟩ := h
    obtain ⟨x, rest, rfl, rfl, rfl⟩ := nums_cons_of h1
    have hdl : dn.length < L := by
      have := congrArg List.length h2
      rw [List.length_append, List.length_cons, List.length_range] at this; omega
    obtain ⟨z0, hz0⟩ : ∃ z0, ls[dn.length]? = some z0 := ⟨_, List.getElem?_eq_getElem (by omega)⟩
    have hlast : ls.getLast? = some z0 := by
      rw [List.getLast?_eq_getElem?, show ls.length - 1 = dn.length by omega]; exact hz0
    have hlt := h4.at' dn.length _ hz0
    refine ⟨⟨l5, _, rfl⟩, ⟨l5, _, rfl⟩, _, at_last hlast, rfl, rfl, rfl, bs, _, rfl, hbok.1, hbok.2, hlt.lt, fun p hp => ?_, fun v hv => ⟨by rw [nums_len]; have := big; omega, hN _ ⟨dn ++ [x], rest, ls ++ [v], .val (.int (x : Nat)), rfl, by simp [h2], by simp [h3], ⟨fun i n hi => ?_⟩, ?_⟩⟩⟩
    · rw [hb1]; exact lead_lt hlab ((hlt.bit p).mp hp)
    · by_cases hi' : i < ls.length
      · rw [List.getElem?_append_left hi'] at hi; exact h4.at' i n hi
      · rw [List.getElem?_append_right (by omega)] at hi
        have : i - ls.length = 0 := by
          cases hz : i - ls.length with
          | zero => rfl
          | succ z => rw [hz] at hi; simp at hi
        rw [this] at hi
        cases hi
        have hi2 : i = dn.length + 1 := by omega
        subst hi2
        refine hv.congr fun p => ?_
        rw [lead_succ]
        constructor
        · rintro ⟨r, n, z1, z2, z3⟩
          obtain ⟨m, z4, z5⟩ := ((hb2 r n z2).bit p).mp z3
          exact ⟨r, m, z4, z5, (hlt.bit r).mp z1⟩
        · rintro ⟨r, m, z4, z5, z6⟩
          have hr : r < bs.length := by rw [hb1]; exact lead_lt hlab z6
          exact ⟨r, bs[r], (hlt.bit r).mpr z6, List.getElem?_eq_getElem hr, ((hb2 r _ (List.getElem?_eq_getElem hr)).bit p).mpr ⟨m, z4, z5⟩⟩
    · show [Sl.val _, .val _, .val _, .val _, .val _, Sl.own l5 (.l (numsD ls ++ [.int (v : Nat)])), .val _, .un, .un, .un, .un, .un, .un] = _
      unfold numsD; rw [List.map_append]; rfl
  · obtain ⟨dn, rest, ls, s6, h1, h2, h3, h4, rfl⟩ := h
    cases nums_nil_of h1
    rw [List.append_nil] at h2
    have hdl : dn.length = L := by rw [h2, List.length_range]
    rw [hdl] at h3
    have hgetL : ls[L]? = some (ls[L]'(by omega)) := List.getElem?_eq_getElem (by omega)
    have hlotL := h4.at' L _ hgetL
    generalize hzL : ls[L]'(by omega) = zL at hgetL hlotL
    refine ⟨⟨l5, _, rfl⟩, _, at_nums hgetL, ?_⟩
    refine ⟨rfl, rfl, rfl, t, s, g, hs, rfl, rfl, rfl, rfl, _, rfl, fun p hp => by have := hf1 p hp; omega, fun fi hfi => ?_⟩
    have key : ∀ z : Int, z = ((zL &&& fi : Nat) : Int) → sp_members C none [.int z] (fun d _ => wIx d (.int 0) fun z => (wSeq (wAsg 8 (wVar 7)) (wSeq (wAsgO 9 (woLst wNil)) (wSeq (wFor (wiSeq (wRevSl2 (wVar 5) (wUn wNeg (wC (.int 2))) (wUn wNeg (wC (.int 1))))) (wgName 10) (wk_b C)) (wRet (wTup (wCons (wOp wDiv (wVar 7) (wFld C.Machine "states" (wVar 0))) (wCons (wCB wTupOf (wCons (wVar 9) wNil)) wNil)))))))
        [.val (mach C t), .val (.int (s : Nat)), .val (.int (L : Nat)), .val (.lst ((psL t).map rowPD)), .val (.lst (numsD bs)), .own l5 (.l (numsD ls)), s6, .val z, .un, .un, .un, .un, .un] (dEnds none Ψ Ξ)) fun _ _ _ => False := by
      rintro z rfl
      refine ⟨rfl, zL &&& fi, rfl, Nat.lt_of_le_of_lt Nat.and_le_left hlotL.lt, fun ms hm1 hm2 hm3 => ?_⟩
      -- there is one
      obtain ⟨o, log, k1, k2, k3, k4, k5⟩ := hpart
      have hne : o ≠ s := fun e => k5 (by rw [← e, k4, e])
      have hin : (o * wd t + s) ∈ ms := by
        rw [hm2, Nat.testBit_and, Bool.and_eq_true]
        refine ⟨(hlotL.bit _).mpr ⟨s * wd t + ledN t s log, (hla.bit _).mpr (List.mem_map.mpr ⟨_, mem_oth.mpr ⟨g.led k3 hs, k5⟩, rfl⟩), ?_⟩, (hfi.bit _).mpr (List.mem_map.mpr ⟨o, mem_oth.mpr ⟨k1, hne⟩, rfl⟩)⟩
        exact (steps_pair g hns L _ k1 hs hne).mpr ⟨log, k2, k3, by rw [k4]; exact fun e => k5 e.symm, by rw [k4]⟩
      obtain ⟨f0, hf0⟩ : ∃ f0, ms.head? = some f0 := by
        cases ms with
        | nil => cases hin
        | cons x ms => exact ⟨x, rfl⟩
      have hf0m : f0 ∈ ms := List.mem_of_mem_head? hf0
      have hb0 := (hm2 f0).mp hf0m
      rw [Nat.testBit_and, Bool.and_eq_true] at hb0
      obtain ⟨o', ho', ef⟩ := List.mem_map.mp ((hfi.bit f0).mp hb0.2)
      obtain ⟨ho1, ho2⟩ := mem_oth.mp ho'
      have hlead0 := (hlotL.bit f0).mp hb0.1
      subst ef
      have hole : ∀ o2 ns2, Way t s o2 ns2 → ns2.length = L → o' ≤ o2 := by
        intro o2 ns2 hw2 hl2
        obtain ⟨x1, x2⟩ := way_lead g hns hs hla (pre := []) (rest := ns2) hw2
        rw [hl2] at x2
        have hm : (o2 * wd t + s) ∈ ms := by
          rw [hm2, Nat.testBit_and, Bool.and_eq_true]
          exact ⟨(hlotL.bit _).mpr x2, (hfi.bit _).mpr (List.mem_map.mpr ⟨o2, mem_oth.mpr ⟨hw2.olt, x1⟩, rfl⟩)⟩
        have hle : o' * wd t + s ≤ o2 * wd t + s := by
          cases ms with
          | nil => cases hm
          | cons y ms =>
            cases hf0
            rcases List.mem_cons.mp hm with z | z
            · omega
            · have := (List.pairwise_cons.mp hm3).1 _ z; omega
        have : o' * wd t ≤ o2 * wd t := by omega
        exact Nat.le_of_mul_le_mul_right this (by omega)
      clear hin hm1 hm2 hm3 k1 k2 k3 k4 k5 hne log o
      refine ⟨_, at_n0 hf0, ?_⟩
      refine ⟨by show 0 ≤ sizeLine; omega, fun l9 => ?_⟩
      show wForL (wgName 10) (wk_b C) ((numsD ls).reverse.drop 1) [.val (mach C t), .val (.int (s : Nat)), .val (.int (L : Nat)), .val (.lst ((psL t).map rowPD)), .val (.lst (numsD bs)), .val (.lst (numsD ls)), s6, .val (.int ((o' * wd t + s : Nat) : Int)), .val (.int ((o' * wd t + s : Nat) : Int)), .own l9 (.l []), .un, .un, .un] _
      refine for_inv (fun ds ρ => ∃ (i a b : Nat) (log : List Nat) (s10 s11 : Sl), ds = (numsD ls).reverse.drop (i + 1) ∧ i ≤ L ∧ log.length = i ∧ (∀ n ∈ log, n < t.length) ∧ a = ledN t o' log ∧ b = ledN t s log ∧ Lead ns la (L - i) (a * wd t + b) ∧ Greedy t s o' L log ∧
        ρ = [.val (mach C t), .val (.int (s : Nat)), .val (.int (L : Nat)), .val (.lst ((psL t).map rowPD)), .val (.lst (numsD bs)), .val (.lst (numsD ls)), s6, .val (.int ((o' * wd t + s : Nat) : Int)), .val (.int ((a * wd t + b : Nat) : Int)), .own l9 (.l (numsD log)), s10, s11, .un]) (fun d ds ρ N h hN => ?_) (fun ρ h => ?_) _ _ ⟨0, o', s, [], .un, .un, rfl, by omega, rfl, (fun _ z => nomatch z), rfl, rfl, hlead0, (fun i d z => by simp at z), rfl⟩
      · obtain ⟨i, a, b, log, s10, s11, e1, e2, e3, e4, ea, eb, e5, egr, rfl⟩ := h
        have hiL : i < L := by
          by_cases hz : i < L
          · exact hz
          · rw [List.drop_eq_nil_of_le (by rw [List.length_reverse, nums_len]; omega)] at e1; cases e1
        have hrev : (numsD ls).reverse = numsD ls.reverse := by unfold numsD; rw [List.map_reverse]
        have hidx : ls.length - 1 - (i + 1) = L - i - 1 := by omega
        have hlt' : L - i - 1 < ls.length := by omega
        have hdr : (numsD ls).reverse.drop (i + 1) = .int ((ls[L - i - 1]'hlt' : Nat) : Int) :: (numsD ls).reverse.drop (i + 1 + 1) := by
          rw [drop_rev (by rw [nums_len]; omega)]
          congr 1
          unfold numsD
          simp only [List.getElem_map, List.length_map, hidx]
        rw [hdr] at e1
        injection e1 with e1 e6
        subst e1 e6
        have ha : a < wd t := by rw [ea]; exact g.led e4 ho1
        have hb : b < wd t := by rw [eb]; exact g.led e4 hs
        have hsucc : L - i = (L - i - 1) + 1 := by omega
        rw [hsucc] at e5
        have hlot := h4.at' (L - i - 1) _ (List.getElem?_eq_getElem hlt')
        obtain ⟨d, d1, d2, d3⟩ := lead_pair g hns ha hb e5
        refine wk_one g ha hb (by rw [nums_len]; have := big; omega) ⟨d, d1, d2, (hlot.bit _).mpr d3⟩ fun d d1 d2 d3 d4 => hN _ ⟨i + 1, stepN t a d, stepN t b d, log ++ [d], .val (.int ((ls[L - i - 1]'hlt' : Nat) : Int)), .val (.int (d : Nat)), rfl, by omega, by simp [e3], fun n hn => ?_, by rw [led_snoc, ea], by rw [led_snoc, eb], ?_, ?_, ?_⟩
        · rcases List.mem_append.mp hn with z | z
          · exact e4 n z
          · rw [List.mem_singleton.mp z]; exact d1
        · have : L - (i + 1) = L - i - 1 := by omega
          rw [this]
          exact (hlot.bit _).mp d3
        · intro j x hx d' rest hw hlen
          by_cases hj : j < log.length
          · rw [List.getElem?_append_left hj] at hx
            rw [List.take_append_of_le_length (by omega)] at hw hlen
            exact egr j x hx d' rest hw hlen
          · rw [List.getElem?_append_right (by omega)] at hx
            have hj0 : j - log.length = 0 := by
              cases hz : j - log.length with
              | zero => rfl
              | succ z => rw [hz] at hx; simp at hx
            rw [hj0] at hx
            cases hx
            have hjl : j = log.length := by omega
            rw [hjl, List.take_left'  rfl] at hw hlen
            have hw' : Way t s o' ((log ++ [d']) ++ rest) := by rw [List.append_assoc]; exact hw
            obtain ⟨x1, x2⟩ := way_lead g hns hs hla hw'
            have hrl : rest.length = L - i - 1 := by
              rw [List.length_append, List.length_cons] at hlen; omega
            rw [led_snoc, led_snoc, ← ea, ← eb] at x1 x2
            rw [hrl] at x2
            exact d4 d' (hw.lt d' (by simp)) x1 ((hlot.bit _).mpr x2)
        · have : numsD (log ++ [d]) = numsD log ++ [.int (d : Nat)] := by unfold numsD; rw [List.map_append]; rfl
          rw [this]
      · obtain ⟨i, a, b, log, s10, s11, e1, e2, e3, e4, ea, eb, e5, egr, rfl⟩ := h
        have hiL : i = L := by
          by_cases hz : i < L
          · have : ((numsD ls).reverse.drop (i + 1)).length = 0 := by rw [← e1]; rfl
            rw [List.length_drop, List.length_reverse, nums_len] at this; omega
          · omega
        subst hiL
        rw [Nat.sub_self] at e5
        obtain ⟨p, z1, z2⟩ := e5
        cases (z2 : a * wd t + b = p)
        obtain ⟨o2, y1, y2⟩ := List.mem_map.mp ((hla.bit _).mp z1)
        obtain ⟨y3, y4⟩ := mem_oth.mp y1
        have hb : b < wd t := by rw [eb]; exact g.led e4 hs
        obtain ⟨x1, x2⟩ := pair_inj y3 hb y2
        refine ⟨rfl, _, look_st C t, ⟨by omega, by omega⟩, ?_⟩
        refine ⟨by show 2 ≤ sizeLine; decide, ?_⟩
        have hdiv : (((o' * wd t + s : Nat) : Int)) / ((wd t : Nat) : Int) = ((o' : Nat) : Int) := by
          have : (o' * wd t + s) / wd t = o' := by rw [Nat.add_comm, Nat.add_mul_div_right _ _ (by omega), Nat.div_eq_of_lt hs, Nat.zero_add]
          rw [← Int.natCast_ediv, this]
        show Ψ (.tup [.int ((((o' * wd t + s : Nat) : Int)) / ((wd t : Nat) : Int)), .tup (numsD log)]) none
        rw [hdiv]
        exact q o' log ⟨⟨ho1, e4, by rw [← ea]; exact x1.symm, by rw [← eb, ← x2]; exact y4⟩, e3, hole, egr⟩
    exact ⟨rfl, rfl, key _ (band_nat zL fi)⟩
  · cases i with
    | zero => cases hi; exact ⟨hla.lt, fun p => ⟨fun z => ⟨p, z, rfl⟩, fun ⟨q', z1, z2⟩ => by cases (z2 : p = q'); exact z1⟩⟩
    | succ i => simp at hi
end
end K25
set_option Elab.async false
set_option autoImplicit false
set_option linter.all false
set_option maxRecDepth 100000
set_option maxHeartbeats 3900000
namespace K25
open DL L2 PyProof.Rows PySem PySem.Spec
section
variable {K : Fg} {C : Cs} {t : Tbl}
theorem starts_nums {m : Nat} {y : D} {ss : List Nat} (h : startsOk m y = true) (hy : seqD y = some (numsD ss)) : (∀ s ∈ ss, s < m) ∧ ss.length ≤ m ∧ ss ≠ [] := by
  unfold startsOk ascD lenD at h
  rw [hy, Bool.and_eq_true] at h
  obtain ⟨h1, h2⟩ := asc_nums ss 0 (by omega) h.1
  refine ⟨h1, by omega, ?_⟩
  rintro rfl
  have := of_decide_eq_true h.2
  exact this rfl
theorem gate {x y b : D} {ρ : Rho} {iy ib : Nat} {Δ : DE} {rest : WS} {Ξ : Addr → Str → D → Prop} {G : Nat → List Nat → Prop} (h0 : ρ[0]? = some (.val (mach C t))) (h1 : ρ[1]? = some (.val x)) (hy : ρ[iy]? = some (.val y)) (hb : ∀ d, (ρ.set iy (.val d))[ib]? = some (.val b))
    (hx : Δ.xc = fun C f d _ => Ξ C f d) (g : Good t) (hg : gateW C t x y b Ξ G)
    (q : ∀ (m : Nat) (ss : List Nat), x = .int (m : Nat) → 1 ≤ m → m ≤ 200 → (∀ s ∈ ss, s < wd t) → ss.length ≤ 12 → bndOk b = true → G m ss → rest (ρ.set iy (.val (rowD ss))) Δ) :
    wSeq (wDrop (wCallA 1 0 (sp_check_modulus C) (fun ds _ => ds) (wCons (wVar 1) wNil) wNil)) (wSeq (wAsg iy (wCallA 2 0 (sp_check_starts C) (fun ds _ => ds) (wCons (wVar 0) (wCons (wVar iy) wNil)) wNil)) (wSeq (wDrop (wCallA 1 0 (sp_check_bound C) (fun ds _ => ds) (wCons (wVar ib) wNil) wNil)) rest)) ρ Δ := by
  have hw := g.head
  obtain ⟨hp, hg⟩ := hg
  have k1 : wVar 1 ρ Δ.xc (fun d ρ1 => [d].length = 1 ∧ ([] : List D).length = 0 ∧ sp_check_modulus C none [d] (fun _ _ => (wSeq (wAsg iy (wCallA 2 0 (sp_check_starts C) (fun ds _ => ds) (wCons (wVar 0) (wCons (wVar iy) wNil)) wNil)) (wSeq (wDrop (wCallA 1 0 (sp_check_bound C) (fun ds _ => ds) (wCons (wVar ib) wNil) wNil)) rest)) ρ1 Δ) fun c f d => Δ.xc c f d ρ1) := by
    refine ev_var h1 _ _ ⟨rfl, rfl, rfl, x, rfl, hp, ?_⟩
    rcases hg with ⟨h2, h3⟩ | ⟨m, rfl, m1, m2, hg⟩
    · rw [h2, hx]; exact h3
    have hmo : modOk (.int (m : Nat)) = true := by
      show (decide (0 < (m : Int)) && decide ((m : Int) ≤ 200)) = true
      rw [decide_eq_true (by omega), decide_eq_true (by omega)]; rfl
    rw [if_pos hmo]
    have k2 : wVar 0 ρ Δ.xc (fun d ρ1 => wVar iy ρ1 Δ.xc fun d2 ρ2 => [d, d2].length = 2 ∧ ([] : List D).length = 0 ∧ sp_check_starts C none [d, d2] (fun z _ => (wSeq (wDrop (wCallA 1 0 (sp_check_bound C) (fun ds _ => ds) (wCons (wVar ib) wNil) wNil)) rest) (ρ2.set iy (.val z)) Δ) fun c f d => Δ.xc c f d ρ2) := by
      refine ev_var h0 _ _ (ev_var hy _ _ ⟨rfl, rfl, rfl, t, y, rfl, g, ?_⟩)
      rcases hg with ⟨h2, h3, h4, h5, h6⟩ | ⟨ss, hss, hpb, hg⟩
      · refine .inr ⟨h3, h4, ?_⟩
        rw [h5, hx]; exact h6
      have k3 : (∀ s ∈ ss, s < wd t) → ss.length ≤ 12 → wVar ib (ρ.set iy (.val (rowD ss))) Δ.xc (fun d ρ1 => [d].length = 1 ∧ ([] : List D).length = 0 ∧ sp_check_bound C none [d] (fun _ _ => rest ρ1 Δ) fun c f d => Δ.xc c f d ρ1) := by
        intro hs1 hs2
        refine ev_var (hb _) _ _ ⟨rfl, rfl, rfl, b, rfl, hpb, ?_⟩
        rcases hg with ⟨h2, h3⟩ | ⟨h2, h3⟩
        · rw [h2, hx]; exact h3
        · rw [h2]
          exact q m ss rfl m1 m2 hs1 hs2 h2 h3
      rcases hss with ⟨rfl, rfl⟩ | ⟨n1, n2, n3, n4⟩
      · exact .inl ⟨rfl, k3 (fun s hs => List.mem_range.mp hs) (by rw [List.length_range]; omega)⟩
      · obtain ⟨s1, s2, s3⟩ := starts_nums n3 n4
        refine .inr ⟨n1, n2, ?_⟩
        rw [if_pos n3]
        have : tupD y = rowD ss := by unfold tupD; rw [n4]; rfl
        rw [this]
        exact k3 s1 (by omega)
    exact k2
  exact k1
theorem m_wrap_paper : Sem0 4 9 (sp_wrap_paper C) (x_wrap_paper K C) := by
  rintro hl ds Ψ Ξ - ⟨h, t, x, y, b, g, rfl, hg⟩
  cases none_of h
  refine gate (iy := 2) (ib := 3) rfl rfl rfl (fun _ => rfl) rfl g hg fun m ss hx m1 m2 s1 s2 hb ⟨q0, q1⟩ => ?_
  subst hx
  refine ⟨rfl, rfl, rfl, t, m, ss, b, g, rfl, m1, m2, s1, s2, hb, fun hno => ?_, fun L s hL hw hle hsle => ?_⟩
  · exact ⟨rfl, true, rfl, q0 hno⟩
  · refine ⟨rfl, false, rfl, ?_⟩
    refine ⟨rfl, rfl, ?_⟩
    refine ⟨rfl, rfl, rfl, t, s, L, g, s1 s hw.mem, hw.pos, Nat.le_trans hL (by omega), rfl, hw.part, fun o ns hwl => ?_⟩
    obtain rfl := hwl.len
    refine ⟨rfl, rfl, ?_⟩
    exact ⟨by show 4 ≤ sizeLine; decide, q1 s o ns hL ⟨hw, hwl.way, hle, hsle, hwl⟩⟩
open Classical in
theorem enough_t {ss : List Nat} {m : Nat} {b : D} (h : ∀ L s, ¬ Wr t ss m b L s) : enough t ss m b = true := decide_eq_true h
open Classical in
theorem enough_f {ss : List Nat} {m : Nat} {b : D} {L s : Nat} (h : Wr t ss m b L s) : enough t ss m b = false := decide_eq_false fun z => z L s h
theorem m_is_enough : Sem0 4 4 (sp_is_enough C) (x_is_enough K C) := by
  rintro hl ds Ψ Ξ - ⟨h, t, x, y, b, g, rfl, hg⟩
  cases none_of h
  refine gate (iy := 2) (ib := 3) rfl rfl rfl (fun _ => rfl) rfl g hg fun m ss hx m1 m2 s1 s2 hb q => ?_
  subst hx
  refine ⟨rfl, rfl, rfl, t, m, ss, b, g, rfl, m1, m2, s1, s2, hb, fun hno => ?_, fun L s hL hw hle hsle => ?_⟩
  · refine ⟨rfl, true, rfl, ?_⟩
    have : enough t ss m b = true := enough_t hno
    rw [this] at q; exact q
  · refine ⟨rfl, false, rfl, ?_⟩
    have : enough t ss m b = false := enough_f hw
    rw [this] at q; exact q
theorem below_nat {a m : Nat} (h : a < m) : belowD (.int (a : Nat)) (m : Int) = true := by
  show (decide (0 ≤ (a : Int)) && decide ((a : Int) < (m : Int))) = true
  rw [decide_eq_true (by omega), decide_eq_true (by omega)]; rfl
theorem m_is_parting : Sem0 5 5 (sp_is_parting C) (x_is_parting K C) := by
  rintro hl ds Ψ Ξ - ⟨h, t, ss, s, o, ns, g, hm, hs, hw, hlen, rfl, q⟩
  cases none_of h
  refine ⟨rfl, _, look_st C t, rfl, rfl, rfl, _, _, rfl, rfl, ?_⟩
  rw [below_nat hs]
  refine ⟨_, ints_row ss, ?_⟩
  have e : decide ((s : Int) ∈ ss.map fun (n : Nat) => (n : Int)) = true := decide_eq_true ((mem_cast s ss).mpr hm)
  show if (!decide ((s : Int) ∈ ss.map fun (n : Nat) => (n : Int))) = true then _ else _
  rw [e]
  refine ⟨rfl, _, look_st C t, rfl, rfl, rfl, _, _, rfl, rfl, ?_⟩
  rw [below_nat hw.olt]
  refine ⟨rfl, rfl, rfl, t, o, ns, _, g, hw.olt, rfl, rfl, hw.lt, hlen, ?_⟩
  refine eqF_ints (Φ := fun z => match z with | .bl b => if b = true then _ else Ψ (.bl false) none | _ => False) ?_
  rw [hw.to, decide_eq_true rfl]
  refine ⟨rfl, rfl, rfl, t, s, ns, _, g, hs, rfl, rfl, hw.lt, hlen, ?_⟩
  refine eq_ints (Φ := fun z => Ψ z none) ?_
  have hne := hw.ne
  rw [decide_eq_false (by omega)]
  exact q
theorem under_ge {b : D} {L : Nat} (h : Under b L) (hb : bndOk b = true) : b = .non ∨ ∃ v : Int, b = .int v ∧ decide (v ≤ (L : Int)) = false := h.imp id fun ⟨v, h1, h2⟩ => ⟨v, h1, decide_eq_false (by omega)⟩
theorem m_wrap_holds : Sem0 5 9 (sp_wrap_holds C) (x_wrap_holds K C) := by
  rintro hl ds Ψ Ξ - ⟨h, t, x, v, y, b, g, rfl, hg⟩
  cases none_of h
  refine gate (iy := 3) (ib := 4) rfl rfl rfl (fun _ => rfl) rfl g hg fun m ss hx m1 m2 s1 s2 hb ⟨s, o, ns, hv, hw, hway, hlen, q⟩ => ?_
  subst hx hv
  have hlog := (log_ok (t := t) (y := rowD ns) (ns := ns) rfl hway.lt hlen).1
  refine ⟨rfl, rfl, rfl, papD s o ns, 4, rfl, rfl, ?_⟩
  refine ⟨.str "wrap", rfl, ?_⟩
  have hsh : SeqAt.shaped (.str "wrap") = true := by simp [SeqAt.shaped, PyData.canLay0, PyData.depth]; decide +kernel
  have hev : PyData.eqv (.str "wrap") (.str "wrap") = true := SeqAt.eqv_refl _ (SeqAt.canLay_of_shaped hsh)
  refine ⟨.str "wrap", .str "wrap", rfl, rfl, hsh, hsh, ?_⟩
  show if (!PyData.eqv (.str "wrap") (.str "wrap")) = true then _ else _
  rw [hev]
  refine ⟨rfl, rfl, ?_⟩
  refine ⟨rfl, rfl, rfl, t, rowD ns, rfl, plain_nums (ns := ns) rfl, ?_⟩
  rw [hlog]
  refine ⟨rfl, true, rfl, ?_⟩
  refine ⟨by omega, ?_⟩
  refine eq_ints (Φ := fun z => match z with | .bl b => if b = true then _ else _ | _ => False) ?_
  have hmod : (((numsD ns).length : Nat) : Int) % ((m : Nat) : Int) = 0 := by
    rw [nums_len]
    obtain ⟨k, hk⟩ := hw.dvd
    rw [hk]; simp
  show if (!decide ((((numsD ns).length : Nat) : Int) % ((m : Nat) : Int) = 0)) = true then _ else _
  rw [decide_eq_true hmod]
  have fin : wRet (wCallA 5 0 (sp_is_parting C) (fun ds _ => ds) (wCons (wVar 0) (wCons (wVar 3) (wCons (wVar 6) (wCons (wVar 7) (wCons (wTup (wCons (wVar 8) wNil)) wNil))))) wNil) [.val (mach C t), .val (.int (m : Nat)), .val (papD s o ns), .val (rowD ss), .val b, .val (.str "wrap"), .val (.int (s : Nat)), .val (.int (o : Nat)), .val (rowD ns)] (dEnds none Ψ Ξ) :=
    ⟨by show 1 ≤ sizeLine; decide, rfl, rfl, rfl, t, ss, s, o, ns, g, hw.mem, s1 s hw.mem, hway, hlen, rfl, q⟩
  rcases under_ge hw.und hb with rfl | ⟨v, rfl, hv⟩
  · exact ⟨rfl, true, rfl, fin⟩
  · refine ⟨rfl, false, rfl, ?_⟩
    show if decide (v ≤ (((numsD ns).length : Nat) : Int)) = true then _ else _
    rw [nums_len, hv]
    exact fin
end
end K25
set_option Elab.async false
set_option autoImplicit false
set_option linter.all false
set_option maxRecDepth 100000
set_option maxHeartbeats 3900000
namespace K25
open DL L2 PyProof.Rows PySem PySem.Spec
section
variable {K : Fg} {C : Cs} {t : Tbl}
/-! every c-th number -/
def stepC (i j c : Nat) : Nat := if i < j then (j - i - 1) / c + 1 else 0
def stepL (i j c : Nat) : List Nat := (List.range (stepC i j c)).map fun k => i + k * c
theorem rg_step {i j c : Nat} (hc : 1 ≤ c) (hi : i ≤ 1000000) (hj : j ≤ 1000000) (hc2 : c ≤ 1000000) : L2.RgC (i : Int) (j : Int) (c : Int) (stepC i j c) ∧ rgC (i : Int) (c : Int) (stepC i j c) = numsD (stepL i j c) := by
  have hsz : Builtin.Range.rangeSize (i : Int) (j : Int) (c : Int) = ((stepC i j c : Nat) : Int) := by
    unfold Builtin.Range.rangeSize stepC
    rw [if_pos (by omega)]
    by_cases h : i < j
    · rw [if_pos (by omega), if_pos h]
      have : ((j : Int) - i - 1) = ((j - i - 1 : Nat) : Int) := by omega
      rw [this]; simp
    · rw [if_neg (by omega), if_neg h]; rfl
  have hle : stepC i j c ≤ 1000001 := by
    unfold stepC
    split
    · have := Nat.div_le_self (j - i - 1) c; omega
    · omega
  refine ⟨⟨by omega, by omega, ?_, hsz⟩, ?_⟩
  · unfold Builtin.Range.small
    rw [hsz]
    have e : (c : Int) > 0 := by omega
    simp only [Builtin.Range.rangeFitsLong, Bool.and_eq_true, Bool.or_eq_true, decide_eq_true_eq, beq_iff_eq, e, if_true]
    omega
  · unfold rgC numsD stepL
    rw [List.map_map]
    refine List.map_congr_left fun k _ => ?_
    show D.int _ = D.int _
    congr 1
theorem mem_step {i j c x : Nat} (hc : 1 ≤ c) : x ∈ stepL i j c ↔ i ≤ x ∧ x < j ∧ c ∣ x - i := by
  unfold stepL stepC
  rw [List.mem_map]
  constructor
  · rintro ⟨k, hk, rfl⟩
    have hk := List.mem_range.mp hk
    split at hk
    · rename_i h
      have h1 : k ≤ (j - i - 1) / c := by omega
      have h2 := (Nat.le_div_iff_mul_le (by omega)).mp h1
      refine ⟨Nat.le_add_right _ _, by omega, ⟨k, by rw [Nat.add_sub_cancel_left, Nat.mul_comm]⟩⟩
    · omega
  · rintro ⟨h1, h2, k, hk⟩
    refine ⟨k, List.mem_range.mpr ?_, by rw [Nat.mul_comm]; omega⟩
    rw [if_pos (by omega)]
    have : k ≤ (j - i - 1) / c := (Nat.le_div_iff_mul_le (by omega)).mpr (by rw [Nat.mul_comm]; omega)
    omega
theorem cut_mid (xs : List D) (a b : Nat) (h : a ≤ b) (hb : b ≤ xs.length) : DL.cutD xs (some (a : Int)) (some (b : Int)) = (xs.take b).drop a := by
  have h2 : HT.sIx xs.length xs.length (some (b : Int)) = b := by rw [HT.sIx_nat]; omega
  have h1 : HT.sIx xs.length 0 (some (a : Int)) = a := by rw [HT.sIx_nat]; omega
  unfold DL.cutD
  rw [h1, h2, List.drop_take]
theorem cut_n (ns : List Nat) (a b : Nat) (h : a ≤ b) (hb : b ≤ ns.length) : DL.cutD (numsD ns) (some (a : Int)) (some (b : Int)) = numsD ((ns.take b).drop a) := by
  rw [cut_mid _ _ _ h (by rw [nums_len]; exact hb)]
  unfold numsD
  rw [List.map_drop, List.map_take]
/-- the rows of a log, moment by moment -/
def rowsL (t : Tbl) (ns : List Nat) (k : Nat) : List D := (List.range (k + 1)).map fun i => .lst (numsD (endRow t (ns.take i)))
theorem rows_succ (t : Tbl) (ns : List Nat) (k : Nat) : rowsL t ns (k + 1) = rowsL t ns k ++ [.lst (numsD (endRow t (ns.take (k + 1))))] := by
  unfold rowsL; rw [List.range_succ, List.map_append]; rfl
theorem rows_len (t : Tbl) (ns : List Nat) (k : Nat) : (rowsL t ns k).length = k + 1 := by unfold rowsL; rw [List.length_map, List.length_range]
theorem rows_at {t : Tbl} {ns : List Nat} {k i : Nat} (h : i ≤ k) : atI (rowsL t ns k) (i : Nat) = some (.lst (numsD (endRow t (ns.take i)))) := by
  unfold atI ixN
  rw [if_pos (by omega), if_pos (by rw [rows_len]; omega)]
  unfold rowsL
  simp [show i < k + 1 by omega]
abbrev cl_a : WS := wApp 5 (wLc (wiSeq (wIxO 5 (wOp wSub (wLenO 5) (wC (.int 1))))) (wgName 9) wTrue (wOp wIx (wOp wIx (wVar 0) (wVar 6)) (wVar 9)) [9])
theorem cl_row (g : Good t) {ns : List Nat} {k d : Nat} (hns : ∀ n ∈ ns, n < t.length) (hk : ns[k]? = some d) (hlen : ns.length ≤ 10000) {a1 a2 a3 a4 a7 a8 : Sl} {l : Addr} {Δ : DE}
    (q : Δ.nx [.val (tbsD t), a1, a2, a3, a4, .own l (.l (rowsL t ns (k + 1))), .val (.int (d : Nat)), a7, a8, .un]) :
    cl_a [.val (tbsD t), a1, a2, a3, a4, .own l (.l (rowsL t ns k)), .val (.int (d : Nat)), a7, a8, .un] Δ := by
  obtain ⟨hlt, hget⟩ := List.getElem?_eq_some_iff.mp hk
  have hd : d < t.length := hns d (List.mem_of_getElem? hk)
  have hpre : ∀ n ∈ ns.take k, n < t.length := fun n hn => hns n (List.mem_of_mem_take hn)
  obtain ⟨e1, e2⟩ := end_ok g hpre
  have hrow : (t[d]).length = wd t := row_len g (List.getElem_mem hd)
  have hw := g.head
  refine ⟨⟨l, _, rfl⟩, ⟨l, _, rfl⟩, .lst (numsD (endRow t (ns.take k))), ?_, ?_⟩
  · have : (((rowsL t ns k).length : Nat) : Int) - 1 = ((k : Nat) : Int) := by rw [rows_len]; omega
    rw [this]
    exact rows_at (Nat.le_refl k)
  · show wLcL _ wTrue _ [9] ((endRow t (ns.take k)).map fun n => D.int (n : Nat)) [] [.val (tbsD t), a1, a2, a3, a4, .own l (.l (rowsL t ns k)), .val (.int (d : Nat)), a7, a8, .un] _
    refine lc_mfc _ (fun n => D.int (n : Nat)) (fun n => some (.int (cellR t[d] n : Nat))) _ (by rw [e1]; have := big; omega) (fun n hn N hN => ?_) ?_
    · exact ⟨_, at_rows (List.getElem?_eq_getElem hd), _, at_cell (by rw [hrow]; exact e2 n hn), hN⟩
    · rw [fm_all]
      refine ⟨by rw [rows_len]; have := big; omega, ?_⟩
      have e3 : ns.take (k + 1) = ns.take k ++ [d] := by rw [List.take_succ, hk]; rfl
      have e4 : (endRow t (ns.take k)).map (fun n => D.int (cellR t[d] n : Nat)) = numsD (endRow t (ns.take (k + 1))) := by
        rw [e3, ← end_snoc g hpre hd]; unfold numsD; rw [List.map_map]; rfl
      rw [rows_succ] at q
      rw [e4]
      exact q
/-- what the test asks of a state at two moments -/
def AtB (t : Tbl) (ns : List Nat) (i j s : Nat) : Prop := s ∈ endRow t (ns.take i) ∧ s ∈ endRow t (ns.take j) ∧ ledN t s ((ns.take j).drop i) ≠ s
abbrev cl_s : Cs → WS := fun C => wIfS (wAnd (wB (wOp (wInI false) (wVar 9) (wIxO 5 (wVar 7)))) (wAnd (wB (wOp (wInI false) (wVar 9) (wIxO 5 (wVar 8)))) (wB (wOp (wEq true) (wCallA 3 0 (sp_law_behind C) (fun ds _ => ds) (wCons (wVar 0) (wCons (wVar 9) (wCons (wSl (wVar 1) (woSome (wVar 7)) (woSome (wVar 8))) wNil))) wNil) (wVar 9))))) (wRet (wTup (wCons (wVar 7) (wCons (wVar 8) wNil)))) wNext
theorem cl_one (g : Good t) {ns : List Nat} {i j s : Nat} (hns : ∀ n ∈ ns, n < t.length) (hs : s < wd t) (hi : i ≤ j) (hj : j ≤ ns.length) {a2 a3 a4 a6 : Sl} {l : Addr} {Δ : DE}
    (q1 : AtB t ns i j s → Δ.rt (.tup [.int (i : Nat), .int (j : Nat)]) [.val (tbsD t), .val (.lst (numsD ns)), a2, a3, a4, .own l (.l (rowsL t ns ns.length)), a6, .val (.int (i : Nat)), .val (.int (j : Nat)), .val (.int (s : Nat))])
    (q0 : ¬ AtB t ns i j s → Δ.nx [.val (tbsD t), .val (.lst (numsD ns)), a2, a3, a4, .own l (.l (rowsL t ns ns.length)), a6, .val (.int (i : Nat)), .val (.int (j : Nat)), .val (.int (s : Nat))]) :
    cl_s C [.val (tbsD t), .val (.lst (numsD ns)), a2, a3, a4, .own l (.l (rowsL t ns ns.length)), a6, .val (.int (i : Nat)), .val (.int (j : Nat)), .val (.int (s : Nat))] Δ := by
  refine ⟨⟨l, _, rfl⟩, _, rows_at (by omega), _, ints_row _, ?_⟩
  show if decide ((s : Int) ∈ (endRow t (ns.take i)).map fun (n : Nat) => (n : Int)) = true then _ else _
  by_cases h1 : s ∈ endRow t (ns.take i)
  · rw [if_pos (decide_eq_true ((mem_cast s _).mpr h1))]
    refine ⟨⟨l, _, rfl⟩, _, rows_at hj, _, ints_row _, ?_⟩
    show if decide ((s : Int) ∈ (endRow t (ns.take j)).map fun (n : Nat) => (n : Int)) = true then _ else _
    by_cases h2 : s ∈ endRow t (ns.take j)
    · rw [if_pos (decide_eq_true ((mem_cast s _).mpr h2))]
      have hcut := cut_n ns i j hi hj
      refine ⟨rfl, rfl, rfl, t, s, (ns.take j).drop i, _, g, hs, fun n hn => hns n (List.mem_of_mem_take (List.mem_of_mem_drop hn)), rfl, by rw [hcut]; rfl, ?_⟩
      refine eq_ints (Φ := fun z => match z with | .bl b => if b = true then _ else _ | _ => False) ?_
      show if (!decide (((ledN t s ((ns.take j).drop i) : Nat) : Int) = (s : Int))) = true then _ else _
      by_cases h3 : ledN t s ((ns.take j).drop i) = s
      · rw [decide_eq_true (by omega)]
        exact q0 fun z => z.2.2 h3
      · rw [decide_eq_false (by omega)]
        exact ⟨by show 2 ≤ sizeLine; decide, q1 ⟨h1, h2, h3⟩⟩
    · rw [if_neg (by rw [decide_eq_false (fun z => h2 ((mem_cast s _).mp z))]; exact Bool.false_ne_true)]
      exact q0 fun z => h2 z.2.1
  · rw [if_neg (by rw [decide_eq_false (fun z => h1 ((mem_cast s _).mp z))]; exact Bool.false_ne_true)]
    exact q0 fun z => h1 z.1
abbrev cl_j : Cs → WS := fun C => wIfS (wOr (wB (wOp (wIsN false) (wVar 4) (wC .non))) (wB (wOp wLt (wOp wSub (wVar 8) (wVar 7)) (wVar 4)))) (wFor (wiSeq (wVar 2)) (wgName 9) (cl_s C)) wNext
theorem cl_pair (g : Good t) {ns ss : List Nat} {m i j : Nat} {b : D} (hns : ∀ n ∈ ns, n < t.length) (hss : ∀ s ∈ ss, s < wd t) (hb : bndOk b = true) (hi : i < j) (hj : j ≤ ns.length) (hd : m ∣ j - i) {a3 a6 a9 : Sl} {l : Addr} {Δ : DE}
    (q1 : ∀ s, Clash t ns ss m b i j → Δ.rt (.tup [.int (i : Nat), .int (j : Nat)]) [.val (tbsD t), .val (.lst (numsD ns)), .val (.lst (numsD ss)), a3, .val b, .own l (.l (rowsL t ns ns.length)), a6, .val (.int (i : Nat)), .val (.int (j : Nat)), s])
    (q0 : ∀ s, ¬ Clash t ns ss m b i j → Δ.nx [.val (tbsD t), .val (.lst (numsD ns)), .val (.lst (numsD ss)), a3, .val b, .own l (.l (rowsL t ns ns.length)), a6, .val (.int (i : Nat)), .val (.int (j : Nat)), s]) :
    cl_j C [.val (tbsD t), .val (.lst (numsD ns)), .val (.lst (numsD ss)), a3, .val b, .own l (.l (rowsL t ns ns.length)), a6, .val (.int (i : Nat)), .val (.int (j : Nat)), a9] Δ := by
  have loop : Under b (j - i) → wForL (wgName 9) (cl_s C) (numsD ss) [.val (tbsD t), .val (.lst (numsD ns)), .val (.lst (numsD ss)), a3, .val b, .own l (.l (rowsL t ns ns.length)), a6, .val (.int (i : Nat)), .val (.int (j : Nat)), a9] Δ := by
    intro hu
    refine for_inv (fun ds ρ => ∃ (dn rest : List Nat) (s9 : Sl), ds = numsD rest ∧ dn ++ rest = ss ∧ (∀ s ∈ dn, ¬ AtB t ns i j s) ∧ ρ = [.val (tbsD t), .val (.lst (numsD ns)), .val (.lst (numsD ss)), a3, .val b, .own l (.l (rowsL t ns ns.length)), a6, .val (.int (i : Nat)), .val (.int (j : Nat)), s9]) (fun d ds ρ N h hN => ?_) (fun ρ h => ?_) _ _ ⟨[], ss, a9, rfl, rfl, (fun _ z => nomatch z), rfl⟩
    · obtain ⟨dn, rest, s9, h1, h2, h3, rfl⟩ := h
      obtain ⟨s, rest, rfl, rfl, rfl⟩ := nums_cons_of h1
      have hs : s ∈ ss := by rw [← h2]; simp
      refine cl_one g hns (hss s hs) (by omega) hj (fun ha => q1 _ ⟨hi, hj, hd, hu, s, hs, ha.1, ha.2.1, ha.2.2⟩) fun ha => hN _ ⟨dn ++ [s], rest, _, rfl, by simp [h2], fun z hz => ?_, rfl⟩
      rcases List.mem_append.mp hz with y | y
      · exact h3 z y
      · rw [List.mem_singleton.mp y]; exact ha
    · obtain ⟨dn, rest, s9, h1, h2, h3, rfl⟩ := h
      cases nums_nil_of h1
      rw [List.append_nil] at h2
      subst h2
      refine q0 _ fun hc => ?_
      obtain ⟨s, y1, y2, y3, y4⟩ := hc.at'
      exact h3 s y1 ⟨y2, y3, y4⟩
  cases b with
  | non => exact ⟨rfl, true, rfl, loop (.inl rfl)⟩
  | int v =>
    refine ⟨rfl, false, rfl, ?_⟩
    show if decide ((((j : Nat) : Int) - ((i : Nat) : Int)) < v) = true then _ else _
    by_cases h : (((j : Nat) : Int) - ((i : Nat) : Int)) < v
    · rw [if_pos (decide_eq_true h)]
      exact loop (.inr ⟨v, rfl, by omega⟩)
    · rw [if_neg (by rw [decide_eq_false h]; exact Bool.false_ne_true)]
      refine q0 _ fun hc => ?_
      rcases hc.und with z | ⟨v', z1, z2⟩
      · cases z
      · cases z1; omega
  | _ => cases hb
theorem m_law_clash : Sem0 5 10 (sp_law_clash C) (x_law_clash K C) := by
  rintro hl ds Ψ Ξ - ⟨h, t, ns, ss, m, b, g, hns, hlen, hss, m1, m2, hb, rfl, q0, q1⟩
  cases none_of h
  have hw := g.head
  obtain ⟨r0, t', et⟩ : ∃ r t', t = r :: t' := by
    cases t with
    | nil => exact absurd rfl g.ne
    | cons r t' => exact ⟨r, t', rfl⟩
  have h0 : atI (t.map rowD) 0 = some (rowD r0) := by rw [et]; simp [atI, ixN]
  have hr0 : r0.length = wd t := row_len g (by rw [et]; exact List.mem_cons_self)
  have hln : (r0.map fun n => D.int (n : Nat)).length = wd t := by rw [List.length_map, hr0]
  have eR : List.range (wd t) = endRow t [] := by unfold endRow; exact (List.map_id _).symm
  refine ⟨rowD r0, h0, ?_⟩
  show L2.RgOk 0 (((r0.map fun n => D.int (n : Nat)).length : Nat) : Int) ∧ _
  rw [hln]
  refine ⟨by unfold L2.RgOk; omega, by show 1 ≤ sizeLine; decide, fun l => ?_⟩
  rw [rg_range]
  show wForL (wgName 6) cl_a (numsD ns) [.val (tbsD t), .val (.lst (numsD ns)), .val (.lst (numsD ss)), .val (.int (m : Nat)), .val b, .own l (.l [.lst (numsD (List.range (wd t)))]), .un, .un, .un, .un] _
  refine for_inv (fun ds ρ => ∃ (k : Nat) (s6 : Sl), ds = numsD (ns.drop k) ∧ k ≤ ns.length ∧ ρ = [.val (tbsD t), .val (.lst (numsD ns)), .val (.lst (numsD ss)), .val (.int (m : Nat)), .val b, .own l (.l (rowsL t ns k)), s6, .un, .un, .un]) (fun d ds ρ N h hN => ?_) (fun ρ h => ?_) _ _ ⟨0, .un, rfl, Nat.zero_le _, by rw [eR]; rfl⟩
  · obtain ⟨k, s6, h1, h2, rfl⟩ := h
    obtain ⟨d, rest, h3, rfl, rfl⟩ := nums_cons_of h1
    have hk : k < ns.length := by
      by_cases z : k < ns.length
      · exact z
      · rw [List.drop_eq_nil_of_le (by omega)] at h3; cases h3
    rw [List.drop_eq_getElem_cons hk] at h3
    injection h3 with h4 h5
    refine cl_row g hns (by rw [List.getElem?_eq_getElem hk, h4]) hlen (hN _ ⟨k + 1, _, by rw [h5], hk, rfl⟩)
  · obtain ⟨k, s6, h1, h2, rfl⟩ := h
    have hk : k = ns.length := by
      have := nums_nil_of h1
      have := List.drop_eq_nil_iff.mp this
      omega
    subst hk
    show (-(2 ^ 62) ≤ (((rowsL t ns ns.length).length : Nat) : Int) ∧ (((rowsL t ns ns.length).length : Nat) : Int) < 2 ^ 62) ∧ _
    refine ⟨⟨by rw [rows_len]; omega, by rw [rows_len]; omega⟩, ?_⟩
    rw [rows_len, rg_range]
    refine for_inv (fun ds ρ => ∃ (dn rest : List Nat) (s7 s8 s9 : Sl), ds = numsD rest ∧ dn ++ rest = List.range (ns.length + 1) ∧ (∀ i ∈ dn, ∀ j, ¬ Clash t ns ss m b i j) ∧ ρ = [.val (tbsD t), .val (.lst (numsD ns)), .val (.lst (numsD ss)), .val (.int (m : Nat)), .val b, .own l (.l (rowsL t ns ns.length)), s6, s7, s8, s9]) (fun d ds ρ N h hN => ?_) (fun ρ h => ?_) _ _ ⟨[], _, .un, .un, .un, rfl, rfl, (fun _ z => nomatch z), rfl⟩
    · obtain ⟨dn, rest, s7, s8, s9, h3, h4, h5, rfl⟩ := h
      obtain ⟨i, rest, rfl, rfl, rfl⟩ := nums_cons_of h3
      have hi := List.mem_range.mp (by rw [← h4]; simp : i ∈ List.range (ns.length + 1))
      have key : ∀ z1 z2 : Int, z1 = ((i + m : Nat) : Int) → z2 = ((ns.length + 1 : Nat) : Int) → ∃ n, L2.RgC z1 z2 (m : Nat) n ∧ wForL (wgName 8) (cl_j C) (rgC z1 (m : Nat) n) [.val (tbsD t), .val (.lst (numsD ns)), .val (.lst (numsD ss)), .val (.int (m : Nat)), .val b, .own l (.l (rowsL t ns ns.length)), s6, .val (.int (i : Nat)), s8, s9]
          { dEnds none Ψ Ξ with nx := N, ct := N, bk := fun ρ => wRet (wC .non) ρ (dEnds none Ψ Ξ) } := by
        rintro _ _ rfl rfl
        obtain ⟨r1, r2⟩ := rg_step (i := i + m) (j := ns.length + 1) (c := m) m1 (by omega) (by omega) (by omega)
        refine ⟨_, r1, ?_⟩
        rw [r2]
        refine for_inv (fun ds ρ => ∃ (dn2 rest2 : List Nat) (s8 s9 : Sl), ds = numsD rest2 ∧ dn2 ++ rest2 = stepL (i + m) (ns.length + 1) m ∧ (∀ j ∈ dn2, ¬ Clash t ns ss m b i j) ∧ ρ = [.val (tbsD t), .val (.lst (numsD ns)), .val (.lst (numsD ss)), .val (.int (m : Nat)), .val b, .own l (.l (rowsL t ns ns.length)), s6, .val (.int (i : Nat)), s8, s9]) (fun d ds ρ N2 h hN2 => ?_) (fun ρ h => ?_) _ _ ⟨[], _, s8, s9, rfl, rfl, (fun _ z => nomatch z), rfl⟩
        · obtain ⟨dn2, rest2, s8, s9, y1, y2, y3, rfl⟩ := h
          obtain ⟨j, rest2, rfl, rfl, rfl⟩ := nums_cons_of y1
          obtain ⟨j1, j2, j3⟩ := (mem_step m1).mp (by rw [← y2]; simp : j ∈ stepL (i + m) (ns.length + 1) m)
          have hdv : m ∣ j - i := by
            have : j - i = (j - (i + m)) + m := by omega
            rw [this]; exact (Nat.dvd_add_right j3).mpr (Nat.dvd_refl m)
          refine cl_pair g hns hss hb (by omega) (by omega) hdv (fun s hc => q1 i j hc) fun s hc => hN2 _ ⟨dn2 ++ [j], rest2, _, s, rfl, by simp [y2], fun z hz => ?_, rfl⟩
          rcases List.mem_append.mp hz with w | w
          · exact y3 z w
          · rw [List.mem_singleton.mp w]; exact hc
        · obtain ⟨dn2, rest2, s8, s9, y1, y2, y3, rfl⟩ := h
          cases nums_nil_of y1
          rw [List.append_nil] at y2
          refine hN _ ⟨dn ++ [i], rest, _, s8, s9, rfl, by simp [h4], fun z hz j hc => ?_, rfl⟩
          rcases List.mem_append.mp hz with w | w
          · exact h5 z w j hc
          · rw [List.mem_singleton.mp w] at hc
            have hlt := hc.lt
            have hmj : i + m ≤ j := by
              have := Nat.le_of_dvd (by omega) hc.dvd
              omega
            have hdd : m ∣ j - (i + m) := by
              have : j - i = (j - (i + m)) + m := by omega
              have hd := hc.dvd
              rw [this] at hd
              exact (Nat.dvd_add_left (Nat.dvd_refl m)).mp hd
            exact y3 j (by rw [y2]; exact (mem_step m1).mpr ⟨hmj, by have := hc.le; omega, hdd⟩) hc
      exact key _ _ (by omega) (by show (((rowsL t ns ns.length).length : Nat) : Int) = _; rw [rows_len])
    · obtain ⟨dn, rest, s7, s8, s9, h3, h4, h5, rfl⟩ := h
      cases nums_nil_of h3
      rw [List.append_nil] at h4
      refine q0 fun i j hc => h5 i (by rw [h4]; exact List.mem_range.mpr (by have := hc.lt; have := hc.le; omega)) j hc
end
end K25
set_option Elab.async false
set_option autoImplicit false
set_option linter.all false
set_option maxRecDepth 100000
set_option maxHeartbeats 3900000
namespace K25
open DL L2 PyProof.Rows PySem PySem.Spec
section
variable {K : Fg} {C : Cs} {t : Tbl}
/-! one paper alone is the least -/
theorem greedy_uniq {s o L : Nat} {ns ms : List Nat} (h1 : Way t s o ns) (h2 : Way t s o ms) (l1 : ns.length = L) (l2 : ms.length = L) (g1 : Greedy t s o L ns) (g2 : Greedy t s o L ms) : ns = ms := by
  have main : ∀ k, k ≤ L → ns.take k = ms.take k := by
    intro k
    induction k with
    | zero => intro _; rfl
    | succ k ih =>
      intro hk
      have e := ih (by omega)
      have a1 : ns[k]? = some ns[k] := List.getElem?_eq_getElem (by omega)
      have a2 : ms[k]? = some ms[k] := List.getElem?_eq_getElem (by omega)
      have d1 : ns.take k ++ ns[k] :: ns.drop (k + 1) = ns := by rw [← List.drop_eq_getElem_cons (by omega), List.take_append_drop]
      have d2 : ms.take k ++ ms[k] :: ms.drop (k + 1) = ms := by rw [← List.drop_eq_getElem_cons (by omega), List.take_append_drop]
      have b1 := g1 k _ a1 ms[k] (ms.drop (k + 1)) (by rw [e, d2]; exact h2) (by rw [e, d2]; exact l2)
      have b2 := g2 k _ a2 ns[k] (ns.drop (k + 1)) (by rw [← e, d1]; exact h1) (by rw [← e, d1]; exact l1)
      have : ns[k] = ms[k] := by omega
      rw [List.take_succ, List.take_succ, e, a1, a2, this]
  have := main L (Nat.le_refl _)
  rwa [List.take_of_length_le (by omega), List.take_of_length_le (by omega)] at this
theorem Least.uniq {ss : List Nat} {m s s' o o' : Nat} {b : D} {ns ms : List Nat} (h : Least t ss m b s o ns) (h' : Least t ss m b s' o' ms) : papD s o ns = papD s' o' ms := by
  have e1 : ns.length = ms.length := Nat.le_antisymm (h.le _ _ h'.wr) (h'.le _ _ h.wr)
  have e2 : s = s' := Nat.le_antisymm (h.sle s' (by rw [e1]; exact h'.wr)) (h'.sle s (by rw [← e1]; exact h.wr))
  subst e2
  have e3 : o = o' := Nat.le_antisymm (h.wl.ole o' ms h'.way e1.symm) (h'.wl.ole o ns h.way e1)
  subst e3
  have gr2 := h'.wl.gr
  rw [← e1] at gr2
  have e4 := greedy_uniq h.way h'.way rfl e1.symm h.wl.gr gr2
  rw [e4]
theorem wr_part {ss : List Nat} {m : Nat} {b : D} (h : ∃ L s, Wr t ss m b L s) : ∃ s o ns, Least t ss m b s o ns := by
  classical
  -- the least length
  let P : Nat → Prop := fun L => ∃ s, Wr t ss m b L s
  have hex : ∃ L, P L := h
  have leastN : ∀ (Q : Nat → Prop), (∃ n, Q n) → ∃ n, Q n ∧ ∀ k, Q k → n ≤ k := by
    intro Q ⟨n, hn⟩
    induction n using Nat.strongRecOn with
    | ind n ih =>
      by_cases e : ∃ k, k < n ∧ Q k
      · obtain ⟨k, h1, h2⟩ := e; exact ih k h1 h2
      · exact ⟨n, hn, fun k hk => Nat.le_of_not_lt fun z => e ⟨k, z, hk⟩⟩
  obtain ⟨L, ⟨s0, hs0⟩, hL⟩ := leastN P hex
  obtain ⟨s, hs, hsl⟩ := leastN (fun s => Wr t ss m b L s) ⟨s0, hs0⟩
  obtain ⟨o, ns, w1, w2, w3, w4, w5⟩ := hs.part
  obtain ⟨o, ⟨ns, hw, hl⟩, hol⟩ := leastN (fun o => ∃ ns, Way t s o ns ∧ ns.length = L) ⟨o, ns, ⟨w1, w3, w4, w5⟩, w2⟩
  -- the greedy log
  have grow : ∀ k, k ≤ L → ∃ pre rest, pre.length = k ∧ Way t s o (pre ++ rest) ∧ (pre ++ rest).length = L ∧ ∀ (i d : Nat), pre[i]? = some d → ∀ (d' : Nat) (r : List Nat), Way t s o (pre.take i ++ d' :: r) → (pre.take i ++ d' :: r).length = L → d ≤ d' := by
    intro k
    induction k with
    | zero => intro _; exact ⟨[], ns, rfl, hw, hl, fun i d z => by simp at z⟩
    | succ k ih =>
      intro hk
      obtain ⟨pre, rest, p1, p2, p3, p4⟩ := ih (by omega)
      have hrest : rest ≠ [] := fun e => by rw [e, List.append_nil] at p3; omega
      obtain ⟨x, r, rfl⟩ : ∃ x r, rest = x :: r := by cases rest with | nil => exact absurd rfl hrest | cons x r => exact ⟨x, r, rfl⟩
      obtain ⟨d, ⟨r2, q1, q2⟩, q3⟩ := leastN (fun d => ∃ r, Way t s o (pre ++ d :: r) ∧ (pre ++ d :: r).length = L) ⟨x, r, p2, p3⟩
      refine ⟨pre ++ [d], r2, by simp [p1], by rw [List.append_assoc]; exact q1, by rw [List.append_assoc]; exact q2, fun i y hy d' r' z1 z2 => ?_⟩
      by_cases hi : i < pre.length
      · rw [List.getElem?_append_left hi] at hy
        rw [List.take_append_of_le_length (by omega)] at z1 z2
        exact p4 i y hy d' r' z1 z2
      · rw [List.getElem?_append_right (by omega)] at hy
        have hj0 : i - pre.length = 0 := by
          cases hz : i - pre.length with
          | zero => rfl
          | succ z => rw [hz] at hy; simp at hy
        rw [hj0] at hy
        cases hy
        have hil : i = pre.length := by omega
        rw [hil, List.take_left' rfl] at z1 z2
        exact q3 d' ⟨r', z1, z2⟩
  obtain ⟨pre, rest, p1, p2, p3, p4⟩ := grow L (Nat.le_refl _)
  have hr0 : rest = [] := by
    rw [List.length_append] at p3
    exact List.length_eq_zero_iff.mp (by omega)
  rw [hr0, List.append_nil] at p2 p3
  subst p1
  exact ⟨s, o, pre, hs, p2, fun L' s' hw' => hL L' ⟨s', hw'⟩, hsl, p2, rfl, fun o' ns' z1 z2 => hol o' ⟨ns', z1, z2⟩, p4⟩
/-! tests -/
variable {Δ : DE}
theorem te_if {wt : WT} {w u : WS} {ρ ρ' : Rho} {b : Bool} (h : Te wt ρ b ρ') (q : if b = true then w ρ' Δ else u ρ' Δ) : wIfS wt w u ρ Δ := h _ _ q
theorem te_and {a b : WT} {ρ ρ' : Rho} {x : Bool} (h : Te a ρ true ρ) (h2 : Te b ρ x ρ') : Te (wAnd a b) ρ x ρ' := fun χ Φ q => h χ _ (show if true = true then _ else _ from by rw [if_pos rfl]; exact h2 χ Φ q)
theorem te_andF {a b : WT} {ρ ρ' : Rho} (h : Te a ρ false ρ') : Te (wAnd a b) ρ false ρ' := fun χ Φ q => h χ _ (show if false = true then _ else _ from by rw [if_neg Bool.false_ne_true]; exact q)
theorem te_orF {a b : WT} {ρ ρ' : Rho} {x : Bool} (h : Te a ρ false ρ) (h2 : Te b ρ x ρ') : Te (wOr a b) ρ x ρ' := fun χ Φ q => h χ _ (show if false = true then _ else _ from by rw [if_neg Bool.false_ne_true]; exact h2 χ Φ q)
theorem neNil {F : D → Prop} (q : F (.bl false)) : wEq true (.lst []) (.lst []) F := eq_same (x := .lst []) (p := .list []) rfl (by decide +kernel) q
theorem sh_wrap : SeqAt.shaped (.str "wrap") = true := by simp [SeqAt.shaped, PyData.canLay0, PyData.depth]; decide +kernel
theorem neWrap {F : D → Prop} (q : F (.bl false)) : wEq true (.str "wrap") (.str "wrap") F := eq_same (x := .str "wrap") (p := .str "wrap") rfl sh_wrap q
theorem cell_end {log : List Nat} {s : Nat} (h : s < wd t) : cellR (endRow t log) s = ledN t s log := by unfold cellR endRow; simp [h]
theorem no_part {L : Nat} {la : Tbl} (hl : Layer t L la) {s : Nat} (hs : s < wd t) (hno : ¬ Part t s L) {r : List Nat} (hr : r ∈ la) : partsB r s = false := by
  cases h3 : partsB r s with
  | false => rfl
  | true =>
    exfalso
    obtain ⟨log, g1, g2, rfl⟩ := (hl.mem r).mp hr
    unfold partsB at h3
    rw [Bool.and_eq_true, decide_eq_true_eq, decide_eq_true_eq, cell_end hs] at h3
    obtain ⟨o, ho, e⟩ := List.mem_map.mp h3.2
    exact hno ⟨o, log, List.mem_range.mp ho, g1, g2, e, h3.1⟩
abbrev pr_l : Cs → WS := fun C => wIfS (wB (wOp (wEq true) (wLc (wiSeq (wOp wIx (wVar 1) (wVar 9))) (wgName 10) (wB (wOp (wEq true) (wLc (wiSeq (wVar 3)) (wgName 11) (wB (wCallA 2 0 (sp_law_parts C) (fun ds _ => ds) (wCons (wVar 10) (wCons (wVar 11) wNil)) wNil)) (wVar 11) [11]) (wLst wNil))) (wVar 10) [10]) (wLst wNil))) (wRet (wC (.bl false))) wNext
theorem fm_none {α : Type} : ∀ xs : List α, xs.filterMap (fun _ => (none : Option D)) = []
  | [] => rfl
  | x :: xs => by rw [List.filterMap_cons_none rfl, fm_none xs]
theorem pr_one (g : Good t) {ls : List Tbl} {ss : List Nat} {L : Nat} {la : Tbl} (hla : ls[L]? = some la) (hl : Layer t L la) (hL : L ≤ 8) (hss : ∀ s ∈ ss, s < wd t) (hsl : ss.length ≤ 12) (hno : ∀ s ∈ ss, ¬ Part t s L) {a0 a2 a4 a5 a6 a7 a8 : Sl}
    (q : Δ.nx [a0, .val (laysD ls), a2, .val (.lst (numsD ss)), a4, a5, a6, a7, a8, .val (.int (L : Nat)), .un, .un]) :
    pr_l C [a0, .val (laysD ls), a2, .val (.lst (numsD ss)), a4, a5, a6, a7, a8, .val (.int (L : Nat)), .un, .un] Δ := by
  have hat : atI (ls.map tbsD) (L : Nat) = some (tbsD la) := by
    obtain ⟨h1, h2⟩ := List.getElem?_eq_some_iff.mp hla
    unfold atI ixN
    rw [if_pos (by omega), if_pos (by rw [List.length_map]; omega)]
    simp [h1, h2]
  have hlen : la.length ≤ 6561 := Nat.le_trans hl.len (Nat.le_trans (Nat.pow_le_pow_right (by omega) hL) (by decide))
  refine ⟨_, hat, ?_⟩
  show wLcL _ _ _ [10] (la.map rowD) [] [a0, .val (laysD ls), a2, .val (.lst (numsD ss)), a4, a5, a6, a7, a8, .val (.int (L : Nat)), .un, .un] _
  refine lc_mfc _ rowD (fun _ => none) la (by have := big; omega) (fun r hr N hN => ?_) ?_
  · show wLcL _ _ _ [11] (ss.map fun n => D.int (n : Nat)) [] [a0, .val (laysD ls), a2, .val (.lst (numsD ss)), a4, a5, a6, a7, a8, .val (.int (L : Nat)), .val (rowD r), .un] _
    refine lc_mfc _ (fun n => D.int (n : Nat)) (fun _ => none) ss (by have := big; omega) (fun s hs N2 hN2 => ?_) ?_
    · have hrl : r.length = wd t := by
        obtain ⟨log, g1, g2, rfl⟩ := (hl.mem r).mp hr
        exact (end_ok g g2).1
      refine ⟨rfl, rfl, rfl, r, s, by rw [hrl]; exact hss s hs, rfl, ?_⟩
      rw [no_part hl (hss s hs) (hno s hs) hr]
      exact hN2
    · rw [fm_none]
      refine ⟨Nat.zero_le _, neNil (F := fun z => match z with | .bl b => if b = true then _ else _ | _ => False) ?_⟩
      exact hN
  · rw [fm_none]
    exact ⟨Nat.zero_le _, neNil (F := fun z => match z with | .bl b => if b = true then _ else _ | _ => False) q⟩
abbrev pr_3 : WS := (wIfS (wOr (wB (wOp (wInI true) (wVar 6) (wVar 3))) (wOr (wB (wOp (wEq false) (wCB wLen (wCons (wVar 8) wNil)) (wC (.int 0)))) (wOr (wB (wOp (wEq true) (wOp wMod (wCB wInt (wCons (wCB wLen (wCons (wVar 8) wNil)) wNil)) (wVar 4)) (wC (.int 0)))) (wAnd (wB (wOp (wIsN true) (wVar 5) (wC .non))) (wB (wOp wGe (wCB wLen (wCons (wVar 8) wNil)) (wVar 5))))))) (wRet (wC (.bl false))) wNext)
theorem pr_3ok {ss ns : List Nat} {m s : Nat} {b : D} (hb : bndOk b = true) (m1 : 1 ≤ m) (hw : Wr t ss m b ns.length s) {a0 a1 a2 a7 a9 a10 a11 : Sl}
    (q : Δ.nx [a0, a1, a2, .val (.lst (numsD ss)), .val (.int (m : Nat)), .val b, .val (.int (s : Nat)), a7, .val (rowD ns), a9, a10, a11]) :
    pr_3 [a0, a1, a2, .val (.lst (numsD ss)), .val (.int (m : Nat)), .val b, .val (.int (s : Nat)), a7, .val (rowD ns), a9, a10, a11] Δ := by
  have hpos := hw.pos
  refine ⟨_, ints_row ss, ?_⟩
  show if (!decide ((s : Int) ∈ ss.map fun (n : Nat) => (n : Int))) = true then _ else _
  rw [decide_eq_true ((mem_cast s ss).mpr hw.mem)]
  refine eqF_ints (a := ((numsD ns).length : Nat)) (b := 0) (Φ := fun z => match z with | .bl b => if b = true then _ else _ | _ => False) ?_
  show if decide ((((numsD ns).length : Nat) : Int) = 0) = true then _ else _
  rw [nums_len, decide_eq_false (by omega)]
  refine ⟨by omega, ?_⟩
  refine eq_ints (Φ := fun z => match z with | .bl b => if b = true then _ else _ | _ => False) ?_
  have hmod : (((numsD ns).length : Nat) : Int) % ((m : Nat) : Int) = 0 := by
    rw [nums_len]
    obtain ⟨k, hk⟩ := hw.dvd
    rw [hk]; simp
  show if (!decide ((((numsD ns).length : Nat) : Int) % ((m : Nat) : Int) = 0)) = true then _ else _
  rw [decide_eq_true hmod]
  rcases under_ge hw.und hb with rfl | ⟨v, rfl, hv⟩
  · exact ⟨rfl, true, rfl, q⟩
  · refine ⟨rfl, false, rfl, ?_⟩
    show if decide (v ≤ (((numsD ns).length : Nat) : Int)) = true then _ else _
    rw [nums_len, hv]
    exact q
theorem cut1 (x : D) (xs : List D) : DL.cutD (x :: xs) (some 1) none = xs := by
  have h1 : HT.sIx (x :: xs).length 0 (some 1) = 1 := by simp [HT.sIx]; try omega
  have h2 : HT.sIx (x :: xs).length (x :: xs).length none = (x :: xs).length := by simp [HT.sIx]
  unfold DL.cutD
  rw [h1, h2]
  simp
theorem m_law_paper_right : Sem0 6 12 (sp_law_paper_right C) (x_law_paper_right K C) := by
  rintro hl ds Ψ Ξ - ⟨h, t, ls, ss, m, b, s, o, ns, g, hls, hlay, hss, hsl, m1, m2, hb, hle, hlen, rfl, q⟩
  cases none_of h
  have hs := hss s hle.wr.mem
  refine is_ty (x := papD s o ns) (t := "tuple") (n := "tuple") (Φ := fun z => match z with | .bl b => if (!b) = true then _ else _ | _ => False) rfl (by decide) ?_
  refine eq_ints (a := 4) (b := 4) (Φ := fun z => match z with | .bl b => if b = true then _ else _ | _ => False) ?_
  refine ⟨.str "wrap", rfl, ?_⟩
  refine neWrap (F := fun z => match z with | .bl b => if b = true then _ else _ | _ => False) ?_
  refine ⟨rowD ns, rfl, ?_⟩
  refine is_ty (x := rowD ns) (t := "tuple") (n := "tuple") (Φ := fun z => match z with | .bl b => if (!b) = true then _ else _ | _ => False) rfl (by decide) ?_
  have hcut := cut1 (.str "wrap") [.int (s : Nat), .int (o : Nat), rowD ns]
  have st2 : ∀ xs : List D, xs = [.int (s : Nat), .int (o : Nat), rowD ns] → wgTup 3 (wgCons (wgName 6) (wgCons (wgName 7) (wgCons (wgName 8) wgNil))) (.tup xs) [.val (tbsD t), .val (laysD ls), .val (papD s o ns), .val (.lst (numsD ss)), .val (.int (m : Nat)), .val b, .un, .un, .un, .un, .un, .un]
      fun ρ => wSeq pr_3 (wSeq (wIfS (wOr (wB (wOp (wEq true) (wCallA 3 0 (sp_law_behind C) (fun ds _ => ds) (wCons (wVar 0) (wCons (wVar 7) (wCons (wVar 8) wNil))) wNil) (wVar 6))) (wB (wOp (wEq false) (wCallA 3 0 (sp_law_behind C) (fun ds _ => ds) (wCons (wVar 0) (wCons (wVar 6) (wCons (wVar 8) wNil))) wNil) (wVar 6)))) (wRet (wC (.bl false))) wNext)
        (wSeq (wFor (wiRg3 (wCons (wVar 4) (wCons (wCB wMin2 (wCons (wCB wLen (wCons (wVar 8) wNil)) (wCons (wCB wLen (wCons (wVar 1) wNil)) wNil))) (wCons (wVar 4) wNil)))) (wgName 9) (pr_l C)) (wRet (wC (.bl true))))) ρ (dEnds none Ψ Ξ) := by
    rintro _ rfl
    refine ⟨rfl, rfl, ?_⟩
    refine seqI (pr_3ok hb m1 hle.wr ?_)
    refine ⟨rfl, rfl, rfl, t, o, ns, rowD ns, g, hle.way.olt, hle.way.lt, rfl, rfl, ?_⟩
    refine eq_ints (Φ := fun z => match z with | .bl b => if b = true then _ else _ | _ => False) ?_
    show if (!decide (((ledN t o ns : Nat) : Int) = (s : Int))) = true then _ else _
    rw [hle.way.to, decide_eq_true rfl]
    refine ⟨rfl, rfl, rfl, t, s, ns, rowD ns, g, hs, hle.way.lt, rfl, rfl, ?_⟩
    refine eqF_ints (Φ := fun z => match z with | .bl b => if b = true then _ else _ | _ => False) ?_
    show if decide (((ledN t s ns : Nat) : Int) = (s : Int)) = true then _ else _
    rw [decide_eq_false (fun z => hle.way.ne (by omega))]
    have key : ∀ z : Int, z = ((min ns.length 9 : Nat) : Int) → ∃ n, L2.RgC (m : Nat) z (m : Nat) n ∧ wForL (wgName 9) (pr_l C) (rgC (m : Nat) (m : Nat) n) [.val (tbsD t), .val (laysD ls), .val (papD s o ns), .val (.lst (numsD ss)), .val (.int (m : Nat)), .val b, .val (.int (s : Nat)), .val (.int (o : Nat)), .val (rowD ns), .un, .un, .un]
        { dEnds none Ψ Ξ with nx := fun ρ => wRet (wC (.bl true)) ρ (dEnds none Ψ Ξ) } := by
      rintro _ rfl
      obtain ⟨r1, r2⟩ := rg_step (i := m) (j := min ns.length 9) (c := m) m1 (by omega) (by omega) (by omega)
      refine ⟨_, r1, ?_⟩
      rw [r2]
      refine for_inv (fun ds ρ => ∃ (dn rest : List Nat) (s9 : Sl), ds = numsD rest ∧ dn ++ rest = stepL m (min ns.length 9) m ∧ ρ = [.val (tbsD t), .val (laysD ls), .val (papD s o ns), .val (.lst (numsD ss)), .val (.int (m : Nat)), .val b, .val (.int (s : Nat)), .val (.int (o : Nat)), .val (rowD ns), s9, .un, .un]) (fun d ds ρ N h hN => ?_) (fun ρ h => ?_) _ _ ⟨[], _, .un, rfl, rfl, rfl⟩
      · obtain ⟨dn, rest, s9, h1, h2, rfl⟩ := h
        obtain ⟨L, rest, rfl, rfl, rfl⟩ := nums_cons_of h1
        obtain ⟨j1, j2, j3⟩ := (mem_step m1).mp (by rw [← h2]; simp : L ∈ stepL m (min ns.length 9) m)
        have hdv : m ∣ L := by
          have : L = (L - m) + m := by omega
          rw [this]; exact (Nat.dvd_add_right j3).mpr (Nat.dvd_refl m)
        obtain ⟨la, hla⟩ : ∃ la, ls[L]? = some la := ⟨_, List.getElem?_eq_getElem (by omega)⟩
        refine pr_one g hla (hlay L la hla) (by omega) hss hsl (fun s' hs' hp => ?_) (hN _ ⟨dn ++ [L], rest, _, rfl, by simp [h2], rfl⟩)
        have := hle.le L s' ⟨hs', by omega, hdv, hle.wr.und.le (by omega), hp⟩
        omega
      · obtain ⟨dn, rest, s9, h1, h2, rfl⟩ := h
        exact q
    refine key _ ?_
    show (if (((ls.map tbsD).length : Nat) : Int) < (((numsD ns).length : Nat) : Int) then (((ls.map tbsD).length : Nat) : Int) else (((numsD ns).length : Nat) : Int)) = _
    rw [List.length_map, nums_len, hls]
    split <;> omega
  exact st2 _ hcut
end
end K25
set_option Elab.async false
set_option autoImplicit false
set_option linter.all false
set_option maxRecDepth 100000
set_option maxHeartbeats 3900000
namespace K25
open DL L2 PyProof.Rows PySem PySem.Spec
structure CanR (d : D) (p : PyData) : Prop where
  py : pyOf d = some p
  sh : p.showable = true
  de : p.depth ≤ 64
  sz : p.shown.length ≤ sizeLine
  ok : PyData.canLay0 (.str p.shown) = true
theorem three : (3 : Nat) ≤ sizeLine := by decide
def canB (d : D) : Bool := match pyOf d with
  | some p => p.showable && decide (p.depth ≤ 64) && decide (p.shown.length ≤ 100) && PyData.canLay0 (.str p.shown)
  | none => false
theorem can_of {d : D} (h : canB d = true) : ∃ p, CanR d p := by
  unfold canB at h
  split at h
  · rename_i p hp
    simp only [Bool.and_eq_true, decide_eq_true_eq] at h
    exact ⟨p, hp, h.1.1.1, h.1.1.2, Nat.le_trans h.1.2 (by have := big; omega), h.2⟩
  · cases h
theorem p2 {x : D} (h : plain x) (hs : seqD x = none) : plain2 x := ⟨h, fun xs z => by rw [hs] at z; cases z⟩
theorem p2l {xs : List D} (h : ∀ y ∈ xs, plain y) : plain2 (.lst xs) ∧ plain2 (.tup xs) := ⟨⟨rfl, fun _ z => by cases z; exact h⟩, ⟨rfl, fun _ z => by cases z; exact h⟩⟩
theorem nums_plain (ns : List Nat) : ∀ y ∈ numsD ns, plain y := fun y hy => by
  obtain ⟨n, -, rfl⟩ := List.mem_map.mp hy
  rfl
/-- what the classes are to each other -/
structure Fx (K : Fg) (C : Cs) : Prop where
  e : exmD K C.Refused (.ref C.Refused) = some true
  k : PySem.W.kitOne K (.ref C.Refused) (.ref C.AgeError) = some true
  x : ExcC K C.Refused
section
variable {K : Fg} {C : Cs} {wb : WE} {ρ : Rho} {χ : XC} {Φ : D → Rho → Prop} {d : D} {p : PyData}
theorem lam_ref (X : Fx K C) (c : CanR d p) (h : ∀ (Ψ : D → Prop) (Ξ : Addr → Str → D → Prop), Ξ C.Refused "at" d → wb (hideR ρ) (fun C fl d _ => Ξ C fl d) fun d _ => Ψ d) (q : Φ (.str p.shown) ρ) : wLam (x_law_refused K C) 1 wb ρ χ Φ := by
  intro f
  refine ⟨rfl, h _ _ ?_⟩
  refine ⟨true, X.e, fun _ a dd => ?_, fun z => nomatch z⟩
  exact ⟨rfl, rfl, C.Refused, _, true, rfl, .own _, X.x, X.k, rfl, rfl, rfl, rfl, d, p, rfl, c.py, c.sh, c.de, c.sz, q⟩
end
section
variable {K : Fg} {C : Cs}
def dig (n : Nat) : Str := ((toString (n : Int) : String) : Str)
theorem dig_len : ∀ n, n < 100 → 1 ≤ (dig n).length ∧ (dig n).length ≤ 2 := by decide +kernel
theorem sum_le : ∀ (ws : List Str) (m : Nat), (∀ w ∈ ws, w.length ≤ m) → (ws.map (·.length)).sum ≤ ws.length * m
  | [], _, _ => by simp
  | w :: ws, m, h => by
    have h1 := h w List.mem_cons_self
    have h2 := sum_le ws m fun v hv => h v (List.mem_cons_of_mem _ hv)
    (simp only [List.map_cons, List.sum_cons, List.length_cons, Nat.add_mul, Nat.one_mul])
    omega
theorem join_len (sep : Str) (ws : List Str) (m : Nat) (h : ∀ w ∈ ws, w.length ≤ m) : (Txt.join sep ws).length ≤ ws.length * (m + sep.length) := by
  have e : (Txt.join sep ws).length = (ws.map (·.length)).sum + (ws.length - 1) * sep.length := PySem.size_glued sep ws
  have h1 := sum_le ws m h
  have h2 : (ws.length - 1) * sep.length ≤ ws.length * sep.length := Nat.mul_le_mul_right _ (Nat.sub_le _ _)
  rw [e, Nat.mul_add]
  omega
theorem mem_joinL {y : List Nat} {c : Nat} : ∀ {ws : List (List Nat)}, c ∈ TL.joinL y ws → c ∈ y ∨ ∃ w ∈ ws, c ∈ w
  | [], h => nomatch h
  | [w], h => .inr ⟨w, by simp, h⟩
  | w :: v :: r, h => by
    have h : c ∈ w ++ (y ++ TL.joinL y (v :: r)) := h
    (rcases List.mem_append.mp h with h | h)
    · exact .inr ⟨w, by simp, h⟩
    · (rcases List.mem_append.mp h with h | h)
      · exact .inl h
      · rcases mem_joinL h with h | ⟨u, hu, hc⟩
        · exact .inl h
        · exact .inr ⟨u, List.mem_cons_of_mem _ hu, hc⟩
theorem tl_jn (y : Str) : ∀ ws : List Str, TL.tl (Txt.join y ws) = TL.joinL (TL.tl y) (ws.map TL.tl) := fun ws => by rw [TL.join_eq]; exact TL.tl_join y ws
theorem mem_jn {y : Str} {ws : List Str} {c : Nat} (h : c ∈ TL.tl (Txt.join y ws)) : c ∈ TL.tl y ∨ ∃ w ∈ ws, c ∈ TL.tl w := by
  rw [tl_jn] at h
  rcases mem_joinL h with h | ⟨w, hw, hc⟩
  · exact .inl h
  · obtain ⟨v, hv, rfl⟩ := List.mem_map.mp hw
    exact .inr ⟨v, hv, hc⟩
theorem dig_asc : ∀ n, n < 100 → ∀ c ∈ TL.tl (dig n), c < 128 := by decide +kernel
theorem app_len (a b : Str) : (a ++ b).length = a.length + b.length := Array.size_append
theorem shown_all : ∀ ns : List Nat, PyData.shownAll (ns.map fun n => PyData.int (n : Nat)) = ns.map dig
  | [] => rfl
  | n :: ns => by
    show PyData.shown (.int (n : Nat)) :: PyData.shownAll (ns.map fun n => PyData.int (n : Nat)) = dig n :: ns.map dig
    rw [shown_all ns]
    rfl
abbrev rowY (ns : List Nat) : PyData := .tuple (ns.map fun n => .int (n : Nat))
def rowS (ns : List Nat) : Str := tupleText (ns.map dig)
theorem row_shown (ns : List Nat) : (rowY ns).shown = rowS ns := by
  show tupleText (PyData.shownAll (ns.map fun n => PyData.int (n : Nat))) = _
  rw [shown_all]
  rfl
def okS (s : Str) : Prop := s.length ≤ 1000000 ∧ ∀ c ∈ s.cps, c < 1114112
theorem okS_ln {s : Str} (h : ∀ c ∈ TL.tl s, c < 128) (hl : s.length ≤ 1000000) : okS s := ⟨hl, fun c hc => by have := h c (by simpa [TL.tl] using hc); omega⟩
def ascS (s : Str) : Prop := ∀ c ∈ TL.tl s, c < 128
theorem tup_ok {ws : List Str} (m : Nat) (h : ∀ w ∈ ws, w.length ≤ m ∧ ascS w) : (tupleText ws).length ≤ ws.length * (m + 2) + 3 ∧ ascS (tupleText ws) := by
  have a := join_len ", " ws m fun w hw => (h w hw).1
  have l2 : (", " : Str).length = 2 := by decide
  have l1 : ("(" : Str).length = 1 := by decide
  rw [l2] at a
  have hA : ∀ c ∈ TL.tl (Txt.join ", " ws), c < 128 := fun c hc => (mem_jn hc).elim ((by decide +kernel : ∀ c ∈ TL.tl (", " : Str), c < 128) c) fun ⟨w, hw, hc⟩ => (h w hw).2 c hc
  have e : tupleText ws = ("(" : Str) ++ Txt.join ", " ws ++ (if ws.length == 1 then ",)" else ")" : String) := by
    rw [TL.join_eq]; rfl
  have tail : ∀ b : Bool, (((if b then ",)" else ")" : String) : Str)).length ≤ 2 ∧ ∀ c ∈ TL.tl ((if b then ",)" else ")" : String) : Str), c < 128 := by decide +kernel
  have tb := tail (ws.length == 1)
  refine ⟨?_, fun c hc => ?_⟩
  · rw [e, app_len, app_len, l1]
    have := tb.1
    omega
  · rw [e, TL.tl_append, TL.tl_append] at hc
    (rcases List.mem_append.mp hc with hc | hc)
    · rcases List.mem_append.mp hc with hc | hc
      · exact (by decide +kernel : ∀ c ∈ TL.tl ("(" : Str), c < 128) c hc
      · exact hA c hc
    · exact tb.2 c hc
theorem rowS_ok {ns : List Nat} (h : ∀ n ∈ ns, n < 100) : (rowS ns).length ≤ ns.length * 4 + 3 ∧ ascS (rowS ns) := by
  have := tup_ok (ws := ns.map dig) 2 fun w hw => by
    obtain ⟨n, hn, rfl⟩ := List.mem_map.mp hw
    exact ⟨(dig_len n (h n hn)).2, dig_asc n (h n hn)⟩
  rw [List.length_map] at this
  exact this
theorem str_ok {s : Str} (h : ascS s) : PyData.canLay0 (.str s) = true := by
  show PyData.strOk s = true
  unfold PyData.strOk
  rw [Array.all_eq_true']
  exact fun c hc => decide_eq_true (by have := h c (by simpa [TL.tl] using hc); omega)
theorem row_can (ns : List Nat) (h : ∀ n ∈ ns, n < 100) : (rowY ns).showable = true ∧ (rowY ns).depth ≤ 64 := by
  have a : ∀ ns : List Nat, (∀ n ∈ ns, n < 100) → PyData.showableAll (ns.map fun n => PyData.int (n : Nat)) = true := fun ns => by induction ns with
    | nil => intro _; rfl
    | cons n ns ih =>
      intro h
      have hn := h n List.mem_cons_self
      have : (n : Int).natAbs.log2 < 1920 := by
        have e : (n : Int).natAbs = n := rfl
        rw [e]
        have : n.log2 ≤ n := Nat.log2_le_self n
        omega
      simp only [List.map_cons, PyData.showableAll, PyData.showable, ih fun k hk => h k (List.mem_cons_of_mem _ hk), decide_eq_true this, Bool.and_self]
  have b := (shaped_row ns).2
  refine ⟨?_, by have : (rowY ns).depth ≤ 1 := b; omega⟩
  show PyData.showableAll _ = true
  exact a ns h
theorem cut_drop (xs : List D) (a : Nat) (h : a ≤ xs.length) : DL.cutD xs (some (a : Int)) none = xs.drop a := by
  have h2 : HT.sIx xs.length xs.length none = xs.length := by simp [HT.sIx]
  have h1 : HT.sIx xs.length 0 (some (a : Int)) = a := by rw [HT.sIx_nat]; omega
  unfold DL.cutD
  rw [h1, h2, List.take_of_length_le (by rw [List.length_drop]; omega)]
theorem can_row {ns : List Nat} (h : ∀ n ∈ ns, n < 100) (hl : ns.length ≤ 100000) : CanR (rowD ns) (rowY ns) := by
  have hb := big
  obtain ⟨o1, o2⟩ := rowS_ok h
  exact ⟨py_row ns, (row_can ns h).1, (row_can ns h).2, by rw [row_shown]; omega, by rw [row_shown]; exact str_ok o2⟩
abbrev papY (s o : Nat) (ns : List Nat) : PyData := .tuple [.str "wrap", .int (s : Nat), .int (o : Nat), rowY ns]
theorem pap_shown (s o : Nat) (ns : List Nat) : (papY s o ns).shown = tupleText [PyData.shown (.str "wrap"), dig s, dig o, rowS ns] := by
  rw [← row_shown]
  rfl
theorem wrap_ok : (PyData.shown (.str "wrap")).length ≤ 6 ∧ ascS (PyData.shown (.str "wrap")) ∧ (PyData.str "wrap").showable = true ∧ (PyData.str "wrap").depth = 0 := by
  refine ⟨by decide +kernel, by unfold ascS; decide +kernel, by decide +kernel, by decide +kernel⟩
theorem can_pap {s o : Nat} {ns : List Nat} (hs : s < 100) (ho : o < 100) (h : ∀ n ∈ ns, n < 100) (hl : ns.length ≤ 10000) : CanR (papD s o ns) (papY s o ns) := by
  have hb := big
  obtain ⟨o1, o2⟩ := rowS_ok h
  obtain ⟨w1, w2, w3, w4⟩ := wrap_ok
  obtain ⟨r1, r2⟩ := row_can ns h
  have ds := dig_len s hs
  have d2 := dig_len o ho
  have t := tup_ok (ws := [PyData.shown (.str "wrap"), dig s, dig o, rowS ns]) (ns.length * 4 + 6) fun w hw => by
    simp only [List.mem_cons, List.not_mem_nil, or_false] at hw
    rcases hw with rfl | rfl | rfl | rfl
    · exact ⟨by omega, w2⟩
    · exact ⟨by omega, dig_asc s hs⟩
    · exact ⟨by omega, dig_asc o ho⟩
    · exact ⟨by omega, o2⟩
  simp only [List.length_cons, List.length_nil] at t
  have log : ∀ n : Nat, n < 100 → (PyData.int (n : Nat)).showable = true := fun n hn => by
    have : (n : Int).natAbs.log2 < 1920 := by
      have e : (n : Int).natAbs = n := rfl
      rw [e]
      have : n.log2 ≤ n := Nat.log2_le_self n
      omega
    simp only [PyData.showable, decide_eq_true this]
  refine ⟨?_, ?_, ?_, by rw [pap_shown]; omega, by rw [pap_shown]; exact str_ok t.2⟩
  · simp [papD, pyOf, pyOfL, py_row]
  · show PyData.showableAll [.str "wrap", .int (s : Nat), .int (o : Nat), rowY ns] = true
    simp only [PyData.showableAll, w3, log s hs, log o ho, r1, Bool.and_self]
  · have : (papY s o ns).depth ≤ 65 := by
      simp only [papY, PyData.depth, PyData.depthAll]
      have := (shaped_row ns).2
      simp only [PyData.depth] at this
      omega
    simp only [papY, PyData.depth, PyData.depthAll]
    have := (shaped_row ns).2
    simp only [PyData.depth] at this
    omega
theorem can_ints : ∀ n : Nat, n < 14 → canB (.int (n : Nat)) = true := by decide +kernel
theorem can_int {n : Nat} (h : n < 14) : ∃ p, CanR (.int (n : Nat)) p := can_of (can_ints n h)
theorem repr2 {d : D} {p : PyData} (c : CanR d p) {Φ : D → Prop} (q : Φ (.bl false)) : wEq true (.str p.shown) (.str p.shown) Φ := by
  refine eq_same (p := .str p.shown) rfl ?_ q
  have := c.ok
  simp [SeqAt.shaped, this, PyData.depth]
theorem cut_d (ns : List Nat) (a : Nat) (h : a ≤ ns.length) : DL.cutD (numsD ns) (some (a : Int)) none = numsD (ns.drop a) := by
  rw [cut_drop _ a (by rw [nums_len]; exact h)]
  unfold numsD
  rw [List.map_drop]
end
end K25
set_option Elab.async false
set_option autoImplicit false
set_option linter.all false
set_option maxRecDepth 100000
set_option maxHeartbeats 3900000
namespace K25
open DL L2 PyProof.Rows PySem PySem.Spec
abbrev la_0 (K : Fg) (C : Cs) : WS := (wAsgO 2 (woCall 2 (so_law_box C) (wCons (wVar 0) (wCons (wVar 1) wNil))))
abbrev la_1 (K : Fg) (C : Cs) : WS := (wAsg 3 (wOp wAdd (wC (.int 2)) (wCallB 2 1 (sp_law_pick C) (wCons (wLst (wCons (wC (.int 1)) (wCons (wC (.int 2)) (wCons (wC (.int 0)) (wCons (wC (.int 1)) wNil))))) wNil))))
abbrev la_2 (K : Fg) (C : Cs) : WS := (wAsg 4 (wCallB 2 2 (sp_law_machine C) (wCons (wVar 3) (wCons (wOp wAdd (wC (.int 1)) (wCallB 2 1 (sp_law_take C) (wCons (wC (.int 3)) wNil))) wNil))))
abbrev la_3 (K : Fg) (C : Cs) : WS := (wAsgG (wgTup 2 (wgCons (wgName 5) (wgCons (wgName 6) wgNil))) (wTup (wCons (wMake C.Machine 1 0 (sp_Machine_init C) (fun ds _ => ds) (wCons (wVar 4) wNil) wNil) (wCons (wCallA 2 0 (sp_law_layers C) (fun ds _ => ds) (wCons (wVar 4) (wCons (wC (.int 8)) wNil)) wNil) wNil))))
abbrev la_4 (K : Fg) (C : Cs) : WS := (wAsg 7 (wLc (wiRg1 (wCons (wVar 3) wNil)) (wgName 17) (wB (wOp wGt (wCallB 2 1 (sp_law_take C) (wCons (wC (.int 3)) wNil)) (wC (.int 0)))) (wVar 17) [17]))
abbrev la_5 (K : Fg) (C : Cs) : WS := (wAsg 7 (wIf (wB (wOp (wEq true) (wVar 7) (wLst wNil))) (wVar 7) (wLst (wCons (wOp wSub (wVar 3) (wC (.int 1))) wNil))))
abbrev li_0 (K : Fg) (C : Cs) : WS := (wPar 9 10 (wCons (wOp wAdd (wC (.int 1)) (wCallB 2 1 (sp_law_take C) (wCons (wC (.int 8)) wNil))) (wCons (wCallB 2 1 (sp_law_pick C) (wCons (wLst (wCons (wC .non) (wCons (wC .non) (wCons (wOp wAdd (wC (.int 1)) (wCallB 2 1 (sp_law_take C) (wCons (wC (.int 12)) wNil))) wNil)))) wNil)) wNil)))
abbrev li_1 (K : Fg) (C : Cs) : WS := (wAsg 11 (wCallA 2 2 (sp_wrap_paper C) (kf_2_01 D.non) (wCons (wVar 5) (wCons (wVar 9) wNil)) (wCons (wVar 7) (wCons (wVar 10) wNil))))
abbrev li_2 (K : Fg) (C : Cs) : WS := (wIfS (wB (wOp (wEq true) (wCB wRepr (wCons (wCallA 0 4 (sp_wrap_paper C) pm_3210 wNil (wCons (wVar 10) (wCons (wVar 7) (wCons (wVar 9) (wCons (wVar 5) wNil))))) wNil)) (wCB wRepr (wCons (wVar 11) wNil)))) (wRet (wC (.bl false))) wNext)
abbrev li_3 (K : Fg) (C : Cs) : WS := (wIfS (wB (wOp (wEq true) (wOp (wIsN false) (wCallA 2 2 (sp_wrap_paper C) (kf_2_01 D.non) (wCons (wVar 5) (wCons (wVar 9) wNil)) (wCons (wCB wTupOf (wCons (wVar 7) wNil)) (wCons (wVar 10) wNil))) (wC .non)) (wOp (wIsN false) (wVar 11) (wC .non)))) (wRet (wC (.bl false))) wNext)
abbrev li_4 (K : Fg) (C : Cs) : WS := (wAsg 12 (wLst (wCons (wCallA 2 2 (sp_is_enough C) (kf_2_01 D.non) (wCons (wVar 5) (wCons (wVar 9) wNil)) (wCons (wVar 7) (wCons (wVar 10) wNil))) (wCons (wCallA 0 4 (sp_is_enough C) pm_3210 wNil (wCons (wVar 10) (wCons (wVar 7) (wCons (wVar 9) (wCons (wVar 5) wNil))))) wNil))))
abbrev li_5 (K : Fg) (C : Cs) : WS := (wIfS (wB (wOp (wEq true) (wCB wRepr (wCons (wVar 12) wNil)) (wCB wRepr (wCons (wOp wMul (wLst (wCons (wOp (wIsN false) (wVar 11) (wC .non)) wNil)) (wC (.int 2))) wNil)))) (wRet (wC (.bl false))) wNext)
abbrev li_6 (K : Fg) (C : Cs) : WS := (wIfS (wAnd (wB (wOp (wIsN true) (wVar 11) (wC .non))) (wNot (wB (wCallA 6 0 (sp_law_paper_right C) (fun ds _ => ds) (wCons (wVar 4) (wCons (wVar 6) (wCons (wVar 11) (wCons (wVar 7) (wCons (wVar 9) (wCons (wVar 10) wNil)))))) wNil)))) (wRet (wC (.bl false))) wNext)
abbrev li_7 (K : Fg) (C : Cs) : WS := (wIfS (wAnd (wB (wOp (wIsN true) (wVar 11) (wC .non))) (wB (wOp (wIsB true) (wCallA 3 2 (sp_wrap_holds C) (kf_3_01 D.non) (wCons (wVar 5) (wCons (wVar 9) (wCons (wVar 11) wNil))) (wCons (wVar 7) (wCons (wVar 10) wNil))) (wC (.bl true))))) (wRet (wC (.bl false))) wNext)
abbrev li_8 (K : Fg) (C : Cs) : WS := (wFor (wiRg1 (wCons (wC (.int 3)) wNil)) (wgName 13) (wSeq (wAsg 14 (wLc (wiRg1 (wCons (wCallB 2 1 (sp_law_take C) (wCons (wC (.int 25)) wNil)) wNil)) (wgName 18) wTrue (wCallB 2 1 (sp_law_take C) (wCons (wCB wLen (wCons (wVar 4) wNil)) wNil)) [18])) (wIfS (wAnd (wB (wOp (wIsN false) (wVar 11) (wC .non))) (wB (wOp (wIsN true) (wCallA 5 0 (sp_law_clash C) (fun ds _ => ds) (wCons (wVar 4) (wCons (wVar 14) (wCons (wVar 7) (wCons (wVar 9) (wCons (wVar 10) wNil))))) wNil) (wC .non)))) (wRet (wC (.bl false))) wNext)))
abbrev li_9 (K : Fg) (C : Cs) : WS := (wIfS (wAnd (wB (wOp (wIsN true) (wVar 11) (wC .non))) (wB (wOp (wIsN false) (wCallA 5 0 (sp_law_clash C) (fun ds _ => ds) (wCons (wVar 4) (wCons (wCB wLstOf (wCons (wOp wIx (wVar 11) (wC (.int 3))) wNil)) (wCons (wVar 7) (wCons (wVar 9) (wCons (wVar 10) wNil))))) wNil) (wC .non)))) (wRet (wC (.bl false))) wNext)
abbrev la_6 (K : Fg) (C : Cs) : WS := (wFor (wiRg1 (wCons (wC (.int 4)) wNil)) (wgName 8) (wSeq (li_0 K C) (wSeq (li_1 K C) (wSeq (li_2 K C) (wSeq (li_3 K C) (wSeq (li_4 K C) (wSeq (li_5 K C) (wSeq (li_6 K C) (wSeq (li_7 K C) (wSeq (li_8 K C) (li_9 K C)))))))))))
abbrev la_7 (K : Fg) (C : Cs) : WS := (wIfS (wB (wOp (wIsB true) (wCallA 2 1 (sp_is_enough C) (kf_2_n0 D.non) (wCons (wVar 5) (wCons (wC (.int 200)) wNil)) (wCons (wC (.int 200)) wNil)) (wC (.bl true)))) (wRet (wC (.bl false))) wNext)
abbrev la_8 (K : Fg) (C : Cs) : WS := (wAsg 15 (wRgL (wCons (wVar 3) wNil)))
abbrev la_9 (K : Fg) (C : Cs) : WS := (wIfS (wB (wOp (wEq true) (wCallA 2 0 (sp_is_enough C) (kf_2_nn D.non) (wCons (wVar 5) (wCons (wC (.int 3)) wNil)) wNil) (wCallA 2 1 (sp_is_enough C) (kf_2_0n D.non) (wCons (wVar 5) (wCons (wC (.int 3)) wNil)) (wCons (wVar 15) wNil)))) (wRet (wC (.bl false))) wNext)
abbrev la_10 (K : Fg) (C : Cs) : WS := (wIfS (wB (wOp (wEq true) (wOp (wIsN false) (wCallA 2 0 (sp_wrap_paper C) (kf_2_nn D.non) (wCons (wVar 5) (wCons (wC (.int 3)) wNil)) wNil) (wC .non)) (wOp (wIsN false) (wCallA 2 1 (sp_wrap_paper C) (kf_2_0n D.non) (wCons (wVar 5) (wCons (wC (.int 3)) wNil)) (wCons (wVar 15) wNil)) (wC .non)))) (wRet (wC (.bl false))) wNext)
abbrev la_11 (K : Fg) (C : Cs) : WS := (wAsg 16 (wCallB 2 1 (sp_law_pick C) (wCons (wLst (wCons (wC (.int 0)) (wCons (wC (.int 201)) (wCons (wOp wSub (wC (.int 0)) (wC (.int 1))) (wCons (wC .non) (wCons (wC (.bl true)) (wCons (wC (.str "2")) wNil))))))) wNil)))
abbrev la_12 (K : Fg) (C : Cs) : WS := (wIfS (wB (wOp (wEq true) (wLam (x_law_refused K C) 1 (wCallA 2 2 (sp_is_enough C) (kf_2_01 D.non) (wCons (wVar 5) (wCons (wVar 16) wNil)) (wCons (wC (.int 0)) (wCons (wC (.int 0)) wNil)))) (wCB wRepr (wCons (wVar 16) wNil)))) (wRet (wC (.bl false))) wNext)
abbrev la_13 (K : Fg) (C : Cs) : WS := (wIfS (wB (wOp (wEq true) (wLam (x_law_refused K C) 1 (wCallA 2 2 (sp_wrap_paper C) (kf_2_01 D.non) (wCons (wVar 5) (wCons (wVar 16) wNil)) (wCons (wC (.int 0)) (wCons (wC (.int 0)) wNil)))) (wCB wRepr (wCons (wVar 16) wNil)))) (wRet (wC (.bl false))) wNext)
abbrev la_14 (K : Fg) (C : Cs) : WS := (wIfS (wB (wOp (wEq true) (wLam (x_law_refused K C) 1 (wCallA 2 2 (sp_is_enough C) (kf_2_01 D.non) (wCons (wVar 5) (wCons (wC (.int 2)) wNil)) (wCons (wLst wNil) (wCons (wC (.int 0)) wNil)))) (wC (.str "[]")))) (wRet (wC (.bl false))) wNext)
abbrev la_15 (K : Fg) (C : Cs) : WS := (wIfS (wB (wOp (wEq true) (wLam (x_law_refused K C) 1 (wCallA 2 2 (sp_wrap_paper C) (kf_2_01 D.non) (wCons (wVar 5) (wCons (wC (.int 2)) wNil)) (wCons (wLst wNil) (wCons (wC (.int 0)) wNil)))) (wC (.str "[]")))) (wRet (wC (.bl false))) wNext)
abbrev la_16 (K : Fg) (C : Cs) : WS := (wIfS (wB (wOp (wEq true) (wLam (x_law_refused K C) 1 (wCallA 2 1 (sp_is_enough C) (kf_2_n0 D.non) (wCons (wVar 5) (wCons (wC (.int 2)) wNil)) (wCons (wC (.int 0)) wNil))) (wC (.str "0")))) (wRet (wC (.bl false))) wNext)
abbrev la_17 (K : Fg) (C : Cs) : WS := (wIfS (wB (wOp (wEq true) (wLam (x_law_refused K C) 1 (wCallA 3 1 (sp_wrap_holds C) (kf_3_0n D.non) (wCons (wVar 5) (wCons (wVar 16) (wCons (wC .non) wNil))) (wCons (wC (.int 0)) wNil))) (wCB wRepr (wCons (wVar 16) wNil)))) (wRet (wC (.bl false))) wNext)
section
variable {K : Fg} {C : Cs}
/-! starts, bounds, papers -/
structure StG (m : Nat) (ss : List Nat) : Prop where
  ne : ss ≠ []
  asc : ss.Pairwise (· < ·)
  lt : ∀ s ∈ ss, s < m
theorem asc_of {m : Nat} : ∀ (ss : List Nat) (v : Int), ss.Pairwise (· < ·) → (∀ s ∈ ss, s < m ∧ v ≤ (s : Nat)) → ascL (m : Int) (numsD ss) v = true
  | [], _, _, _ => rfl
  | s :: ss, v, hp, h => by
    rw [nums_cons]
    unfold ascL
    obtain ⟨h1, h2⟩ := h s List.mem_cons_self
    obtain ⟨a1, a2⟩ := List.pairwise_cons.mp hp
    have hb : (belowD (.int (s : Nat)) (m : Int) && decide (v ≤ (s : Nat))) = true := by
      rw [Bool.and_eq_true, decide_eq_true_eq]
      refine ⟨?_, h2⟩
      unfold belowD
      rw [Bool.and_eq_true, decide_eq_true_eq, decide_eq_true_eq]
      omega
    simp only [hb, if_true]
    exact asc_of ss _ a2 fun x hx => ⟨(h x (List.mem_cons_of_mem _ hx)).1, by have := a1 x hx; omega⟩
theorem StG.ok {m : Nat} {ss : List Nat} (h : StG m ss) {y : D} (hy : seqD y = some (numsD ss)) : startsOk m y = true := by
  unfold startsOk ascD lenD
  rw [hy]
  simp only [Option.getD_some, nums_len]
  rw [asc_of ss 0 h.asc fun s hs => ⟨h.lt s hs, by omega⟩, Bool.true_and, decide_eq_true_eq]
  exact fun z => h.ne (List.length_eq_zero_iff.mp z)
theorem StG.len {m : Nat} {ss : List Nat} (h : StG m ss) : ss.length ≤ m := (starts_nums (h.ok (y := .lst (numsD ss)) rfl) rfl).2.1
theorem range_st {m : Nat} (h : 1 ≤ m) : StG m (List.range m) := ⟨fun z => by have := congrArg List.length z; simp at this; omega, List.pairwise_lt_range, fun s hs => List.mem_range.mp hs⟩
def BndG (b : D) : Prop := b = .non ∨ ∃ v : Int, b = .int v ∧ 0 < v
theorem BndG.ok {b : D} (h : BndG b) : plain b ∧ bndOk b = true := by
  rcases h with rfl | ⟨v, rfl, hv⟩
  · exact ⟨rfl, rfl⟩
  · exact ⟨rfl, decide_eq_true hv⟩
/-- the starts of a question, told or left out -/
def StQ (t : Tbl) (y : D) (ss : List Nat) : Prop := StG (wd t) ss ∧ ((y = .non ∧ ss = List.range (wd t)) ∨ seqD y = some (numsD ss))
theorem StQ.gate {t : Tbl} {y b : D} {ss : List Nat} {m : Nat} {Ξ : Addr → Str → D → Prop} {G : Nat → List Nat → Prop} (h : StQ t y ss) (hb : BndG b) (m1 : 1 ≤ m) (m2 : m ≤ 200) (q : G m ss) : gateW C t (.int (m : Nat)) y b Ξ G := by
  obtain ⟨b1, b2⟩ := hb.ok
  refine ⟨rfl, .inr ⟨m, rfl, m1, m2, .inr ⟨ss, ?_, b1, .inr ⟨b2, q⟩⟩⟩⟩
  obtain ⟨h1, h2 | h2⟩ := h
  · exact .inl h2
  · refine .inr ⟨by obtain rfl | rfl := seq_cases h2 <;> rfl, ?_, h1.ok h2, h2⟩
    refine ⟨by obtain rfl | rfl := seq_cases h2 <;> rfl, fun xs hx z hz => ?_⟩
    rw [h2] at hx; cases hx
    obtain ⟨n, _, rfl⟩ := List.mem_map.mp hz
    rfl
def PapV (t : Tbl) (ss : List Nat) (m : Nat) (b d : D) : Prop := (d = .non ∧ ∀ L s, ¬ Wr t ss m b L s) ∨ ∃ s o ns, d = papD s o ns ∧ ns.length ≤ 201 * m ∧ Least t ss m b s o ns
theorem PapV.uniq {t : Tbl} {ss : List Nat} {m : Nat} {b d d' : D} (h : PapV t ss m b d) (h' : PapV t ss m b d') : d = d' := by
  rcases h with ⟨rfl, h1⟩ | ⟨s, o, ns, rfl, -, h1⟩ <;> rcases h' with ⟨rfl, h2⟩ | ⟨s', o', ns', rfl, -, h2⟩
  · rfl
  · exact absurd h2.wr (h1 _ _)
  · exact absurd h1.wr (h2 _ _)
  · exact h1.uniq h2
theorem PapV.isN {t : Tbl} {ss : List Nat} {m : Nat} {b d : D} (h : PapV t ss m b d) : DL.isNon d = some (enough t ss m b) := by
  rcases h with ⟨rfl, h1⟩ | ⟨s, o, ns, rfl, -, h1⟩
  · rw [enough_t h1]; rfl
  · rw [enough_f h1.wr]; rfl
theorem pap_call {t : Tbl} (g : Good t) {y b : D} {ss : List Nat} {m : Nat} (h : StQ t y ss) (hb : BndG b) (m1 : 1 ≤ m) (m2 : m ≤ 200) {Ψ : D → Option OD → Prop} {Ξ : Addr → Str → D → Prop} (q : ∀ d, PapV t ss m b d → Ψ d none) : sp_wrap_paper C none [mach C t, .int (m : Nat), y, b] Ψ Ξ :=
  ⟨rfl, t, .int (m : Nat), y, b, g, rfl, h.gate hb m1 m2 ⟨fun hno => q _ (.inl ⟨rfl, hno⟩), fun s o ns hl hle => q _ (.inr ⟨s, o, ns, rfl, hl, hle⟩)⟩⟩
theorem en_call {t : Tbl} (g : Good t) {y b : D} {ss : List Nat} {m : Nat} (h : StQ t y ss) (hb : BndG b) (m1 : 1 ≤ m) (m2 : m ≤ 200) {Ψ : D → Option OD → Prop} {Ξ : Addr → Str → D → Prop} (q : Ψ (.bl (enough t ss m b)) none) : sp_is_enough C none [mach C t, .int (m : Nat), y, b] Ψ Ξ :=
  ⟨rfl, t, .int (m : Nat), y, b, g, rfl, h.gate hb m1 m2 q⟩
theorem PapV.can {t : Tbl} {ss : List Nat} {m : Nat} {b d : D} (g : Good t) (h : PapV t ss m b d) (hs : ∀ s ∈ ss, s < wd t) (m8 : m ≤ 8) : ∃ p, CanR d p := by
  rcases h with ⟨rfl, h1⟩ | ⟨s, o, ns, rfl, hl, h1⟩
  · exact can_of (by decide +kernel)
  · have hw := g.head
    have h8 := g.le
    have := hs s h1.wr.mem
    have := h1.way.olt
    exact ⟨_, can_pap (by omega) (by omega) (fun n hn => by have := h1.way.lt n hn; omega) (by omega)⟩
/-! a clash is a log that parts -/
theorem clash_wr {t : Tbl} (g : Good t) {ns ss : List Nat} {m : Nat} {b : D} {i j : Nat} (hns : ∀ n ∈ ns, n < t.length) (h : Clash t ns ss m b i j) : ∃ s, Wr t ss m b (j - i) s := by
  obtain ⟨s, h1, h2, h3, h4⟩ := h.at'
  have hlt := h.lt
  have hle := h.le
  obtain ⟨x, hx, ex⟩ := List.mem_map.mp h3
  have hx := List.mem_range.mp hx
  have hpre : ∀ n ∈ ns.take i, n < t.length := fun n hn => hns n (List.mem_of_mem_take hn)
  have e : ns.take j = ns.take i ++ (ns.take j).drop i := by
    have : (ns.take j).take i = ns.take i := by rw [List.take_take, Nat.min_eq_left (by omega)]
    rw [← this, List.take_append_drop]
  refine ⟨s, h1, by omega, h.dvd, h.und, ledN t x (ns.take i), (ns.take j).drop i, g.led hpre hx, ?_, fun n hn => hns n (List.mem_of_mem_take (List.mem_of_mem_drop hn)), ?_, h4⟩
  · rw [List.length_drop, List.length_take]; omega
  · rw [← ex]
    conv => rhs; rw [e]
    unfold ledN; rw [List.foldl_append]
theorem least_clash {t : Tbl} (g : Good t) {ss : List Nat} {m : Nat} {b : D} {s o : Nat} {ns : List Nat} (hs : ∀ s ∈ ss, s < wd t) (h : Least t ss m b s o ns) : Clash t ns ss m b 0 ns.length := by
  refine ⟨h.wr.pos, Nat.le_refl _, h.wr.dvd, h.wr.und, s, h.wr.mem, ?_, ?_, ?_⟩
  · exact List.mem_map.mpr ⟨s, List.mem_range.mpr (hs s h.wr.mem), rfl⟩
  · rw [List.take_length]
    exact List.mem_map.mpr ⟨o, List.mem_range.mpr h.way.olt, h.way.to⟩
  · rw [List.take_length]
    exact h.way.ne
end
end K25
set_option Elab.async false
set_option autoImplicit false
set_option linter.all false
set_option maxRecDepth 100000
set_option maxHeartbeats 3900000
namespace K25
open DL L2 PyProof.Rows PySem PySem.Spec
section
variable {K : Fg} {C : Cs}
abbrev mR (C : Cs) (sc : List Int) (k : Int) (l : Addr) (o : OD) (t : Tbl) (ls : List Tbl) (ss : List Nat) (s8 s9 s10 s11 s12 s13 s14 s15 s16 : Sl) : Rho :=
  [.val (.scr sc), .val (.int k), .own l o, .val (.int (wd t : Nat)), .val (tbsD t), .val (mach C t), .val (laysD ls), .val (.lst (numsD ss)), s8, s9, s10, s11, s12, s13, s14, s15, s16, .un, .un]
variable {Δ : DE} {sc : List Int} {k : Int} {l : Addr} {o : OD} {t : Tbl} {ls : List Tbl} {ss : List Nat} {m : Nat} {b d x : D} {p : PyData}
variable {s8 s9 s10 s11 s12 s13 s14 s15 s16 : Sl}
theorem i_0 (ho : GoodB o) (q : ∀ (m : Nat) b o', 1 ≤ m → m ≤ 8 → BndG b → GoodB o' → Δ.nx (mR C sc k l o' t ls ss s8 (.val (.int (m : Nat))) (.val b) s11 s12 s13 s14 s15 s16)) :
    li_0 K C (mR C sc k l o t ls ss s8 s9 s10 s11 s12 s13 s14 s15 s16) Δ := by
  refine ⟨⟨l, o, rfl⟩, rfl, o, 8, rfl, ho, rfl, by decide, by decide, fun d o' d0 d1 h' => ⟨o', rfl, ?_⟩⟩
  obtain ⟨v, hv, hv2⟩ := nat_of d0 d1
  injection hv with hv
  subst hv
  refine ⟨⟨l, o', rfl⟩, ⟨l, o', rfl⟩, rfl, o', 12, rfl, h', rfl, by decide, by decide, fun e o2 e0 e1 h2 => ⟨o2, rfl, by show 3 ≤ sizeLine; decide, rfl, o2, _, rfl, h2, rfl, by simp, (by show 3 < 1000000; decide), fun d o3 hd h3 => ⟨o3, rfl, ?_⟩⟩⟩
  have e3 : (1 : Int) + (v : Nat) = ((1 + v : Nat) : Int) := by omega
  have hb : BndG d := by
    simp only [List.mem_cons, List.not_mem_nil, or_false] at hd
    rcases hd with rfl | rfl | rfl
    · exact .inl rfl
    · exact .inl rfl
    · exact .inr ⟨_, rfl, by omega⟩
  have := q (1 + v) d o3 (by omega) (by omega) hb h3
  rw [← e3] at this
  exact this
/-- what the turn knows -/
structure Tn (t : Tbl) (ls : List Tbl) (ss : List Nat) (m : Nat) (b : D) : Prop where
  g : Good t
  t3 : t.length ≤ 3
  w4 : wd t ≤ 4
  ln : ls.length = 9
  la : ∀ (k : Nat) (la : Tbl), ls[k]? = some la → Layer t k la
  st : StG (wd t) ss
  m1 : 1 ≤ m
  m8 : m ≤ 8
  bn : BndG b
theorem Tn.q1 (h : Tn t ls ss m b) : StQ t (.lst (numsD ss)) ss := ⟨h.st, .inr rfl⟩
theorem Tn.q2 (h : Tn t ls ss m b) : StQ t (.tup (numsD ss)) ss := ⟨h.st, .inr rfl⟩
theorem i_1 (h : Tn t ls ss m b) (q : ∀ d, PapV t ss m b d → Δ.nx (mR C sc k l o t ls ss s8 (.val (.int (m : Nat))) (.val b) (.val d) s12 s13 s14 s15 s16)) :
    li_1 K C (mR C sc k l o t ls ss s8 (.val (.int (m : Nat))) (.val b) s11 s12 s13 s14 s15 s16) Δ :=
  ⟨rfl, rfl, pap_call h.g h.q1 h.bn h.m1 (by have := h.m8; omega) fun d hd => q d hd⟩
theorem repr_q {ρ : Rho} (c : CanR d p) (q : Δ.nx ρ) : wEq true (.str p.shown) (.str p.shown) fun z => match z with
  | D.bl b => if b = true then Δ.rt (.bl false) ρ else Δ.nx ρ
  | _ => False := repr2 c (Φ := fun z => match z with
  | D.bl b => if b = true then Δ.rt (.bl false) ρ else Δ.nx ρ
  | _ => False) (by show if false = true then _ else _; rw [if_neg Bool.false_ne_true]; exact q)
theorem bl_q {ρ : Rho} {e : Bool} (q : Δ.nx ρ) : wEq true (.bl e) (.bl e) fun z => match z with
  | D.bl b => if b = true then Δ.rt (.bl false) ρ else Δ.nx ρ
  | _ => False := eq_same (x := .bl e) (p := .bool e) rfl (by cases e <;> decide +kernel) (Φ := fun z => match z with
  | D.bl b => if b = true then Δ.rt (.bl false) ρ else Δ.nx ρ
  | _ => False) (by show if false = true then _ else _; rw [if_neg Bool.false_ne_true]; exact q)
theorem i_2 (h : Tn t ls ss m b) (hd : PapV t ss m b d) (q : Δ.nx (mR C sc k l o t ls ss s8 (.val (.int (m : Nat))) (.val b) (.val d) s12 s13 s14 s15 s16)) :
    li_2 K C (mR C sc k l o t ls ss s8 (.val (.int (m : Nat))) (.val b) (.val d) s12 s13 s14 s15 s16) Δ := by
  obtain ⟨p, c⟩ := hd.can h.g h.st.lt h.m8
  refine ⟨rfl, rfl, pap_call h.g h.q1 h.bn h.m1 (by have := h.m8; omega) fun d' hd' => ?_⟩
  obtain rfl := hd'.uniq hd
  refine ⟨_, _, rfl, c.py, c.sh, c.de, c.sz, _, _, rfl, c.py, c.sh, c.de, c.sz, repr_q c q⟩
theorem i_3 (h : Tn t ls ss m b) (hd : PapV t ss m b d) (q : Δ.nx (mR C sc k l o t ls ss s8 (.val (.int (m : Nat))) (.val b) (.val d) s12 s13 s14 s15 s16)) :
    li_3 K C (mR C sc k l o t ls ss s8 (.val (.int (m : Nat))) (.val b) (.val d) s12 s13 s14 s15 s16) Δ := by
  refine ⟨rfl, rfl, pap_call h.g h.q2 h.bn h.m1 (by have := h.m8; omega) fun d' hd' => ?_⟩
  obtain rfl := hd'.uniq hd
  exact ⟨rfl, _, hd.isN, rfl, _, hd.isN, bl_q q⟩
theorem i_4 (h : Tn t ls ss m b) (q : Δ.nx (mR C sc k l o t ls ss s8 (.val (.int (m : Nat))) (.val b) s11 (.val (.lst [.bl (enough t ss m b), .bl (enough t ss m b)])) s13 s14 s15 s16)) :
    li_4 K C (mR C sc k l o t ls ss s8 (.val (.int (m : Nat))) (.val b) s11 s12 s13 s14 s15 s16) Δ :=
  ⟨rfl, rfl, en_call h.g h.q1 h.bn h.m1 (by have := h.m8; omega) ⟨rfl, rfl, en_call h.g h.q1 h.bn h.m1 (by have := h.m8; omega) ⟨by show 2 ≤ sizeLine; decide, q⟩⟩⟩
theorem i_5 (hd : PapV t ss m b d) (q : Δ.nx (mR C sc k l o t ls ss s8 s9 s10 (.val d) (.val (.lst [.bl (enough t ss m b), .bl (enough t ss m b)])) s13 s14 s15 s16)) :
    li_5 K C (mR C sc k l o t ls ss s8 s9 s10 (.val d) (.val (.lst [.bl (enough t ss m b), .bl (enough t ss m b)])) s13 s14 s15 s16) Δ := by
  obtain ⟨p, c⟩ : ∃ p, CanR (.lst [.bl (enough t ss m b), .bl (enough t ss m b)]) p := can_of (by cases enough t ss m b <;> decide +kernel)
  refine ⟨_, _, rfl, c.py, c.sh, c.de, c.sz, rfl, _, hd.isN, by show 1 ≤ sizeLine; decide, by decide, by decide, by show 2 ≤ sizeLine; decide, _, _, rfl, c.py, c.sh, c.de, c.sz, repr_q c q⟩
theorem i_6 (h : Tn t ls ss m b) (hd : PapV t ss m b d) (q : Δ.nx (mR C sc k l o t ls ss s8 (.val (.int (m : Nat))) (.val b) (.val d) s12 s13 s14 s15 s16)) :
    li_6 K C (mR C sc k l o t ls ss s8 (.val (.int (m : Nat))) (.val b) (.val d) s12 s13 s14 s15 s16) Δ := by
  have hm := h.m8
  have hw := h.w4
  refine ⟨rfl, _, hd.isN, ?_⟩
  rcases hd with ⟨rfl, h1⟩ | ⟨s, o1, ns, rfl, hl, h1⟩
  · rw [enough_t h1]
    exact q
  · rw [enough_f h1.wr]
    exact ⟨rfl, rfl, rfl, t, ls, ss, m, b, s, o1, ns, h.g, h.ln, h.la, h.st.lt, by have := h.st.len; omega, h.m1, by omega, h.bn.ok.2, h1, by omega, rfl, q⟩
theorem i_7 (h : Tn t ls ss m b) (hd : PapV t ss m b d) (q : Δ.nx (mR C sc k l o t ls ss s8 (.val (.int (m : Nat))) (.val b) (.val d) s12 s13 s14 s15 s16)) :
    li_7 K C (mR C sc k l o t ls ss s8 (.val (.int (m : Nat))) (.val b) (.val d) s12 s13 s14 s15 s16) Δ := by
  have hm := h.m8
  refine ⟨rfl, _, hd.isN, ?_⟩
  rcases hd with ⟨rfl, h1⟩ | ⟨s, o1, ns, rfl, hl, h1⟩
  · rw [enough_t h1]
    exact q
  · rw [enough_f h1.wr]
    exact ⟨rfl, rfl, rfl, t, .int (m : Nat), papD s o1 ns, .lst (numsD ss), b, h.g, rfl, h.q1.gate h.bn h.m1 (by omega) ⟨s, o1, ns, rfl, h1.wr, h1.way, by omega, q⟩⟩
theorem i_9 (h : Tn t ls ss m b) (hd : PapV t ss m b d) (q : Δ.nx (mR C sc k l o t ls ss s8 (.val (.int (m : Nat))) (.val b) (.val d) s12 s13 s14 s15 s16)) :
    li_9 K C (mR C sc k l o t ls ss s8 (.val (.int (m : Nat))) (.val b) (.val d) s12 s13 s14 s15 s16) Δ := by
  have hm := h.m8
  refine ⟨rfl, _, hd.isN, ?_⟩
  rcases hd with ⟨rfl, h1⟩ | ⟨s, o1, ns, rfl, hl, h1⟩
  · rw [enough_t h1]
    exact q
  · rw [enough_f h1.wr]
    refine ⟨rowD ns, rfl, ?_⟩
    exact ⟨rfl, rfl, rfl, t, ns, ss, m, b, h.g, h1.way.lt, by omega, h.st.lt, h.m1, by omega, h.bn.ok.2, rfl, fun hno => absurd (least_clash h.g h.st.lt h1) (hno _ _), fun i j hc => ⟨rfl, false, rfl, q⟩⟩
abbrev lg_a : Cs → WS := fun C => wAsg 14 (wLc (wiRg1 (wCons (wCallB 2 1 (sp_law_take C) (wCons (wC (.int 25)) wNil)) wNil)) (wgName 18) wTrue (wCallB 2 1 (sp_law_take C) (wCons (wCB wLen (wCons (wVar 4) wNil)) wNil)) [18])
theorem i_8a (h : Tn t ls ss m b) (ho : GoodB o) (q : ∀ ns o', (∀ n ∈ ns, n < t.length) → ns.length ≤ 25 → GoodB o' → Δ.nx (mR C sc k l o' t ls ss s8 s9 s10 s11 s12 s13 (.val (.lst (numsD ns))) s15 s16)) :
    lg_a C (mR C sc k l o t ls ss s8 s9 s10 s11 s12 s13 s14 s15 s16) Δ := by
  have h3 := h.t3
  have hpos : 0 < t.length := List.length_pos_iff.mpr h.g.ne
  refine ⟨⟨l, o, rfl⟩, rfl, o, 25, rfl, ho, rfl, by decide, by decide, fun d o1 d0 d1 h1 => ⟨o1, rfl, ⟨by omega, by omega⟩, ?_⟩⟩
  have hlen : (rgD 0 d.toNat).length = d.toNat := by unfold rgD; simp
  refine draws (l := l) (rest := []) (m := (t.length : Nat)) (R := fun ρ' => ∃ o', GoodB o' ∧ ρ' = mR C sc k l o' t ls ss s8 s9 s10 s11 s12 s13 s14 s15 s16) _ _ (by omega) (by rw [hlen]; have := big; omega) ⟨o1, h1, rfl⟩ ?_ ?_
  · rintro d hd ρ' Ψ ⟨o', ho', rfl⟩ hk
    have el : (t.map rowD).length = t.length := List.length_map ..
    refine ⟨⟨l, o', rfl⟩, rfl, o', (((t.map rowD).length : Nat) : Int), rfl, ho', rfl, by rw [el]; omega, by rw [el]; omega, fun d o2 d0 d1 h2 => ⟨o2, rfl, ?_⟩⟩
    rw [el] at d1
    obtain ⟨x, hx, hx2⟩ := nat_of d0 d1
    exact hk _ _ ⟨x, hx, hx2⟩ ⟨o2, h2, rfl⟩
  · rintro ms ρ' h3 h4 ⟨o', ho', rfl⟩
    exact q ms o' (fun n hn => by have := h4 n hn; omega) (by rw [h3, hlen]; omega) ho'
abbrev lg_b : Cs → WS := fun C => wIfS (wAnd (wB (wOp (wIsN false) (wVar 11) (wC .non))) (wB (wOp (wIsN true) (wCallA 5 0 (sp_law_clash C) (fun ds _ => ds) (wCons (wVar 4) (wCons (wVar 14) (wCons (wVar 7) (wCons (wVar 9) (wCons (wVar 10) wNil))))) wNil) (wC .non)))) (wRet (wC (.bl false))) wNext
theorem i_8b (h : Tn t ls ss m b) (hd : PapV t ss m b d) {ns : List Nat} (hns : ∀ n ∈ ns, n < t.length) (hl : ns.length ≤ 25) (q : Δ.nx (mR C sc k l o t ls ss s8 (.val (.int (m : Nat))) (.val b) (.val d) s12 s13 (.val (.lst (numsD ns))) s15 s16)) :
    lg_b C (mR C sc k l o t ls ss s8 (.val (.int (m : Nat))) (.val b) (.val d) s12 s13 (.val (.lst (numsD ns))) s15 s16) Δ := by
  have hm := h.m8
  refine ⟨rfl, _, hd.isN, ?_⟩
  rcases hd with ⟨rfl, h1⟩ | ⟨s, o1, ns', rfl, hl, h1⟩
  · rw [enough_t h1]
    refine ⟨rfl, rfl, rfl, t, ns, ss, m, b, h.g, hns, by omega, h.st.lt, h.m1, by omega, h.bn.ok.2, rfl, fun hno => ⟨rfl, true, rfl, q⟩, fun i j hc => ?_⟩
    obtain ⟨s, hw⟩ := clash_wr h.g hns hc
    exact absurd hw (h1 _ _)
  · rw [enough_f h1.wr]
    exact q
theorem i_8 (h : Tn t ls ss m b) (hd : PapV t ss m b d) (ho : GoodB o) (q : ∀ o' s13 s14, GoodB o' → Δ.nx (mR C sc k l o' t ls ss s8 (.val (.int (m : Nat))) (.val b) (.val d) s12 s13 s14 s15 s16)) :
    li_8 K C (mR C sc k l o t ls ss s8 (.val (.int (m : Nat))) (.val b) (.val d) s12 s13 s14 s15 s16) Δ := by
  refine ⟨⟨by decide, by decide⟩, ?_⟩
  refine for_inv (fun ds ρ => ∃ (o : OD) (s13 s14 : Sl), GoodB o ∧ ρ = mR C sc k l o t ls ss s8 (.val (.int (m : Nat))) (.val b) (.val d) s12 s13 s14 s15 s16) (fun x ds ρ N h' hN => ?_) (fun ρ h' => ?_) _ _ ⟨o, s13, s14, ho, rfl⟩
  · obtain ⟨o, s13, s14, ho, rfl⟩ := h'
    refine seqI (w := lg_a C) (i_8a (s13 := .val x) h ho fun ns o' hns hl ho' => ?_)
    exact i_8b (s13 := .val x) h hd hns hl (hN _ ⟨o', _, _, ho', rfl⟩)
  · obtain ⟨o, s13, s14, ho, rfl⟩ := h'
    exact q o s13 s14 ho
abbrev inW (K : Fg) (C : Cs) : WS := (wSeq (li_0 K C) (wSeq (li_1 K C) (wSeq (li_2 K C) (wSeq (li_3 K C) (wSeq (li_4 K C) (wSeq (li_5 K C) (wSeq (li_6 K C) (wSeq (li_7 K C) (wSeq (li_8 K C) (li_9 K C))))))))))
theorem in_ok (h0 : ∀ m b, 1 ≤ m → m ≤ 8 → BndG b → Tn t ls ss m b) (ho : GoodB o) (q : ∀ o' s9 s10 s11 s12 s13 s14, GoodB o' → Δ.nx (mR C sc k l o' t ls ss s8 s9 s10 s11 s12 s13 s14 s15 s16)) :
    inW K C (mR C sc k l o t ls ss s8 s9 s10 s11 s12 s13 s14 s15 s16) Δ := by
  refine seqI (w := li_0 K C) (i_0 ho fun m b o1 m1 m8 hb ho1 => ?_)
  have h := h0 m b m1 m8 hb
  refine seqI (w := li_1 K C) (i_1 h fun d hd => ?_)
  refine seqI (w := li_2 K C) (i_2 h hd ?_)
  refine seqI (w := li_3 K C) (i_3 h hd ?_)
  refine seqI (w := li_4 K C) (i_4 h ?_)
  refine seqI (w := li_5 K C) (i_5 hd ?_)
  refine seqI (w := li_6 K C) (i_6 h hd ?_)
  refine seqI (w := li_7 K C) (i_7 h hd ?_)
  refine seqI (w := li_8 K C) (i_8 h hd ho1 fun o2 s13 s14 ho2 => ?_)
  exact i_9 (K := K) h hd (q _ _ _ _ _ _ _ ho2)
end
end K25
set_option Elab.async false
set_option autoImplicit false
set_option linter.all false
set_option maxRecDepth 100000
set_option maxHeartbeats 3900000
namespace K25
open DL L2 PyProof.Rows PySem PySem.Spec
section
variable {K : Fg} {C : Cs}
abbrev eR (sc : List Int) (s1 s2 s3 s4 s5 s6 s7 s8 s9 s10 s11 s12 s13 s14 s15 s16 : Sl) : Rho := [.val (.scr sc), s1, s2, s3, s4, s5, s6, s7, s8, s9, s10, s11, s12, s13, s14, s15, s16, .un, .un]
variable {Δ : DE} {sc : List Int} {k : Int} {l : Addr} {o : OD} {t : Tbl} {m : Nat} {ls : List Tbl} {ss lot : List Nat} {b d x : D} {p : PyData}
variable {s1 s2 s3 s4 s5 s6 s7 s8 s9 s10 s11 s12 s13 s14 s15 s16 : Sl}
theorem b_1 (ho : GoodB o) (q : ∀ (m : Nat) o', 2 ≤ m → m ≤ 4 → GoodB o' → Δ.nx (eR sc s1 (.own l o') (.val (.int (m : Nat))) s4 s5 s6 s7 s8 s9 s10 s11 s12 s13 s14 s15 s16)) : la_1 K C (eR sc s1 (.own l o) s3 s4 s5 s6 s7 s8 s9 s10 s11 s12 s13 s14 s15 s16) Δ := by
  refine ⟨⟨l, o, rfl⟩, by show 4 ≤ sizeLine; decide, rfl, o, _, rfl, ho, rfl, by simp, by decide, fun d o' hd h' => ⟨o', rfl, ?_⟩⟩
  simp only [List.mem_cons, List.not_mem_nil, or_false] at hd
  rcases hd with rfl | rfl | rfl | rfl
  · exact q 3 o' (by omega) (by omega) h'
  · exact q 4 o' (by omega) (by omega) h'
  · exact q 2 o' (by omega) (by omega) h'
  · exact q 3 o' (by omega) (by omega) h'
theorem b_2 (ho : GoodB o) (h1 : 1 ≤ m) (h4 : m ≤ 4) (q : ∀ t o', Good t → t.length ≤ 3 → wd t = m → GoodB o' → Δ.nx (eR sc s1 (.own l o') (.val (.int (m : Nat))) (.val (tbsD t)) s5 s6 s7 s8 s9 s10 s11 s12 s13 s14 s15 s16)) :
    la_2 K C (eR sc s1 (.own l o) (.val (.int (m : Nat))) s4 s5 s6 s7 s8 s9 s10 s11 s12 s13 s14 s15 s16) Δ := by
  refine ⟨⟨l, o, rfl⟩, ⟨l, o, rfl⟩, rfl, o, 3, rfl, ho, rfl, by decide, by decide, fun d o' d0 d1 h' => ⟨o', rfl, ?_⟩⟩
  obtain ⟨v, hv, hv2⟩ := nat_of d0 d1
  injection hv with hv
  subst hv
  have e : (1 : Int) + (v : Nat) = ((1 + v : Nat) : Int) := by omega
  refine ⟨rfl, o', m, 1 + v, rfl, h', h1, h4, by omega, by omega, ?_, fun t o2 g ht hw h2 => ⟨o2, rfl, q t o2 g (by omega) hw h2⟩⟩
  show [D.int (m : Nat), D.int (1 + (v : Nat))] = _
  rw [e]
theorem b_3 (g : Good t) (ht : t.length ≤ 3) (q : ∀ ls : List Tbl, ls.length = 9 → (∀ (k : Nat) (la : Tbl), ls[k]? = some la → Layer t k la) → Δ.nx (eR sc s1 s2 s3 (.val (tbsD t)) (.val (mach C t)) (.val (laysD ls)) s7 s8 s9 s10 s11 s12 s13 s14 s15 s16)) :
    la_3 K C (eR sc s1 s2 s3 (.val (tbsD t)) s5 s6 s7 s8 s9 s10 s11 s12 s13 s14 s15 s16) Δ := by
  refine ⟨rfl, rfl, mk_good g rfl ⟨rfl, _, _, rfl, ?_⟩⟩
  refine ⟨rfl, rfl, rfl, t, 8, g, ht, Nat.le_refl _, rfl, fun ls h1 h2 => ?_⟩
  exact ⟨by show 2 ≤ sizeLine; decide, rfl, rfl, q ls h1 h2⟩
theorem ten_gt {w : WE} {ρ : Rho} {c : Int} {P : Int → Rho → Prop} (h : ∀ χ Φ, (∀ x ρ', P x ρ' → Φ (.int x) ρ') → w ρ χ Φ) (χ : XC) (Φ : Bool → Rho → Prop) (q : ∀ x ρ', P x ρ' → Φ (decide (c < x)) ρ') : wB (wOp wGt w (wC (.int c))) ρ χ Φ :=
  h χ _ fun x ρ' hp => q x ρ' hp
abbrev pR (sc : List Int) (l : Addr) (s1 s3 s4 s5 s6 s7 s8 s9 s10 s11 s12 s13 s14 s15 s16 s17 : Sl) (o : OD) : Rho := [.val (.scr sc), s1, .own l o, s3, s4, s5, s6, s7, s8, s9, s10, s11, s12, s13, s14, s15, s16, s17, .un]
theorem comp4 {Φ : List D → Rho → Prop} : ∀ (xs acc : List Nat) (o : OD), GoodB o → acc.length + xs.length ≤ 1000 →
    (∀ ys o', GoodB o' → ys.Sublist xs → Φ (numsD (acc ++ ys)) (pR sc l s1 s3 s4 s5 s6 s7 s8 s9 s10 s11 s12 s13 s14 s15 s16 .un o')) →
    wLcL (wgName 17) (wB (wOp wGt (wCallB 2 1 (sp_law_take C) (wCons (wC (.int 3)) wNil)) (wC (.int 0)))) (wVar 17) [17] (numsD xs) (numsD acc) (pR sc l s1 s3 s4 s5 s6 s7 s8 s9 s10 s11 s12 s13 s14 s15 s16 .un o) Φ
  | [], acc, o, ho, _, q => by have := q [] o ho (List.Sublist.refl _); rw [List.append_nil] at this; exact this
  | x :: xs, acc, o, ho, hz, q => by
    have hb := big
    have hz' : acc.length + (xs.length + 1) ≤ 1000 := hz
    refine ten_gt (P := fun _ ρ' => ∃ o', GoodB o' ∧ ρ' = pR sc l s1 s3 s4 s5 s6 s7 s8 s9 s10 s11 s12 s13 s14 s15 s16 (.val (.int (x : Nat))) o') (fun χ Φ h => ?_) χ0 _ ?_
    · exact ⟨⟨l, o, rfl⟩, rfl, o, 3, rfl, ho, rfl, by decide, by decide, fun d o' d0 d1 h' => ⟨o', rfl, h _ _ ⟨o', h', rfl⟩⟩⟩
    · rintro v ρ' ⟨o', h', rfl⟩
      cases decide (0 < v) with
      | false => exact comp4 xs acc o' h' (by omega) fun ys o2 h2 hs => q ys o2 h2 (List.Sublist.cons _ hs)
      | true =>
        have e2 : numsD acc ++ [D.int (x : Nat)] = numsD (acc ++ [x]) := by unfold numsD; rw [List.map_append]; rfl
        refine ⟨by rw [nums_len]; omega, ?_⟩
        rw [e2]
        exact comp4 xs (acc ++ [x]) o' h' (by simp only [List.length_append, List.length_cons, List.length_nil]; omega) fun ys o2 h2 hs => by
          have := q (x :: ys) o2 h2 (hs.cons₂ x)
          rw [List.append_assoc]
          exact this
theorem b_4 (ho : GoodB o) (h1 : 1 ≤ m) (h4 : m ≤ 4) (q : ∀ (lot : List Nat) o', lot.Pairwise (· < ·) → (∀ s ∈ lot, s < m) → GoodB o' → Δ.nx (eR sc s1 (.own l o') (.val (.int (m : Nat))) s4 s5 s6 (.val (.lst (numsD lot))) s8 s9 s10 s11 s12 s13 s14 s15 s16)) :
    la_4 K C (eR sc s1 (.own l o) (.val (.int (m : Nat))) s4 s5 s6 s7 s8 s9 s10 s11 s12 s13 s14 s15 s16) Δ := by
  refine ⟨⟨by omega, by omega⟩, ?_⟩
  have e : rgD 0 (Int.toNat (m : Nat)) = numsD (List.range m) := rg_range m
  show wLcL _ _ _ _ (rgD 0 (Int.toNat (m : Nat))) _ _ _
  rw [e]
  exact comp4 (List.range m) [] o ho (by simp; omega) fun ys o' h' hs => q ys o' (List.Pairwise.sublist hs List.pairwise_lt_range) (fun s hs' => List.mem_range.mp (hs.subset hs')) h'
theorem nel {ns : List Nat} {Φ : D → Prop} (q : Φ (.bl (!decide (ns = [])))) : wEq true (.lst (numsD ns)) (.lst []) Φ := by
  have py : pyOf (.lst (numsD ns)) = some (.list (ns.map fun n => .int (n : Nat))) := by
    have : ∀ r : List Nat, pyOfL (r.map fun n => D.int (n : Nat)) = some (r.map fun n => .int (n : Nat)) := fun r => by
      induction r with
      | nil => rfl
      | cons n r ih => simp [pyOfL, pyOf, ih]
    simp [numsD, pyOf, this]
  have sh : SeqAt.shaped (.list (ns.map fun n => PyData.int (n : Nat))) = true := by
    have := (shaped_row ns).1
    simpa [SeqAt.shaped, PyData.depth, PyData.canLay0] using this
  refine ⟨_, .list [], py, rfl, sh, by decide +kernel, ?_⟩
  have e : PyData.eqv (.list (ns.map fun n => PyData.int (n : Nat))) (.list []) = decide (ns = []) := by
    cases ns with
    | nil => decide +kernel
    | cons n ns => simp [PyData.eqv, PyData.eqvAll]
  rw [if_pos rfl, e]; exact q
theorem te_nel {ρ : Rho} {i : Nat} {ns : List Nat} (h : ρ[i]? = some (.val (.lst (numsD ns)))) : Te (wB (wOp (wEq true) (wVar i) (wLst wNil))) ρ (!decide (ns = [])) ρ := fun χ Φ q => by
  show wVar i ρ χ (fun x ρ1 => wLst wNil ρ1 χ fun y ρ2 => wEq true x y fun z => match z with | D.bl b => Φ b ρ2 | _ => False)
  refine ev_var h χ _ ⟨Nat.zero_le _, ?_⟩
  exact nel (Φ := fun z => match z with | D.bl b => Φ b ρ | _ => False) q
theorem b_5 (h1 : 1 ≤ m) (hp : lot.Pairwise (· < ·)) (hl : ∀ s ∈ lot, s < m) (q : ∀ ss, StG m ss → Δ.nx (eR sc s1 s2 (.val (.int (m : Nat))) s4 s5 s6 (.val (.lst (numsD ss))) s8 s9 s10 s11 s12 s13 s14 s15 s16)) :
    la_5 K C (eR sc s1 s2 (.val (.int (m : Nat))) s4 s5 s6 (.val (.lst (numsD lot))) s8 s9 s10 s11 s12 s13 s14 s15 s16) Δ := by
  have h0 : Te (wB (wOp (wEq true) (wVar 7) (wLst wNil))) (eR sc s1 s2 (.val (.int (m : Nat))) s4 s5 s6 (.val (.lst (numsD lot))) s8 s9 s10 s11 s12 s13 s14 s15 s16) (!decide (lot = [])) _ := te_nel rfl
  refine asgI (h0 _ _ ?_)
  by_cases e : lot = []
  · rw [decide_eq_true e]
    refine ⟨by show 1 ≤ sizeLine; decide, ?_⟩
    have e2 : ((m : Nat) : Int) - 1 = ((m - 1 : Nat) : Int) := by omega
    have := q [m - 1] ⟨by simp, by simp, fun s hs => by rw [List.mem_singleton.mp hs]; omega⟩
    show Δ.nx (eR sc s1 s2 (.val (.int (m : Nat))) s4 s5 s6 (.val (.lst [.int (((m : Nat) : Int) - 1)])) s8 s9 s10 s11 s12 s13 s14 s15 s16)
    rw [e2]; exact this
  · rw [decide_eq_false e]
    exact q lot ⟨e, hp, hl⟩
/-! behind the turns -/
theorem b_7 (g : Good t) (q : Δ.nx (mR C sc k l o t ls ss s8 s9 s10 s11 s12 s13 s14 s15 s16)) : la_7 K C (mR C sc k l o t ls ss s8 s9 s10 s11 s12 s13 s14 s15 s16) Δ := by
  have hw := g.head
  refine ⟨rfl, rfl, en_call (y := .non) (b := .int 200) (ss := List.range (wd t)) (m := 200) g ⟨range_st hw.1, .inl ⟨rfl, rfl⟩⟩ (.inr ⟨200, rfl, by decide⟩) (by decide) (by decide) ?_⟩
  have e : enough t (List.range (wd t)) 200 (.int 200) = true := enough_t fun L s hw => by
    have h1 := hw.pos
    have h2 := Nat.le_of_dvd (by omega) hw.dvd
    rcases hw.und with z | ⟨v, z, h3⟩
    · cases z
    · cases z; omega
  rw [e]
  exact q
theorem b_8 (g : Good t) (q : Δ.nx (mR C sc k l o t ls ss s8 s9 s10 s11 s12 s13 s14 (.val (.lst (numsD (List.range (wd t))))) s16)) : la_8 K C (mR C sc k l o t ls ss s8 s9 s10 s11 s12 s13 s14 s15 s16) Δ := by
  have hw := g.head
  refine ⟨by unfold L2.RgOk; omega, ?_⟩
  have e : rgD 0 (Int.toNat (wd t : Nat)) = numsD (List.range (wd t)) := rg_range (wd t)
  show Δ.nx (mR C sc k l o t ls ss s8 s9 s10 s11 s12 s13 s14 (.val (.lst (rgD 0 (Int.toNat (wd t : Nat))))) s16)
  rw [e]; exact q
theorem st_ev (g : Good t) : StQ t .non (List.range (wd t)) ∧ StQ t (.lst (numsD (List.range (wd t)))) (List.range (wd t)) := ⟨⟨range_st g.head.1, .inl ⟨rfl, rfl⟩⟩, ⟨range_st g.head.1, .inr rfl⟩⟩
theorem b_9 (g : Good t) (q : Δ.nx (mR C sc k l o t ls ss s8 s9 s10 s11 s12 s13 s14 (.val (.lst (numsD (List.range (wd t))))) s16)) : la_9 K C (mR C sc k l o t ls ss s8 s9 s10 s11 s12 s13 s14 (.val (.lst (numsD (List.range (wd t))))) s16) Δ := by
  obtain ⟨q1, q2⟩ := st_ev g
  refine ⟨rfl, rfl, en_call (m := 3) g q1 (.inl rfl) (by decide) (by decide) ⟨rfl, rfl, en_call (m := 3) g q2 (.inl rfl) (by decide) (by decide) ?_⟩⟩
  exact bl_q q
theorem b_10 (g : Good t) (q : Δ.nx (mR C sc k l o t ls ss s8 s9 s10 s11 s12 s13 s14 (.val (.lst (numsD (List.range (wd t))))) s16)) : la_10 K C (mR C sc k l o t ls ss s8 s9 s10 s11 s12 s13 s14 (.val (.lst (numsD (List.range (wd t))))) s16) Δ := by
  obtain ⟨q1, q2⟩ := st_ev g
  refine ⟨rfl, rfl, pap_call (m := 3) g q1 (.inl rfl) (by decide) (by decide) fun d hd => ⟨rfl, _, hd.isN, rfl, rfl, pap_call (m := 3) g q2 (.inl rfl) (by decide) (by decide) fun d' hd' => ⟨rfl, _, hd'.isN, ?_⟩⟩⟩
  exact bl_q q
def bads : List D := [.int 0, .int 201, .int (0 - 1), .non, .bl true, .str "2"]
theorem can_b : bads.all canB = true := by decide +kernel
theorem bads_no (h : d ∈ bads) : plain d ∧ modOk d = false := by
  simp only [bads, List.mem_cons, List.not_mem_nil, or_false] at h
  rcases h with rfl | rfl | rfl | rfl | rfl | rfl <;> exact ⟨rfl, by decide⟩
theorem b_11 (ho : GoodB o) (q : ∀ d o', d ∈ bads → GoodB o' → Δ.nx (mR C sc k l o' t ls ss s8 s9 s10 s11 s12 s13 s14 s15 (.val d))) : la_11 K C (mR C sc k l o t ls ss s8 s9 s10 s11 s12 s13 s14 s15 s16) Δ :=
  ⟨⟨l, o, rfl⟩, (by show 6 ≤ sizeLine; decide), rfl, o, bads, rfl, ho, rfl, by simp [bads], by decide, fun d o' hd h' => ⟨o', rfl, q d o' hd h'⟩⟩
theorem b_12 (X : Fx K C) (g : Good t) (hd : d ∈ bads) (q : Δ.nx (mR C sc k l o t ls ss s8 s9 s10 s11 s12 s13 s14 s15 (.val d))) : la_12 K C (mR C sc k l o t ls ss s8 s9 s10 s11 s12 s13 s14 s15 (.val d)) Δ := by
  obtain ⟨p, c⟩ := can_of (List.all_eq_true.mp can_b d hd)
  obtain ⟨b1, b2⟩ := bads_no hd
  dsimp only [la_12, wIfS, wB, wOp]
  refine lam_ref X c (fun Ψ Ξ hx => ?_) ?_
  · exact ⟨rfl, rfl, rfl, t, d, .int 0, .int 0, g, rfl, b1, .inl ⟨b2, hx⟩⟩
  · exact ⟨d, p, rfl, c.py, c.sh, c.de, c.sz, repr_q c q⟩
theorem b_13 (X : Fx K C) (g : Good t) (hd : d ∈ bads) (q : Δ.nx (mR C sc k l o t ls ss s8 s9 s10 s11 s12 s13 s14 s15 (.val d))) : la_13 K C (mR C sc k l o t ls ss s8 s9 s10 s11 s12 s13 s14 s15 (.val d)) Δ := by
  obtain ⟨p, c⟩ := can_of (List.all_eq_true.mp can_b d hd)
  obtain ⟨b1, b2⟩ := bads_no hd
  dsimp only [la_13, wIfS, wB, wOp]
  refine lam_ref X c (fun Ψ Ξ hx => ?_) ?_
  · exact ⟨rfl, rfl, rfl, t, d, .int 0, .int 0, g, rfl, b1, .inl ⟨b2, hx⟩⟩
  · exact ⟨d, p, rfl, c.py, c.sh, c.de, c.sz, repr_q c q⟩
theorem gate_nil {C : Cs} {t : Tbl} {b : D} {m : Nat} {Ξ : Addr → Str → D → Prop} {G : Nat → List Nat → Prop} (m1 : 1 ≤ m) (m2 : m ≤ 200) (h : Ξ C.Refused "at" (.lst [])) : gateW C t (.int (m : Nat)) (.lst []) b Ξ G :=
  ⟨rfl, .inr ⟨m, rfl, m1, m2, .inl ⟨(fun z => by cases z), rfl, (p2l (xs := []) fun y hy => absurd hy List.not_mem_nil).1, rfl, h⟩⟩⟩
theorem can_nil : ∃ p, CanR (.lst []) p ∧ p.shown = ("[]" : Str) := by
  obtain ⟨p, c⟩ := can_of (d := .lst []) (by decide +kernel)
  refine ⟨p, c, ?_⟩
  have := c.py
  cases this
  decide +kernel
theorem can_zero : ∃ p, CanR (.int 0) p ∧ p.shown = ("0" : Str) := by
  obtain ⟨p, c⟩ := can_of (d := .int 0) (by decide +kernel)
  refine ⟨p, c, ?_⟩
  have := c.py
  cases this
  decide +kernel
theorem b_14 (X : Fx K C) (g : Good t) (q : Δ.nx (mR C sc k l o t ls ss s8 s9 s10 s11 s12 s13 s14 s15 s16)) : la_14 K C (mR C sc k l o t ls ss s8 s9 s10 s11 s12 s13 s14 s15 s16) Δ := by
  obtain ⟨p, c, e⟩ := can_nil
  dsimp only [la_14, wIfS, wB, wOp]
  refine lam_ref X c (fun Ψ Ξ hx => ?_) ?_
  · exact ⟨Nat.zero_le _, rfl, rfl, rfl, t, .int 2, .lst [], .int 0, g, rfl, gate_nil (m := 2) (by decide) (by decide) hx⟩
  · rw [← e]; exact repr_q c q
theorem b_15 (X : Fx K C) (g : Good t) (q : Δ.nx (mR C sc k l o t ls ss s8 s9 s10 s11 s12 s13 s14 s15 s16)) : la_15 K C (mR C sc k l o t ls ss s8 s9 s10 s11 s12 s13 s14 s15 s16) Δ := by
  obtain ⟨p, c, e⟩ := can_nil
  dsimp only [la_15, wIfS, wB, wOp]
  refine lam_ref X c (fun Ψ Ξ hx => ?_) ?_
  · exact ⟨Nat.zero_le _, rfl, rfl, rfl, t, .int 2, .lst [], .int 0, g, rfl, gate_nil (m := 2) (by decide) (by decide) hx⟩
  · rw [← e]; exact repr_q c q
theorem b_16 (X : Fx K C) (g : Good t) (q : Δ.nx (mR C sc k l o t ls ss s8 s9 s10 s11 s12 s13 s14 s15 s16)) : la_16 K C (mR C sc k l o t ls ss s8 s9 s10 s11 s12 s13 s14 s15 s16) Δ := by
  obtain ⟨p, c, e⟩ := can_zero
  dsimp only [la_16, wIfS, wB, wOp]
  refine lam_ref X c (fun Ψ Ξ hx => ?_) ?_
  · exact ⟨rfl, rfl, rfl, t, .int 2, .non, .int 0, g, rfl, rfl, .inr ⟨2, rfl, by decide, by decide, .inr ⟨_, .inl ⟨rfl, rfl⟩, rfl, .inl ⟨rfl, hx⟩⟩⟩⟩
  · rw [← e]; exact repr_q c q
theorem b_17 (X : Fx K C) (g : Good t) (hd : d ∈ bads) (q : Δ.nx (mR C sc k l o t ls ss s8 s9 s10 s11 s12 s13 s14 s15 (.val d))) : la_17 K C (mR C sc k l o t ls ss s8 s9 s10 s11 s12 s13 s14 s15 (.val d)) Δ := by
  obtain ⟨p, c⟩ := can_of (List.all_eq_true.mp can_b d hd)
  obtain ⟨b1, b2⟩ := bads_no hd
  dsimp only [la_17, wIfS, wB, wOp]
  refine lam_ref X c (fun Ψ Ξ hx => ?_) ?_
  · exact ⟨rfl, rfl, rfl, t, d, .non, .int 0, .non, g, rfl, b1, .inl ⟨b2, hx⟩⟩
  · exact ⟨d, p, rfl, c.py, c.sh, c.de, c.sz, repr_q c q⟩
abbrev turnW (K : Fg) (C : Cs) : WS := (wSeq (la_0 K C) (wSeq (la_1 K C) (wSeq (la_2 K C) (wSeq (la_3 K C) (wSeq (la_4 K C) (wSeq (la_5 K C) (wSeq (la_6 K C) (wSeq (la_7 K C) (wSeq (la_8 K C) (wSeq (la_9 K C) (wSeq (la_10 K C) (wSeq (la_11 K C) (wSeq (la_12 K C) (wSeq (la_13 K C) (wSeq (la_14 K C) (wSeq (la_15 K C) (wSeq (la_16 K C) (la_17 K C))))))))))))))))))
theorem b_6 (h0 : ∀ m b, 1 ≤ m → m ≤ 8 → BndG b → Tn t ls ss m b) (ho : GoodB o) (q : ∀ o' s8 s9 s10 s11 s12 s13 s14, GoodB o' → Δ.nx (mR C sc k l o' t ls ss s8 s9 s10 s11 s12 s13 s14 s15 s16)) :
    la_6 K C (mR C sc k l o t ls ss s8 s9 s10 s11 s12 s13 s14 s15 s16) Δ := by
  refine ⟨⟨by decide, by decide⟩, ?_⟩
  refine for_inv (fun ds ρ => ∃ (o : OD) (s8 s9 s10 s11 s12 s13 s14 : Sl), GoodB o ∧ ρ = mR C sc k l o t ls ss s8 s9 s10 s11 s12 s13 s14 s15 s16) (fun x ds ρ N h' hN => ?_) (fun ρ h' => ?_) _ _ ⟨o, s8, s9, s10, s11, s12, s13, s14, ho, rfl⟩
  · obtain ⟨o, s8, s9, s10, s11, s12, s13, s14, ho, rfl⟩ := h'
    exact in_ok (s8 := .val x) h0 ho fun o' s9 s10 s11 s12 s13 s14 ho' => hN _ ⟨o', _, s9, s10, s11, s12, s13, s14, ho', rfl⟩
  · obtain ⟨o, s8, s9, s10, s11, s12, s13, s14, ho, rfl⟩ := h'
    exact q _ _ _ _ _ _ _ _ ho
theorem turn_ok (X : Fx K C) (h0 : 0 ≤ k) (h1 : k < 1000) (hl : sc.length < 1000) (q : ∀ s1 s2 s3 s4 s5 s6 s7 s8 s9 s10 s11 s12 s13 s14 s15 s16, Δ.nx (eR sc s1 s2 s3 s4 s5 s6 s7 s8 s9 s10 s11 s12 s13 s14 s15 s16)) :
    turnW K C (eR sc (.val (.int k)) s2 s3 s4 s5 s6 s7 s8 s9 s10 s11 s12 s13 s14 s15 s16) Δ := by
  refine seqI (w := la_0 K C) ⟨rfl, sc, k, rfl, h0, h1, hl, fun o ho l => ?_⟩
  refine seqI (w := la_1 K C) (b_1 ho fun m o1 m1 m4 g1 => ?_)
  refine seqI (w := la_2 K C) (b_2 g1 (by omega) m4 fun t o2 g ht hw g2 => ?_)
  subst hw
  refine seqI (w := la_3 K C) (b_3 g ht fun ls hls hla => ?_)
  refine seqI (w := la_4 K C) (b_4 g2 (by omega) m4 fun lot o3 p1 p2 g3 => ?_)
  refine seqI (w := la_5 K C) (b_5 (by omega) p1 p2 fun ss hst => ?_)
  refine seqI (w := la_6 K C) (b_6 (k := k) (fun m b m1 m8 hb => ⟨g, ht, m4, hls, hla, hst, m1, m8, hb⟩) g3 fun o4 s8 s9 s10 s11 s12 s13 s14 g4 => ?_)
  refine seqI (w := la_7 K C) (b_7 g ?_)
  refine seqI (w := la_8 K C) (b_8 g ?_)
  refine seqI (w := la_9 K C) (b_9 g ?_)
  refine seqI (w := la_10 K C) (b_10 g ?_)
  refine seqI (w := la_11 K C) (b_11 g4 fun d o5 hd g5 => ?_)
  refine seqI (w := la_12 K C) (b_12 X g hd ?_)
  refine seqI (w := la_13 K C) (b_13 X g hd ?_)
  refine seqI (w := la_14 K C) (b_14 X g ?_)
  refine seqI (w := la_15 K C) (b_15 X g ?_)
  refine seqI (w := la_16 K C) (b_16 X g ?_)
  exact b_17 X g hd (q _ _ _ _ _ _ _ _ _ _ _ _ _ _ _ _)
theorem m_law (X : Fx K C) : Sem0 1 19 (sp_law C) (x_law K C) := by
  rintro hl ds Ψ Ξ - ⟨h, ns, rfl, hlen, q⟩
  cases none_of h
  refine seqI ⟨⟨by decide, by decide⟩, ?_⟩
  have loop : ∀ (es : List D) (s1 s2 s3 s4 s5 s6 s7 s8 s9 s10 s11 s12 s13 s14 s15 s16 : Sl), (∀ e ∈ es, ∃ k : Int, e = .int k ∧ 0 ≤ k ∧ k < 1000) → wForL (wgName 1) (turnW K C) es (eR ns s1 s2 s3 s4 s5 s6 s7 s8 s9 s10 s11 s12 s13 s14 s15 s16) { dEnds none Ψ Ξ with nx := fun ρ => wRet (wC (.bl true)) ρ (dEnds none Ψ Ξ) } := by
    intro es
    induction es with
    | nil => exact fun _ _ _ _ _ _ _ _ _ _ _ _ _ _ _ _ _ => q
    | cons e es ih =>
      intro s1 s2 s3 s4 s5 s6 s7 s8 s9 s10 s11 s12 s13 s14 s15 s16 h
      obtain ⟨k, rfl, h0, h1⟩ := h e List.mem_cons_self
      exact turn_ok X h0 h1 (by omega) fun _ _ _ _ _ _ _ _ _ _ _ _ _ _ _ _ => ih _ _ _ _ _ _ _ _ _ _ _ _ _ _ _ _ fun e he => h e (List.mem_cons_of_mem _ he)
  refine loop _ .un .un .un .un .un .un .un .un .un .un .un .un .un .un .un .un fun e he => ?_
  obtain ⟨i, hi, rfl⟩ := List.mem_map.mp he
  have hi := List.mem_range.mp hi
  have : (2 : Int).toNat = 2 := rfl
  exact ⟨_, rfl, by omega, by omega⟩
end
end K25
set_option Elab.async false
set_option autoImplicit false
set_option linter.all false
set_option maxRecDepth 100000
set_option maxHeartbeats 3900000
namespace K25
open DL L2 PyProof.Rows PySem PySem.Spec
structure Defs (K : Fg) (mg : Str → Option Value) (C : Cs) : Prop where
  F_is_integer : FunD K "is_integer" "is_integer" (defArgs (top 7)) (defBody (top 7)) (defScope (top 7)) [] [] C.f_is_integer C.d_is_integer
  F_is_below : FunD K "is_below" "is_below" (defArgs (top 8)) (defBody (top 8)) (defScope (top 8)) [] [] C.f_is_below C.d_is_below
  F_is_positive : FunD K "is_positive" "is_positive" (defArgs (top 9)) (defBody (top 9)) (defScope (top 9)) [] [] C.f_is_positive C.d_is_positive
  F_is_sequence : FunD K "is_sequence" "is_sequence" (defArgs (top 10)) (defBody (top 10)) (defScope (top 10)) [] [] C.f_is_sequence C.d_is_sequence
  F_is_sequence_of : FunD K "is_sequence_of" "is_sequence_of" (defArgs (top 11)) (defBody (top 11)) (defScope (top 11)) [] [] C.f_is_sequence_of C.d_is_sequence_of
  F_is_ascending : FunD K "is_ascending" "is_ascending" (defArgs (top 12)) (defBody (top 12)) (defScope (top 12)) [] [] C.f_is_ascending C.d_is_ascending
  F_fault_place : FunD K "fault_place" "fault_place" (defArgs (top 13)) (defBody (top 13)) (defScope (top 13)) [] [] C.f_fault_place C.d_fault_place
  F_pair_steps : FunD K "pair_steps" "pair_steps" (defArgs (top 15)) (defBody (top 15)) (defScope (top 15)) [] [] C.f_pair_steps C.d_pair_steps
  F_first_pairs : FunD K "first_pairs" "first_pairs" (defArgs (top 16)) (defBody (top 16)) (defScope (top 16)) [] [] C.f_first_pairs C.d_first_pairs
  F_last_pairs : FunD K "last_pairs" "last_pairs" (defArgs (top 17)) (defBody (top 17)) (defScope (top 17)) [] [] C.f_last_pairs C.d_last_pairs
  F_lot_of : FunD K "lot_of" "lot_of" (defArgs (top 18)) (defBody (top 18)) (defScope (top 18)) [] [] C.f_lot_of C.d_lot_of
  F_members : FunD K "members" "members" (defArgs (top 19)) (defBody (top 19)) (defScope (top 19)) [] [] C.f_members C.d_members
  F_is_in : FunD K "is_in" "is_in" (defArgs (top 20)) (defBody (top 20)) (defScope (top 20)) [] [] C.f_is_in C.d_is_in
  F_next_lots : FunD K "next_lots" "next_lots" (defArgs (top 21)) (defBody (top 21)) (defScope (top 21)) [] [] C.f_next_lots C.d_next_lots
  F_earlier_lots : FunD K "earlier_lots" "earlier_lots" (defArgs (top 22)) (defBody (top 22)) (defScope (top 22)) [] [] C.f_earlier_lots C.d_earlier_lots
  F_led_lot : FunD K "led_lot" "led_lot" (defArgs (top 23)) (defBody (top 23)) (defScope (top 23)) [] [] C.f_led_lot C.d_led_lot
  F_lots_behind : FunD K "lots_behind" "lots_behind" (defArgs (top 24)) (defBody (top 24)) (defScope (top 24)) [] [] C.f_lots_behind C.d_lots_behind
  F_is_table : FunD K "is_table" "is_table" (defArgs (top 29)) (defBody (top 29)) (defScope (top 29)) [] [] C.f_is_table C.d_is_table
  F_check_tables : FunD K "check_tables" "check_tables" (defArgs (top 30)) (defBody (top 30)) (defScope (top 30)) [] [] C.f_check_tables C.d_check_tables
  F_Machine_init : FunD K "__init__" "Machine.__init__" (defArgs (inClass (top 31) 0)) (defBody (inClass (top 31) 0)) (defScope (inClass (top 31) 0)) [] [] C.f_Machine_init C.d_Machine_init
  F_check_state : FunD K "check_state" "check_state" (defArgs (top 32)) (defBody (top 32)) (defScope (top 32)) [] [] C.f_check_state C.d_check_state
  F_log_fault : FunD K "log_fault" "log_fault" (defArgs (top 33)) (defBody (top 33)) (defScope (top 33)) [] [] C.f_log_fault C.d_log_fault
  F_check_log : FunD K "check_log" "check_log" (defArgs (top 34)) (defBody (top 34)) (defScope (top 34)) [] [] C.f_check_log C.d_check_log
  F_check_starts : FunD K "check_starts" "check_starts" (defArgs (top 35)) (defBody (top 35)) (defScope (top 35)) [] [] C.f_check_starts C.d_check_starts
  F_state_after : FunD K "state_after" "state_after" (defArgs (top 36)) (defBody (top 36)) (defScope (top 36)) [] [] C.f_state_after C.d_state_after
  F_check_told_bound : FunD K "check_told_bound" "check_told_bound" (defArgs (top 38)) (defBody (top 38)) (defScope (top 38)) [] [] C.f_check_told_bound C.d_check_told_bound
  F_check_bound : FunD K "check_bound" "check_bound" (defArgs (top 39)) (defBody (top 39)) (defScope (top 39)) [] [] C.f_check_bound C.d_check_bound
  F_check_modulus : FunD K "check_modulus" "check_modulus" (defArgs (top 42)) (defBody (top 42)) (defScope (top 42)) [] [] C.f_check_modulus C.d_check_modulus
  F_first_times : FunD K "first_times" "first_times" (defArgs (top 43)) (defBody (top 43)) (defScope (top 43)) [] [] C.f_first_times C.d_first_times
  F_first_wrap : FunD K "first_wrap" "first_wrap" (defArgs (top 44)) (defBody (top 44)) (defScope (top 44)) [] [] C.f_first_wrap C.d_first_wrap
  F_walk_of_length : FunD K "walk_of_length" "walk_of_length" (defArgs (top 45)) (defBody (top 45)) (defScope (top 45)) [] [] C.f_walk_of_length C.d_walk_of_length
  F_wrap_paper : FunD K "wrap_paper" "wrap_paper" (defArgs (top 46)) (defBody (top 46)) (defScope (top 46)) [] [("states", .non), ("bound", .non)] C.f_wrap_paper C.d_wrap_paper
  F_is_enough : FunD K "is_enough" "is_enough" (defArgs (top 47)) (defBody (top 47)) (defScope (top 47)) [] [("states", .non), ("bound", .non)] C.f_is_enough C.d_is_enough
  F_led_by : FunD K "led_by" "led_by" (defArgs (top 48)) (defBody (top 48)) (defScope (top 48)) [] [] C.f_led_by C.d_led_by
  F_is_parting : FunD K "is_parting" "is_parting" (defArgs (top 49)) (defBody (top 49)) (defScope (top 49)) [] [] C.f_is_parting C.d_is_parting
  F_wrap_holds : FunD K "wrap_holds" "wrap_holds" (defArgs (top 50)) (defBody (top 50)) (defScope (top 50)) [] [("states", .non), ("bound", .non)] C.f_wrap_holds C.d_wrap_holds
  F_law_box : FunD K "_law_box" "_law_box" (defArgs (top 52)) (defBody (top 52)) (defScope (top 52)) [] [] C.f_law_box C.d_law_box
  F_law_take : FunD K "_law_take" "_law_take" (defArgs (top 53)) (defBody (top 53)) (defScope (top 53)) [] [] C.f_law_take C.d_law_take
  F_law_pick : FunD K "_law_pick" "_law_pick" (defArgs (top 54)) (defBody (top 54)) (defScope (top 54)) [] [] C.f_law_pick C.d_law_pick
  F_law_machine : FunD K "_law_machine" "_law_machine" (defArgs (top 55)) (defBody (top 55)) (defScope (top 55)) [] [] C.f_law_machine C.d_law_machine
  F_law_behind : FunD K "_law_behind" "_law_behind" (defArgs (top 56)) (defBody (top 56)) (defScope (top 56)) [] [] C.f_law_behind C.d_law_behind
  F_law_layers : FunD K "_law_layers" "_law_layers" (defArgs (top 57)) (defBody (top 57)) (defScope (top 57)) [] [] C.f_law_layers C.d_law_layers
  F_law_parts : FunD K "_law_parts" "_law_parts" (defArgs (top 58)) (defBody (top 58)) (defScope (top 58)) [] [] C.f_law_parts C.d_law_parts
  F_law_clash : FunD K "_law_clash" "_law_clash" (defArgs (top 59)) (defBody (top 59)) (defScope (top 59)) [] [] C.f_law_clash C.d_law_clash
  F_law_paper_right : FunD K "_law_paper_right" "_law_paper_right" (defArgs (top 60)) (defBody (top 60)) (defScope (top 60)) [] [] C.f_law_paper_right C.d_law_paper_right
  F_law_refused : FunD K "_law_refused" "_law_refused" (defArgs (top 61)) (defBody (top 61)) (defScope (top 61)) [] [] C.f_law_refused C.d_law_refused
  F_law : FunD K "law" "law" (defArgs (top 62)) (defBody (top 62)) (defScope (top 62)) [] [] C.f_law C.d_law
  K_Machine_init : KBn K C.d_Machine_init ["self", "tables"] 2 [] (fun us _ => us) (fun us _ => us)
  U_check_bound : Dn K mg "check_bound" C.f_check_bound C.d_check_bound ["value"] 1
  U_check_log : Dn K mg "check_log" C.f_check_log C.d_check_log ["machine", "value"] 2
  U_check_modulus : Dn K mg "check_modulus" C.f_check_modulus C.d_check_modulus ["value"] 1
  U_check_starts : Dn K mg "check_starts" C.f_check_starts C.d_check_starts ["machine", "value"] 2
  U_check_state : Dn K mg "check_state" C.f_check_state C.d_check_state ["machine", "value"] 2
  U_check_tables : Dn K mg "check_tables" C.f_check_tables C.d_check_tables ["value"] 1
  U_check_told_bound : Dn K mg "check_told_bound" C.f_check_told_bound C.d_check_told_bound ["value"] 1
  U_earlier_lots : Dn K mg "earlier_lots" C.f_earlier_lots C.d_earlier_lots ["nexts"] 1
  U_fault_place : Dn K mg "fault_place" C.f_fault_place C.d_fault_place ["value", "many"] 2
  U_first_pairs : Dn K mg "first_pairs" C.f_first_pairs C.d_first_pairs ["machine", "state"] 2
  U_first_times : Dn K mg "first_times" C.f_first_times C.d_first_times ["jumps", "firsts", "lasts"] 3
  U_first_wrap : Dn K mg "first_wrap" C.f_first_wrap C.d_first_wrap ["machine", "modulus", "states", "bound"] 4
  U_is_ascending : Dn K mg "is_ascending" C.f_is_ascending C.d_is_ascending ["value", "many"] 2
  U_is_below : Dn K mg "is_below" C.f_is_below C.d_is_below ["value", "many"] 2
  U_is_in : Dn K mg "is_in" C.f_is_in C.d_is_in ["lot", "pair"] 2
  U_is_integer : Dn K mg "is_integer" C.f_is_integer C.d_is_integer ["value"] 1
  U_is_parting : Dn K mg "is_parting" C.f_is_parting C.d_is_parting ["machine", "states", "value", "other", "logs"] 5
  U_is_positive : Dn K mg "is_positive" C.f_is_positive C.d_is_positive ["value"] 1
  U_is_sequence : Dn K mg "is_sequence" C.f_is_sequence C.d_is_sequence ["value"] 1
  U_is_sequence_of : Dn K mg "is_sequence_of" C.f_is_sequence_of C.d_is_sequence_of ["value", "length"] 2
  U_is_table : Dn K mg "is_table" C.f_is_table C.d_is_table ["value"] 1
  U_last_pairs : Dn K mg "last_pairs" C.f_last_pairs C.d_last_pairs ["machine", "state"] 2
  U_law_behind : Dn K mg "_law_behind" C.f_law_behind C.d_law_behind ["tables", "state", "log"] 3
  U_law_box : Dn K mg "_law_box" C.f_law_box C.d_law_box ["script", "k"] 2
  U_law_clash : Dn K mg "_law_clash" C.f_law_clash C.d_law_clash ["tables", "log", "lot", "modulus", "bound"] 5
  U_law_layers : Dn K mg "_law_layers" C.f_law_layers C.d_law_layers ["tables", "length"] 2
  U_law_machine : Dn K mg "_law_machine" C.f_law_machine C.d_law_machine ["box", "states", "deeds"] 3
  U_law_paper_right : Dn K mg "_law_paper_right" C.f_law_paper_right C.d_law_paper_right ["tables", "layers", "paper", "lot", "modulus", "bound"] 6
  U_law_parts : Dn K mg "_law_parts" C.f_law_parts C.d_law_parts ["done", "state"] 2
  U_law_pick : Dn K mg "_law_pick" C.f_law_pick C.d_law_pick ["box", "some"] 2
  U_law_refused : Dn K mg "_law_refused" C.f_law_refused C.d_law_refused ["ask"] 1
  U_law_take : Dn K mg "_law_take" C.f_law_take C.d_law_take ["box", "many"] 2
  U_led_by : Dn K mg "led_by" C.f_led_by C.d_led_by ["machine", "state", "logs"] 3
  U_led_lot : Dn K mg "led_lot" C.f_led_lot C.d_led_lot ["nexts", "lot"] 2
  U_log_fault : Dn K mg "log_fault" C.f_log_fault C.d_log_fault ["machine", "value"] 2
  U_lot_of : Dn K mg "lot_of" C.f_lot_of C.d_lot_of ["pairs"] 1
  U_lots_behind : Dn K mg "lots_behind" C.f_lots_behind C.d_lots_behind ["nexts", "many"] 2
  U_members : Dn K mg "members" C.f_members C.d_members ["lot"] 1
  U_next_lots : Dn K mg "next_lots" C.f_next_lots C.d_next_lots ["steps"] 1
  U_pair_steps : Dn K mg "pair_steps" C.f_pair_steps C.d_pair_steps ["machine"] 1
  U_state_after : Dn K mg "state_after" C.f_state_after C.d_state_after ["machine", "state", "log"] 3
  U_walk_of_length : Dn K mg "walk_of_length" C.f_walk_of_length C.d_walk_of_length ["machine", "state", "length"] 3
  V_is_enough : Df K mg "is_enough" C.f_is_enough
  V_wrap_holds : Df K mg "wrap_holds" C.f_wrap_holds
  V_wrap_paper : Df K mg "wrap_paper" C.f_wrap_paper
  kb_is_enough_3210 : KBn K C.d_is_enough ["machine", "modulus", "states", "bound"] 0 ["bound", "states", "modulus", "machine"] (@pm_3210 Value) (@pm_3210 V)
  kb_wrap_paper_3210 : KBn K C.d_wrap_paper ["machine", "modulus", "states", "bound"] 0 ["bound", "states", "modulus", "machine"] (@pm_3210 Value) (@pm_3210 V)
  kx_is_enough_2_01 : KBn K C.d_is_enough ["machine", "modulus", "states", "bound"] 2 ["states", "bound"] (kf_2_01 Value.none) (kf_2_01 V.non)
  kx_is_enough_2_0n : KBn K C.d_is_enough ["machine", "modulus", "states", "bound"] 2 ["states"] (kf_2_0n Value.none) (kf_2_0n V.non)
  kx_is_enough_2_n0 : KBn K C.d_is_enough ["machine", "modulus", "states", "bound"] 2 ["bound"] (kf_2_n0 Value.none) (kf_2_n0 V.non)
  kx_is_enough_2_nn : KBn K C.d_is_enough ["machine", "modulus", "states", "bound"] 2 [] (kf_2_nn Value.none) (kf_2_nn V.non)
  kx_wrap_holds_3_01 : KBn K C.d_wrap_holds ["machine", "modulus", "value", "states", "bound"] 3 ["states", "bound"] (kf_3_01 Value.none) (kf_3_01 V.non)
  kx_wrap_holds_3_0n : KBn K C.d_wrap_holds ["machine", "modulus", "value", "states", "bound"] 3 ["states"] (kf_3_0n Value.none) (kf_3_0n V.non)
  kx_wrap_paper_2_01 : KBn K C.d_wrap_paper ["machine", "modulus", "states", "bound"] 2 ["states", "bound"] (kf_2_01 Value.none) (kf_2_01 V.non)
  kx_wrap_paper_2_0n : KBn K C.d_wrap_paper ["machine", "modulus", "states", "bound"] 2 ["states"] (kf_2_0n Value.none) (kf_2_0n V.non)
  kx_wrap_paper_2_nn : KBn K C.d_wrap_paper ["machine", "modulus", "states", "bound"] 2 [] (kf_2_nn Value.none) (kf_2_nn V.non)
  fx : Fx K C
section
variable {P : Program} {w : World} {K : Fg} {mg : Str → Option Value} {base : Heap} {t : List (Addr × Str)} {C : Cs}
theorem ok_is_integer (T : Txt P w K mg base t C) (D : Defs K mg C) : FnG P w K mg base 2 C.f_is_integer C.d_is_integer ["value"] (lSp K t 1 (sp_is_integer C)) :=
  defG D.F_is_integer sc_is_integer rfl (fun cdv A outer s H E hcv c => dv_is_integer T cdv A outer s H E c) (fun hl ds Ψ Ξ h1 h2 => m_is_integer hl ds Ψ Ξ h1 h2)
theorem ok_is_below (T : Txt P w K mg base t C) (D : Defs K mg C) : FnG P w K mg base 3 C.f_is_below C.d_is_below ["value", "many"] (lSp K t 2 (sp_is_below C)) :=
  defG D.F_is_below sc_is_below rfl (fun cdv A outer s H E hcv c => dv_is_below T (ok_is_integer T D) D.U_is_integer cdv A outer s H E c) (fun hl ds Ψ Ξ h1 h2 => m_is_below hl ds Ψ Ξ h1 h2)
theorem ok_is_positive (T : Txt P w K mg base t C) (D : Defs K mg C) : FnG P w K mg base 3 C.f_is_positive C.d_is_positive ["value"] (lSp K t 1 (sp_is_positive C)) :=
  defG D.F_is_positive sc_is_positive rfl (fun cdv A outer s H E hcv c => dv_is_positive T (ok_is_integer T D) D.U_is_integer cdv A outer s H E c) (fun hl ds Ψ Ξ h1 h2 => m_is_positive hl ds Ψ Ξ h1 h2)
theorem ok_is_sequence (T : Txt P w K mg base t C) (D : Defs K mg C) : FnG P w K mg base 2 C.f_is_sequence C.d_is_sequence ["value"] (lSp K t 1 (sp_is_sequence C)) :=
  defG D.F_is_sequence sc_is_sequence rfl (fun cdv A outer s H E hcv c => dv_is_sequence T cdv A outer s H E c) (fun hl ds Ψ Ξ h1 h2 => m_is_sequence hl ds Ψ Ξ h1 h2)
theorem ok_is_sequence_of (T : Txt P w K mg base t C) (D : Defs K mg C) : FnG P w K mg base 3 C.f_is_sequence_of C.d_is_sequence_of ["value", "length"] (lSp K t 2 (sp_is_sequence_of C)) :=
  defG D.F_is_sequence_of sc_is_sequence_of rfl (fun cdv A outer s H E hcv c => dv_is_sequence_of T (ok_is_sequence T D) D.U_is_sequence cdv A outer s H E c) (fun hl ds Ψ Ξ h1 h2 => m_is_sequence_of hl ds Ψ Ξ h1 h2)
theorem ok_is_ascending (T : Txt P w K mg base t C) (D : Defs K mg C) : FnG P w K mg base 4 C.f_is_ascending C.d_is_ascending ["value", "many"] (lSp K t 2 (sp_is_ascending C)) :=
  defG D.F_is_ascending sc_is_ascending rfl (fun cdv A outer s H E hcv c => dv_is_ascending T (ok_is_below T D) D.U_is_below (ok_is_sequence T D) D.U_is_sequence cdv A outer s H E c) (fun hl ds Ψ Ξ h1 h2 => m_is_ascending hl ds Ψ Ξ h1 h2)
theorem ok_fault_place (T : Txt P w K mg base t C) (D : Defs K mg C) : FnG P w K mg base 4 C.f_fault_place C.d_fault_place ["value", "many"] (lSp K t 2 (sp_fault_place C)) :=
  defG D.F_fault_place sc_fault_place rfl (fun cdv A outer s H E hcv c => dv_fault_place T (ok_is_below T D) D.U_is_below cdv A outer s H E c) (fun hl ds Ψ Ξ h1 h2 => m_fault_place hl ds Ψ Ξ h1 h2)
theorem ok_pair_steps (T : Txt P w K mg base t C) (D : Defs K mg C) : FnG P w K mg base 2 C.f_pair_steps C.d_pair_steps ["machine"] (lSp K t 1 (sp_pair_steps C)) :=
  defG D.F_pair_steps sc_pair_steps rfl (fun cdv A outer s H E hcv c => dv_pair_steps T cdv A outer s H E c) (fun hl ds Ψ Ξ h1 h2 => m_pair_steps hl ds Ψ Ξ h1 h2)
theorem ok_first_pairs (T : Txt P w K mg base t C) (D : Defs K mg C) : FnG P w K mg base 2 C.f_first_pairs C.d_first_pairs ["machine", "state"] (lSp K t 2 (sp_first_pairs C)) :=
  defG D.F_first_pairs sc_first_pairs rfl (fun cdv A outer s H E hcv c => dv_first_pairs T cdv A outer s H E c) (fun hl ds Ψ Ξ h1 h2 => m_first_pairs hl ds Ψ Ξ h1 h2)
theorem ok_last_pairs (T : Txt P w K mg base t C) (D : Defs K mg C) : FnG P w K mg base 2 C.f_last_pairs C.d_last_pairs ["machine", "state"] (lSp K t 2 (sp_last_pairs C)) :=
  defG D.F_last_pairs sc_last_pairs rfl (fun cdv A outer s H E hcv c => dv_last_pairs T cdv A outer s H E c) (fun hl ds Ψ Ξ h1 h2 => m_last_pairs hl ds Ψ Ξ h1 h2)
theorem ok_lot_of (T : Txt P w K mg base t C) (D : Defs K mg C) : FnG P w K mg base 2 C.f_lot_of C.d_lot_of ["pairs"] (lSp K t 1 (sp_lot_of C)) :=
  defG D.F_lot_of sc_lot_of rfl (fun cdv A outer s H E hcv c => dv_lot_of T cdv A outer s H E c) (fun hl ds Ψ Ξ h1 h2 => m_lot_of hl ds Ψ Ξ h1 h2)
theorem ok_members (T : Txt P w K mg base t C) (D : Defs K mg C) : FnG P w K mg base 2 C.f_members C.d_members ["lot"] (lSp K t 1 (sp_members C)) :=
  defG D.F_members sc_members rfl (fun cdv A outer s H E hcv c => dv_members T cdv A outer s H E c) (fun hl ds Ψ Ξ h1 h2 => m_members hl ds Ψ Ξ h1 h2)
theorem ok_is_in (T : Txt P w K mg base t C) (D : Defs K mg C) : FnG P w K mg base 2 C.f_is_in C.d_is_in ["lot", "pair"] (lSp K t 2 (sp_is_in C)) :=
  defG D.F_is_in sc_is_in rfl (fun cdv A outer s H E hcv c => dv_is_in T cdv A outer s H E c) (fun hl ds Ψ Ξ h1 h2 => m_is_in hl ds Ψ Ξ h1 h2)
theorem ok_next_lots (T : Txt P w K mg base t C) (D : Defs K mg C) : FnG P w K mg base 3 C.f_next_lots C.d_next_lots ["steps"] (lSp K t 1 (sp_next_lots C)) :=
  defG D.F_next_lots sc_next_lots rfl (fun cdv A outer s H E hcv c => dv_next_lots T (ok_lot_of T D) D.U_lot_of cdv A outer s H E c) (fun hl ds Ψ Ξ h1 h2 => m_next_lots hl ds Ψ Ξ h1 h2)
theorem ok_earlier_lots (T : Txt P w K mg base t C) (D : Defs K mg C) : FnG P w K mg base 3 C.f_earlier_lots C.d_earlier_lots ["nexts"] (lSp K t 1 (sp_earlier_lots C)) :=
  defG D.F_earlier_lots sc_earlier_lots rfl (fun cdv A outer s H E hcv c => dv_earlier_lots T (ok_members T D) D.U_members cdv A outer s H E c) (fun hl ds Ψ Ξ h1 h2 => m_earlier_lots hl ds Ψ Ξ h1 h2)
theorem ok_led_lot (T : Txt P w K mg base t C) (D : Defs K mg C) : FnG P w K mg base 3 C.f_led_lot C.d_led_lot ["nexts", "lot"] (lSp K t 2 (sp_led_lot C)) :=
  defG D.F_led_lot sc_led_lot rfl (fun cdv A outer s H E hcv c => dv_led_lot T (ok_members T D) D.U_members cdv A outer s H E c) (fun hl ds Ψ Ξ h1 h2 => m_led_lot hl ds Ψ Ξ h1 h2)
theorem okR_lots_behind (T : Txt P w K mg base t C) (D : Defs K mg C) : ∀ d, FnG P w K mg base (3 + d) C.f_lots_behind C.d_lots_behind ["nexts", "many"] (lSp K t 2 (spR_lots_behind C d))
  | 0 => ⟨fun vs H Q E h => (by obtain ⟨_, _, _, _, _, _, h, _⟩ := h; exact h), fun A outer s H args us vs Q E _ _ _ _ _ h => (by obtain ⟨_, _, _, _, _, _, _, _, hs, _⟩ := h; exact absurd hs (fun h => (by obtain ⟨_, _, m, _, _, h1, h2, _⟩ := h; have : (2 : Nat) ^ 0 = 1 := rfl; omega)))⟩
  | d + 1 => defG D.F_lots_behind sc_lots_behind rfl (fun cdv A outer s H E hcv c => dv_lots_behind T D.U_lots_behind (ok_led_lot T D) D.U_led_lot (kk := 3 + d) (by omega) (spR_lots_behind C d) (okR_lots_behind T D d) cdv A outer s H E c) (fun hl ds Ψ Ξ h1 h2 => m_lots_behind d hl ds Ψ Ξ h1 h2)
theorem ok_lots_behind (T : Txt P w K mg base t C) (D : Defs K mg C) : FnG P w K mg base 12 C.f_lots_behind C.d_lots_behind ["nexts", "many"] (lSp K t 2 (sp_lots_behind C)) := (okR_lots_behind T D 8).mono (by decide)
theorem ok_is_table (T : Txt P w K mg base t C) (D : Defs K mg C) : FnG P w K mg base 5 C.f_is_table C.d_is_table ["value"] (lSp K t 1 (sp_is_table C)) :=
  defG D.F_is_table sc_is_table rfl (fun cdv A outer s H E hcv c => dv_is_table T (ok_fault_place T D) D.U_fault_place (ok_is_sequence T D) D.U_is_sequence cdv A outer s H E c) (fun hl ds Ψ Ξ h1 h2 => m_is_table hl ds Ψ Ξ h1 h2)
theorem ok_check_tables (T : Txt P w K mg base t C) (D : Defs K mg C) : FnG P w K mg base 6 C.f_check_tables C.d_check_tables ["value"] (lSp K t 1 (sp_check_tables C)) :=
  defG D.F_check_tables sc_check_tables rfl (fun cdv A outer s H E hcv c => dv_check_tables T (ok_is_sequence T D) D.U_is_sequence (ok_is_table T D) D.U_is_table cdv A outer s H E c) (fun hl ds Ψ Ξ h1 h2 => m_check_tables hl ds Ψ Ξ h1 h2)
theorem ok_Machine_init (T : Txt P w K mg base t C) (D : Defs K mg C) : FnG P w K mg base 7 C.f_Machine_init C.d_Machine_init ["self", "tables"] (lSp K t 2 (sp_Machine_init C)) :=
  defG D.F_Machine_init sc_Machine_init rfl (fun cdv A outer s H E hcv c => dv_Machine_init T (ok_check_tables T D) D.U_check_tables cdv A outer s H E c) (fun hl ds Ψ Ξ h1 h2 => m_Machine_init hl ds Ψ Ξ h1 h2)
theorem ok_check_state (T : Txt P w K mg base t C) (D : Defs K mg C) : FnG P w K mg base 4 C.f_check_state C.d_check_state ["machine", "value"] (lSp K t 2 (sp_check_state C)) :=
  defG D.F_check_state sc_check_state rfl (fun cdv A outer s H E hcv c => dv_check_state T (ok_is_below T D) D.U_is_below cdv A outer s H E c) (fun hl ds Ψ Ξ h1 h2 => m_check_state hl ds Ψ Ξ h1 h2)
theorem ok_log_fault (T : Txt P w K mg base t C) (D : Defs K mg C) : FnG P w K mg base 5 C.f_log_fault C.d_log_fault ["machine", "value"] (lSp K t 2 (sp_log_fault C)) :=
  defG D.F_log_fault sc_log_fault rfl (fun cdv A outer s H E hcv c => dv_log_fault T (ok_fault_place T D) D.U_fault_place (ok_is_sequence T D) D.U_is_sequence cdv A outer s H E c) (fun hl ds Ψ Ξ h1 h2 => m_log_fault hl ds Ψ Ξ h1 h2)
theorem ok_check_log (T : Txt P w K mg base t C) (D : Defs K mg C) : FnG P w K mg base 6 C.f_check_log C.d_check_log ["machine", "value"] (lSp K t 2 (sp_check_log C)) :=
  defG D.F_check_log sc_check_log rfl (fun cdv A outer s H E hcv c => dv_check_log T (ok_log_fault T D) D.U_log_fault cdv A outer s H E c) (fun hl ds Ψ Ξ h1 h2 => m_check_log hl ds Ψ Ξ h1 h2)
theorem ok_check_starts (T : Txt P w K mg base t C) (D : Defs K mg C) : FnG P w K mg base 5 C.f_check_starts C.d_check_starts ["machine", "value"] (lSp K t 2 (sp_check_starts C)) :=
  defG D.F_check_starts sc_check_starts rfl (fun cdv A outer s H E hcv c => dv_check_starts T (ok_is_ascending T D) D.U_is_ascending cdv A outer s H E c) (fun hl ds Ψ Ξ h1 h2 => m_check_starts hl ds Ψ Ξ h1 h2)
theorem ok_state_after (T : Txt P w K mg base t C) (D : Defs K mg C) : FnG P w K mg base 7 C.f_state_after C.d_state_after ["machine", "state", "log"] (lSp K t 3 (sp_state_after C)) :=
  defG D.F_state_after sc_state_after rfl (fun cdv A outer s H E hcv c => dv_state_after T (ok_check_log T D) D.U_check_log (ok_check_state T D) D.U_check_state cdv A outer s H E c) (fun hl ds Ψ Ξ h1 h2 => m_state_after hl ds Ψ Ξ h1 h2)
theorem ok_check_told_bound (T : Txt P w K mg base t C) (D : Defs K mg C) : FnG P w K mg base 4 C.f_check_told_bound C.d_check_told_bound ["value"] (lSp K t 1 (sp_check_told_bound C)) :=
  defG D.F_check_told_bound sc_check_told_bound rfl (fun cdv A outer s H E hcv c => dv_check_told_bound T (ok_is_positive T D) D.U_is_positive cdv A outer s H E c) (fun hl ds Ψ Ξ h1 h2 => m_check_told_bound hl ds Ψ Ξ h1 h2)
theorem ok_check_bound (T : Txt P w K mg base t C) (D : Defs K mg C) : FnG P w K mg base 5 C.f_check_bound C.d_check_bound ["value"] (lSp K t 1 (sp_check_bound C)) :=
  defG D.F_check_bound sc_check_bound rfl (fun cdv A outer s H E hcv c => dv_check_bound T (ok_check_told_bound T D) D.U_check_told_bound cdv A outer s H E c) (fun hl ds Ψ Ξ h1 h2 => m_check_bound hl ds Ψ Ξ h1 h2)
theorem ok_check_modulus (T : Txt P w K mg base t C) (D : Defs K mg C) : FnG P w K mg base 4 C.f_check_modulus C.d_check_modulus ["value"] (lSp K t 1 (sp_check_modulus C)) :=
  defG D.F_check_modulus sc_check_modulus rfl (fun cdv A outer s H E hcv c => dv_check_modulus T (ok_is_positive T D) D.U_is_positive cdv A outer s H E c) (fun hl ds Ψ Ξ h1 h2 => m_check_modulus hl ds Ψ Ξ h1 h2)
theorem ok_first_times (T : Txt P w K mg base t C) (D : Defs K mg C) : FnG P w K mg base 4 C.f_first_times C.d_first_times ["jumps", "firsts", "lasts"] (lSp K t 3 (sp_first_times C)) :=
  defG D.F_first_times sc_first_times rfl (fun cdv A outer s H E hcv c => dv_first_times T (ok_led_lot T D) D.U_led_lot cdv A outer s H E c) (fun hl ds Ψ Ξ h1 h2 => m_first_times hl ds Ψ Ξ h1 h2)
theorem ok_first_wrap (T : Txt P w K mg base t C) (D : Defs K mg C) : FnG P w K mg base 13 C.f_first_wrap C.d_first_wrap ["machine", "modulus", "states", "bound"] (lSp K t 4 (sp_first_wrap C)) :=
  defG D.F_first_wrap sc_first_wrap rfl (fun cdv A outer s H E hcv c => dv_first_wrap T (ok_first_pairs T D) D.U_first_pairs (ok_first_times T D) D.U_first_times (ok_last_pairs T D) D.U_last_pairs (ok_lot_of T D) D.U_lot_of (ok_lots_behind T D) D.U_lots_behind (ok_next_lots T D) D.U_next_lots (ok_pair_steps T D) D.U_pair_steps cdv A outer s H E c) (fun hl ds Ψ Ξ h1 h2 => m_first_wrap hl ds Ψ Ξ h1 h2)
theorem ok_walk_of_length (T : Txt P w K mg base t C) (D : Defs K mg C) : FnG P w K mg base 4 C.f_walk_of_length C.d_walk_of_length ["machine", "state", "length"] (lSp K t 3 (sp_walk_of_length C)) :=
  defG D.F_walk_of_length sc_walk_of_length rfl (fun cdv A outer s H E hcv c => dv_walk_of_length T (ok_earlier_lots T D) D.U_earlier_lots (ok_first_pairs T D) D.U_first_pairs (ok_is_in T D) D.U_is_in (ok_last_pairs T D) D.U_last_pairs (ok_led_lot T D) D.U_led_lot (ok_lot_of T D) D.U_lot_of (ok_members T D) D.U_members (ok_next_lots T D) D.U_next_lots (ok_pair_steps T D) D.U_pair_steps cdv A outer s H E c) (fun hl ds Ψ Ξ h1 h2 => m_walk_of_length hl ds Ψ Ξ h1 h2)
theorem ok_wrap_paper (T : Txt P w K mg base t C) (D : Defs K mg C) : FnG P w K mg base 14 C.f_wrap_paper C.d_wrap_paper ["machine", "modulus", "states", "bound"] (lSp K t 4 (sp_wrap_paper C)) :=
  defG D.F_wrap_paper sc_wrap_paper rfl (fun cdv A outer s H E hcv c => dv_wrap_paper T (ok_check_bound T D) D.U_check_bound (ok_check_modulus T D) D.U_check_modulus (ok_check_starts T D) D.U_check_starts (ok_first_wrap T D) D.U_first_wrap (ok_walk_of_length T D) D.U_walk_of_length cdv A outer s H E c) (fun hl ds Ψ Ξ h1 h2 => m_wrap_paper hl ds Ψ Ξ h1 h2)
theorem ok_is_enough (T : Txt P w K mg base t C) (D : Defs K mg C) : FnG P w K mg base 14 C.f_is_enough C.d_is_enough ["machine", "modulus", "states", "bound"] (lSp K t 4 (sp_is_enough C)) :=
  defG D.F_is_enough sc_is_enough rfl (fun cdv A outer s H E hcv c => dv_is_enough T (ok_check_bound T D) D.U_check_bound (ok_check_modulus T D) D.U_check_modulus (ok_check_starts T D) D.U_check_starts (ok_first_wrap T D) D.U_first_wrap cdv A outer s H E c) (fun hl ds Ψ Ξ h1 h2 => m_is_enough hl ds Ψ Ξ h1 h2)
theorem ok_led_by (T : Txt P w K mg base t C) (D : Defs K mg C) : FnG P w K mg base 8 C.f_led_by C.d_led_by ["machine", "state", "logs"] (lSp K t 3 (sp_led_by C)) :=
  defG D.F_led_by sc_led_by rfl (fun cdv A outer s H E hcv c => dv_led_by T (ok_state_after T D) D.U_state_after cdv A outer s H E c) (fun hl ds Ψ Ξ h1 h2 => m_led_by hl ds Ψ Ξ h1 h2)
theorem ok_is_parting (T : Txt P w K mg base t C) (D : Defs K mg C) : FnG P w K mg base 9 C.f_is_parting C.d_is_parting ["machine", "states", "value", "other", "logs"] (lSp K t 5 (sp_is_parting C)) :=
  defG D.F_is_parting sc_is_parting rfl (fun cdv A outer s H E hcv c => dv_is_parting T (ok_is_below T D) D.U_is_below (ok_led_by T D) D.U_led_by cdv A outer s H E c) (fun hl ds Ψ Ξ h1 h2 => m_is_parting hl ds Ψ Ξ h1 h2)
theorem ok_wrap_holds (T : Txt P w K mg base t C) (D : Defs K mg C) : FnG P w K mg base 10 C.f_wrap_holds C.d_wrap_holds ["machine", "modulus", "value", "states", "bound"] (lSp K t 5 (sp_wrap_holds C)) :=
  defG D.F_wrap_holds sc_wrap_holds rfl (fun cdv A outer s H E hcv c => dv_wrap_holds T (ok_check_bound T D) D.U_check_bound (ok_check_modulus T D) D.U_check_modulus (ok_check_starts T D) D.U_check_starts (ok_is_parting T D) D.U_is_parting (ok_is_sequence_of T D) D.U_is_sequence_of (ok_log_fault T D) D.U_log_fault cdv A outer s H E c) (fun hl ds Ψ Ξ h1 h2 => m_wrap_holds hl ds Ψ Ξ h1 h2)
theorem ok_law_box (T : Txt P w K mg base t C) (D : Defs K mg C) : FnG P w K mg base 2 C.f_law_box C.d_law_box ["script", "k"] (lSpO K t 2 (so_law_box C)) :=
  defO D.F_law_box sc_law_box rfl (fun cdv A outer s H E hcv c => dv_law_box T cdv A outer s H E c) (fun ds Ψ h1 h2 => m_law_box ds Ψ h1 h2)
theorem ok_law_take (T : Txt P w K mg base t C) (D : Defs K mg C) : FnG P w K mg base 2 C.f_law_take C.d_law_take ["box", "many"] (lSp K t 2 (sp_law_take C)) :=
  defG D.F_law_take sc_law_take rfl (fun cdv A outer s H E hcv c => dv_law_take T cdv A outer s H E c) (fun hl ds Ψ Ξ h1 h2 => m_law_take hl ds Ψ Ξ h1 h2)
theorem ok_law_pick (T : Txt P w K mg base t C) (D : Defs K mg C) : FnG P w K mg base 3 C.f_law_pick C.d_law_pick ["box", "some"] (lSp K t 2 (sp_law_pick C)) :=
  defG D.F_law_pick sc_law_pick rfl (fun cdv A outer s H E hcv c => dv_law_pick T (ok_law_take T D) D.U_law_take cdv A outer s H E c) (fun hl ds Ψ Ξ h1 h2 => m_law_pick hl ds Ψ Ξ h1 h2)
theorem ok_law_machine (T : Txt P w K mg base t C) (D : Defs K mg C) : FnG P w K mg base 3 C.f_law_machine C.d_law_machine ["box", "states", "deeds"] (lSp K t 3 (sp_law_machine C)) :=
  defG D.F_law_machine sc_law_machine rfl (fun cdv A outer s H E hcv c => dv_law_machine T (ok_law_take T D) D.U_law_take cdv A outer s H E c) (fun hl ds Ψ Ξ h1 h2 => m_law_machine hl ds Ψ Ξ h1 h2)
theorem ok_law_behind (T : Txt P w K mg base t C) (D : Defs K mg C) : FnG P w K mg base 2 C.f_law_behind C.d_law_behind ["tables", "state", "log"] (lSp K t 3 (sp_law_behind C)) :=
  defG D.F_law_behind sc_law_behind rfl (fun cdv A outer s H E hcv c => dv_law_behind T cdv A outer s H E c) (fun hl ds Ψ Ξ h1 h2 => m_law_behind hl ds Ψ Ξ h1 h2)
theorem ok_law_layers (T : Txt P w K mg base t C) (D : Defs K mg C) : FnG P w K mg base 2 C.f_law_layers C.d_law_layers ["tables", "length"] (lSp K t 2 (sp_law_layers C)) :=
  defG D.F_law_layers sc_law_layers rfl (fun cdv A outer s H E hcv c => dv_law_layers T cdv A outer s H E c) (fun hl ds Ψ Ξ h1 h2 => m_law_layers hl ds Ψ Ξ h1 h2)
theorem ok_law_parts (T : Txt P w K mg base t C) (D : Defs K mg C) : FnG P w K mg base 2 C.f_law_parts C.d_law_parts ["done", "state"] (lSp K t 2 (sp_law_parts C)) :=
  defG D.F_law_parts sc_law_parts rfl (fun cdv A outer s H E hcv c => dv_law_parts T cdv A outer s H E c) (fun hl ds Ψ Ξ h1 h2 => m_law_parts hl ds Ψ Ξ h1 h2)
theorem ok_law_clash (T : Txt P w K mg base t C) (D : Defs K mg C) : FnG P w K mg base 3 C.f_law_clash C.d_law_clash ["tables", "log", "lot", "modulus", "bound"] (lSp K t 5 (sp_law_clash C)) :=
  defG D.F_law_clash sc_law_clash rfl (fun cdv A outer s H E hcv c => dv_law_clash T (ok_law_behind T D) D.U_law_behind cdv A outer s H E c) (fun hl ds Ψ Ξ h1 h2 => m_law_clash hl ds Ψ Ξ h1 h2)
theorem ok_law_paper_right (T : Txt P w K mg base t C) (D : Defs K mg C) : FnG P w K mg base 3 C.f_law_paper_right C.d_law_paper_right ["tables", "layers", "paper", "lot", "modulus", "bound"] (lSp K t 6 (sp_law_paper_right C)) :=
  defG D.F_law_paper_right sc_law_paper_right rfl (fun cdv A outer s H E hcv c => dv_law_paper_right T (ok_law_behind T D) D.U_law_behind (ok_law_parts T D) D.U_law_parts cdv A outer s H E c) (fun hl ds Ψ Ξ h1 h2 => m_law_paper_right hl ds Ψ Ξ h1 h2)
theorem ok_law (T : Txt P w K mg base t C) (D : Defs K mg C) : FnG P w K mg base 17 C.f_law C.d_law ["script"] (lSp K t 1 (sp_law C)) :=
  defG D.F_law sc_law rfl (fun cdv A outer s H E hcv c => dv_law T D.kb_is_enough_3210 D.kb_wrap_paper_3210 D.F_law_refused D.U_law_refused (ok_Machine_init T D) D.K_Machine_init D.V_is_enough D.V_wrap_holds D.V_wrap_paper D.kx_is_enough_2_01 D.kx_is_enough_2_0n D.kx_is_enough_2_n0 D.kx_is_enough_2_nn D.kx_wrap_holds_3_01 D.kx_wrap_holds_3_0n D.kx_wrap_paper_2_01 D.kx_wrap_paper_2_0n D.kx_wrap_paper_2_nn (ok_law_box T D) D.U_law_box (ok_law_clash T D) D.U_law_clash (ok_law_layers T D) D.U_law_layers (ok_law_machine T D) D.U_law_machine (ok_law_paper_right T D) D.U_law_paper_right (ok_law_pick T D) D.U_law_pick (ok_law_take T D) D.U_law_take (ok_is_enough T D) (ok_wrap_holds T D) (ok_wrap_paper T D) cdv A outer s H E hcv c) (fun hl ds Ψ Ξ h1 h2 => m_law D.fx hl ds Ψ Ξ h1 h2)
end
end K25
set_option Elab.async false
set_option linter.all false
set_option maxRecDepth 100000
set_option maxHeartbeats 3900000
namespace K25
open DL L2 PyProof.Rows PySem PySem.Spec
theorem fund {K : Fg} {x qual : Str} {st : Stmt} {f : Addr} {oc : Value} {od an : Option Addr} {osl : Array (Option Value)} {kV doc pm cdv ct : Value}
    (l : K.lookup f = some ⟨oc, od, .func (PySem.W.fnOf x qual (defArgs st) (defBody st) (defScope st) .none kV doc pm an cdv ct), osl⟩) (c : PySem.W.codeIn K cdv qual = true) (k : PySem.W.keepIn K (.ref f) = true) :
    FunD K x qual (defArgs st) (defBody st) (defScope st) [] [] f (PySem.W.fnOf x qual (defArgs st) (defBody st) (defScope st) .none kV doc pm an cdv ct) :=
  ⟨⟨oc, od, .none, kV, doc, pm, an, cdv, ct, osl, rfl, l, c, .inl ⟨rfl, rfl⟩, .inl rfl⟩, k⟩
theorem fundK {K : Fg} {x qual : Str} {st : Stmt} {f D : Addr} {qs : List (Str × V)} {oc : Value} {od an : Option Addr} {osl : Array (Option Value)} {doc pm cdv ct : Value}
    (l : K.lookup f = some ⟨oc, od, .func (PySem.W.fnOf x qual (defArgs st) (defBody st) (defScope st) .none (.ref D) doc pm an cdv ct), osl⟩) (c : PySem.W.codeIn K cdv qual = true) (k : PySem.W.keepIn K (.ref f) = true) (hn : ∀ r ∈ qs, r.2 = .non ∧ PySem.W.nsIn K D r.1 = some (some .none)) :
    FunD K x qual (defArgs st) (defBody st) (defScope st) [] qs f (PySem.W.fnOf x qual (defArgs st) (defBody st) (defScope st) .none (.ref D) doc pm an cdv ct) :=
  ⟨⟨oc, od, .none, .ref D, doc, pm, an, cdv, ct, osl, rfl, l, c, .inl ⟨rfl, rfl⟩, .inr ⟨D, rfl, fun r hr => ⟨.none, (hn r hr).2, by rw [(hn r hr).1]; rfl⟩⟩⟩, k⟩
theorem kr_3_0n : ∀ {vs : List V} {us : List Value} {zs : List V} {ws : List Value}, Vals vs us → Vals zs ws → Vals (kf_3_0n V.non vs zs) (kf_3_0n Value.none us ws) := by
  intro vs us zs ws r q
  by_cases h : vs.length = 3 ∧ zs.length = 1
  · obtain ⟨h1, h2⟩ := h
    match vs, us, zs, ws, r, q, h1, h2 with
    | [_, _, _], _, [_], _, .cons r0 (.cons r1 (.cons r2 (.nil))), .cons q0 (.nil), _, _ => exact .cons r0 (.cons r1 (.cons r2 (.cons q0 (.cons rfl (.nil)))))
  · have e1 := r.length
    have e2 := q.length
    have a1 : ∀ (xs : List V) (ys : List V), ¬ (xs.length = 3 ∧ ys.length = 1) → kf_3_0n V.non xs ys = xs := fun xs ys h => by
      unfold kf_3_0n; split
      · exact absurd ⟨rfl, rfl⟩ h
      · rfl
    have a2 : ∀ (xs : List Value) (ys : List Value), ¬ (xs.length = 3 ∧ ys.length = 1) → kf_3_0n Value.none xs ys = xs := fun xs ys h => by
      unfold kf_3_0n; split
      · exact absurd ⟨rfl, rfl⟩ h
      · rfl
    rw [a1 _ _ h, a2 _ _ (by rw [← e1, ← e2]; exact h)]
    exact r
theorem kr_3_01 : ∀ {vs : List V} {us : List Value} {zs : List V} {ws : List Value}, Vals vs us → Vals zs ws → Vals (kf_3_01 V.non vs zs) (kf_3_01 Value.none us ws) := by
  intro vs us zs ws r q
  by_cases h : vs.length = 3 ∧ zs.length = 2
  · obtain ⟨h1, h2⟩ := h
    match vs, us, zs, ws, r, q, h1, h2 with
    | [_, _, _], _, [_, _], _, .cons r0 (.cons r1 (.cons r2 (.nil))), .cons q0 (.cons q1 (.nil)), _, _ => exact .cons r0 (.cons r1 (.cons r2 (.cons q0 (.cons q1 (.nil)))))
  · have e1 := r.length
    have e2 := q.length
    have a1 : ∀ (xs : List V) (ys : List V), ¬ (xs.length = 3 ∧ ys.length = 2) → kf_3_01 V.non xs ys = xs := fun xs ys h => by
      unfold kf_3_01; split
      · exact absurd ⟨rfl, rfl⟩ h
      · rfl
    have a2 : ∀ (xs : List Value) (ys : List Value), ¬ (xs.length = 3 ∧ ys.length = 2) → kf_3_01 Value.none xs ys = xs := fun xs ys h => by
      unfold kf_3_01; split
      · exact absurd ⟨rfl, rfl⟩ h
      · rfl
    rw [a1 _ _ h, a2 _ _ (by rw [← e1, ← e2]; exact h)]
    exact r
theorem kr_2_nn : ∀ {vs : List V} {us : List Value} {zs : List V} {ws : List Value}, Vals vs us → Vals zs ws → Vals (kf_2_nn V.non vs zs) (kf_2_nn Value.none us ws) := by
  intro vs us zs ws r q
  by_cases h : vs.length = 2 ∧ zs.length = 0
  · obtain ⟨h1, h2⟩ := h
    match vs, us, zs, ws, r, q, h1, h2 with
    | [_, _], _, [], _, .cons r0 (.cons r1 (.nil)), .nil, _, _ => exact .cons r0 (.cons r1 (.cons rfl (.cons rfl (.nil))))
  · have e1 := r.length
    have e2 := q.length
    have a1 : ∀ (xs : List V) (ys : List V), ¬ (xs.length = 2 ∧ ys.length = 0) → kf_2_nn V.non xs ys = xs := fun xs ys h => by
      unfold kf_2_nn; split
      · exact absurd ⟨rfl, rfl⟩ h
      · rfl
    have a2 : ∀ (xs : List Value) (ys : List Value), ¬ (xs.length = 2 ∧ ys.length = 0) → kf_2_nn Value.none xs ys = xs := fun xs ys h => by
      unfold kf_2_nn; split
      · exact absurd ⟨rfl, rfl⟩ h
      · rfl
    rw [a1 _ _ h, a2 _ _ (by rw [← e1, ← e2]; exact h)]
    exact r
theorem kr_2_n0 : ∀ {vs : List V} {us : List Value} {zs : List V} {ws : List Value}, Vals vs us → Vals zs ws → Vals (kf_2_n0 V.non vs zs) (kf_2_n0 Value.none us ws) := by
  intro vs us zs ws r q
  by_cases h : vs.length = 2 ∧ zs.length = 1
  · obtain ⟨h1, h2⟩ := h
    match vs, us, zs, ws, r, q, h1, h2 with
    | [_, _], _, [_], _, .cons r0 (.cons r1 (.nil)), .cons q0 (.nil), _, _ => exact .cons r0 (.cons r1 (.cons rfl (.cons q0 (.nil))))
  · have e1 := r.length
    have e2 := q.length
    have a1 : ∀ (xs : List V) (ys : List V), ¬ (xs.length = 2 ∧ ys.length = 1) → kf_2_n0 V.non xs ys = xs := fun xs ys h => by
      unfold kf_2_n0; split
      · exact absurd ⟨rfl, rfl⟩ h
      · rfl
    have a2 : ∀ (xs : List Value) (ys : List Value), ¬ (xs.length = 2 ∧ ys.length = 1) → kf_2_n0 Value.none xs ys = xs := fun xs ys h => by
      unfold kf_2_n0; split
      · exact absurd ⟨rfl, rfl⟩ h
      · rfl
    rw [a1 _ _ h, a2 _ _ (by rw [← e1, ← e2]; exact h)]
    exact r
theorem kr_2_0n : ∀ {vs : List V} {us : List Value} {zs : List V} {ws : List Value}, Vals vs us → Vals zs ws → Vals (kf_2_0n V.non vs zs) (kf_2_0n Value.none us ws) := by
  intro vs us zs ws r q
  by_cases h : vs.length = 2 ∧ zs.length = 1
  · obtain ⟨h1, h2⟩ := h
    match vs, us, zs, ws, r, q, h1, h2 with
    | [_, _], _, [_], _, .cons r0 (.cons r1 (.nil)), .cons q0 (.nil), _, _ => exact .cons r0 (.cons r1 (.cons q0 (.cons rfl (.nil))))
  · have e1 := r.length
    have e2 := q.length
    have a1 : ∀ (xs : List V) (ys : List V), ¬ (xs.length = 2 ∧ ys.length = 1) → kf_2_0n V.non xs ys = xs := fun xs ys h => by
      unfold kf_2_0n; split
      · exact absurd ⟨rfl, rfl⟩ h
      · rfl
    have a2 : ∀ (xs : List Value) (ys : List Value), ¬ (xs.length = 2 ∧ ys.length = 1) → kf_2_0n Value.none xs ys = xs := fun xs ys h => by
      unfold kf_2_0n; split
      · exact absurd ⟨rfl, rfl⟩ h
      · rfl
    rw [a1 _ _ h, a2 _ _ (by rw [← e1, ← e2]; exact h)]
    exact r
theorem kr_2_01 : ∀ {vs : List V} {us : List Value} {zs : List V} {ws : List Value}, Vals vs us → Vals zs ws → Vals (kf_2_01 V.non vs zs) (kf_2_01 Value.none us ws) := by
  intro vs us zs ws r q
  by_cases h : vs.length = 2 ∧ zs.length = 2
  · obtain ⟨h1, h2⟩ := h
    match vs, us, zs, ws, r, q, h1, h2 with
    | [_, _], _, [_, _], _, .cons r0 (.cons r1 (.nil)), .cons q0 (.cons q1 (.nil)), _, _ => exact .cons r0 (.cons r1 (.cons q0 (.cons q1 (.nil))))
  · have e1 := r.length
    have e2 := q.length
    have a1 : ∀ (xs : List V) (ys : List V), ¬ (xs.length = 2 ∧ ys.length = 2) → kf_2_01 V.non xs ys = xs := fun xs ys h => by
      unfold kf_2_01; split
      · exact absurd ⟨rfl, rfl⟩ h
      · rfl
    have a2 : ∀ (xs : List Value) (ys : List Value), ¬ (xs.length = 2 ∧ ys.length = 2) → kf_2_01 Value.none xs ys = xs := fun xs ys h => by
      unfold kf_2_01; split
      · exact absurd ⟨rfl, rfl⟩ h
      · rfl
    rw [a1 _ _ h, a2 _ _ (by rw [← e1, ← e2]; exact h)]
    exact r
set_option autoImplicit true in
theorem all_mk {P : Program} {w : World} {K : Fg} {mg : Str → Option Value} {h : Heap} {cc_law pp_law : Addr} (X : K.In h) (G : h.Ns mainGlobals mg) (hfa : mg "law" = some (.ref fa))
    (a_AgeError : PySem.W.nsIn K mainGlobals "AgeError" = some (some (.ref A_AgeError)))
    (a_BadMachine : PySem.W.nsIn K mainGlobals "BadMachine" = some (some (.ref A_BadMachine)))
    (a_BadLog : PySem.W.nsIn K mainGlobals "BadLog" = some (some (.ref A_BadLog)))
    (a_Refused : PySem.W.nsIn K mainGlobals "Refused" = some (some (.ref A_Refused)))
    (a_NoState : PySem.W.nsIn K mainGlobals "NoState" = some (some (.ref A_NoState)))
    (a_Machine : PySem.W.nsIn K mainGlobals "Machine" = some (some (.ref A_Machine)))
    (a_MOST_TABLES : PySem.W.nsIn K mainGlobals "MOST_TABLES" = some (some (.int 8 t_MOST_TABLES)))
    (a_MOST_STATES : PySem.W.nsIn K mainGlobals "MOST_STATES" = some (some (.int 12 t_MOST_STATES)))
    (a_MOST_DEEDS : PySem.W.nsIn K mainGlobals "MOST_DEEDS" = some (some (.int 10000 t_MOST_DEEDS)))
    (a_MOST_MODULUS : PySem.W.nsIn K mainGlobals "MOST_MODULUS" = some (some (.int 200 t_MOST_MODULUS)))
    (a_fi_BadMachine : PySem.W.findIn K (.ref A_BadMachine) "__init__" = some (some (.ref f_fi_BadMachine)))
    (l_fi_BadMachine : K.lookup f_fi_BadMachine = some ⟨oc_fi_BadMachine, od_fi_BadMachine, .func (PySem.W.fnOf "__init__" "BadMachine.__init__" (defArgs (inClass (top 2) 0)) (defBody (inClass (top 2) 0)) (defScope (inClass (top 2) 0)) .none kV_fi_BadMachine dc_fi_BadMachine pm_fi_BadMachine an_fi_BadMachine cd_fi_BadMachine ct_fi_BadMachine), sl_fi_BadMachine⟩)
    (c_fi_BadMachine : PySem.W.codeIn K cd_fi_BadMachine "BadMachine.__init__" = true)
    (k_fi_BadMachine : PySem.W.keepIn K (.ref f_fi_BadMachine) = true)
    (ti_BadMachine : PySem.W.typeIn K (.ref f_fi_BadMachine) = some (.type "function"))
    (cls_BadMachine : K.lookup A_BadMachine = some (excClassObj nm_BadMachine q_BadMachine A_BadMachine N_BadMachine bs_BadMachine bm_BadMachine true sn_BadMachine sub_BadMachine ab_BadMachine col_BadMachine dd_BadMachine k0_BadMachine k1_BadMachine k2_BadMachine k3_BadMachine k5_BadMachine "ValueError.__new__"))
    (rv_BadMachine : PySem.HandSPX.refsVE bm_BadMachine = true)
    (sa_BadMachine : PySem.W.findIn K (.ref A_BadMachine) "__setattr__" = some (some (.builtin "object.__setattr__")))
    (ex_BadMachine : PySem.W.subIn K (.ref A_BadMachine) (.type "BaseException") = some true)
    (ty_BadMachine : PySem.W.typeIn K (.ref A_BadMachine) = some (.type "type"))
    (kc_BadMachine : PySem.W.keepIn K (.ref A_BadMachine) = true)
    (no_BadMachine : PySem.W.findIn K (.ref A_BadMachine) "at" = some none)
    (ga_BadMachine : PySem.W.findIn K (.ref A_BadMachine) "__getattribute__" = some (some (.builtin "BaseException.__getattribute__")))
    (gg_BadMachine : PySem.W.findIn K (.ref A_BadMachine) "__getattr__" = some none)
    (hd_BadMachine : PySem.W.hasDictIn K A_BadMachine = true)
    (ha_BadMachine : PySem.W.findIn K (.ref A_BadMachine) "__class__" = some (some (.builtin "object.__class__")))
    (hm_BadMachine : PySem.W.mroIn K A_BadMachine (.type "object") = some true)
    (a_fi_BadLog : PySem.W.findIn K (.ref A_BadLog) "__init__" = some (some (.ref f_fi_BadLog)))
    (l_fi_BadLog : K.lookup f_fi_BadLog = some ⟨oc_fi_BadLog, od_fi_BadLog, .func (PySem.W.fnOf "__init__" "BadLog.__init__" (defArgs (inClass (top 3) 0)) (defBody (inClass (top 3) 0)) (defScope (inClass (top 3) 0)) .none kV_fi_BadLog dc_fi_BadLog pm_fi_BadLog an_fi_BadLog cd_fi_BadLog ct_fi_BadLog), sl_fi_BadLog⟩)
    (c_fi_BadLog : PySem.W.codeIn K cd_fi_BadLog "BadLog.__init__" = true)
    (k_fi_BadLog : PySem.W.keepIn K (.ref f_fi_BadLog) = true)
    (ti_BadLog : PySem.W.typeIn K (.ref f_fi_BadLog) = some (.type "function"))
    (cls_BadLog : K.lookup A_BadLog = some (excClassObj nm_BadLog q_BadLog A_BadLog N_BadLog bs_BadLog bm_BadLog true sn_BadLog sub_BadLog ab_BadLog col_BadLog dd_BadLog k0_BadLog k1_BadLog k2_BadLog k3_BadLog k5_BadLog "ValueError.__new__"))
    (rv_BadLog : PySem.HandSPX.refsVE bm_BadLog = true)
    (sa_BadLog : PySem.W.findIn K (.ref A_BadLog) "__setattr__" = some (some (.builtin "object.__setattr__")))
    (ex_BadLog : PySem.W.subIn K (.ref A_BadLog) (.type "BaseException") = some true)
    (ty_BadLog : PySem.W.typeIn K (.ref A_BadLog) = some (.type "type"))
    (kc_BadLog : PySem.W.keepIn K (.ref A_BadLog) = true)
    (no_BadLog : PySem.W.findIn K (.ref A_BadLog) "at" = some none)
    (ga_BadLog : PySem.W.findIn K (.ref A_BadLog) "__getattribute__" = some (some (.builtin "BaseException.__getattribute__")))
    (gg_BadLog : PySem.W.findIn K (.ref A_BadLog) "__getattr__" = some none)
    (hd_BadLog : PySem.W.hasDictIn K A_BadLog = true)
    (ha_BadLog : PySem.W.findIn K (.ref A_BadLog) "__class__" = some (some (.builtin "object.__class__")))
    (hm_BadLog : PySem.W.mroIn K A_BadLog (.type "object") = some true)
    (a_fi_Refused : PySem.W.findIn K (.ref A_Refused) "__init__" = some (some (.ref f_fi_Refused)))
    (l_fi_Refused : K.lookup f_fi_Refused = some ⟨oc_fi_Refused, od_fi_Refused, .func (PySem.W.fnOf "__init__" "Refused.__init__" (defArgs (inClass (top 4) 0)) (defBody (inClass (top 4) 0)) (defScope (inClass (top 4) 0)) .none kV_fi_Refused dc_fi_Refused pm_fi_Refused an_fi_Refused cd_fi_Refused ct_fi_Refused), sl_fi_Refused⟩)
    (c_fi_Refused : PySem.W.codeIn K cd_fi_Refused "Refused.__init__" = true)
    (k_fi_Refused : PySem.W.keepIn K (.ref f_fi_Refused) = true)
    (ti_Refused : PySem.W.typeIn K (.ref f_fi_Refused) = some (.type "function"))
    (cls_Refused : K.lookup A_Refused = some (excClassObj nm_Refused q_Refused A_Refused N_Refused bs_Refused bm_Refused true sn_Refused sub_Refused ab_Refused col_Refused dd_Refused k0_Refused k1_Refused k2_Refused k3_Refused k5_Refused "ValueError.__new__"))
    (rv_Refused : PySem.HandSPX.refsVE bm_Refused = true)
    (sa_Refused : PySem.W.findIn K (.ref A_Refused) "__setattr__" = some (some (.builtin "object.__setattr__")))
    (ex_Refused : PySem.W.subIn K (.ref A_Refused) (.type "BaseException") = some true)
    (ty_Refused : PySem.W.typeIn K (.ref A_Refused) = some (.type "type"))
    (kc_Refused : PySem.W.keepIn K (.ref A_Refused) = true)
    (no_Refused : PySem.W.findIn K (.ref A_Refused) "at" = some none)
    (ga_Refused : PySem.W.findIn K (.ref A_Refused) "__getattribute__" = some (some (.builtin "BaseException.__getattribute__")))
    (gg_Refused : PySem.W.findIn K (.ref A_Refused) "__getattr__" = some none)
    (hd_Refused : PySem.W.hasDictIn K A_Refused = true)
    (ha_Refused : PySem.W.findIn K (.ref A_Refused) "__class__" = some (some (.builtin "object.__class__")))
    (hm_Refused : PySem.W.mroIn K A_Refused (.type "object") = some true)
    (a_fi_NoState : PySem.W.findIn K (.ref A_NoState) "__init__" = some (some (.ref f_fi_NoState)))
    (l_fi_NoState : K.lookup f_fi_NoState = some ⟨oc_fi_NoState, od_fi_NoState, .func (PySem.W.fnOf "__init__" "NoState.__init__" (defArgs (inClass (top 5) 0)) (defBody (inClass (top 5) 0)) (defScope (inClass (top 5) 0)) .none kV_fi_NoState dc_fi_NoState pm_fi_NoState an_fi_NoState cd_fi_NoState ct_fi_NoState), sl_fi_NoState⟩)
    (c_fi_NoState : PySem.W.codeIn K cd_fi_NoState "NoState.__init__" = true)
    (k_fi_NoState : PySem.W.keepIn K (.ref f_fi_NoState) = true)
    (ti_NoState : PySem.W.typeIn K (.ref f_fi_NoState) = some (.type "function"))
    (cls_NoState : K.lookup A_NoState = some (excClassObj nm_NoState q_NoState A_NoState N_NoState bs_NoState DLK.keTail true sn_NoState sub_NoState ab_NoState col_NoState dd_NoState k0_NoState k1_NoState k2_NoState k3_NoState k5_NoState "LookupError.__new__"))
    (sa_NoState : PySem.W.findIn K (.ref A_NoState) "__setattr__" = some (some (.builtin "object.__setattr__")))
    (ex_NoState : PySem.W.subIn K (.ref A_NoState) (.type "BaseException") = some true)
    (ty_NoState : PySem.W.typeIn K (.ref A_NoState) = some (.type "type"))
    (kc_NoState : PySem.W.keepIn K (.ref A_NoState) = true)
    (no_NoState : PySem.W.findIn K (.ref A_NoState) "state" = some none)
    (ga_NoState : PySem.W.findIn K (.ref A_NoState) "__getattribute__" = some (some (.builtin "BaseException.__getattribute__")))
    (gg_NoState : PySem.W.findIn K (.ref A_NoState) "__getattr__" = some none)
    (hd_NoState : PySem.W.hasDictIn K A_NoState = true)
    (ha_NoState : PySem.W.findIn K (.ref A_NoState) "__class__" = some (some (.builtin "object.__class__")))
    (hm_NoState : PySem.W.mroIn K A_NoState (.type "object") = some true)
    (hn : PySem.W.specialIn K (.builtin "object.__class__") "__get__" = some (some (.builtin "getset_descriptor.__get__")))
    (ht : PySem.W.takesIn K (.builtin "object.__class__") = some true)
    (a_is_integer : PySem.W.nsIn K mainGlobals "is_integer" = some (some (.ref f_is_integer)))
    (l_is_integer : K.lookup f_is_integer = some ⟨oc_is_integer, od_is_integer, .func (PySem.W.fnOf "is_integer" "is_integer" (defArgs (top 7)) (defBody (top 7)) (defScope (top 7)) .none kV_is_integer dc_is_integer pm_is_integer an_is_integer cd_is_integer ct_is_integer), sl_is_integer⟩)
    (c_is_integer : PySem.W.codeIn K cd_is_integer "is_integer" = true)
    (k_is_integer : PySem.W.keepIn K (.ref f_is_integer) = true)
    (a_is_below : PySem.W.nsIn K mainGlobals "is_below" = some (some (.ref f_is_below)))
    (l_is_below : K.lookup f_is_below = some ⟨oc_is_below, od_is_below, .func (PySem.W.fnOf "is_below" "is_below" (defArgs (top 8)) (defBody (top 8)) (defScope (top 8)) .none kV_is_below dc_is_below pm_is_below an_is_below cd_is_below ct_is_below), sl_is_below⟩)
    (c_is_below : PySem.W.codeIn K cd_is_below "is_below" = true)
    (k_is_below : PySem.W.keepIn K (.ref f_is_below) = true)
    (a_is_positive : PySem.W.nsIn K mainGlobals "is_positive" = some (some (.ref f_is_positive)))
    (l_is_positive : K.lookup f_is_positive = some ⟨oc_is_positive, od_is_positive, .func (PySem.W.fnOf "is_positive" "is_positive" (defArgs (top 9)) (defBody (top 9)) (defScope (top 9)) .none kV_is_positive dc_is_positive pm_is_positive an_is_positive cd_is_positive ct_is_positive), sl_is_positive⟩)
    (c_is_positive : PySem.W.codeIn K cd_is_positive "is_positive" = true)
    (k_is_positive : PySem.W.keepIn K (.ref f_is_positive) = true)
    (a_is_sequence : PySem.W.nsIn K mainGlobals "is_sequence" = some (some (.ref f_is_sequence)))
    (l_is_sequence : K.lookup f_is_sequence = some ⟨oc_is_sequence, od_is_sequence, .func (PySem.W.fnOf "is_sequence" "is_sequence" (defArgs (top 10)) (defBody (top 10)) (defScope (top 10)) .none kV_is_sequence dc_is_sequence pm_is_sequence an_is_sequence cd_is_sequence ct_is_sequence), sl_is_sequence⟩)
    (c_is_sequence : PySem.W.codeIn K cd_is_sequence "is_sequence" = true)
    (k_is_sequence : PySem.W.keepIn K (.ref f_is_sequence) = true)
    (a_is_sequence_of : PySem.W.nsIn K mainGlobals "is_sequence_of" = some (some (.ref f_is_sequence_of)))
    (l_is_sequence_of : K.lookup f_is_sequence_of = some ⟨oc_is_sequence_of, od_is_sequence_of, .func (PySem.W.fnOf "is_sequence_of" "is_sequence_of" (defArgs (top 11)) (defBody (top 11)) (defScope (top 11)) .none kV_is_sequence_of dc_is_sequence_of pm_is_sequence_of an_is_sequence_of cd_is_sequence_of ct_is_sequence_of), sl_is_sequence_of⟩)
    (c_is_sequence_of : PySem.W.codeIn K cd_is_sequence_of "is_sequence_of" = true)
    (k_is_sequence_of : PySem.W.keepIn K (.ref f_is_sequence_of) = true)
    (a_is_ascending : PySem.W.nsIn K mainGlobals "is_ascending" = some (some (.ref f_is_ascending)))
    (l_is_ascending : K.lookup f_is_ascending = some ⟨oc_is_ascending, od_is_ascending, .func (PySem.W.fnOf "is_ascending" "is_ascending" (defArgs (top 12)) (defBody (top 12)) (defScope (top 12)) .none kV_is_ascending dc_is_ascending pm_is_ascending an_is_ascending cd_is_ascending ct_is_ascending), sl_is_ascending⟩)
    (c_is_ascending : PySem.W.codeIn K cd_is_ascending "is_ascending" = true)
    (k_is_ascending : PySem.W.keepIn K (.ref f_is_ascending) = true)
    (a_fault_place : PySem.W.nsIn K mainGlobals "fault_place" = some (some (.ref f_fault_place)))
    (l_fault_place : K.lookup f_fault_place = some ⟨oc_fault_place, od_fault_place, .func (PySem.W.fnOf "fault_place" "fault_place" (defArgs (top 13)) (defBody (top 13)) (defScope (top 13)) .none kV_fault_place dc_fault_place pm_fault_place an_fault_place cd_fault_place ct_fault_place), sl_fault_place⟩)
    (c_fault_place : PySem.W.codeIn K cd_fault_place "fault_place" = true)
    (k_fault_place : PySem.W.keepIn K (.ref f_fault_place) = true)
    (a_pair_steps : PySem.W.nsIn K mainGlobals "pair_steps" = some (some (.ref f_pair_steps)))
    (l_pair_steps : K.lookup f_pair_steps = some ⟨oc_pair_steps, od_pair_steps, .func (PySem.W.fnOf "pair_steps" "pair_steps" (defArgs (top 15)) (defBody (top 15)) (defScope (top 15)) .none kV_pair_steps dc_pair_steps pm_pair_steps an_pair_steps cd_pair_steps ct_pair_steps), sl_pair_steps⟩)
    (c_pair_steps : PySem.W.codeIn K cd_pair_steps "pair_steps" = true)
    (k_pair_steps : PySem.W.keepIn K (.ref f_pair_steps) = true)
    (a_first_pairs : PySem.W.nsIn K mainGlobals "first_pairs" = some (some (.ref f_first_pairs)))
    (l_first_pairs : K.lookup f_first_pairs = some ⟨oc_first_pairs, od_first_pairs, .func (PySem.W.fnOf "first_pairs" "first_pairs" (defArgs (top 16)) (defBody (top 16)) (defScope (top 16)) .none kV_first_pairs dc_first_pairs pm_first_pairs an_first_pairs cd_first_pairs ct_first_pairs), sl_first_pairs⟩)
    (c_first_pairs : PySem.W.codeIn K cd_first_pairs "first_pairs" = true)
    (k_first_pairs : PySem.W.keepIn K (.ref f_first_pairs) = true)
    (a_last_pairs : PySem.W.nsIn K mainGlobals "last_pairs" = some (some (.ref f_last_pairs)))
    (l_last_pairs : K.lookup f_last_pairs = some ⟨oc_last_pairs, od_last_pairs, .func (PySem.W.fnOf "last_pairs" "last_pairs" (defArgs (top 17)) (defBody (top 17)) (defScope (top 17)) .none kV_last_pairs dc_last_pairs pm_last_pairs an_last_pairs cd_last_pairs ct_last_pairs), sl_last_pairs⟩)
    (c_last_pairs : PySem.W.codeIn K cd_last_pairs "last_pairs" = true)
    (k_last_pairs : PySem.W.keepIn K (.ref f_last_pairs) = true)
    (a_lot_of : PySem.W.nsIn K mainGlobals "lot_of" = some (some (.ref f_lot_of)))
    (l_lot_of : K.lookup f_lot_of = some ⟨oc_lot_of, od_lot_of, .func (PySem.W.fnOf "lot_of" "lot_of" (defArgs (top 18)) (defBody (top 18)) (defScope (top 18)) .none kV_lot_of dc_lot_of pm_lot_of an_lot_of cd_lot_of ct_lot_of), sl_lot_of⟩)
    (c_lot_of : PySem.W.codeIn K cd_lot_of "lot_of" = true)
    (k_lot_of : PySem.W.keepIn K (.ref f_lot_of) = true)
    (a_members : PySem.W.nsIn K mainGlobals "members" = some (some (.ref f_members)))
    (l_members : K.lookup f_members = some ⟨oc_members, od_members, .func (PySem.W.fnOf "members" "members" (defArgs (top 19)) (defBody (top 19)) (defScope (top 19)) .none kV_members dc_members pm_members an_members cd_members ct_members), sl_members⟩)
    (c_members : PySem.W.codeIn K cd_members "members" = true)
    (k_members : PySem.W.keepIn K (.ref f_members) = true)
    (a_is_in : PySem.W.nsIn K mainGlobals "is_in" = some (some (.ref f_is_in)))
    (l_is_in : K.lookup f_is_in = some ⟨oc_is_in, od_is_in, .func (PySem.W.fnOf "is_in" "is_in" (defArgs (top 20)) (defBody (top 20)) (defScope (top 20)) .none kV_is_in dc_is_in pm_is_in an_is_in cd_is_in ct_is_in), sl_is_in⟩)
    (c_is_in : PySem.W.codeIn K cd_is_in "is_in" = true)
    (k_is_in : PySem.W.keepIn K (.ref f_is_in) = true)
    (a_next_lots : PySem.W.nsIn K mainGlobals "next_lots" = some (some (.ref f_next_lots)))
    (l_next_lots : K.lookup f_next_lots = some ⟨oc_next_lots, od_next_lots, .func (PySem.W.fnOf "next_lots" "next_lots" (defArgs (top 21)) (defBody (top 21)) (defScope (top 21)) .none kV_next_lots dc_next_lots pm_next_lots an_next_lots cd_next_lots ct_next_lots), sl_next_lots⟩)
    (c_next_lots : PySem.W.codeIn K cd_next_lots "next_lots" = true)
    (k_next_lots : PySem.W.keepIn K (.ref f_next_lots) = true)
    (a_earlier_lots : PySem.W.nsIn K mainGlobals "earlier_lots" = some (some (.ref f_earlier_lots)))
    (l_earlier_lots : K.lookup f_earlier_lots = some ⟨oc_earlier_lots, od_earlier_lots, .func (PySem.W.fnOf "earlier_lots" "earlier_lots" (defArgs (top 22)) (defBody (top 22)) (defScope (top 22)) .none kV_earlier_lots dc_earlier_lots pm_earlier_lots an_earlier_lots cd_earlier_lots ct_earlier_lots), sl_earlier_lots⟩)
    (c_earlier_lots : PySem.W.codeIn K cd_earlier_lots "earlier_lots" = true)
    (k_earlier_lots : PySem.W.keepIn K (.ref f_earlier_lots) = true)
    (a_led_lot : PySem.W.nsIn K mainGlobals "led_lot" = some (some (.ref f_led_lot)))
    (l_led_lot : K.lookup f_led_lot = some ⟨oc_led_lot, od_led_lot, .func (PySem.W.fnOf "led_lot" "led_lot" (defArgs (top 23)) (defBody (top 23)) (defScope (top 23)) .none kV_led_lot dc_led_lot pm_led_lot an_led_lot cd_led_lot ct_led_lot), sl_led_lot⟩)
    (c_led_lot : PySem.W.codeIn K cd_led_lot "led_lot" = true)
    (k_led_lot : PySem.W.keepIn K (.ref f_led_lot) = true)
    (a_lots_behind : PySem.W.nsIn K mainGlobals "lots_behind" = some (some (.ref f_lots_behind)))
    (l_lots_behind : K.lookup f_lots_behind = some ⟨oc_lots_behind, od_lots_behind, .func (PySem.W.fnOf "lots_behind" "lots_behind" (defArgs (top 24)) (defBody (top 24)) (defScope (top 24)) .none kV_lots_behind dc_lots_behind pm_lots_behind an_lots_behind cd_lots_behind ct_lots_behind), sl_lots_behind⟩)
    (c_lots_behind : PySem.W.codeIn K cd_lots_behind "lots_behind" = true)
    (k_lots_behind : PySem.W.keepIn K (.ref f_lots_behind) = true)
    (a_is_table : PySem.W.nsIn K mainGlobals "is_table" = some (some (.ref f_is_table)))
    (l_is_table : K.lookup f_is_table = some ⟨oc_is_table, od_is_table, .func (PySem.W.fnOf "is_table" "is_table" (defArgs (top 29)) (defBody (top 29)) (defScope (top 29)) .none kV_is_table dc_is_table pm_is_table an_is_table cd_is_table ct_is_table), sl_is_table⟩)
    (c_is_table : PySem.W.codeIn K cd_is_table "is_table" = true)
    (k_is_table : PySem.W.keepIn K (.ref f_is_table) = true)
    (a_check_tables : PySem.W.nsIn K mainGlobals "check_tables" = some (some (.ref f_check_tables)))
    (l_check_tables : K.lookup f_check_tables = some ⟨oc_check_tables, od_check_tables, .func (PySem.W.fnOf "check_tables" "check_tables" (defArgs (top 30)) (defBody (top 30)) (defScope (top 30)) .none kV_check_tables dc_check_tables pm_check_tables an_check_tables cd_check_tables ct_check_tables), sl_check_tables⟩)
    (c_check_tables : PySem.W.codeIn K cd_check_tables "check_tables" = true)
    (k_check_tables : PySem.W.keepIn K (.ref f_check_tables) = true)
    (a_Machine_init : PySem.W.findIn K (.ref A_Machine) "__init__" = some (some (.ref f_Machine_init)))
    (i_Machine_init : PySem.W.isFn K (.ref f_Machine_init) = true)
    (l_Machine_init : K.lookup f_Machine_init = some ⟨oc_Machine_init, od_Machine_init, .func (PySem.W.fnOf "__init__" "Machine.__init__" (defArgs (inClass (top 31) 0)) (defBody (inClass (top 31) 0)) (defScope (inClass (top 31) 0)) .none kV_Machine_init dc_Machine_init pm_Machine_init an_Machine_init cd_Machine_init ct_Machine_init), sl_Machine_init⟩)
    (c_Machine_init : PySem.W.codeIn K cd_Machine_init "Machine.__init__" = true)
    (k_Machine_init : PySem.W.keepIn K (.ref f_Machine_init) = true)
    (a_check_state : PySem.W.nsIn K mainGlobals "check_state" = some (some (.ref f_check_state)))
    (l_check_state : K.lookup f_check_state = some ⟨oc_check_state, od_check_state, .func (PySem.W.fnOf "check_state" "check_state" (defArgs (top 32)) (defBody (top 32)) (defScope (top 32)) .none kV_check_state dc_check_state pm_check_state an_check_state cd_check_state ct_check_state), sl_check_state⟩)
    (c_check_state : PySem.W.codeIn K cd_check_state "check_state" = true)
    (k_check_state : PySem.W.keepIn K (.ref f_check_state) = true)
    (a_log_fault : PySem.W.nsIn K mainGlobals "log_fault" = some (some (.ref f_log_fault)))
    (l_log_fault : K.lookup f_log_fault = some ⟨oc_log_fault, od_log_fault, .func (PySem.W.fnOf "log_fault" "log_fault" (defArgs (top 33)) (defBody (top 33)) (defScope (top 33)) .none kV_log_fault dc_log_fault pm_log_fault an_log_fault cd_log_fault ct_log_fault), sl_log_fault⟩)
    (c_log_fault : PySem.W.codeIn K cd_log_fault "log_fault" = true)
    (k_log_fault : PySem.W.keepIn K (.ref f_log_fault) = true)
    (a_check_log : PySem.W.nsIn K mainGlobals "check_log" = some (some (.ref f_check_log)))
    (l_check_log : K.lookup f_check_log = some ⟨oc_check_log, od_check_log, .func (PySem.W.fnOf "check_log" "check_log" (defArgs (top 34)) (defBody (top 34)) (defScope (top 34)) .none kV_check_log dc_check_log pm_check_log an_check_log cd_check_log ct_check_log), sl_check_log⟩)
    (c_check_log : PySem.W.codeIn K cd_check_log "check_log" = true)
    (k_check_log : PySem.W.keepIn K (.ref f_check_log) = true)
    (a_check_starts : PySem.W.nsIn K mainGlobals "check_starts" = some (some (.ref f_check_starts)))
    (l_check_starts : K.lookup f_check_starts = some ⟨oc_check_starts, od_check_starts, .func (PySem.W.fnOf "check_starts" "check_starts" (defArgs (top 35)) (defBody (top 35)) (defScope (top 35)) .none kV_check_starts dc_check_starts pm_check_starts an_check_starts cd_check_starts ct_check_starts), sl_check_starts⟩)
    (c_check_starts : PySem.W.codeIn K cd_check_starts "check_starts" = true)
    (k_check_starts : PySem.W.keepIn K (.ref f_check_starts) = true)
    (a_state_after : PySem.W.nsIn K mainGlobals "state_after" = some (some (.ref f_state_after)))
    (l_state_after : K.lookup f_state_after = some ⟨oc_state_after, od_state_after, .func (PySem.W.fnOf "state_after" "state_after" (defArgs (top 36)) (defBody (top 36)) (defScope (top 36)) .none kV_state_after dc_state_after pm_state_after an_state_after cd_state_after ct_state_after), sl_state_after⟩)
    (c_state_after : PySem.W.codeIn K cd_state_after "state_after" = true)
    (k_state_after : PySem.W.keepIn K (.ref f_state_after) = true)
    (a_check_told_bound : PySem.W.nsIn K mainGlobals "check_told_bound" = some (some (.ref f_check_told_bound)))
    (l_check_told_bound : K.lookup f_check_told_bound = some ⟨oc_check_told_bound, od_check_told_bound, .func (PySem.W.fnOf "check_told_bound" "check_told_bound" (defArgs (top 38)) (defBody (top 38)) (defScope (top 38)) .none kV_check_told_bound dc_check_told_bound pm_check_told_bound an_check_told_bound cd_check_told_bound ct_check_told_bound), sl_check_told_bound⟩)
    (c_check_told_bound : PySem.W.codeIn K cd_check_told_bound "check_told_bound" = true)
    (k_check_told_bound : PySem.W.keepIn K (.ref f_check_told_bound) = true)
    (a_check_bound : PySem.W.nsIn K mainGlobals "check_bound" = some (some (.ref f_check_bound)))
    (l_check_bound : K.lookup f_check_bound = some ⟨oc_check_bound, od_check_bound, .func (PySem.W.fnOf "check_bound" "check_bound" (defArgs (top 39)) (defBody (top 39)) (defScope (top 39)) .none kV_check_bound dc_check_bound pm_check_bound an_check_bound cd_check_bound ct_check_bound), sl_check_bound⟩)
    (c_check_bound : PySem.W.codeIn K cd_check_bound "check_bound" = true)
    (k_check_bound : PySem.W.keepIn K (.ref f_check_bound) = true)
    (a_check_modulus : PySem.W.nsIn K mainGlobals "check_modulus" = some (some (.ref f_check_modulus)))
    (l_check_modulus : K.lookup f_check_modulus = some ⟨oc_check_modulus, od_check_modulus, .func (PySem.W.fnOf "check_modulus" "check_modulus" (defArgs (top 42)) (defBody (top 42)) (defScope (top 42)) .none kV_check_modulus dc_check_modulus pm_check_modulus an_check_modulus cd_check_modulus ct_check_modulus), sl_check_modulus⟩)
    (c_check_modulus : PySem.W.codeIn K cd_check_modulus "check_modulus" = true)
    (k_check_modulus : PySem.W.keepIn K (.ref f_check_modulus) = true)
    (a_first_times : PySem.W.nsIn K mainGlobals "first_times" = some (some (.ref f_first_times)))
    (l_first_times : K.lookup f_first_times = some ⟨oc_first_times, od_first_times, .func (PySem.W.fnOf "first_times" "first_times" (defArgs (top 43)) (defBody (top 43)) (defScope (top 43)) .none kV_first_times dc_first_times pm_first_times an_first_times cd_first_times ct_first_times), sl_first_times⟩)
    (c_first_times : PySem.W.codeIn K cd_first_times "first_times" = true)
    (k_first_times : PySem.W.keepIn K (.ref f_first_times) = true)
    (a_first_wrap : PySem.W.nsIn K mainGlobals "first_wrap" = some (some (.ref f_first_wrap)))
    (l_first_wrap : K.lookup f_first_wrap = some ⟨oc_first_wrap, od_first_wrap, .func (PySem.W.fnOf "first_wrap" "first_wrap" (defArgs (top 44)) (defBody (top 44)) (defScope (top 44)) .none kV_first_wrap dc_first_wrap pm_first_wrap an_first_wrap cd_first_wrap ct_first_wrap), sl_first_wrap⟩)
    (c_first_wrap : PySem.W.codeIn K cd_first_wrap "first_wrap" = true)
    (k_first_wrap : PySem.W.keepIn K (.ref f_first_wrap) = true)
    (a_walk_of_length : PySem.W.nsIn K mainGlobals "walk_of_length" = some (some (.ref f_walk_of_length)))
    (l_walk_of_length : K.lookup f_walk_of_length = some ⟨oc_walk_of_length, od_walk_of_length, .func (PySem.W.fnOf "walk_of_length" "walk_of_length" (defArgs (top 45)) (defBody (top 45)) (defScope (top 45)) .none kV_walk_of_length dc_walk_of_length pm_walk_of_length an_walk_of_length cd_walk_of_length ct_walk_of_length), sl_walk_of_length⟩)
    (c_walk_of_length : PySem.W.codeIn K cd_walk_of_length "walk_of_length" = true)
    (k_walk_of_length : PySem.W.keepIn K (.ref f_walk_of_length) = true)
    (a_wrap_paper : PySem.W.nsIn K mainGlobals "wrap_paper" = some (some (.ref f_wrap_paper)))
    (l_wrap_paper : K.lookup f_wrap_paper = some ⟨oc_wrap_paper, od_wrap_paper, .func (PySem.W.fnOf "wrap_paper" "wrap_paper" (defArgs (top 46)) (defBody (top 46)) (defScope (top 46)) .none (.ref kD_wrap_paper) dc_wrap_paper pm_wrap_paper an_wrap_paper cd_wrap_paper ct_wrap_paper), sl_wrap_paper⟩)
    (c_wrap_paper : PySem.W.codeIn K cd_wrap_paper "wrap_paper" = true)
    (k_wrap_paper : PySem.W.keepIn K (.ref f_wrap_paper) = true)
    (kn0_wrap_paper : PySem.W.nsIn K kD_wrap_paper "states" = some (some .none))
    (kn1_wrap_paper : PySem.W.nsIn K kD_wrap_paper "bound" = some (some .none))
    (a_is_enough : PySem.W.nsIn K mainGlobals "is_enough" = some (some (.ref f_is_enough)))
    (l_is_enough : K.lookup f_is_enough = some ⟨oc_is_enough, od_is_enough, .func (PySem.W.fnOf "is_enough" "is_enough" (defArgs (top 47)) (defBody (top 47)) (defScope (top 47)) .none (.ref kD_is_enough) dc_is_enough pm_is_enough an_is_enough cd_is_enough ct_is_enough), sl_is_enough⟩)
    (c_is_enough : PySem.W.codeIn K cd_is_enough "is_enough" = true)
    (k_is_enough : PySem.W.keepIn K (.ref f_is_enough) = true)
    (kn0_is_enough : PySem.W.nsIn K kD_is_enough "states" = some (some .none))
    (kn1_is_enough : PySem.W.nsIn K kD_is_enough "bound" = some (some .none))
    (a_led_by : PySem.W.nsIn K mainGlobals "led_by" = some (some (.ref f_led_by)))
    (l_led_by : K.lookup f_led_by = some ⟨oc_led_by, od_led_by, .func (PySem.W.fnOf "led_by" "led_by" (defArgs (top 48)) (defBody (top 48)) (defScope (top 48)) .none kV_led_by dc_led_by pm_led_by an_led_by cd_led_by ct_led_by), sl_led_by⟩)
    (c_led_by : PySem.W.codeIn K cd_led_by "led_by" = true)
    (k_led_by : PySem.W.keepIn K (.ref f_led_by) = true)
    (a_is_parting : PySem.W.nsIn K mainGlobals "is_parting" = some (some (.ref f_is_parting)))
    (l_is_parting : K.lookup f_is_parting = some ⟨oc_is_parting, od_is_parting, .func (PySem.W.fnOf "is_parting" "is_parting" (defArgs (top 49)) (defBody (top 49)) (defScope (top 49)) .none kV_is_parting dc_is_parting pm_is_parting an_is_parting cd_is_parting ct_is_parting), sl_is_parting⟩)
    (c_is_parting : PySem.W.codeIn K cd_is_parting "is_parting" = true)
    (k_is_parting : PySem.W.keepIn K (.ref f_is_parting) = true)
    (a_wrap_holds : PySem.W.nsIn K mainGlobals "wrap_holds" = some (some (.ref f_wrap_holds)))
    (l_wrap_holds : K.lookup f_wrap_holds = some ⟨oc_wrap_holds, od_wrap_holds, .func (PySem.W.fnOf "wrap_holds" "wrap_holds" (defArgs (top 50)) (defBody (top 50)) (defScope (top 50)) .none (.ref kD_wrap_holds) dc_wrap_holds pm_wrap_holds an_wrap_holds cd_wrap_holds ct_wrap_holds), sl_wrap_holds⟩)
    (c_wrap_holds : PySem.W.codeIn K cd_wrap_holds "wrap_holds" = true)
    (k_wrap_holds : PySem.W.keepIn K (.ref f_wrap_holds) = true)
    (kn0_wrap_holds : PySem.W.nsIn K kD_wrap_holds "states" = some (some .none))
    (kn1_wrap_holds : PySem.W.nsIn K kD_wrap_holds "bound" = some (some .none))
    (a_law_box : PySem.W.nsIn K mainGlobals "_law_box" = some (some (.ref f_law_box)))
    (l_law_box : K.lookup f_law_box = some ⟨oc_law_box, od_law_box, .func (PySem.W.fnOf "_law_box" "_law_box" (defArgs (top 52)) (defBody (top 52)) (defScope (top 52)) .none kV_law_box dc_law_box pm_law_box an_law_box cd_law_box ct_law_box), sl_law_box⟩)
    (c_law_box : PySem.W.codeIn K cd_law_box "_law_box" = true)
    (k_law_box : PySem.W.keepIn K (.ref f_law_box) = true)
    (a_law_take : PySem.W.nsIn K mainGlobals "_law_take" = some (some (.ref f_law_take)))
    (l_law_take : K.lookup f_law_take = some ⟨oc_law_take, od_law_take, .func (PySem.W.fnOf "_law_take" "_law_take" (defArgs (top 53)) (defBody (top 53)) (defScope (top 53)) .none kV_law_take dc_law_take pm_law_take an_law_take cd_law_take ct_law_take), sl_law_take⟩)
    (c_law_take : PySem.W.codeIn K cd_law_take "_law_take" = true)
    (k_law_take : PySem.W.keepIn K (.ref f_law_take) = true)
    (a_law_pick : PySem.W.nsIn K mainGlobals "_law_pick" = some (some (.ref f_law_pick)))
    (l_law_pick : K.lookup f_law_pick = some ⟨oc_law_pick, od_law_pick, .func (PySem.W.fnOf "_law_pick" "_law_pick" (defArgs (top 54)) (defBody (top 54)) (defScope (top 54)) .none kV_law_pick dc_law_pick pm_law_pick an_law_pick cd_law_pick ct_law_pick), sl_law_pick⟩)
    (c_law_pick : PySem.W.codeIn K cd_law_pick "_law_pick" = true)
    (k_law_pick : PySem.W.keepIn K (.ref f_law_pick) = true)
    (a_law_machine : PySem.W.nsIn K mainGlobals "_law_machine" = some (some (.ref f_law_machine)))
    (l_law_machine : K.lookup f_law_machine = some ⟨oc_law_machine, od_law_machine, .func (PySem.W.fnOf "_law_machine" "_law_machine" (defArgs (top 55)) (defBody (top 55)) (defScope (top 55)) .none kV_law_machine dc_law_machine pm_law_machine an_law_machine cd_law_machine ct_law_machine), sl_law_machine⟩)
    (c_law_machine : PySem.W.codeIn K cd_law_machine "_law_machine" = true)
    (k_law_machine : PySem.W.keepIn K (.ref f_law_machine) = true)
    (a_law_behind : PySem.W.nsIn K mainGlobals "_law_behind" = some (some (.ref f_law_behind)))
    (l_law_behind : K.lookup f_law_behind = some ⟨oc_law_behind, od_law_behind, .func (PySem.W.fnOf "_law_behind" "_law_behind" (defArgs (top 56)) (defBody (top 56)) (defScope (top 56)) .none kV_law_behind dc_law_behind pm_law_behind an_law_behind cd_law_behind ct_law_behind), sl_law_behind⟩)
    (c_law_behind : PySem.W.codeIn K cd_law_behind "_law_behind" = true)
    (k_law_behind : PySem.W.keepIn K (.ref f_law_behind) = true)
    (a_law_layers : PySem.W.nsIn K mainGlobals "_law_layers" = some (some (.ref f_law_layers)))
    (l_law_layers : K.lookup f_law_layers = some ⟨oc_law_layers, od_law_layers, .func (PySem.W.fnOf "_law_layers" "_law_layers" (defArgs (top 57)) (defBody (top 57)) (defScope (top 57)) .none kV_law_layers dc_law_layers pm_law_layers an_law_layers cd_law_layers ct_law_layers), sl_law_layers⟩)
    (c_law_layers : PySem.W.codeIn K cd_law_layers "_law_layers" = true)
    (k_law_layers : PySem.W.keepIn K (.ref f_law_layers) = true)
    (a_law_parts : PySem.W.nsIn K mainGlobals "_law_parts" = some (some (.ref f_law_parts)))
    (l_law_parts : K.lookup f_law_parts = some ⟨oc_law_parts, od_law_parts, .func (PySem.W.fnOf "_law_parts" "_law_parts" (defArgs (top 58)) (defBody (top 58)) (defScope (top 58)) .none kV_law_parts dc_law_parts pm_law_parts an_law_parts cd_law_parts ct_law_parts), sl_law_parts⟩)
    (c_law_parts : PySem.W.codeIn K cd_law_parts "_law_parts" = true)
    (k_law_parts : PySem.W.keepIn K (.ref f_law_parts) = true)
    (a_law_clash : PySem.W.nsIn K mainGlobals "_law_clash" = some (some (.ref f_law_clash)))
    (l_law_clash : K.lookup f_law_clash = some ⟨oc_law_clash, od_law_clash, .func (PySem.W.fnOf "_law_clash" "_law_clash" (defArgs (top 59)) (defBody (top 59)) (defScope (top 59)) .none kV_law_clash dc_law_clash pm_law_clash an_law_clash cd_law_clash ct_law_clash), sl_law_clash⟩)
    (c_law_clash : PySem.W.codeIn K cd_law_clash "_law_clash" = true)
    (k_law_clash : PySem.W.keepIn K (.ref f_law_clash) = true)
    (a_law_paper_right : PySem.W.nsIn K mainGlobals "_law_paper_right" = some (some (.ref f_law_paper_right)))
    (l_law_paper_right : K.lookup f_law_paper_right = some ⟨oc_law_paper_right, od_law_paper_right, .func (PySem.W.fnOf "_law_paper_right" "_law_paper_right" (defArgs (top 60)) (defBody (top 60)) (defScope (top 60)) .none kV_law_paper_right dc_law_paper_right pm_law_paper_right an_law_paper_right cd_law_paper_right ct_law_paper_right), sl_law_paper_right⟩)
    (c_law_paper_right : PySem.W.codeIn K cd_law_paper_right "_law_paper_right" = true)
    (k_law_paper_right : PySem.W.keepIn K (.ref f_law_paper_right) = true)
    (a_law_refused : PySem.W.nsIn K mainGlobals "_law_refused" = some (some (.ref f_law_refused)))
    (l_law_refused : K.lookup f_law_refused = some ⟨oc_law_refused, od_law_refused, .func (PySem.W.fnOf "_law_refused" "_law_refused" (defArgs (top 61)) (defBody (top 61)) (defScope (top 61)) .none kV_law_refused dc_law_refused pm_law_refused an_law_refused cd_law_refused ct_law_refused), sl_law_refused⟩)
    (c_law_refused : PySem.W.codeIn K cd_law_refused "_law_refused" = true)
    (k_law_refused : PySem.W.keepIn K (.ref f_law_refused) = true)
    (a_law : PySem.W.nsIn K mainGlobals "law" = some (some (.ref f_law)))
    (l_law : K.lookup f_law = some ⟨oc_law, od_law, .func (PySem.W.fnOf "law" "law" (defArgs (top 62)) (defBody (top 62)) (defScope (top 62)) .none kV_law dc_law pm_law an_law (.ref cc_law) ct_law), sl_law⟩)
    (c_law : PySem.W.codeIn K (.ref cc_law) "law" = true)
    (k_law : PySem.W.keepIn K (.ref f_law) = true)
    (pg_Machine : PySem.W.plainGet K A_Machine Str.empty = true)
    (hdi_Machine : PySem.W.hasDictIn K A_Machine = true)
    (po_Machine : PySem.W.plainOver K A_Machine = true)
    (sai_Machine : PySem.W.findIn K (.ref A_Machine) "__setattr__" = some (some (.builtin "object.__setattr__")))
    (mk_Machine : PySem.W.makesIn K A_Machine = true)
    (kci_Machine : PySem.W.keepIn K (.ref A_Machine) = true)
    (hai_Machine : PySem.W.findIn K (.ref A_Machine) "__class__" = some (some (.builtin "object.__class__")))
    (hmi_Machine : PySem.W.mroIn K A_Machine (.type "object") = some true)
    (n_Machine_tables : PySem.W.findIn K (.ref A_Machine) "tables" = some none)
    (n_Machine_deeds : PySem.W.findIn K (.ref A_Machine) "deeds" = some none)
    (n_Machine_states : PySem.W.findIn K (.ref A_Machine) "states" = some none)
    (z_abs : PySem.W.nsIn K mainGlobals "abs" = some none)
    (z_bool : PySem.W.nsIn K mainGlobals "bool" = some none)
    (z_enumerate : PySem.W.nsIn K mainGlobals "enumerate" = some none)
    (z_int : PySem.W.nsIn K mainGlobals "int" = some none)
    (z_isinstance : PySem.W.nsIn K mainGlobals "isinstance" = some none)
    (z_len : PySem.W.nsIn K mainGlobals "len" = some none)
    (z_list : PySem.W.nsIn K mainGlobals "list" = some none)
    (z_min : PySem.W.nsIn K mainGlobals "min" = some none)
    (z_range : PySem.W.nsIn K mainGlobals "range" = some none)
    (z_repr : PySem.W.nsIn K mainGlobals "repr" = some none)
    (z_tuple : PySem.W.nsIn K mainGlobals "tuple" = some none)
    (x_e : PySem.W.exmOne K (.ref A_Refused) (.ref A_Refused) = some true)
    (x_k : PySem.W.kitOne K (.ref A_Refused) (.ref A_AgeError) = some true) :
    ∃ fd : FuncData, (∀ (s : Shared) (u : Value), BindsTo s fd ⟨[u], []⟩ [("script", u)]) ∧ ∀ base : Heap, K.In base → base.Ns mainGlobals mg → (∀ p ∈ ([(cc_law, pp_law)] : List (Addr × Addr)), LamX.TabB base mg p.1 p.2) → FnG P w K mg base 17 fa fd ["script"] (lSp K [(pp_law, ("law" : Str) ++ ".<locals>." ++ "<lambda>")] 1 (spLaw fun ns => ns.length ≤ 63)) := by
  have e := hfa.symm.trans (PySem.W.mg_of X G a_law)
  cases e
  let C : Cs := { AgeError := A_AgeError, BadMachine := A_BadMachine, BadLog := A_BadLog, Refused := A_Refused, NoState := A_NoState, Machine := A_Machine, fi_BadMachine := f_fi_BadMachine, fd_BadMachine := (PySem.W.fnOf "__init__" "BadMachine.__init__" (defArgs (inClass (top 2) 0)) (defBody (inClass (top 2) 0)) (defScope (inClass (top 2) 0)) .none kV_fi_BadMachine dc_fi_BadMachine pm_fi_BadMachine an_fi_BadMachine cd_fi_BadMachine ct_fi_BadMachine), fi_BadLog := f_fi_BadLog, fd_BadLog := (PySem.W.fnOf "__init__" "BadLog.__init__" (defArgs (inClass (top 3) 0)) (defBody (inClass (top 3) 0)) (defScope (inClass (top 3) 0)) .none kV_fi_BadLog dc_fi_BadLog pm_fi_BadLog an_fi_BadLog cd_fi_BadLog ct_fi_BadLog), fi_Refused := f_fi_Refused, fd_Refused := (PySem.W.fnOf "__init__" "Refused.__init__" (defArgs (inClass (top 4) 0)) (defBody (inClass (top 4) 0)) (defScope (inClass (top 4) 0)) .none kV_fi_Refused dc_fi_Refused pm_fi_Refused an_fi_Refused cd_fi_Refused ct_fi_Refused), fi_NoState := f_fi_NoState, fd_NoState := (PySem.W.fnOf "__init__" "NoState.__init__" (defArgs (inClass (top 5) 0)) (defBody (inClass (top 5) 0)) (defScope (inClass (top 5) 0)) .none kV_fi_NoState dc_fi_NoState pm_fi_NoState an_fi_NoState cd_fi_NoState ct_fi_NoState), f_is_integer := f_is_integer, d_is_integer := (PySem.W.fnOf "is_integer" "is_integer" (defArgs (top 7)) (defBody (top 7)) (defScope (top 7)) .none kV_is_integer dc_is_integer pm_is_integer an_is_integer cd_is_integer ct_is_integer), f_is_below := f_is_below, d_is_below := (PySem.W.fnOf "is_below" "is_below" (defArgs (top 8)) (defBody (top 8)) (defScope (top 8)) .none kV_is_below dc_is_below pm_is_below an_is_below cd_is_below ct_is_below), f_is_positive := f_is_positive, d_is_positive := (PySem.W.fnOf "is_positive" "is_positive" (defArgs (top 9)) (defBody (top 9)) (defScope (top 9)) .none kV_is_positive dc_is_positive pm_is_positive an_is_positive cd_is_positive ct_is_positive), f_is_sequence := f_is_sequence, d_is_sequence := (PySem.W.fnOf "is_sequence" "is_sequence" (defArgs (top 10)) (defBody (top 10)) (defScope (top 10)) .none kV_is_sequence dc_is_sequence pm_is_sequence an_is_sequence cd_is_sequence ct_is_sequence), f_is_sequence_of := f_is_sequence_of, d_is_sequence_of := (PySem.W.fnOf "is_sequence_of" "is_sequence_of" (defArgs (top 11)) (defBody (top 11)) (defScope (top 11)) .none kV_is_sequence_of dc_is_sequence_of pm_is_sequence_of an_is_sequence_of cd_is_sequence_of ct_is_sequence_of), f_is_ascending := f_is_ascending, d_is_ascending := (PySem.W.fnOf "is_ascending" "is_ascending" (defArgs (top 12)) (defBody (top 12)) (defScope (top 12)) .none kV_is_ascending dc_is_ascending pm_is_ascending an_is_ascending cd_is_ascending ct_is_ascending), f_fault_place := f_fault_place, d_fault_place := (PySem.W.fnOf "fault_place" "fault_place" (defArgs (top 13)) (defBody (top 13)) (defScope (top 13)) .none kV_fault_place dc_fault_place pm_fault_place an_fault_place cd_fault_place ct_fault_place), f_pair_steps := f_pair_steps, d_pair_steps := (PySem.W.fnOf "pair_steps" "pair_steps" (defArgs (top 15)) (defBody (top 15)) (defScope (top 15)) .none kV_pair_steps dc_pair_steps pm_pair_steps an_pair_steps cd_pair_steps ct_pair_steps), f_first_pairs := f_first_pairs, d_first_pairs := (PySem.W.fnOf "first_pairs" "first_pairs" (defArgs (top 16)) (defBody (top 16)) (defScope (top 16)) .none kV_first_pairs dc_first_pairs pm_first_pairs an_first_pairs cd_first_pairs ct_first_pairs), f_last_pairs := f_last_pairs, d_last_pairs := (PySem.W.fnOf "last_pairs" "last_pairs" (defArgs (top 17)) (defBody (top 17)) (defScope (top 17)) .none kV_last_pairs dc_last_pairs pm_last_pairs an_last_pairs cd_last_pairs ct_last_pairs), f_lot_of := f_lot_of, d_lot_of := (PySem.W.fnOf "lot_of" "lot_of" (defArgs (top 18)) (defBody (top 18)) (defScope (top 18)) .none kV_lot_of dc_lot_of pm_lot_of an_lot_of cd_lot_of ct_lot_of), f_members := f_members, d_members := (PySem.W.fnOf "members" "members" (defArgs (top 19)) (defBody (top 19)) (defScope (top 19)) .none kV_members dc_members pm_members an_members cd_members ct_members), f_is_in := f_is_in, d_is_in := (PySem.W.fnOf "is_in" "is_in" (defArgs (top 20)) (defBody (top 20)) (defScope (top 20)) .none kV_is_in dc_is_in pm_is_in an_is_in cd_is_in ct_is_in), f_next_lots := f_next_lots, d_next_lots := (PySem.W.fnOf "next_lots" "next_lots" (defArgs (top 21)) (defBody (top 21)) (defScope (top 21)) .none kV_next_lots dc_next_lots pm_next_lots an_next_lots cd_next_lots ct_next_lots), f_earlier_lots := f_earlier_lots, d_earlier_lots := (PySem.W.fnOf "earlier_lots" "earlier_lots" (defArgs (top 22)) (defBody (top 22)) (defScope (top 22)) .none kV_earlier_lots dc_earlier_lots pm_earlier_lots an_earlier_lots cd_earlier_lots ct_earlier_lots), f_led_lot := f_led_lot, d_led_lot := (PySem.W.fnOf "led_lot" "led_lot" (defArgs (top 23)) (defBody (top 23)) (defScope (top 23)) .none kV_led_lot dc_led_lot pm_led_lot an_led_lot cd_led_lot ct_led_lot), f_lots_behind := f_lots_behind, d_lots_behind := (PySem.W.fnOf "lots_behind" "lots_behind" (defArgs (top 24)) (defBody (top 24)) (defScope (top 24)) .none kV_lots_behind dc_lots_behind pm_lots_behind an_lots_behind cd_lots_behind ct_lots_behind), f_is_table := f_is_table, d_is_table := (PySem.W.fnOf "is_table" "is_table" (defArgs (top 29)) (defBody (top 29)) (defScope (top 29)) .none kV_is_table dc_is_table pm_is_table an_is_table cd_is_table ct_is_table), f_check_tables := f_check_tables, d_check_tables := (PySem.W.fnOf "check_tables" "check_tables" (defArgs (top 30)) (defBody (top 30)) (defScope (top 30)) .none kV_check_tables dc_check_tables pm_check_tables an_check_tables cd_check_tables ct_check_tables), f_Machine_init := f_Machine_init, d_Machine_init := (PySem.W.fnOf "__init__" "Machine.__init__" (defArgs (inClass (top 31) 0)) (defBody (inClass (top 31) 0)) (defScope (inClass (top 31) 0)) .none kV_Machine_init dc_Machine_init pm_Machine_init an_Machine_init cd_Machine_init ct_Machine_init), f_check_state := f_check_state, d_check_state := (PySem.W.fnOf "check_state" "check_state" (defArgs (top 32)) (defBody (top 32)) (defScope (top 32)) .none kV_check_state dc_check_state pm_check_state an_check_state cd_check_state ct_check_state), f_log_fault := f_log_fault, d_log_fault := (PySem.W.fnOf "log_fault" "log_fault" (defArgs (top 33)) (defBody (top 33)) (defScope (top 33)) .none kV_log_fault dc_log_fault pm_log_fault an_log_fault cd_log_fault ct_log_fault), f_check_log := f_check_log, d_check_log := (PySem.W.fnOf "check_log" "check_log" (defArgs (top 34)) (defBody (top 34)) (defScope (top 34)) .none kV_check_log dc_check_log pm_check_log an_check_log cd_check_log ct_check_log), f_check_starts := f_check_starts, d_check_starts := (PySem.W.fnOf "check_starts" "check_starts" (defArgs (top 35)) (defBody (top 35)) (defScope (top 35)) .none kV_check_starts dc_check_starts pm_check_starts an_check_starts cd_check_starts ct_check_starts), f_state_after := f_state_after, d_state_after := (PySem.W.fnOf "state_after" "state_after" (defArgs (top 36)) (defBody (top 36)) (defScope (top 36)) .none kV_state_after dc_state_after pm_state_after an_state_after cd_state_after ct_state_after), f_check_told_bound := f_check_told_bound, d_check_told_bound := (PySem.W.fnOf "check_told_bound" "check_told_bound" (defArgs (top 38)) (defBody (top 38)) (defScope (top 38)) .none kV_check_told_bound dc_check_told_bound pm_check_told_bound an_check_told_bound cd_check_told_bound ct_check_told_bound), f_check_bound := f_check_bound, d_check_bound := (PySem.W.fnOf "check_bound" "check_bound" (defArgs (top 39)) (defBody (top 39)) (defScope (top 39)) .none kV_check_bound dc_check_bound pm_check_bound an_check_bound cd_check_bound ct_check_bound), f_check_modulus := f_check_modulus, d_check_modulus := (PySem.W.fnOf "check_modulus" "check_modulus" (defArgs (top 42)) (defBody (top 42)) (defScope (top 42)) .none kV_check_modulus dc_check_modulus pm_check_modulus an_check_modulus cd_check_modulus ct_check_modulus), f_first_times := f_first_times, d_first_times := (PySem.W.fnOf "first_times" "first_times" (defArgs (top 43)) (defBody (top 43)) (defScope (top 43)) .none kV_first_times dc_first_times pm_first_times an_first_times cd_first_times ct_first_times), f_first_wrap := f_first_wrap, d_first_wrap := (PySem.W.fnOf "first_wrap" "first_wrap" (defArgs (top 44)) (defBody (top 44)) (defScope (top 44)) .none kV_first_wrap dc_first_wrap pm_first_wrap an_first_wrap cd_first_wrap ct_first_wrap), f_walk_of_length := f_walk_of_length, d_walk_of_length := (PySem.W.fnOf "walk_of_length" "walk_of_length" (defArgs (top 45)) (defBody (top 45)) (defScope (top 45)) .none kV_walk_of_length dc_walk_of_length pm_walk_of_length an_walk_of_length cd_walk_of_length ct_walk_of_length), f_wrap_paper := f_wrap_paper, d_wrap_paper := (PySem.W.fnOf "wrap_paper" "wrap_paper" (defArgs (top 46)) (defBody (top 46)) (defScope (top 46)) .none (.ref kD_wrap_paper) dc_wrap_paper pm_wrap_paper an_wrap_paper cd_wrap_paper ct_wrap_paper), f_is_enough := f_is_enough, d_is_enough := (PySem.W.fnOf "is_enough" "is_enough" (defArgs (top 47)) (defBody (top 47)) (defScope (top 47)) .none (.ref kD_is_enough) dc_is_enough pm_is_enough an_is_enough cd_is_enough ct_is_enough), f_led_by := f_led_by, d_led_by := (PySem.W.fnOf "led_by" "led_by" (defArgs (top 48)) (defBody (top 48)) (defScope (top 48)) .none kV_led_by dc_led_by pm_led_by an_led_by cd_led_by ct_led_by), f_is_parting := f_is_parting, d_is_parting := (PySem.W.fnOf "is_parting" "is_parting" (defArgs (top 49)) (defBody (top 49)) (defScope (top 49)) .none kV_is_parting dc_is_parting pm_is_parting an_is_parting cd_is_parting ct_is_parting), f_wrap_holds := f_wrap_holds, d_wrap_holds := (PySem.W.fnOf "wrap_holds" "wrap_holds" (defArgs (top 50)) (defBody (top 50)) (defScope (top 50)) .none (.ref kD_wrap_holds) dc_wrap_holds pm_wrap_holds an_wrap_holds cd_wrap_holds ct_wrap_holds), f_law_box := f_law_box, d_law_box := (PySem.W.fnOf "_law_box" "_law_box" (defArgs (top 52)) (defBody (top 52)) (defScope (top 52)) .none kV_law_box dc_law_box pm_law_box an_law_box cd_law_box ct_law_box), f_law_take := f_law_take, d_law_take := (PySem.W.fnOf "_law_take" "_law_take" (defArgs (top 53)) (defBody (top 53)) (defScope (top 53)) .none kV_law_take dc_law_take pm_law_take an_law_take cd_law_take ct_law_take), f_law_pick := f_law_pick, d_law_pick := (PySem.W.fnOf "_law_pick" "_law_pick" (defArgs (top 54)) (defBody (top 54)) (defScope (top 54)) .none kV_law_pick dc_law_pick pm_law_pick an_law_pick cd_law_pick ct_law_pick), f_law_machine := f_law_machine, d_law_machine := (PySem.W.fnOf "_law_machine" "_law_machine" (defArgs (top 55)) (defBody (top 55)) (defScope (top 55)) .none kV_law_machine dc_law_machine pm_law_machine an_law_machine cd_law_machine ct_law_machine), f_law_behind := f_law_behind, d_law_behind := (PySem.W.fnOf "_law_behind" "_law_behind" (defArgs (top 56)) (defBody (top 56)) (defScope (top 56)) .none kV_law_behind dc_law_behind pm_law_behind an_law_behind cd_law_behind ct_law_behind), f_law_layers := f_law_layers, d_law_layers := (PySem.W.fnOf "_law_layers" "_law_layers" (defArgs (top 57)) (defBody (top 57)) (defScope (top 57)) .none kV_law_layers dc_law_layers pm_law_layers an_law_layers cd_law_layers ct_law_layers), f_law_parts := f_law_parts, d_law_parts := (PySem.W.fnOf "_law_parts" "_law_parts" (defArgs (top 58)) (defBody (top 58)) (defScope (top 58)) .none kV_law_parts dc_law_parts pm_law_parts an_law_parts cd_law_parts ct_law_parts), f_law_clash := f_law_clash, d_law_clash := (PySem.W.fnOf "_law_clash" "_law_clash" (defArgs (top 59)) (defBody (top 59)) (defScope (top 59)) .none kV_law_clash dc_law_clash pm_law_clash an_law_clash cd_law_clash ct_law_clash), f_law_paper_right := f_law_paper_right, d_law_paper_right := (PySem.W.fnOf "_law_paper_right" "_law_paper_right" (defArgs (top 60)) (defBody (top 60)) (defScope (top 60)) .none kV_law_paper_right dc_law_paper_right pm_law_paper_right an_law_paper_right cd_law_paper_right ct_law_paper_right), f_law_refused := f_law_refused, d_law_refused := (PySem.W.fnOf "_law_refused" "_law_refused" (defArgs (top 61)) (defBody (top 61)) (defScope (top 61)) .none kV_law_refused dc_law_refused pm_law_refused an_law_refused cd_law_refused ct_law_refused), f_law := fa, d_law := (PySem.W.fnOf "law" "law" (defArgs (top 62)) (defBody (top 62)) (defScope (top 62)) .none kV_law dc_law pm_law an_law (.ref cc_law) ct_law), c_law := cc_law, p_law := pp_law, t_MOST_TABLES := t_MOST_TABLES, t_MOST_STATES := t_MOST_STATES, t_MOST_DEEDS := t_MOST_DEEDS, t_MOST_MODULUS := t_MOST_MODULUS }
  have F_is_integer := fund (st := top 7) l_is_integer c_is_integer k_is_integer
  have b_is_integer : Binds K C.d_is_integer ["value"] [] := .all fun us hl => match us, hl with | [_], _ => rfl
  have F_is_below := fund (st := top 8) l_is_below c_is_below k_is_below
  have b_is_below : Binds K C.d_is_below ["value", "many"] [] := .all fun us hl => match us, hl with | [_, _], _ => rfl
  have F_is_positive := fund (st := top 9) l_is_positive c_is_positive k_is_positive
  have b_is_positive : Binds K C.d_is_positive ["value"] [] := .all fun us hl => match us, hl with | [_], _ => rfl
  have F_is_sequence := fund (st := top 10) l_is_sequence c_is_sequence k_is_sequence
  have b_is_sequence : Binds K C.d_is_sequence ["value"] [] := .all fun us hl => match us, hl with | [_], _ => rfl
  have F_is_sequence_of := fund (st := top 11) l_is_sequence_of c_is_sequence_of k_is_sequence_of
  have b_is_sequence_of : Binds K C.d_is_sequence_of ["value", "length"] [] := .all fun us hl => match us, hl with | [_, _], _ => rfl
  have F_is_ascending := fund (st := top 12) l_is_ascending c_is_ascending k_is_ascending
  have b_is_ascending : Binds K C.d_is_ascending ["value", "many"] [] := .all fun us hl => match us, hl with | [_, _], _ => rfl
  have F_fault_place := fund (st := top 13) l_fault_place c_fault_place k_fault_place
  have b_fault_place : Binds K C.d_fault_place ["value", "many"] [] := .all fun us hl => match us, hl with | [_, _], _ => rfl
  have F_pair_steps := fund (st := top 15) l_pair_steps c_pair_steps k_pair_steps
  have b_pair_steps : Binds K C.d_pair_steps ["machine"] [] := .all fun us hl => match us, hl with | [_], _ => rfl
  have F_first_pairs := fund (st := top 16) l_first_pairs c_first_pairs k_first_pairs
  have b_first_pairs : Binds K C.d_first_pairs ["machine", "state"] [] := .all fun us hl => match us, hl with | [_, _], _ => rfl
  have F_last_pairs := fund (st := top 17) l_last_pairs c_last_pairs k_last_pairs
  have b_last_pairs : Binds K C.d_last_pairs ["machine", "state"] [] := .all fun us hl => match us, hl with | [_, _], _ => rfl
  have F_lot_of := fund (st := top 18) l_lot_of c_lot_of k_lot_of
  have b_lot_of : Binds K C.d_lot_of ["pairs"] [] := .all fun us hl => match us, hl with | [_], _ => rfl
  have F_members := fund (st := top 19) l_members c_members k_members
  have b_members : Binds K C.d_members ["lot"] [] := .all fun us hl => match us, hl with | [_], _ => rfl
  have F_is_in := fund (st := top 20) l_is_in c_is_in k_is_in
  have b_is_in : Binds K C.d_is_in ["lot", "pair"] [] := .all fun us hl => match us, hl with | [_, _], _ => rfl
  have F_next_lots := fund (st := top 21) l_next_lots c_next_lots k_next_lots
  have b_next_lots : Binds K C.d_next_lots ["steps"] [] := .all fun us hl => match us, hl with | [_], _ => rfl
  have F_earlier_lots := fund (st := top 22) l_earlier_lots c_earlier_lots k_earlier_lots
  have b_earlier_lots : Binds K C.d_earlier_lots ["nexts"] [] := .all fun us hl => match us, hl with | [_], _ => rfl
  have F_led_lot := fund (st := top 23) l_led_lot c_led_lot k_led_lot
  have b_led_lot : Binds K C.d_led_lot ["nexts", "lot"] [] := .all fun us hl => match us, hl with | [_, _], _ => rfl
  have F_lots_behind := fund (st := top 24) l_lots_behind c_lots_behind k_lots_behind
  have b_lots_behind : Binds K C.d_lots_behind ["nexts", "many"] [] := .all fun us hl => match us, hl with | [_, _], _ => rfl
  have F_is_table := fund (st := top 29) l_is_table c_is_table k_is_table
  have b_is_table : Binds K C.d_is_table ["value"] [] := .all fun us hl => match us, hl with | [_], _ => rfl
  have F_check_tables := fund (st := top 30) l_check_tables c_check_tables k_check_tables
  have b_check_tables : Binds K C.d_check_tables ["value"] [] := .all fun us hl => match us, hl with | [_], _ => rfl
  have F_Machine_init := fund (st := inClass (top 31) 0) l_Machine_init c_Machine_init k_Machine_init
  have b_Machine_init : Binds K C.d_Machine_init ["self", "tables"] [] := .all fun us hl => match us, hl with | [_, _], _ => rfl
  have F_check_state := fund (st := top 32) l_check_state c_check_state k_check_state
  have b_check_state : Binds K C.d_check_state ["machine", "value"] [] := .all fun us hl => match us, hl with | [_, _], _ => rfl
  have F_log_fault := fund (st := top 33) l_log_fault c_log_fault k_log_fault
  have b_log_fault : Binds K C.d_log_fault ["machine", "value"] [] := .all fun us hl => match us, hl with | [_, _], _ => rfl
  have F_check_log := fund (st := top 34) l_check_log c_check_log k_check_log
  have b_check_log : Binds K C.d_check_log ["machine", "value"] [] := .all fun us hl => match us, hl with | [_, _], _ => rfl
  have F_check_starts := fund (st := top 35) l_check_starts c_check_starts k_check_starts
  have b_check_starts : Binds K C.d_check_starts ["machine", "value"] [] := .all fun us hl => match us, hl with | [_, _], _ => rfl
  have F_state_after := fund (st := top 36) l_state_after c_state_after k_state_after
  have b_state_after : Binds K C.d_state_after ["machine", "state", "log"] [] := .all fun us hl => match us, hl with | [_, _, _], _ => rfl
  have F_check_told_bound := fund (st := top 38) l_check_told_bound c_check_told_bound k_check_told_bound
  have b_check_told_bound : Binds K C.d_check_told_bound ["value"] [] := .all fun us hl => match us, hl with | [_], _ => rfl
  have F_check_bound := fund (st := top 39) l_check_bound c_check_bound k_check_bound
  have b_check_bound : Binds K C.d_check_bound ["value"] [] := .all fun us hl => match us, hl with | [_], _ => rfl
  have F_check_modulus := fund (st := top 42) l_check_modulus c_check_modulus k_check_modulus
  have b_check_modulus : Binds K C.d_check_modulus ["value"] [] := .all fun us hl => match us, hl with | [_], _ => rfl
  have F_first_times := fund (st := top 43) l_first_times c_first_times k_first_times
  have b_first_times : Binds K C.d_first_times ["jumps", "firsts", "lasts"] [] := .all fun us hl => match us, hl with | [_, _, _], _ => rfl
  have F_first_wrap := fund (st := top 44) l_first_wrap c_first_wrap k_first_wrap
  have b_first_wrap : Binds K C.d_first_wrap ["machine", "modulus", "states", "bound"] [] := .all fun us hl => match us, hl with | [_, _, _, _], _ => rfl
  have F_walk_of_length := fund (st := top 45) l_walk_of_length c_walk_of_length k_walk_of_length
  have b_walk_of_length : Binds K C.d_walk_of_length ["machine", "state", "length"] [] := .all fun us hl => match us, hl with | [_, _, _], _ => rfl
  have F_wrap_paper := fundK (qs := [("states", .non), ("bound", .non)]) (st := top 46) l_wrap_paper c_wrap_paper k_wrap_paper (fun r hr => by
    simp only [List.mem_cons, List.not_mem_nil, or_false] at hr
    rcases hr with rfl | rfl
    · exact ⟨rfl, kn0_wrap_paper⟩
    · exact ⟨rfl, kn1_wrap_paper⟩)
  have F_is_enough := fundK (qs := [("states", .non), ("bound", .non)]) (st := top 47) l_is_enough c_is_enough k_is_enough (fun r hr => by
    simp only [List.mem_cons, List.not_mem_nil, or_false] at hr
    rcases hr with rfl | rfl
    · exact ⟨rfl, kn0_is_enough⟩
    · exact ⟨rfl, kn1_is_enough⟩)
  have F_led_by := fund (st := top 48) l_led_by c_led_by k_led_by
  have b_led_by : Binds K C.d_led_by ["machine", "state", "logs"] [] := .all fun us hl => match us, hl with | [_, _, _], _ => rfl
  have F_is_parting := fund (st := top 49) l_is_parting c_is_parting k_is_parting
  have b_is_parting : Binds K C.d_is_parting ["machine", "states", "value", "other", "logs"] [] := .all fun us hl => match us, hl with | [_, _, _, _, _], _ => rfl
  have F_wrap_holds := fundK (qs := [("states", .non), ("bound", .non)]) (st := top 50) l_wrap_holds c_wrap_holds k_wrap_holds (fun r hr => by
    simp only [List.mem_cons, List.not_mem_nil, or_false] at hr
    rcases hr with rfl | rfl
    · exact ⟨rfl, kn0_wrap_holds⟩
    · exact ⟨rfl, kn1_wrap_holds⟩)
  have F_law_box := fund (st := top 52) l_law_box c_law_box k_law_box
  have b_law_box : Binds K C.d_law_box ["script", "k"] [] := .all fun us hl => match us, hl with | [_, _], _ => rfl
  have F_law_take := fund (st := top 53) l_law_take c_law_take k_law_take
  have b_law_take : Binds K C.d_law_take ["box", "many"] [] := .all fun us hl => match us, hl with | [_, _], _ => rfl
  have F_law_pick := fund (st := top 54) l_law_pick c_law_pick k_law_pick
  have b_law_pick : Binds K C.d_law_pick ["box", "some"] [] := .all fun us hl => match us, hl with | [_, _], _ => rfl
  have F_law_machine := fund (st := top 55) l_law_machine c_law_machine k_law_machine
  have b_law_machine : Binds K C.d_law_machine ["box", "states", "deeds"] [] := .all fun us hl => match us, hl with | [_, _, _], _ => rfl
  have F_law_behind := fund (st := top 56) l_law_behind c_law_behind k_law_behind
  have b_law_behind : Binds K C.d_law_behind ["tables", "state", "log"] [] := .all fun us hl => match us, hl with | [_, _, _], _ => rfl
  have F_law_layers := fund (st := top 57) l_law_layers c_law_layers k_law_layers
  have b_law_layers : Binds K C.d_law_layers ["tables", "length"] [] := .all fun us hl => match us, hl with | [_, _], _ => rfl
  have F_law_parts := fund (st := top 58) l_law_parts c_law_parts k_law_parts
  have b_law_parts : Binds K C.d_law_parts ["done", "state"] [] := .all fun us hl => match us, hl with | [_, _], _ => rfl
  have F_law_clash := fund (st := top 59) l_law_clash c_law_clash k_law_clash
  have b_law_clash : Binds K C.d_law_clash ["tables", "log", "lot", "modulus", "bound"] [] := .all fun us hl => match us, hl with | [_, _, _, _, _], _ => rfl
  have F_law_paper_right := fund (st := top 60) l_law_paper_right c_law_paper_right k_law_paper_right
  have b_law_paper_right : Binds K C.d_law_paper_right ["tables", "layers", "paper", "lot", "modulus", "bound"] [] := .all fun us hl => match us, hl with | [_, _, _, _, _, _], _ => rfl
  have F_law_refused := fund (st := top 61) l_law_refused c_law_refused k_law_refused
  have b_law_refused : Binds K C.d_law_refused ["ask"] [] := .all fun us hl => match us, hl with | [_], _ => rfl
  have F_law := fund (st := top 62) l_law c_law k_law
  have b_law : Binds K C.d_law ["script"] [] := .all fun us hl => match us, hl with | [_], _ => rfl
  have F_fi_BadMachine := fund (st := inClass (top 2) 0) l_fi_BadMachine c_fi_BadMachine k_fi_BadMachine
  have b_fi_BadMachine : Binds K C.fd_BadMachine ["self", "at"] [] := .all fun us hl => match us, hl with | [_, _], _ => rfl
  have s_fi_BadMachine : FnScope ["self", "at"] ["self", "at"] (defScope (inClass (top 2) 0)) := ⟨rfl, rfl, rfl, by decide +kernel, rfl, by decide +kernel, by decide +kernel⟩
  have ec_BadMachine : ExcC K A_BadMachine := ⟨ga_BadMachine, gg_BadMachine, ex_BadMachine, hd_BadMachine, ha_BadMachine, hn, ht, hm_BadMachine⟩
  have F_fi_BadLog := fund (st := inClass (top 3) 0) l_fi_BadLog c_fi_BadLog k_fi_BadLog
  have b_fi_BadLog : Binds K C.fd_BadLog ["self", "at"] [] := .all fun us hl => match us, hl with | [_, _], _ => rfl
  have s_fi_BadLog : FnScope ["self", "at"] ["self", "at"] (defScope (inClass (top 3) 0)) := ⟨rfl, rfl, rfl, by decide +kernel, rfl, by decide +kernel, by decide +kernel⟩
  have ec_BadLog : ExcC K A_BadLog := ⟨ga_BadLog, gg_BadLog, ex_BadLog, hd_BadLog, ha_BadLog, hn, ht, hm_BadLog⟩
  have F_fi_Refused := fund (st := inClass (top 4) 0) l_fi_Refused c_fi_Refused k_fi_Refused
  have b_fi_Refused : Binds K C.fd_Refused ["self", "at"] [] := .all fun us hl => match us, hl with | [_, _], _ => rfl
  have s_fi_Refused : FnScope ["self", "at"] ["self", "at"] (defScope (inClass (top 4) 0)) := ⟨rfl, rfl, rfl, by decide +kernel, rfl, by decide +kernel, by decide +kernel⟩
  have ec_Refused : ExcC K A_Refused := ⟨ga_Refused, gg_Refused, ex_Refused, hd_Refused, ha_Refused, hn, ht, hm_Refused⟩
  have F_fi_NoState := fund (st := inClass (top 5) 0) l_fi_NoState c_fi_NoState k_fi_NoState
  have b_fi_NoState : Binds K C.fd_NoState ["self", "state"] [] := .all fun us hl => match us, hl with | [_, _], _ => rfl
  have s_fi_NoState : FnScope ["self", "state"] ["self", "state"] (defScope (inClass (top 5) 0)) := ⟨rfl, rfl, rfl, by decide +kernel, rfl, by decide +kernel, by decide +kernel⟩
  have ec_NoState : ExcC K A_NoState := ⟨ga_NoState, gg_NoState, ex_NoState, hd_NoState, ha_NoState, hn, ht, hm_NoState⟩
  have co_law : codeOf8 K fa = some (.ref cc_law) := by
    unfold codeOf8
    rw [l_law]
  have TT : ∀ base : Heap, (∀ p ∈ ([(cc_law, pp_law)] : List (Addr × Addr)), LamX.TabB base mg p.1 p.2) → Txt P w K mg base [(pp_law, ("law" : Str) ++ ".<locals>." ++ "<lambda>")] C := fun base hTB => {
    b_abs := PySem.W.mg_none_of X G z_abs,
    b_bool := PySem.W.mg_none_of X G z_bool,
    b_enumerate := PySem.W.mg_none_of X G z_enumerate,
    b_int := PySem.W.mg_none_of X G z_int,
    b_isinstance := PySem.W.mg_none_of X G z_isinstance,
    b_len := PySem.W.mg_none_of X G z_len,
    b_list := PySem.W.mg_none_of X G z_list,
    b_min := PySem.W.mg_none_of X G z_min,
    b_range := PySem.W.mg_none_of X G z_range,
    b_repr := PySem.W.mg_none_of X G z_repr,
    b_tuple := PySem.W.mg_none_of X G z_tuple,
    MOST_TABLES := PySem.W.mg_of X G a_MOST_TABLES,
    MOST_STATES := PySem.W.mg_of X G a_MOST_STATES,
    MOST_DEEDS := PySem.W.mg_of X G a_MOST_DEEDS,
    MOST_MODULUS := PySem.W.mg_of X G a_MOST_MODULUS,
    AgeError := PySem.W.mg_of X G a_AgeError,
    BadMachine := PySem.W.mg_of X G a_BadMachine,
    BadLog := PySem.W.mg_of X G a_BadLog,
    Refused := PySem.W.mg_of X G a_Refused,
    NoState := PySem.W.mg_of X G a_NoState,
    Machine := PySem.W.mg_of X G a_Machine,
    cl_Machine := ⟨pg_Machine, hdi_Machine, po_Machine, sai_Machine⟩,
    ic_Machine := ⟨⟨pg_Machine, hdi_Machine, po_Machine, sai_Machine⟩, hai_Machine.symm, hn.symm, ht.symm, hmi_Machine.symm⟩,
    mk_Machine := ⟨mk_Machine, a_Machine_init, i_Machine_init, kci_Machine⟩,
    na_Machine_tables := n_Machine_tables,
    na_Machine_deeds := n_Machine_deeds,
    na_Machine_states := n_Machine_states,
    er_BadMachine := ⟨.inl ⟨⟨_, _, _, _, _, _, _, _, _, _, _, _, _, _, _, cls_BadMachine, rv_BadMachine⟩, sa_BadMachine, ex_BadMachine, ty_BadMachine, kc_BadMachine⟩, a_fi_BadMachine, ti_BadMachine, no_BadMachine⟩,
    in_BadMachine := fun k => ini_ok F_fi_BadMachine s_fi_BadMachine (.inl rfl) (.inl rfl),
    bi_BadMachine := b_fi_BadMachine,
    xf_BadMachine := ⟨ga_BadMachine, gg_BadMachine, ex_BadMachine, hd_BadMachine⟩,
    no_BadMachine := no_BadMachine,
    ec_BadMachine := ec_BadMachine,
    er_BadLog := ⟨.inl ⟨⟨_, _, _, _, _, _, _, _, _, _, _, _, _, _, _, cls_BadLog, rv_BadLog⟩, sa_BadLog, ex_BadLog, ty_BadLog, kc_BadLog⟩, a_fi_BadLog, ti_BadLog, no_BadLog⟩,
    in_BadLog := fun k => ini_ok F_fi_BadLog s_fi_BadLog (.inl rfl) (.inl rfl),
    bi_BadLog := b_fi_BadLog,
    xf_BadLog := ⟨ga_BadLog, gg_BadLog, ex_BadLog, hd_BadLog⟩,
    no_BadLog := no_BadLog,
    ec_BadLog := ec_BadLog,
    er_Refused := ⟨.inl ⟨⟨_, _, _, _, _, _, _, _, _, _, _, _, _, _, _, cls_Refused, rv_Refused⟩, sa_Refused, ex_Refused, ty_Refused, kc_Refused⟩, a_fi_Refused, ti_Refused, no_Refused⟩,
    in_Refused := fun k => ini_ok F_fi_Refused s_fi_Refused (.inl rfl) (.inl rfl),
    bi_Refused := b_fi_Refused,
    xf_Refused := ⟨ga_Refused, gg_Refused, ex_Refused, hd_Refused⟩,
    no_Refused := no_Refused,
    ec_Refused := ec_Refused,
    er_NoState := ⟨.inr ⟨⟨_, _, _, _, _, _, _, _, _, _, _, _, _, _, cls_NoState⟩, sa_NoState, ex_NoState, ty_NoState, kc_NoState⟩, a_fi_NoState, ti_NoState, no_NoState⟩,
    in_NoState := fun k => ini_ok F_fi_NoState s_fi_NoState (.inl rfl) (.inl rfl),
    bi_NoState := b_fi_NoState,
    xf_NoState := ⟨ga_NoState, gg_NoState, ex_NoState, hd_NoState⟩,
    no_NoState := no_NoState,
    ec_NoState := ec_NoState,
    co_law := co_law,
    tb_law := hTB (cc_law, pp_law) (by simp),
    tm_law := List.mem_singleton_self _,
    tu_law := fun p hp _ => by rw [List.mem_singleton.mp hp] }
  have DD : Defs K mg C := {
    F_is_integer := F_is_integer,
    F_is_below := F_is_below,
    F_is_positive := F_is_positive,
    F_is_sequence := F_is_sequence,
    F_is_sequence_of := F_is_sequence_of,
    F_is_ascending := F_is_ascending,
    F_fault_place := F_fault_place,
    F_pair_steps := F_pair_steps,
    F_first_pairs := F_first_pairs,
    F_last_pairs := F_last_pairs,
    F_lot_of := F_lot_of,
    F_members := F_members,
    F_is_in := F_is_in,
    F_next_lots := F_next_lots,
    F_earlier_lots := F_earlier_lots,
    F_led_lot := F_led_lot,
    F_lots_behind := F_lots_behind,
    F_is_table := F_is_table,
    F_check_tables := F_check_tables,
    F_Machine_init := F_Machine_init,
    F_check_state := F_check_state,
    F_log_fault := F_log_fault,
    F_check_log := F_check_log,
    F_check_starts := F_check_starts,
    F_state_after := F_state_after,
    F_check_told_bound := F_check_told_bound,
    F_check_bound := F_check_bound,
    F_check_modulus := F_check_modulus,
    F_first_times := F_first_times,
    F_first_wrap := F_first_wrap,
    F_walk_of_length := F_walk_of_length,
    F_wrap_paper := F_wrap_paper,
    F_is_enough := F_is_enough,
    F_led_by := F_led_by,
    F_is_parting := F_is_parting,
    F_wrap_holds := F_wrap_holds,
    F_law_box := F_law_box,
    F_law_take := F_law_take,
    F_law_pick := F_law_pick,
    F_law_machine := F_law_machine,
    F_law_behind := F_law_behind,
    F_law_layers := F_law_layers,
    F_law_parts := F_law_parts,
    F_law_clash := F_law_clash,
    F_law_paper_right := F_law_paper_right,
    F_law_refused := F_law_refused,
    F_law := F_law,
    K_Machine_init := kb_of b_Machine_init rfl,
    U_check_bound := ⟨PySem.W.mg_of X G a_check_bound, k_check_bound, kb_of b_check_bound rfl⟩,
    U_check_log := ⟨PySem.W.mg_of X G a_check_log, k_check_log, kb_of b_check_log rfl⟩,
    U_check_modulus := ⟨PySem.W.mg_of X G a_check_modulus, k_check_modulus, kb_of b_check_modulus rfl⟩,
    U_check_starts := ⟨PySem.W.mg_of X G a_check_starts, k_check_starts, kb_of b_check_starts rfl⟩,
    U_check_state := ⟨PySem.W.mg_of X G a_check_state, k_check_state, kb_of b_check_state rfl⟩,
    U_check_tables := ⟨PySem.W.mg_of X G a_check_tables, k_check_tables, kb_of b_check_tables rfl⟩,
    U_check_told_bound := ⟨PySem.W.mg_of X G a_check_told_bound, k_check_told_bound, kb_of b_check_told_bound rfl⟩,
    U_earlier_lots := ⟨PySem.W.mg_of X G a_earlier_lots, k_earlier_lots, kb_of b_earlier_lots rfl⟩,
    U_fault_place := ⟨PySem.W.mg_of X G a_fault_place, k_fault_place, kb_of b_fault_place rfl⟩,
    U_first_pairs := ⟨PySem.W.mg_of X G a_first_pairs, k_first_pairs, kb_of b_first_pairs rfl⟩,
    U_first_times := ⟨PySem.W.mg_of X G a_first_times, k_first_times, kb_of b_first_times rfl⟩,
    U_first_wrap := ⟨PySem.W.mg_of X G a_first_wrap, k_first_wrap, kb_of b_first_wrap rfl⟩,
    U_is_ascending := ⟨PySem.W.mg_of X G a_is_ascending, k_is_ascending, kb_of b_is_ascending rfl⟩,
    U_is_below := ⟨PySem.W.mg_of X G a_is_below, k_is_below, kb_of b_is_below rfl⟩,
    U_is_in := ⟨PySem.W.mg_of X G a_is_in, k_is_in, kb_of b_is_in rfl⟩,
    U_is_integer := ⟨PySem.W.mg_of X G a_is_integer, k_is_integer, kb_of b_is_integer rfl⟩,
    U_is_parting := ⟨PySem.W.mg_of X G a_is_parting, k_is_parting, kb_of b_is_parting rfl⟩,
    U_is_positive := ⟨PySem.W.mg_of X G a_is_positive, k_is_positive, kb_of b_is_positive rfl⟩,
    U_is_sequence := ⟨PySem.W.mg_of X G a_is_sequence, k_is_sequence, kb_of b_is_sequence rfl⟩,
    U_is_sequence_of := ⟨PySem.W.mg_of X G a_is_sequence_of, k_is_sequence_of, kb_of b_is_sequence_of rfl⟩,
    U_is_table := ⟨PySem.W.mg_of X G a_is_table, k_is_table, kb_of b_is_table rfl⟩,
    U_last_pairs := ⟨PySem.W.mg_of X G a_last_pairs, k_last_pairs, kb_of b_last_pairs rfl⟩,
    U_law_behind := ⟨PySem.W.mg_of X G a_law_behind, k_law_behind, kb_of b_law_behind rfl⟩,
    U_law_box := ⟨PySem.W.mg_of X G a_law_box, k_law_box, kb_of b_law_box rfl⟩,
    U_law_clash := ⟨PySem.W.mg_of X G a_law_clash, k_law_clash, kb_of b_law_clash rfl⟩,
    U_law_layers := ⟨PySem.W.mg_of X G a_law_layers, k_law_layers, kb_of b_law_layers rfl⟩,
    U_law_machine := ⟨PySem.W.mg_of X G a_law_machine, k_law_machine, kb_of b_law_machine rfl⟩,
    U_law_paper_right := ⟨PySem.W.mg_of X G a_law_paper_right, k_law_paper_right, kb_of b_law_paper_right rfl⟩,
    U_law_parts := ⟨PySem.W.mg_of X G a_law_parts, k_law_parts, kb_of b_law_parts rfl⟩,
    U_law_pick := ⟨PySem.W.mg_of X G a_law_pick, k_law_pick, kb_of b_law_pick rfl⟩,
    U_law_refused := ⟨PySem.W.mg_of X G a_law_refused, k_law_refused, kb_of b_law_refused rfl⟩,
    U_law_take := ⟨PySem.W.mg_of X G a_law_take, k_law_take, kb_of b_law_take rfl⟩,
    U_led_by := ⟨PySem.W.mg_of X G a_led_by, k_led_by, kb_of b_led_by rfl⟩,
    U_led_lot := ⟨PySem.W.mg_of X G a_led_lot, k_led_lot, kb_of b_led_lot rfl⟩,
    U_log_fault := ⟨PySem.W.mg_of X G a_log_fault, k_log_fault, kb_of b_log_fault rfl⟩,
    U_lot_of := ⟨PySem.W.mg_of X G a_lot_of, k_lot_of, kb_of b_lot_of rfl⟩,
    U_lots_behind := ⟨PySem.W.mg_of X G a_lots_behind, k_lots_behind, kb_of b_lots_behind rfl⟩,
    U_members := ⟨PySem.W.mg_of X G a_members, k_members, kb_of b_members rfl⟩,
    U_next_lots := ⟨PySem.W.mg_of X G a_next_lots, k_next_lots, kb_of b_next_lots rfl⟩,
    U_pair_steps := ⟨PySem.W.mg_of X G a_pair_steps, k_pair_steps, kb_of b_pair_steps rfl⟩,
    U_state_after := ⟨PySem.W.mg_of X G a_state_after, k_state_after, kb_of b_state_after rfl⟩,
    U_walk_of_length := ⟨PySem.W.mg_of X G a_walk_of_length, k_walk_of_length, kb_of b_walk_of_length rfl⟩,
    V_is_enough := ⟨PySem.W.mg_of X G a_is_enough, k_is_enough⟩,
    V_wrap_holds := ⟨PySem.W.mg_of X G a_wrap_holds, k_wrap_holds⟩,
    V_wrap_paper := ⟨PySem.W.mg_of X G a_wrap_paper, k_wrap_paper⟩,
    kb_is_enough_3210 := ⟨fun s us ws _ h1 h2 => match us, ws, h1, h2 with | [], [_, _, _, _], _, _ => .of_eq rfl, fun {vs us zs ws} _ r => match zs, ws, r with | [], _, .nil => .nil | [_], _, .cons r0 (.nil) => .cons r0 (.nil) | [_, _], _, .cons r0 (.cons r1 (.nil)) => .cons r0 (.cons r1 (.nil)) | [_, _, _], _, .cons r0 (.cons r1 (.cons r2 (.nil))) => .cons r0 (.cons r1 (.cons r2 (.nil))) | [_, _, _, _], _, .cons r0 (.cons r1 (.cons r2 (.cons r3 (.nil)))) => .cons r3 (.cons r2 (.cons r1 (.cons r0 (.nil)))) | _ :: _ :: _ :: _ :: _ :: _, _, .cons r0 (.cons r1 (.cons r2 (.cons r3 (.cons r4 (r))))) => .cons r0 (.cons r1 (.cons r2 (.cons r3 (.cons r4 (r)))))⟩,
    kb_wrap_paper_3210 := ⟨fun s us ws _ h1 h2 => match us, ws, h1, h2 with | [], [_, _, _, _], _, _ => .of_eq rfl, fun {vs us zs ws} _ r => match zs, ws, r with | [], _, .nil => .nil | [_], _, .cons r0 (.nil) => .cons r0 (.nil) | [_, _], _, .cons r0 (.cons r1 (.nil)) => .cons r0 (.cons r1 (.nil)) | [_, _, _], _, .cons r0 (.cons r1 (.cons r2 (.nil))) => .cons r0 (.cons r1 (.cons r2 (.nil))) | [_, _, _, _], _, .cons r0 (.cons r1 (.cons r2 (.cons r3 (.nil)))) => .cons r3 (.cons r2 (.cons r1 (.cons r0 (.nil)))) | _ :: _ :: _ :: _ :: _ :: _, _, .cons r0 (.cons r1 (.cons r2 (.cons r3 (.cons r4 (r))))) => .cons r0 (.cons r1 (.cons r2 (.cons r3 (.cons r4 (r)))))⟩,
    kx_is_enough_2_01 := kb_kw (ks := ["states", "bound"]) (ms := []) F_is_enough (by simp) (by simp) (kr_2_01) fun D doc pm an cdv ct us ws h1 h2 => match us, ws, h1, h2 with | [_, _], [_, _], _, _ => rfl,
    kx_is_enough_2_0n := kb_kw (ks := ["states"]) (ms := ["bound"]) F_is_enough (by simp) (by simp) (kr_2_0n) fun D doc pm an cdv ct us ws h1 h2 => match us, ws, h1, h2 with | [_, _], [_], _, _ => ⟨_, _, _, _, _, _, rfl, rfl, rfl⟩,
    kx_is_enough_2_n0 := kb_kw (ks := ["bound"]) (ms := ["states"]) F_is_enough (by simp) (by simp) (kr_2_n0) fun D doc pm an cdv ct us ws h1 h2 => match us, ws, h1, h2 with | [_, _], [_], _, _ => ⟨_, _, _, _, _, _, rfl, rfl, rfl⟩,
    kx_is_enough_2_nn := kb_kw (ks := []) (ms := ["states", "bound"]) F_is_enough (by simp) (by simp) (kr_2_nn) fun D doc pm an cdv ct us ws h1 h2 => match us, ws, h1, h2 with | [_, _], [], _, _ => ⟨_, _, _, _, _, _, rfl, rfl, ⟨_, _, _, _, _, _, rfl, rfl, rfl⟩⟩,
    kx_wrap_holds_3_01 := kb_kw (ks := ["states", "bound"]) (ms := []) F_wrap_holds (by simp) (by simp) (kr_3_01) fun D doc pm an cdv ct us ws h1 h2 => match us, ws, h1, h2 with | [_, _, _], [_, _], _, _ => rfl,
    kx_wrap_holds_3_0n := kb_kw (ks := ["states"]) (ms := ["bound"]) F_wrap_holds (by simp) (by simp) (kr_3_0n) fun D doc pm an cdv ct us ws h1 h2 => match us, ws, h1, h2 with | [_, _, _], [_], _, _ => ⟨_, _, _, _, _, _, rfl, rfl, rfl⟩,
    kx_wrap_paper_2_01 := kb_kw (ks := ["states", "bound"]) (ms := []) F_wrap_paper (by simp) (by simp) (kr_2_01) fun D doc pm an cdv ct us ws h1 h2 => match us, ws, h1, h2 with | [_, _], [_, _], _, _ => rfl,
    kx_wrap_paper_2_0n := kb_kw (ks := ["states"]) (ms := ["bound"]) F_wrap_paper (by simp) (by simp) (kr_2_0n) fun D doc pm an cdv ct us ws h1 h2 => match us, ws, h1, h2 with | [_, _], [_], _, _ => ⟨_, _, _, _, _, _, rfl, rfl, rfl⟩,
    kx_wrap_paper_2_nn := kb_kw (ks := []) (ms := ["states", "bound"]) F_wrap_paper (by simp) (by simp) (kr_2_nn) fun D doc pm an cdv ct us ws h1 h2 => match us, ws, h1, h2 with | [_, _], [], _, _ => ⟨_, _, _, _, _, _, rfl, rfl, ⟨_, _, _, _, _, _, rfl, rfl, rfl⟩⟩,
    fx := ⟨x_e, x_k, ec_Refused⟩ }
  exact ⟨_, fun s v => .of_eq rfl, fun base _ _ hTB => ok_law (TT base hTB) DD⟩
end K25
set_option Elab.async false
set_option maxRecDepth 100000
open PyProof.Rows PySem PySem.W in
set_option maxHeartbeats 0 in
theorem PySem.Challenge.cw_agedcopy_k25_whole_ages_told_by_remainde_holds : PySem.Challenge.rw_agedcopy_k25_whole_ages_told_by_remainde.Holds := by
  w_on
  o_law
  k_head
  (case hw => w_witness2)
  k_fill
  refine DL.walk_g (l := PySem.Challenge.rw_agedcopy_k25_whole_ages_told_by_remainde) (n := 63) (k := 17) (x := "script") (cs := [(432, 430)]) (t := [(430, ("law" : Str) ++ ".<locals>." ++ "<lambda>")]) rfl (by decide) rfl (fun w h Y => ⟨PySem.W.km_in_of Y, fun p hp => PySem.W.km_tabs_of Y p.2 (by rw [List.mem_singleton.mp hp]; exact List.mem_singleton_self _)⟩) ⟨rfl, by decide, by decide⟩ (fun w p hp => by rw [List.mem_singleton.mp hp]; kernel_rfl) (fun w p hp => by rw [List.mem_singleton.mp hp]; kernel_rfl) (fun p hp => ⟨432, by rw [List.mem_singleton.mp hp]; exact List.mem_singleton_self _⟩) ?F
  case F =>
    intro w mg fa h KX G hmg
    refine' K25.all_mk (cc_law := 432) (pp_law := 430) KX G hmg ?a_AgeError ?a_BadMachine ?a_BadLog ?a_Refused ?a_NoState ?a_Machine ?a_MOST_TABLES ?a_MOST_STATES ?a_MOST_DEEDS ?a_MOST_MODULUS ?a_fi_BadMachine ?l_fi_BadMachine ?c_fi_BadMachine ?k_fi_BadMachine ?ti_BadMachine ?cls_BadMachine ?rv_BadMachine ?sa_BadMachine ?ex_BadMachine ?ty_BadMachine ?kc_BadMachine ?no_BadMachine ?ga_BadMachine ?gg_BadMachine ?hd_BadMachine ?ha_BadMachine ?hm_BadMachine ?a_fi_BadLog ?l_fi_BadLog ?c_fi_BadLog ?k_fi_BadLog ?ti_BadLog ?cls_BadLog ?rv_BadLog ?sa_BadLog ?ex_BadLog ?ty_BadLog ?kc_BadLog ?no_BadLog ?ga_BadLog ?gg_BadLog ?hd_BadLog ?ha_BadLog ?hm_BadLog ?a_fi_Refused ?l_fi_Refused ?c_fi_Refused ?k_fi_Refused ?ti_Refused ?cls_Refused ?rv_Refused ?sa_Refused ?ex_Refused ?ty_Refused ?kc_Refused ?no_Refused ?ga_Refused ?gg_Refused ?hd_Refused ?ha_Refused ?hm_Refused ?a_fi_NoState ?l_fi_NoState ?c_fi_NoState ?k_fi_NoState ?ti_NoState ?cls_NoState ?sa_NoState ?ex_NoState ?ty_NoState ?kc_NoState ?no_NoState ?ga_NoState ?gg_NoState ?hd_NoState ?ha_NoState ?hm_NoState ?hn ?ht ?a_is_integer ?l_is_integer ?c_is_integer ?k_is_integer ?a_is_below ?l_is_below ?c_is_below ?k_is_below ?a_is_positive ?l_is_positive ?c_is_positive ?k_is_positive ?a_is_sequence ?l_is_sequence ?c_is_sequence ?k_is_sequence ?a_is_sequence_of ?l_is_sequence_of ?c_is_sequence_of ?k_is_sequence_of ?a_is_ascending ?l_is_ascending ?c_is_ascending ?k_is_ascending ?a_fault_place ?l_fault_place ?c_fault_place ?k_fault_place ?a_pair_steps ?l_pair_steps ?c_pair_steps ?k_pair_steps ?a_first_pairs ?l_first_pairs ?c_first_pairs ?k_first_pairs ?a_last_pairs ?l_last_pairs ?c_last_pairs ?k_last_pairs ?a_lot_of ?l_lot_of ?c_lot_of ?k_lot_of ?a_members ?l_members ?c_members ?k_members ?a_is_in ?l_is_in ?c_is_in ?k_is_in ?a_next_lots ?l_next_lots ?c_next_lots ?k_next_lots ?a_earlier_lots ?l_earlier_lots ?c_earlier_lots ?k_earlier_lots ?a_led_lot ?l_led_lot ?c_led_lot ?k_led_lot ?a_lots_behind ?l_lots_behind ?c_lots_behind ?k_lots_behind ?a_is_table ?l_is_table ?c_is_table ?k_is_table ?a_check_tables ?l_check_tables ?c_check_tables ?k_check_tables ?a_Machine_init ?i_Machine_init ?l_Machine_init ?c_Machine_init ?k_Machine_init ?a_check_state ?l_check_state ?c_check_state ?k_check_state ?a_log_fault ?l_log_fault ?c_log_fault ?k_log_fault ?a_check_log ?l_check_log ?c_check_log ?k_check_log ?a_check_starts ?l_check_starts ?c_check_starts ?k_check_starts ?a_state_after ?l_state_after ?c_state_after ?k_state_after ?a_check_told_bound ?l_check_told_bound ?c_check_told_bound ?k_check_told_bound ?a_check_bound ?l_check_bound ?c_check_bound ?k_check_bound ?a_check_modulus ?l_check_modulus ?c_check_modulus ?k_check_modulus ?a_first_times ?l_first_times ?c_first_times ?k_first_times ?a_first_wrap ?l_first_wrap ?c_first_wrap ?k_first_wrap ?a_walk_of_length ?l_walk_of_length ?c_walk_of_length ?k_walk_of_length ?a_wrap_paper ?l_wrap_paper ?c_wrap_paper ?k_wrap_paper ?kn0_wrap_paper ?kn1_wrap_paper ?a_is_enough ?l_is_enough ?c_is_enough ?k_is_enough ?kn0_is_enough ?kn1_is_enough ?a_led_by ?l_led_by ?c_led_by ?k_led_by ?a_is_parting ?l_is_parting ?c_is_parting ?k_is_parting ?a_wrap_holds ?l_wrap_holds ?c_wrap_holds ?k_wrap_holds ?kn0_wrap_holds ?kn1_wrap_holds ?a_law_box ?l_law_box ?c_law_box ?k_law_box ?a_law_take ?l_law_take ?c_law_take ?k_law_take ?a_law_pick ?l_law_pick ?c_law_pick ?k_law_pick ?a_law_machine ?l_law_machine ?c_law_machine ?k_law_machine ?a_law_behind ?l_law_behind ?c_law_behind ?k_law_behind ?a_law_layers ?l_law_layers ?c_law_layers ?k_law_layers ?a_law_parts ?l_law_parts ?c_law_parts ?k_law_parts ?a_law_clash ?l_law_clash ?c_law_clash ?k_law_clash ?a_law_paper_right ?l_law_paper_right ?c_law_paper_right ?k_law_paper_right ?a_law_refused ?l_law_refused ?c_law_refused ?k_law_refused ?a_law ?l_law ?c_law ?k_law ?pg_Machine ?hdi_Machine ?po_Machine ?sai_Machine ?mk_Machine ?kci_Machine ?hai_Machine ?hmi_Machine ?n_Machine_tables ?n_Machine_deeds ?n_Machine_states ?z_abs ?z_bool ?z_enumerate ?z_int ?z_isinstance ?z_len ?z_list ?z_min ?z_range ?z_repr ?z_tuple ?x_e ?x_k
    (case a_AgeError => k_is)
    (case a_BadMachine => k_is)
    (case a_BadLog => k_is)
    (case a_Refused => k_is)
    (case a_NoState => k_is)
    (case a_Machine => k_is)
    (case a_MOST_TABLES => k_is)
    (case a_MOST_STATES => k_is)
    (case a_MOST_DEEDS => k_is)
    (case a_MOST_MODULUS => k_is)
    (case a_fi_BadMachine => k_is)
    (case l_fi_BadMachine => k_is)
    (case c_fi_BadMachine => k_is)
    (case k_fi_BadMachine => k_is)
    (case ti_BadMachine => k_is)
    (case cls_BadMachine => k_is)
    (case rv_BadMachine => first | rfl | k_is)
    (case sa_BadMachine => k_is)
    (case ex_BadMachine => k_is)
    (case ty_BadMachine => k_is)
    (case kc_BadMachine => k_is)
    (case no_BadMachine => k_is)
    (case ga_BadMachine => k_is)
    (case gg_BadMachine => k_is)
    (case hd_BadMachine => k_is)
    (case ha_BadMachine => k_is)
    (case hm_BadMachine => k_is)
    (case a_fi_BadLog => k_is)
    (case l_fi_BadLog => k_is)
    (case c_fi_BadLog => k_is)
    (case k_fi_BadLog => k_is)
    (case ti_BadLog => k_is)
    (case cls_BadLog => k_is)
    (case rv_BadLog => first | rfl | k_is)
    (case sa_BadLog => k_is)
    (case ex_BadLog => k_is)
    (case ty_BadLog => k_is)
    (case kc_BadLog => k_is)
    (case no_BadLog => k_is)
    (case ga_BadLog => k_is)
    (case gg_BadLog => k_is)
    (case hd_BadLog => k_is)
    (case ha_BadLog => k_is)
    (case hm_BadLog => k_is)
    (case a_fi_Refused => k_is)
    (case l_fi_Refused => k_is)
    (case c_fi_Refused => k_is)
    (case k_fi_Refused => k_is)
    (case ti_Refused => k_is)
    (case cls_Refused => k_is)
    (case rv_Refused => first | rfl | k_is)
    (case sa_Refused => k_is)
    (case ex_Refused => k_is)
    (case ty_Refused => k_is)
    (case kc_Refused => k_is)
    (case no_Refused => k_is)
    (case ga_Refused => k_is)
    (case gg_Refused => k_is)
    (case hd_Refused => k_is)
    (case ha_Refused => k_is)
    (case hm_Refused => k_is)
    (case a_fi_NoState => k_is)
    (case l_fi_NoState => k_is)
    (case c_fi_NoState => k_is)
    (case k_fi_NoState => k_is)
    (case ti_NoState => k_is)
    (case cls_NoState => k_is)
    (case sa_NoState => k_is)
    (case ex_NoState => k_is)
    (case ty_NoState => k_is)
    (case kc_NoState => k_is)
    (case no_NoState => k_is)
    (case ga_NoState => k_is)
    (case gg_NoState => k_is)
    (case hd_NoState => k_is)
    (case ha_NoState => k_is)
    (case hm_NoState => k_is)
    (case hn => k_is)
    (case ht => k_is)
    (case a_is_integer => k_is)
    (case l_is_integer => k_is)
    (case c_is_integer => k_is)
    (case k_is_integer => k_is)
    (case a_is_below => k_is)
    (case l_is_below => k_is)
    (case c_is_below => k_is)
    (case k_is_below => k_is)
    (case a_is_positive => k_is)
    (case l_is_positive => k_is)
    (case c_is_positive => k_is)
    (case k_is_positive => k_is)
    (case a_is_sequence => k_is)
    (case l_is_sequence => k_is)
    (case c_is_sequence => k_is)
    (case k_is_sequence => k_is)
    (case a_is_sequence_of => k_is)
    (case l_is_sequence_of => k_is)
    (case c_is_sequence_of => k_is)
    (case k_is_sequence_of => k_is)
    (case a_is_ascending => k_is)
    (case l_is_ascending => k_is)
    (case c_is_ascending => k_is)
    (case k_is_ascending => k_is)
    (case a_fault_place => k_is)
    (case l_fault_place => k_is)
    (case c_fault_place => k_is)
    (case k_fault_place => k_is)
    (case a_pair_steps => k_is)
    (case l_pair_steps => k_is)
    (case c_pair_steps => k_is)
    (case k_pair_steps => k_is)
    (case a_first_pairs => k_is)
    (case l_first_pairs => k_is)
    (case c_first_pairs => k_is)
    (case k_first_pairs => k_is)
    (case a_last_pairs => k_is)
    (case l_last_pairs => k_is)
    (case c_last_pairs => k_is)
    (case k_last_pairs => k_is)
    (case a_lot_of => k_is)
    (case l_lot_of => k_is)
    (case c_lot_of => k_is)
    (case k_lot_of => k_is)
    (case a_members => k_is)
    (case l_members => k_is)
    (case c_members => k_is)
    (case k_members => k_is)
    (case a_is_in => k_is)
    (case l_is_in => k_is)
    (case c_is_in => k_is)
    (case k_is_in => k_is)
    (case a_next_lots => k_is)
    (case l_next_lots => k_is)
    (case c_next_lots => k_is)
    (case k_next_lots => k_is)
    (case a_earlier_lots => k_is)
    (case l_earlier_lots => k_is)
    (case c_earlier_lots => k_is)
    (case k_earlier_lots => k_is)
    (case a_led_lot => k_is)
    (case l_led_lot => k_is)
    (case c_led_lot => k_is)
    (case k_led_lot => k_is)
    (case a_lots_behind => k_is)
    (case l_lots_behind => k_is)
    (case c_lots_behind => k_is)
    (case k_lots_behind => k_is)
    (case a_is_table => k_is)
    (case l_is_table => k_is)
    (case c_is_table => k_is)
    (case k_is_table => k_is)
    (case a_check_tables => k_is)
    (case l_check_tables => k_is)
    (case c_check_tables => k_is)
    (case k_check_tables => k_is)
    (case a_Machine_init => k_is)
    (case i_Machine_init => k_is)
    (case l_Machine_init => k_is)
    (case c_Machine_init => k_is)
    (case k_Machine_init => k_is)
    (case a_check_state => k_is)
    (case l_check_state => k_is)
    (case c_check_state => k_is)
    (case k_check_state => k_is)
    (case a_log_fault => k_is)
    (case l_log_fault => k_is)
    (case c_log_fault => k_is)
    (case k_log_fault => k_is)
    (case a_check_log => k_is)
    (case l_check_log => k_is)
    (case c_check_log => k_is)
    (case k_check_log => k_is)
    (case a_check_starts => k_is)
    (case l_check_starts => k_is)
    (case c_check_starts => k_is)
    (case k_check_starts => k_is)
    (case a_state_after => k_is)
    (case l_state_after => k_is)
    (case c_state_after => k_is)
    (case k_state_after => k_is)
    (case a_check_told_bound => k_is)
    (case l_check_told_bound => k_is)
    (case c_check_told_bound => k_is)
    (case k_check_told_bound => k_is)
    (case a_check_bound => k_is)
    (case l_check_bound => k_is)
    (case c_check_bound => k_is)
    (case k_check_bound => k_is)
    (case a_check_modulus => k_is)
    (case l_check_modulus => k_is)
    (case c_check_modulus => k_is)
    (case k_check_modulus => k_is)
    (case a_first_times => k_is)
    (case l_first_times => k_is)
    (case c_first_times => k_is)
    (case k_first_times => k_is)
    (case a_first_wrap => k_is)
    (case l_first_wrap => k_is)
    (case c_first_wrap => k_is)
    (case k_first_wrap => k_is)
    (case a_walk_of_length => k_is)
    (case l_walk_of_length => k_is)
    (case c_walk_of_length => k_is)
    (case k_walk_of_length => k_is)
    (case a_wrap_paper => k_is)
    (case l_wrap_paper => k_is)
    (case c_wrap_paper => k_is)
    (case k_wrap_paper => k_is)
    (case kn0_wrap_paper => k_is)
    (case kn1_wrap_paper => k_is)
    (case a_is_enough => k_is)
    (case l_is_enough => k_is)
    (case c_is_enough => k_is)
    (case k_is_enough => k_is)
    (case kn0_is_enough => k_is)
    (case kn1_is_enough => k_is)
    (case a_led_by => k_is)
    (case l_led_by => k_is)
    (case c_led_by => k_is)
    (case k_led_by => k_is)
    (case a_is_parting => k_is)
    (case l_is_parting => k_is)
    (case c_is_parting => k_is)
    (case k_is_parting => k_is)
    (case a_wrap_holds => k_is)
    (case l_wrap_holds => k_is)
    (case c_wrap_holds => k_is)
    (case k_wrap_holds => k_is)
    (case kn0_wrap_holds => k_is)
    (case kn1_wrap_holds => k_is)
    (case a_law_box => k_is)
    (case l_law_box => k_is)
    (case c_law_box => k_is)
    (case k_law_box => k_is)
    (case a_law_take => k_is)
    (case l_law_take => k_is)
    (case c_law_take => k_is)
    (case k_law_take => k_is)
    (case a_law_pick => k_is)
    (case l_law_pick => k_is)
    (case c_law_pick => k_is)
    (case k_law_pick => k_is)
    (case a_law_machine => k_is)
    (case l_law_machine => k_is)
    (case c_law_machine => k_is)
    (case k_law_machine => k_is)
    (case a_law_behind => k_is)
    (case l_law_behind => k_is)
    (case c_law_behind => k_is)
    (case k_law_behind => k_is)
    (case a_law_layers => k_is)
    (case l_law_layers => k_is)
    (case c_law_layers => k_is)
    (case k_law_layers => k_is)
    (case a_law_parts => k_is)
    (case l_law_parts => k_is)
    (case c_law_parts => k_is)
    (case k_law_parts => k_is)
    (case a_law_clash => k_is)
    (case l_law_clash => k_is)
    (case c_law_clash => k_is)
    (case k_law_clash => k_is)
    (case a_law_paper_right => k_is)
    (case l_law_paper_right => k_is)
    (case c_law_paper_right => k_is)
    (case k_law_paper_right => k_is)
    (case a_law_refused => k_is)
    (case l_law_refused => k_is)
    (case c_law_refused => k_is)
    (case k_law_refused => k_is)
    (case a_law => k_is)
    (case l_law => k_is)
    (case c_law => k_is)
    (case k_law => k_is)
    (case pg_Machine => k_is)
    (case hdi_Machine => k_is)
    (case po_Machine => k_is)
    (case sai_Machine => k_is)
    (case mk_Machine => k_is)
    (case kci_Machine => k_is)
    (case hai_Machine => k_is)
    (case hmi_Machine => k_is)
    (case n_Machine_tables => k_is)
    (case n_Machine_deeds => k_is)
    (case n_Machine_states => k_is)
    (case z_abs => k_is)
    (case z_bool => k_is)
    (case z_enumerate => k_is)
    (case z_int => k_is)
    (case z_isinstance => k_is)
    (case z_len => k_is)
    (case z_list => k_is)
    (case z_min => k_is)
    (case z_range => k_is)
    (case z_repr => k_is)
    (case z_tuple => k_is)
    (case x_e => first | kernel_rfl | rfl | decide +kernel)
    (case x_k => first | kernel_rfl | rfl | decide +kernel)
